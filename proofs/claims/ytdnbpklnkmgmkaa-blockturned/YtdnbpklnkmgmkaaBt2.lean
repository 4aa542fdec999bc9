/-
  The walk of freightlaw11.BlockTurned: what returns early, and the whole. (Written by tools/bt.py.)
-/
import Derived.Test.YtdnbpklnkmgmkaaBt
namespace Go.Proofs.Ytdnbpklnkmgmkaa
open Go.RowKit
set_option linter.unusedVariables false
set_option linter.unusedSimpArgs false

set_option maxHeartbeats 800000 in
set_option maxRecDepth 100000 in
theorem turned_fit (ao : Option Addr) (n cap : Nat) (s wh at_ by_ : Int) (w : World) (h : ¬ (n ≤ 65536 ∧ 16 ≤ s ∧ s ≤ 4096)) :
    Calls Try.prog 6 #[.slice ao n cap, .int .i64 s, .int .i64 wh, .int .i64 at_, .int .i64 by_] w fun e w' => e = .returned (.bool true) ∧ Below w.heap.size w w' := by
  have HF := hide (fits_no ao n cap s w h)
  clear h
  go_enter Try.func6, Try.ntmps6
  go_wp2_with (go_at_call 21; refine HF.out.mono ?_; rintro e w' ⟨rfl, hww⟩; obtain rfl := hww.symm; clear HF)
  go_ret
  exact ⟨rfl, Below.refl _ _⟩

set_option maxHeartbeats 3200000 in
set_option maxRecDepth 100000 in
theorem turned_no (ao : Option Addr) (n cap : Nat) (s wh at_ by_ : Int) (w : World) (h : n ≤ 65536 ∧ 16 ≤ s ∧ s ≤ 4096) (h2 : ¬ (1 ≤ n ∧ 1 ≤ by_ ∧ by_ ≤ 255 ∧ 0 ≤ wh ∧ 0 ≤ at_)) :
    Calls Try.prog 6 #[.slice ao n cap, .int .i64 s, .int .i64 wh, .int .i64 at_, .int .i64 by_] w fun e w' => e = .returned (.bool true) ∧ Below w.heap.size w w' := by
  have HF := hide (fits_yes ao n cap s w h.1 h.2.1 h.2.2)
  have hor : ((((n : Int) == 0 || decide (by_ < 1)) || decide (255 < by_)) || decide (wh < 0)) || decide (at_ < 0) = true := by
    simp only [Bool.or_eq_true, beq_iff_eq, decide_eq_true_eq]
    omega
  have HOR := hide hor
  clear h hor
  by_cases g0 : (n : Int) = 0
  · have g0b : ((n : Int) == 0) = true := by simpa using g0
    clear h2
    go_enter Try.func6, Try.ntmps6
    go_wp2_with (go_at_call 21; refine HF.out.mono ?_; rintro e w' ⟨rfl, hww⟩; obtain rfl := hww.symm; clear HF)
    go_ret
    exact ⟨rfl, Below.refl _ _⟩
  have g0b : ((n : Int) == 0) = false := by simpa using g0
  by_cases g1 : by_ < 1
  · clear h2
    go_enter Try.func6, Try.ntmps6
    go_wp2_with (go_at_call 21; refine HF.out.mono ?_; rintro e w' ⟨rfl, hww⟩; obtain rfl := hww.symm; clear HF)
    go_ret
    exact ⟨rfl, Below.refl _ _⟩
  by_cases g2 : 255 < by_
  · clear h2
    go_enter Try.func6, Try.ntmps6
    go_wp2_with (go_at_call 21; refine HF.out.mono ?_; rintro e w' ⟨rfl, hww⟩; obtain rfl := hww.symm; clear HF)
    go_ret
    exact ⟨rfl, Below.refl _ _⟩
  by_cases g3 : wh < 0
  · clear h2
    go_enter Try.func6, Try.ntmps6
    go_wp2_with (go_at_call 21; refine HF.out.mono ?_; rintro e w' ⟨rfl, hww⟩; obtain rfl := hww.symm; clear HF)
    go_ret
    exact ⟨rfl, Below.refl _ _⟩
  have g4 : at_ < 0 := by omega
  clear h2
  go_enter Try.func6, Try.ntmps6
  go_wp2_with (go_at_call 21; refine HF.out.mono ?_; rintro e w' ⟨rfl, hww⟩; obtain rfl := hww.symm; clear HF)
  go_ret
  exact ⟨rfl, Below.refl _ _⟩

theorem turned_walk (ao : Option Addr) (n cap : Nat) (s wh at_ by_ : Int) (xs : List UInt8) (w : World) (hi : InB w ao n cap xs) (w1 : (Lit.int .i64 s).wf = true) (w2 : (Lit.int .i64 wh).wf = true) (w3 : (Lit.int .i64 at_).wf = true) (w4 : (Lit.int .i64 by_).wf = true) :
    Calls Try.prog 6 #[.slice ao n cap, .int .i64 s, .int .i64 wh, .int .i64 at_, .int .i64 by_] w fun e w' => e = .returned (.bool true) ∧ Below w.heap.size w w' := by
  by_cases h : n ≤ 65536 ∧ 16 ≤ s ∧ s ≤ 4096
  · by_cases h2 : 1 ≤ n ∧ 1 ≤ by_ ∧ by_ ≤ 255 ∧ 0 ≤ wh ∧ 0 ≤ at_
    · obtain ⟨s', rfl⟩ : ∃ t : Nat, s = t := ⟨s.toNat, by omega⟩
      obtain ⟨wh', rfl⟩ : ∃ t : Nat, wh = t := ⟨wh.toNat, by omega⟩
      obtain ⟨at', rfl⟩ : ∃ t : Nat, at_ = t := ⟨at_.toNat, by omega⟩
      obtain ⟨d, hd⟩ : ∃ d : UInt8, by_ = (d.toNat : Int) := ⟨UInt8.ofNat by_.toNat, by rw [UInt8.toNat_ofNat', Nat.mod_eq_of_lt (by omega)]; omega⟩
      subst hd
      exact turned_yes ao n cap s' wh' at' d xs w hi h.1 h2.1 (by omega) (by omega) (by rintro rfl; simp at h2)
    · exact turned_no ao n cap s wh at_ by_ w h h2
  · exact turned_fit ao n cap s wh at_ by_ w h


end Go.Proofs.Ytdnbpklnkmgmkaa
