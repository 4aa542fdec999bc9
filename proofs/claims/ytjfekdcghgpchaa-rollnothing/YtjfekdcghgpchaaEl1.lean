/-
  The walk: freightlaw3.RollNothing.
-/
import Derived.Test.YtjfekdcghgpchaaEk2
import Derived.Test.YtjfekdcghgpchaaEa
namespace Go.Proofs.Ytjfekdcghgpchaa
open Go.RowKit
set_option linter.unusedVariables false
set_option linter.unusedSimpArgs false

theorem Try.zeroRoll2 (W : World) : (zeroValue 49).run Try.prog W = .ok (.agg #[.slice none 0 0, .int .i64 0, .int .u16 0, .int .u16 0]) W := by kernel_rfl

set_option maxHeartbeats 2000000 in
set_option maxRecDepth 100000 in
theorem nothing_walk (ao : Option Addr) (n cap : Nat) (xs : List UInt8) (w : World) (hi : InB w ao n cap xs) :
    Calls Try.prog 7 #[.slice ao n cap] w fun e w' => e = .returned (.bool true) ∧ Below w.heap.size w w' := by
  have hzv := Try.zeroRoll2
  by_cases hbig : 3000 < n
  · clear hi
    go_enter Try.func7, Try.ntmps7
    go_wp2
    go_ret
    exact ⟨rfl, Below.refl _ _⟩
  have HI : Hid (InB w ao n cap xs) := hi
  have HZ0 : Hid (Rz (w.alloc (.cells #[.slice none 0 0, .int .i64 0, .int .u16 0, .int .u16 0] 49)) w.heap.size) := ⟨by simp, by simp, by simp⟩
  have HK0 : Hid (Kept [] w (w.alloc (.cells #[.slice none 0 0, .int .i64 0, .int .u16 0, .int .u16 0] 49))) := (Kept.refl _ _).alloc _
  clear hi
  go_enter Try.func7, Try.ntmps7
  go_wp2
  generalize w.alloc _ = w1 at HZ0 HK0 ⊢
  have hZw : w.heap.size ≤ w.heap.size := Nat.le_refl _
  generalize hZ : w.heap.size = Z at HZ0 ⊢
  clear hZ hZw hzv
  go_loopw [5] (fun i wr => ∃ k : Nat, k ≤ n ∧ i = .int .i64 k ∧ Hid (Rz wr Z) ∧ Hid (Kept [] w wr)) (fun i wr => n - (intOf i).toNat)
  case atStart => exact ⟨0, Nat.zero_le _, rfl, HZ0, HK0⟩
  case round =>
    clear HZ0 HK0
    obtain ⟨k, hk, rfl, HZ, HK⟩ := hrel
    by_cases hlt : k < n
    · obtain ⟨b, off, hao, hcell⟩ := HI.out.sl k (by have := HI.out.len; omega)
      subst hao
      have hc2 : wr.cell? ⟨b, off + k, none⟩ = some (.int .u8 (xs.getD k 0).toNat) := HK.out.cellOf hcell (by simp)
      clear hcell
      generalize ((xs.getD k 0).toNat : Int) = c at hc2
      go_wp2_with (first | (go_at_call_of 16 (Value.pointer none); refine (rollPush_nil c _).mono ?_; rintro e w2 ⟨rfl, hw⟩; obtain rfl := hw.symm) | (go_at_call 16; refine (rollPush_zero HZ.out c).mono ?_; rintro e w2 ⟨rfl, hw⟩; obtain rfl := hw.symm) | (go_at_call_of 15 (Value.pointer none); refine (rollSum_nil _).mono ?_; rintro e w2 ⟨rfl, hw⟩; obtain rfl := hw.symm) | (go_at_call 15; refine (rollSum_zero HZ.out).mono ?_; rintro e w3 ⟨rfl, hk3⟩))
      go_roundw
      case rel => exact ⟨k + 1, by omega, by go_num, HZ.out.kept hk3 (by simp), HK.out.trans hk3 (by simp)⟩
      case measure => simp [intOf]; omega
    · go_wp2_with (first | (go_at_call_of 15 (Value.pointer none); refine (rollSum_nil _).mono ?_; rintro e w2 ⟨rfl, hw⟩; obtain rfl := hw.symm) | (go_at_call 15; refine (rollSum_zero HZ.out).mono ?_; rintro e w3 ⟨rfl, hk3⟩) | (go_at_call 13; refine (known_any _).mono ?_; rintro e w4 ⟨rfl, hk4⟩))
      go_ret
      exact ⟨rfl, ((HK.out.trans hk3 (by simp)).trans hk4 (by simp)).below (Nat.le_refl _) (by simp)⟩

end Go.Proofs.Ytjfekdcghgpchaa
