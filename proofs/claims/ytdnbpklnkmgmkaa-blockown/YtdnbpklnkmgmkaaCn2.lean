/-
  BlockOwn: no question; the walk whole. (Written by tools/cn.py.)
-/
import Derived.Test.YtdnbpklnkmgmkaaCl2
namespace Go.Proofs.Ytdnbpklnkmgmkaa
open Go.RowKit
set_option linter.unusedVariables false
set_option linter.unusedSimpArgs false

set_option maxHeartbeats 4000000 in
set_option maxRecDepth 100000 in
theorem bown_none (ao : Option Addr) (cap : Nat) (w : World) :
    Calls Try.prog 7 #[.slice ao 0 cap] w fun e w' => e = .returned (.bool true) ∧ Below w.heap.size w w' := by
  have hzv := Try.zeroBook11
  have HI := hide (St.begin w 70000)
  go_enter Try.func7, Try.ntmps7
  go_wp2
  go_loop [3, 4] (fun x y => y = .int .i64 0 ∧ x = .int .i64 0) (fun x y => 0)
  case atStart => exact ⟨rfl, rfl⟩
  case round =>
    obtain ⟨rfl, rfl⟩ := hrel
    go_wp2
    generalize w.alloc (.cells #[.slice none 0 0, .slice none 0 0] 60) = w1 at HI ⊢
    obtain ⟨K, hK⟩ : ∃ K, K = w.heap.size := ⟨_, rfl⟩
    rw [← hK]
    have HI2 : Hid (St w w1 K 70000 0 sd0) := by show St _ _ _ _ _ _; rw [hK]; exact HI.out
    clear HI hK hzv
    go_loop [8, 6, 7] (fun x y z => x = .int .i64 0 ∧ y = .slice none 0 0 ∧ z = .slice none 0 0) (fun x y z => 0)
    case atStart => exact ⟨rfl, rfl, rfl⟩
    case round =>
      obtain ⟨rfl, rfl, rfl⟩ := hrel
      have HGR := hide (grow_ok HI2.out.bok HI2.out.a1 HI2.out.a2 HI2.out.c1 HI2.out.c2 (by simp [sd0]) (by simp [sd0]) (M := 70000) (by omega) HI2.out.b1 HI2.out.b2 HI2.out.bel.size)
      go_upto_region 44 with (go_at_call 25; refine HGR.out.mono ?_; rintro e w43 ⟨rfl, hg⟩; have HG := hide hg; clear hg HGR)
      obtain ⟨q1, hT1, f1, f2, f3, f4, f5, f6, f7, f8, f9, f10, f11⟩ := HI2.out.grow HG.out
      have HGR := hide (grow_ok hT1.bok hT1.a1 hT1.a2 hT1.c1 hT1.c2 (by rw [f4]; simp [sd0]) (by rw [f5]; simp [sd0]) (M := 70064) (by omega) hT1.b1 hT1.b2 hT1.bel.size)
      have HT1 := hide hT1
      have HF := hide (And.intro f4 f5)
      clear hT1 f1 f2 f3 f4 f5 f6 f7 f8 f9 f10 f11 HG HI2
      go_wp2
      go_loop [25] (fun x => x = .int .i64 0) (fun x => 0)
      case atStart => rfl
      case round =>
        subst hrel
        go_wp2
        go_loop [26] (fun x => x = .int .i64 0) (fun x => 0)
        case atStart => rfl
        case round =>
          subst hrel
          go_upto_region 54 with (go_at_call 25; refine HGR.out.mono ?_; rintro e w53 ⟨rfl, hg⟩; have HG := hide hg; clear hg HGR)
          obtain ⟨q2, hT2, f1, f2, f3, f4, f5, f6, f7, f8, f9, f10, f11⟩ := HT1.out.grow HG.out
          have HST := hide (still_ok hT2.bok hT2.a1 hT2.a2 hT2.c1 hT2.c2 (by rw [f4, HF.out.1]; simp [sd0]) (by rw [f5, HF.out.2]; simp [sd0]) (fun x hx => by have := hT2.b1 x hx; omega) (fun x hx => by have := hT2.b2 x hx; omega))
          have HBL := hide hT2.bel
          have HKN := hide known_ok
          clear hT2 f1 f2 f3 f4 f5 f6 f7 f8 f9 f10 f11 HT1 HG
          go_wp2_with (first
            | (go_at_call 24; refine HST.out.mono ?_; rintro e w54 ⟨rfl, hk54⟩; have HK54 := hide hk54; clear hk54 HST)
            | (go_at_call 16; refine (HKN.out _).mono ?_; rintro e w55 ⟨rfl, hk55⟩; have HK55 := hide hk55; clear hk55 HKN))
          go_ret
          exact ⟨rfl, HBL.out.trans ((HK54.out.trans HK55.out (by simp)).below HBL.out.size (by simp))⟩

theorem bown_walk (ao : Option Addr) (n cap : Nat) (L : List Qm) (w : World) (hn : L.length = n) (hm : n ≤ 9223372036854775807) (hL : Qms w ao L) :
    Calls Try.prog 7 #[.slice ao n cap] w fun e w' => e = .returned (.bool true) ∧ Below w.heap.size w w' := by
  by_cases h0 : n = 0
  · subst h0
    exact bown_none ao cap w
  · obtain ⟨b, off, rfl, hc, _⟩ := hL 0 (by omega)
    have hbw := World.block_lt_of_cell? _ _ (hc 0 _ rfl)
    refine bown_some b off n cap L w hn hm (fun i hi => ?_) hbw
    obtain ⟨b', off', e, h1, h2⟩ := hL i hi
    cases e
    exact ⟨h1, h2⟩

end Go.Proofs.Ytdnbpklnkmgmkaa
