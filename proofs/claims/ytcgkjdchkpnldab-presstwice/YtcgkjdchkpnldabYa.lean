/-
  The walk: freightlaw4.PressTwice.
-/
import Derived.Test.YtcgkjdchkpnldabXa2
namespace Go.Proofs.Ytcgkjdchkpnldab
open Go.RowKit
set_option linter.unusedVariables false
set_option linter.unusedSimpArgs false

theorem Prs.packed_len (xs : List UInt8) : (Prs.packed xs).1.length ≤ 8192 := by
  unfold Prs.packed
  split
  · simp
  · have := Prs.pack_len xs; simp only; omega

set_option maxHeartbeats 2000000 in
set_option maxRecDepth 100000 in
theorem twice_walk (ao : Option Addr) (n cap : Nat) (bo : Option Addr) (m capb : Nat) (xs ys : List UInt8) (w : World) (hi : InB w ao n cap xs) (hi2 : InB w bo m capb ys) :
    Calls Try.prog 3 #[.slice ao n cap, .slice bo m capb] w fun e w' => e = .returned (.bool true) ∧ Below w.heap.size w w' := by
  obtain ⟨r, k, hr⟩ : ∃ r k, Prs.packed xs = (r, k) := ⟨_, _, rfl⟩
  obtain ⟨r2, k2, hr2⟩ : ∃ r k, Prs.packed ys = (r, k) := ⟨_, _, rfl⟩
  obtain ⟨r3, k3, hr3⟩ : ∃ r k, Prs.unpack ys n = (r, k) := ⟨_, _, rfl⟩
  have HR : Hid (Prs.packed xs = (r, k) ∧ Prs.packed ys = (r2, k2) ∧ Prs.unpack ys n = (r3, k3)) := ⟨hr, hr2, hr3⟩
  have hnm : n ≤ 140737488351232 := by have := hi.le; have := hi.max; omega
  have HX : Hid (Sl w ao xs ∧ xs.length = n) := ⟨hi.sl, hi.len⟩
  have HY : Hid (Sl w bo ys ∧ ys.length = m ∧ m ≤ capb) := ⟨hi2.sl, hi2.len, hi2.le⟩
  have hrl : r.length ≤ 8192 := by have := Prs.packed_len xs; rw [hr] at this; exact this
  have hkk : ((k : Int) == (k : Int)) = true := by simp
  have HS0 : Hid (Below w.heap.size w w) := Below.refl _ _
  clear hi hi2 hr hr2 hr3
  go_enter Try.func3, Try.ntmps3
  go_wp2_with (first
    | (go_at_call 5; have HS1 := HS0; clear HS0; refine (pack_at HX.out.2 HX.out.1 w HS1.out r k HR.out.1).mono ?_; rintro e w1 ⟨bo1, bc1, rfl, ho1, hb1⟩; have H1 : Hid (Sl w1 bo1 r ∧ Below w.heap.size w w1) := ⟨(own_slc ho1).1, hb1⟩; clear ho1 hb1 HS1)
    | (go_at_call 5; have HS1 := H1; clear HS1; refine (pack_at HY.out.2.1 HY.out.1 w1 H1.out.2 r2 k2 HR.out.2.1).mono ?_; rintro e w2 ⟨bo2, bc2, rfl, ho2, hb2⟩; have H2 : Hid (Sl w2 bo1 r ∧ Below w.heap.size w w2) := ⟨H1.out.1.later hb2, H1.out.2.trans (Below.less hb2 H1.out.2.size)⟩; clear ho2 hb2 H1)
    | (go_at_call 6; refine (unpack_at HY.out.2.1 HY.out.2.2 HY.out.1 n w2 H2.out.2 r3 k3 HR.out.2.2).mono ?_; rintro e w3 ⟨bo3, bc3, rfl, ho3, hb3⟩; have H3 : Hid (Sl w3 bo1 r ∧ Below w.heap.size w w3) := ⟨H2.out.1.later hb3, H2.out.2.trans (Below.less hb3 H2.out.2.size)⟩; clear ho3 hb3 H2)
    | (go_at_call 7; refine (roomy_ok ao cap n xs w3 (HX.out.1.later H3.out.2) HX.out.2 (by omega)).mono ?_; rintro e w4 ⟨g, rfl, hg, hR, hk⟩; have H4 : Hid (Sl w4 (some ⟨g, 0, none⟩) xs ∧ Sl w4 bo1 r ∧ Below w.heap.size w w4) := ⟨hR.sl, H3.out.1.later (hk.below (Nat.le_refl _) (by simp)), H3.out.2.trans (hk.below H3.out.2.size (by simp))⟩; clear hg hR hk H3)
    | (go_at_call 5; have HS1 := H4; clear HS1; refine (pack_at HX.out.2 H4.out.1 w4 (Below.refl _ _) r k HR.out.1).mono ?_; rintro e w5 ⟨bo5, bc5, rfl, ho5, hb5⟩; have H5 : Hid (Sl w5 bo1 r ∧ Sl w5 bo5 r ∧ Below w.heap.size w w5) := ⟨H4.out.2.1.later hb5, (own_slc ho5).1, H4.out.2.2.trans (Below.less hb5 H4.out.2.2.size)⟩; clear ho5 hb5 H4)
    | (go_at_call 8; refine (same_yes bo1 bo5 r.length bc1 bc5 r w5 rfl (by omega) H5.out.1 H5.out.2.1).mono ?_; rintro e w6' ⟨rfl, j6, rfl⟩; have H6 : Hid (Below w.heap.size w (w5.drewN j6)) := ⟨H5.out.2.2.os, H5.out.2.2.tape, H5.out.2.2.output, H5.out.2.2.size, H5.out.2.2.block⟩; clear H5; generalize w5.drewN j6 = w6 at H6 ⊢)
    | (go_at_call 9; refine (awake_ok w6).mono ?_; rintro e w7 ⟨rfl, hb7⟩; have H7 : Hid (Below w.heap.size w w7) := H6.out.trans (Below.less hb7 H6.out.size); clear hb7 H6)
    | go_in)
  go_ret
  exact ⟨rfl, H7.out⟩

end Go.Proofs.Ytcgkjdchkpnldab
