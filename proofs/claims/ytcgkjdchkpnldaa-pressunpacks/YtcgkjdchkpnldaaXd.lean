/-
  The walk: freightlaw4.PressUnpacks. (Written by tools/xd.py.)
-/
import Derived.Test.YtcgkjdchkpnldaaXc
namespace Go.Proofs.Ytcgkjdchkpnldaa
open Go.RowKit
set_option linter.unusedVariables false
set_option linter.unusedSimpArgs false

set_option maxHeartbeats 1000000 in
set_option maxRecDepth 100000 in
theorem unpacks_nil (ao : Option Addr) (cap : Nat) (m : Int) (xs : List UInt8) (w : World) (hi : InB w ao 0 cap xs) :
    Calls Try.prog 4 #[.slice ao 0 cap, .int .i64 m] w fun e w' => e = .returned (.bool true) ∧ Below w.heap.size w w' := by
  obtain ⟨r, k, hr⟩ : ∃ r k, Prs.unpack xs m = (r, k) := ⟨_, _, rfl⟩
  have HR := hide hr
  have HX : Hid (Sl w ao xs ∧ xs.length = 0) := ⟨hi.sl, hi.len⟩
  have hrl : r.length ≤ 4096 := by have := Prs.unpack_len xs m; rw [hr] at this; exact this
  clear hi hr
  go_enter Try.func4, Try.ntmps4
  go_wp2_with (first
    | (go_at_call 9; refine (roomy_ok ao cap 0 xs w HX.out.1 HX.out.2 (by omega)).mono ?_; rintro e w1 ⟨g, rfl, hg, hR, hk⟩; have H1 : Hid (Room w1 g xs ∧ w.heap.size ≤ g ∧ Below w.heap.size w w1) := ⟨hR, hg, hk.below (Nat.le_refl _) (by simp)⟩; clear hg hR hk)
    | (go_at_call 15; refine (unpack_at HX.out.2 (by omega) H1.out.1.sl m w1 (Below.refl _ _) r k HR.out).mono ?_; rintro e w2 ⟨bo2, bc2, rfl, ho2, hb2⟩; have H2 : Hid (Room w2 g xs ∧ w.heap.size ≤ g ∧ g < w1.heap.size ∧ Rw w2 bo2 r w1.heap.size w2.heap.size ∧ Below w.heap.size w w2) := ⟨H1.out.1.below hb2 H1.out.1.lt, H1.out.2.1, H1.out.1.lt, Rw.of ho2 hb2, H1.out.2.2.trans (Below.less hb2 H1.out.2.2.size)⟩; clear ho2 hb2 H1)
    | (go_at_call 16; refine (refunpack_at HX.out.2 (by omega) HX.out.1 m w2 H2.out.2.2.2.2 r k HR.out).mono ?_; rintro e w3 ⟨bo3, bc3, rfl, ho3, hb3⟩; have H3 : Hid (Pu w w3 g xs bo2 bo3 r w1.heap.size w2.heap.size w3.heap.size) := ⟨H2.out.1.below hb3 H2.out.1.lt, H2.out.2.1, H2.out.2.2.1, H2.out.2.2.2.1.on hb3, Rw.of ho3 hb3, H2.out.2.2.2.2.trans (Below.less hb3 H2.out.2.2.2.2.size)⟩; clear ho3 hb3 H2; generalize w3.heap.size = c3 at H3 ⊢; generalize w2.heap.size = c2 at H3 ⊢; generalize w1.heap.size = c1 at H3 ⊢)
    | (go_at_call 12; refine (same_yes bo2 bo3 r.length bc2 bc3 r w3 rfl (by omega) H3.out.r2.sl H3.out.r3.sl).mono ?_; rintro e w4' ⟨rfl, j4, rfl⟩; have H4 := hide (H3.out.drewN j4); clear H3; generalize w3.drewN j4 = w4 at H4 ⊢)
    | (go_at_call 13; refine (kept_ok g 0 ao cap xs w4 H4.out.room (HX.out.1.later H4.out.below) HX.out.2 (by omega)).mono ?_; rintro e w5' ⟨rfl, j5, rfl⟩; have H5 := hide (H4.out.drewN j5); clear H4; generalize w4.drewN j5 = w5 at H5 ⊢)
    | (go_at_call 14; refine (awake_ok _).mono ?_; rintro e w6 ⟨rfl, hb6⟩; have H6 := hide (H5.out.on hb6); clear hb6 H5)
    | go_in)
  go_ret
  exact ⟨rfl, H6.out.below⟩

theorem xor1 : ∀ n : Nat, n < 256 → bits .xor .u8 (n : Int) 1 = ((UInt8.ofNat n ^^^ 1).toNat : Int) := by decide +kernel
theorem xor1_of (x : UInt8) : bits .xor .u8 (x.toNat : Int) 1 = ((x ^^^ 1).toNat : Int) := by
  rw [xor1 x.toNat (UInt8.toNat_lt x)]; simp

/-- The last byte of the twin and of the given row is turned. -/
theorem up_turn {w W : World} {g tb tc n : Nat} {xs ys : List UInt8} {bo2 bo3 : Option Addr} {r : List UInt8} {a b c : Nat} {y : UInt8} (h : Pu w W g xs bo2 bo3 r a b c) (ho : W.ownsRow c 5 1 (.slice (some ⟨tb, 0, none⟩) n tc) n (bys xs)) (htb : c ≤ tb) (hgt : g ≠ tb) (l1 : Nat) (hl : l1 < xs.length) (hys : xs.set l1 y = ys) :
    Pu w ((W.setCell ⟨tb, l1, none⟩ (.int .u8 y.toNat)).setCell ⟨g, l1, none⟩ (.int .u8 y.toNat)) g ys bo2 bo3 r a b c ∧ ((W.setCell ⟨tb, l1, none⟩ (.int .u8 y.toNat)).setCell ⟨g, l1, none⟩ (.int .u8 y.toNat)).ownsRow c 5 1 (.slice (some ⟨tb, 0, none⟩) n tc) n (bys ys) := by
  have h1 := (h.set (p := ⟨tb, l1, none⟩) htb (.int .u8 y.toNat)).put l1 hl y
  rw [hys] at h1
  have h2 := (ho.stored l1 (.int .u8 y.toNat)).1
  rw [bys_set, hys] at h2
  have hk : Kept [g] (W.setCell ⟨tb, l1, none⟩ (.int .u8 y.toNat)) ((W.setCell ⟨tb, l1, none⟩ (.int .u8 y.toNat)).setCell ⟨g, l1, none⟩ (.int .u8 y.toNat)) := (Kept.refl [g] _).setCell (by simp) _
  exact ⟨h1, h2.kept (row := some g) ⟨hk.os, hk.tape, hk.output, hk.size, fun i hi hne => hk.block i hi (by simpa using fun e => hne (by rw [e]))⟩ (.inr (by simp [Value.ownBlock]; exact Ne.symm hgt))⟩

set_option maxHeartbeats 2000000 in
set_option maxRecDepth 100000 in
theorem unpacks_some (ao : Option Addr) (n cap : Nat) (m : Int) (xs : List UInt8) (w : World) (hi : InB w ao n cap xs) (hn0 : 0 < n) :
    Calls Try.prog 4 #[.slice ao n cap, .int .i64 m] w fun e w' => e = .returned (.bool true) ∧ Below w.heap.size w w' := by
  obtain ⟨r, k, hr⟩ : ∃ r k, Prs.unpack xs m = (r, k) := ⟨_, _, rfl⟩
  have HR := hide hr
  have hnm : n ≤ 140737488351232 := by have := hi.le; have := hi.max; omega
  have hq0 : ((n : Int) == 0) = false := by simp; omega
  have HX : Hid (Sl w ao xs ∧ xs.length = n) := ⟨hi.sl, hi.len⟩
  have hrl : r.length ≤ 4096 := by have := Prs.unpack_len xs m; rw [hr] at this; exact this
  obtain ⟨pb, po, hao, hpb, _⟩ := hi.sl.open (by rintro rfl; have := hi.len; simp at this; omega)
  subst hao
  obtain ⟨l1, hl1⟩ : ∃ l1, l1 = n - 1 := ⟨_, rfl⟩
  have hl1I : (n : Int) - 1 = (l1 : Int) := by omega
  have hl1n : l1 < n := by omega
  have g1 : ¬ ((n : Int) ≤ (l1 : Int)) := by omega
  obtain ⟨x, hx⟩ : ∃ x, xs.getD l1 0 = x := ⟨_, rfl⟩
  obtain ⟨y, hy⟩ : ∃ y, x ^^^ 1 = y := ⟨_, rfl⟩
  have hxy : bits .xor .u8 (x.toNat : Int) 1 = (y.toNat : Int) := by rw [xor1_of, hy]
  obtain ⟨ys, hys⟩ : ∃ ys, xs.set l1 y = ys := ⟨_, rfl⟩
  obtain ⟨r2, k2, hr2⟩ : ∃ r k, Prs.unpack ys m = (r, k) := ⟨_, _, rfl⟩
  have HR2 := hide hr2
  have hrl2 : r2.length ≤ 4096 := by have := Prs.unpack_len ys m; rw [hr2] at this; exact this
  have HY : Hid (xs.set l1 y = ys ∧ ys.length = n ∧ xs.getD l1 0 = x ∧ ys.getD l1 0 = y) := ⟨hys, by rw [← hys]; simp [hi.len], hx, by rw [← hys]; simp [hi.len, hl1n]⟩
  clear hi hr hr2 hl1 hx hy hys
  go_enter Try.func4, Try.ntmps4
  go_wp2_with (first
    | (go_at_call 9; refine (roomy_ok (some ⟨pb, po, none⟩) cap n xs w HX.out.1 HX.out.2 (by omega)).mono ?_; rintro e w1 ⟨g, rfl, hg, hR, hk⟩; have H1 : Hid (Room w1 g xs ∧ w.heap.size ≤ g ∧ Below w.heap.size w w1) := ⟨hR, hg, hk.below (Nat.le_refl _) (by simp)⟩; clear hg hR hk)
    | (go_at_call 15; refine (unpack_at HX.out.2 (by omega) H1.out.1.sl m w1 (Below.refl _ _) r k HR.out).mono ?_; rintro e w2 ⟨bo2, bc2, rfl, ho2, hb2⟩; have H2 : Hid (Room w2 g xs ∧ w.heap.size ≤ g ∧ g < w1.heap.size ∧ Rw w2 bo2 r w1.heap.size w2.heap.size ∧ Below w.heap.size w w2) := ⟨H1.out.1.below hb2 H1.out.1.lt, H1.out.2.1, H1.out.1.lt, Rw.of ho2 hb2, H1.out.2.2.trans (Below.less hb2 H1.out.2.2.size)⟩; clear ho2 hb2 H1)
    | (go_at_call 16; refine (refunpack_at HX.out.2 (by omega) HX.out.1 m w2 H2.out.2.2.2.2 r k HR.out).mono ?_; rintro e w3 ⟨bo3, bc3, rfl, ho3, hb3⟩; have H3 : Hid (Pu w w3 g xs bo2 bo3 r w1.heap.size w2.heap.size w3.heap.size) := ⟨H2.out.1.below hb3 H2.out.1.lt, H2.out.2.1, H2.out.2.2.1, H2.out.2.2.2.1.on hb3, Rw.of ho3 hb3, H2.out.2.2.2.2.trans (Below.less hb3 H2.out.2.2.2.2.size)⟩; clear ho3 hb3 H2; generalize w3.heap.size = c3 at H3 ⊢; generalize w2.heap.size = c2 at H3 ⊢; generalize w1.heap.size = c1 at H3 ⊢)
    | (go_at_call 12; refine (same_yes bo2 bo3 r.length bc2 bc3 r w3 rfl (by omega) H3.out.r2.sl H3.out.r3.sl).mono ?_; rintro e w4' ⟨rfl, j4, rfl⟩; have H4 := hide (H3.out.drewN j4); clear H3; generalize w3.drewN j4 = w4 at H4 ⊢)
    | (go_at_call 13; refine (kept_ok g n (some ⟨pb, po, none⟩) cap xs w4 H4.out.room (HX.out.1.later H4.out.below) HX.out.2 (by omega)).mono ?_; rintro e w5' ⟨rfl, j5, rfl⟩; have H5 := hide (H4.out.drewN j5); clear H4; generalize w4.drewN j5 = w5 at H5 ⊢)
    | (at_builtin; refine wpList_clone w5 rfl _ _ rfl rfl ⟨pb, po, none⟩ n cap xs rfl rfl (HX.out.1.later H5.out.below) HX.out.2 hn0 (by omega) ?_; intro tb tc w6 hO6 hB6; have H6 : Hid (Pu w w6 g xs bo2 bo3 r c1 c2 c3 ∧ w6.ownsRow c3 5 1 (.slice (some ⟨tb, 0, none⟩) n tc) n (bys xs)) := ⟨H5.out.on hB6, own_mono hO6 H5.out.r3.size⟩; clear hO6 hB6 H5; have t0 : w6.cell? ⟨tb, l1, none⟩ = some (.int .u8 x.toNat) := (by rw [H6.out.2.cellAt l1 (by omega), bys_at (by rw [HX.out.2]; exact hl1n), HY.out.2.2.1]); have tf : w6.frozen? ⟨tb, l1, none⟩ = false := H6.out.2.frozenAt l1; have gc := (H6.out.1.cell l1 (by rw [HX.out.2]; exact hl1n)).1; rw [HY.out.2.2.1] at gc; have gf := (H6.out.1.cell l1 (by rw [HX.out.2]; exact hl1n)).2; have htb : c3 ≤ tb := (H6.out.2.lt tb rfl).1; have hgt : g ≠ tb := (by have := H6.out.1.lt; have := H6.out.1.r2.le; have := H6.out.1.r3.le; omega); have htg : tb ≠ g := Ne.symm hgt; have H8 : Hid (Pu w ((w6.setCell ⟨tb, l1, none⟩ (.int .u8 y.toNat)).setCell ⟨g, l1, none⟩ (.int .u8 y.toNat)) g ys bo2 bo3 r c1 c2 c3 ∧ ((w6.setCell ⟨tb, l1, none⟩ (.int .u8 y.toNat)).setCell ⟨g, l1, none⟩ (.int .u8 y.toNat)).ownsRow c3 5 1 (.slice (some ⟨tb, 0, none⟩) n tc) n (bys ys)) := up_turn H6.out.1 H6.out.2 htb hgt l1 (by rw [HX.out.2]; exact hl1n) HY.out.1; clear H6)
    | (go_at_call 15; generalize ((w6.setCell ⟨tb, l1, none⟩ (.int .u8 y.toNat)).setCell ⟨g, l1, none⟩ (.int .u8 y.toNat)) = w8 at H8 ⊢; refine (unpack_at HY.out.2.1 (by omega) H8.out.1.room.sl m w8 (Below.refl _ _) r2 k2 HR2.out).mono ?_; rintro e w9 ⟨bo4, bc4, rfl, ho4, hb4⟩; have H9 : Hid (Pu w w9 g ys bo2 bo3 r c1 c2 c3 ∧ Sl w9 (some ⟨tb, 0, none⟩) ys ∧ Rw w9 bo4 r2 w8.heap.size w9.heap.size) := ⟨H8.out.1.on hb4, (own_slc (by rw [← HY.out.2.1] at H8; exact H8.out.2)).1.later hb4, Rw.of ho4 hb4⟩; clear ho4 hb4 H8)
    | (go_at_call 16; refine (refunpack_at HY.out.2.1 (by omega) H9.out.2.1 m w9 (Below.refl _ _) r2 k2 HR2.out).mono ?_; rintro e wa ⟨bo5, bc5, rfl, ho5, hb5⟩; have HA : Hid (Pu w wa g ys bo2 bo3 r c1 c2 c3 ∧ Sl wa (some ⟨tb, 0, none⟩) ys ∧ Sl wa bo4 r2 ∧ Sl wa bo5 r2) := ⟨H9.out.1.on hb5, H9.out.2.1.later hb5, H9.out.2.2.sl.later hb5, (Rw.of ho5 hb5).sl⟩; clear ho5 hb5 H9)
    | (go_at_call 12; refine (same_yes bo4 bo5 r2.length bc4 bc5 r2 wa rfl (by omega) HA.out.2.2.1 HA.out.2.2.2).mono ?_; rintro e wb' ⟨rfl, jb, rfl⟩; have HB : Hid (Pu w (wa.drewN jb) g ys bo2 bo3 r c1 c2 c3 ∧ Sl (wa.drewN jb) (some ⟨tb, 0, none⟩) ys) := ⟨HA.out.1.drewN jb, HA.out.2.1.drewN jb⟩; clear HA; generalize wa.drewN jb = wb at HB ⊢)
    | (go_at_call 12; refine (same_yes bo2 bo3 r.length bc2 bc3 r wb rfl (by omega) HB.out.1.r2.sl HB.out.1.r3.sl).mono ?_; rintro e wc' ⟨rfl, jc, rfl⟩; have HC : Hid (Pu w (wb.drewN jc) g ys bo2 bo3 r c1 c2 c3 ∧ Sl (wb.drewN jc) (some ⟨tb, 0, none⟩) ys) := ⟨HB.out.1.drewN jc, HB.out.2.drewN jc⟩; clear HB; generalize wb.drewN jc = wc at HC ⊢)
    | (go_at_call 13; refine (kept_ok g n (some ⟨tb, 0, none⟩) tc ys wc HC.out.1.room HC.out.2 HY.out.2.1 (by omega)).mono ?_; rintro e wd' ⟨rfl, jd, rfl⟩; have HD := hide (HC.out.1.drewN jd); clear HC; generalize wc.drewN jd = wd at HD ⊢)
    | (go_at_call 14; refine (awake_ok _).mono ?_; rintro e we ⟨rfl, hbe⟩; have HE := hide (HD.out.on hbe); clear hbe HD)
    | go_in)
  go_ret
  exact ⟨rfl, HE.out.below⟩

theorem unpacks_walk (ao : Option Addr) (n cap : Nat) (m : Int) (xs : List UInt8) (w : World) (hi : InB w ao n cap xs) (hw : (Lit.int .i64 m).wf = true) :
    Calls Try.prog 4 #[.slice ao n cap, .int .i64 m] w fun e w' => e = .returned (.bool true) ∧ Below w.heap.size w w' := by
  by_cases h0 : n = 0
  · subst h0; exact unpacks_nil ao cap m xs w hi
  · exact unpacks_some ao n cap m xs w hi (by omega)

end Go.Proofs.Ytcgkjdchkpnldaa
