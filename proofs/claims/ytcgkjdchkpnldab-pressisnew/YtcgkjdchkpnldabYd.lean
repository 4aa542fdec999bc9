/-
  The walk: freightlaw4.PressIsNew. (Written by tools/yd.py.)
-/
import Derived.Test.YtcgkjdchkpnldabYc
import Derived.Test.YtcgkjdchkpnldabEa3
import Derived.Deep.Onto
namespace Go.Proofs.Ytcgkjdchkpnldab
open Go.RowKit
set_option linter.unusedVariables false
set_option linter.unusedSimpArgs false

theorem Prs.unpack_of (xs : List UInt8) (n : Nat) (h : n ≤ 4096) : Prs.unpack xs n = Prs.unp n 0 0 xs [] := by
  unfold Prs.unpack
  rw [if_neg (by omega)]
  rfl
theorem Prs.pack_back (xs : List UInt8) (h : xs.length ≤ 4096) : Prs.unpack (Prs.pack xs) (xs.length : Int) = (xs, 0) := by
  have := Prs.unp_pack xs xs.length (Nat.le_refl _)
  rw [if_neg (by omega)] at this
  exact (Prs.unpack_of _ _ h).trans this

theorem below_grown {w w' : World} (h : Below w.heap.size w w') (row : Option Nat) : w.grownBy w' row := ⟨h.os, h.tape, h.output, h.size, fun k hk _ => h.block k hk⟩

/-- The rows so far, and the list of the first of them. -/
structure Nu (B : Nat) (w W : World) (m : Nat) (f : Nat → Rr) (M : Nat) (f0 : Nat → Rr) (ra : Option Addr) (rc : Nat) : Prop where
  fam : Fam B W m f
  len : ∀ j, j < m → (f j).xs.length ≤ 100000
  all : W.ownsRow B 22 1 (.slice ra M rc) M (vals M f0)
  bel : Below B w W
  le : B ≤ W.heap.size
theorem Nu.on {B : Nat} {w W W' : World} {m M : Nat} {f f0 : Nat → Rr} {ra : Option Addr} {rc : Nat} (h : Nu B w W m f M f0 ra rc) (hb : Below W.heap.size W W') : Nu B w W' m f M f0 ra rc :=
  ⟨h.fam.grow (below_grown hb none) (fun _ _ => Off.none _), h.len, own_keep h.all (below_grown hb none) (Off.none _), h.bel.trans (Below.less hb h.le), Nat.le_trans h.le hb.size⟩
theorem Nu.push {B : Nat} {w W W' : World} {m M : Nat} {f f0 : Nat → Rr} {ra : Option Addr} {rc : Nat} {r : Rr} (h : Nu B w W m f M f0 ra rc) (hb : Below W.heap.size W W') (ho : r.At W.heap.size W') (hl : r.xs.length ≤ 100000) : Nu B w W' (m + 1) (upr f m r) M f0 ra rc := by
  have h' := h.on hb
  have hU : ∀ j, j ≠ m → upr f m r j = f j := fun j hj => upr_other _ _ _ _ hj
  refine ⟨⟨fun j hj => ?_, fun i j hi hj hij => ?_⟩, fun j hj => ?_, h'.all, h'.bel, h'.le⟩
  · by_cases e : j = m
    · subst e; rw [upr_same]; exact World.ownsRow.mono ho h.le
    · rw [hU j e]; exact h'.fam.own j (by omega)
  · have key : ∀ k, k < m → Off (f k).blk r.blk := fun k hk q hq hq2 => by
      have h1 := (h.fam.own k hk).blk_lt hq
      have h2 := (World.ownsRow.lt ho q hq2).1
      omega
    by_cases e : i = m
    · subst e
      rw [upr_same, hU j (by omega)]
      exact (key j (by omega)).symm
    · rw [hU i e]
      by_cases e' : j = m
      · subst e'; rw [upr_same]; exact key i (by omega)
      · rw [hU j e']; exact h.fam.apart i j (by omega) (by omega) hij
  · by_cases e : j = m
    · subst e; rw [upr_same]; exact hl
    · rw [hU j e]; exact h.len j (by omega)
theorem Nu.sl {B : Nat} {w W : World} {m M : Nat} {f f0 : Nat → Rr} {ra : Option Addr} {rc : Nat} (h : Nu B w W m f M f0 ra rc) {j : Nat} (hj : j < m) {r : Rr} (hr : f j = r) : Sl W r.o r.xs := by
  rw [← hr]; exact (h.fam.own j hj).sl
theorem Room.row {w : World} {g B : Nat} {ds : List UInt8} (h : Room w g ds) (hB : B ≤ g) (hl : ds.length ≤ 100000) : (Rr.mk (some ⟨g, 0, none⟩) (ds.length + 9) (ds ++ nine)).At B w := by
  have e : (ds ++ nine).length = ds.length + 9 := by simp [nine]
  refine ⟨by rw [bys_length]; exact (Nat.mul_one _).symm, .inr ⟨g, ds.length + 9, (bys (ds ++ nine)).toArray, by unfold Rr.val; rw [e], hB, h, by rw [e]; exact Nat.le_refl _, by unfold maxLen; omega, by rw [List.size_toArray, bys_length, e]; omega, ?_⟩⟩
  rw [List.take_of_length_le (by rw [bys_length]; exact Nat.le_of_eq (Nat.mul_one _).symm)]

def six (f : Nat → Rr) (M : Nat) (r0 r1 r2 r3 r4 r5 : Rr) : Nat → Rr := upr (upr (upr (upr (upr (upr f M r0) (M + 1) r1) (M + 2) r2) (M + 3) r3) (M + 4) r4) (M + 5) r5
theorem six_vals (f : Nat → Rr) (M : Nat) (r0 r1 r2 r3 r4 r5 : Rr) : vals (M + 6) (six f M r0 r1 r2 r3 r4 r5) = vals M f ++ [r0.val, r1.val, r2.val, r3.val, r4.val, r5.val] := by
  have e : vals M (six f M r0 r1 r2 r3 r4 r5) = vals M f := vals_congr (fun i hi => by unfold six; rw [upr_other _ _ _ _ (by omega), upr_other _ _ _ _ (by omega), upr_other _ _ _ _ (by omega), upr_other _ _ _ _ (by omega), upr_other _ _ _ _ (by omega), upr_other _ _ _ _ (by omega)])
  rw [show M + 6 = M + 1 + 1 + 1 + 1 + 1 + 1 from rfl, vals_succ, vals_succ, vals_succ, vals_succ, vals_succ, vals_succ, e]
  simp [six, upr]
/-- The six are appended. -/
theorem Nu.next {B : Nat} {w W W' : World} {M : Nat} {f f0 : Nat → Rr} {ra : Option Addr} {rc g c : Nat} {o : Obj} (h : Nu B w W (M + 6) f M f0 ra rc) (h1 : W'.ownsRow B 22 1 (.slice (some ⟨g, 0, none⟩) (M + 6) c) (M + 6) (vals (M + 6) f)) (h3 : (W.alloc o).grownBy W' (Value.slice ra M rc).ownBlock) : Nu B w W' (M + 6) f (M + 6) f (some ⟨g, 0, none⟩) c := by
  have hg0 := World.grownBy_alloc W o none
  refine ⟨(h.fam.grow hg0 (fun _ _ => Off.none _)).grow h3 (fun j hj => own_types (h.fam.own j hj) h.all (by decide)), h.len, h1, (h.bel.grown hg0 h.le (by simp)).grown h3 (by have := h.le; simp; omega) (fun k hk => (World.ownsRow.lt h.all k hk).1), Nat.le_trans h.le (Nat.le_trans hg0.size h3.size)⟩

theorem Try.cutRows (W : World) (ao : Option Addr) (L cap m : Nat) (hm : m ≤ cap) :
    (Instr.slice 31 (.slice ao L cap) none (some (.int .i64 m)) none).run Try.prog W = .ok (.slice ao m cap) W := by
  have hz : (sizeOf (Try.prog.elem 31)).run Try.prog W = .ok 1 W := by kernel_rfl
  have h := run_slice_h (P := Try.prog) W 31 ao L cap (by kernel_rfl) .i64 m (by omega) (by omega)
  rw [h, hz]
  cases ao <;> simp [sliced, Addr.add]

set_option maxHeartbeats 4000000 in
set_option maxRecDepth 100000 in
theorem isNew_in (ao : Option Addr) (n0 cap N : Nat) (Ls : List Bx) (w : World) (hN : n0 = N) (hN12 : N ≤ 12) (hro : ∀ i, i < N → ∃ b off, ao = some ⟨b, off, none⟩ ∧ w.cell? ⟨b, off + i, none⟩ = some (.slice (Ls.getD i bx0).da (Ls.getD i bx0).dn (Ls.getD i bx0).dc) ∧ InB w (Ls.getD i bx0).da (Ls.getD i bx0).dn (Ls.getD i bx0).dc (Ls.getD i bx0).ds) :
    Calls Try.prog 4 #[.slice ao n0 cap] w fun e w' => e = .returned (.bool true) ∧ Below w.heap.size w w' := by
  subst hN
  have hq0 : ¬ ((12 : Int) < (n0 : Int)) := by omega
  have HRO := hide hro
  clear hro
  go_enter Try.func4, Try.ntmps4
  go_wp2
  go_loopw [3, 4] (fun v3 v4 wr => ∃ (i M : Nat) (f : Nat → Rr) (ra : Option Addr) (rc : Nat), i ≤ n0 ∧ M ≤ 72 ∧ v3 = .slice ra M rc ∧ v4 = .int .i64 i ∧ Hid (M = 6 * i) ∧ Hid (Nu w.heap.size w wr M f M f ra rc)) (fun _ v4 _ => n0 - (intOf v4).toNat)
  case atStart => exact ⟨0, 0, fun _ => rr0, none, 0, Nat.zero_le _, by omega, rfl, rfl, rfl, ⟨⟨fun i hi => by omega, fun i _ hi => by omega⟩, fun i hi => by omega, World.ownsRow_nil _ _ _ _, Below.refl _ _, Nat.le_refl _⟩⟩
  case round =>
    obtain ⟨i, M, f, ra, rc, hiN, hM72, rfl, rfl, HMi, HN⟩ := hrel
    by_cases hi : i < n0
    · have hq1 : (i : Int) < (n0 : Int) := by omega
      obtain ⟨ab, off, hao, hcell, hin⟩ := HRO.out i hi
      subst hao
      have ca : wr.cell? ⟨ab, off + i, none⟩ = some (.slice (Ls.getD i bx0).da (Ls.getD i bx0).dn (Ls.getD i bx0).dc) := by rw [HN.out.bel.cell (p := ⟨ab, off + i, none⟩) (World.block_lt_of_cell? _ _ hcell)]; exact hcell
      generalize (Ls.getD i bx0).da = da at ca hin
      generalize (Ls.getD i bx0).dn = dn at ca hin
      generalize (Ls.getD i bx0).dc = dc at ca hin
      generalize (Ls.getD i bx0).ds = ds at hin
      have hM6 : M + 6 ≤ 72 := by have := HMi.out; omega
      clear hcell
      by_cases h6 : 600 < dn
      · have hq2 : (600 : Int) < (dn : Int) := by omega
        obtain ⟨n, hn⟩ : ∃ n, n = 600 := ⟨_, rfl⟩
        have hcut : ∀ W, (Instr.slice 22 (.slice da dn dc) none (some (.int .i64 600)) none).run Try.prog W = .ok (.slice da n dc) W := fun W => by have := Try.cutTo W da dn dc n (by have := hin.le; omega); rw [hn] at this ⊢; exact this
        obtain ⟨xs, hxs⟩ : ∃ xs, xs = ds.take n := ⟨_, rfl⟩
        have HX : Hid (Sl w da xs ∧ xs.length = n) := by
          have hl := hin.len
          refine ⟨fun t ht => ?_, by rw [hxs]; simp; omega⟩
          have ht' : t < n ∧ t < ds.length := by rw [hxs] at ht; simp at ht; omega
          obtain ⟨b', off', e', hc⟩ := hin.sl t ht'.2
          refine ⟨b', off', e', ?_⟩
          rw [hc]
          have : xs.getD t 0 = ds.getD t 0 := by rw [hxs]; simp [List.getD_eq_getElem?_getD, List.getElem?_take, ht'.1]
          rw [this]
        have hn6 : n ≤ 600 := by omega
        clear hin hn hxs
        obtain ⟨r, hr⟩ : ∃ r, Prs.pack xs = r := ⟨_, rfl⟩
        have hpl := Prs.pack_len xs
        rw [hr, HX.out.2] at hpl
        have hr8 : r.length ≤ 8192 := by omega
        have HR : Hid (Prs.packed xs = (r, 0) ∧ Prs.unpack r (n : Int) = (xs, 0)) := ⟨by unfold Prs.packed; rw [if_neg (by have := HX.out.2; omega), hr], by rw [← hr, ← HX.out.2]; exact Prs.pack_back xs (by have := HX.out.2; omega)⟩
        clear hpl hr
        go_wp2_with (first
          | (go_at_call 7; have Ha := HN; refine (roomy_ok da dc n xs wr (HX.out.1.later HN.out.bel) HX.out.2 (by omega)).mono ?_; rintro e w1 ⟨g1, rfl, hg, hR, hk⟩; have hb1 : Below wr.heap.size wr w1 := hk.below (Nat.le_refl _) (by simp); have H1 : Hid (Room w1 g1 xs ∧ Nu w.heap.size w w1 (M + 1) (upr f M ⟨some ⟨g1, 0, none⟩, n + 9, xs ++ nine⟩) M f ra rc) := ⟨hR, HN.out.push hb1 (by have := hR.row hg (by have := HX.out.2; omega); rw [HX.out.2] at this; exact this) (by rw [List.length_append, HX.out.2]; simp [nine]; omega)⟩; clear hg hR hk hb1 HN Ha)
          | (go_at_call 5; have Ha := H1; refine (pack_at HX.out.2 H1.out.1.sl w1 (Below.refl _ _) r 0 HR.out.1).mono ?_; rintro e w2 ⟨b2, c2, rfl, ho, hb⟩; have H2 : Hid (Room w2 g1 xs ∧ Nu w.heap.size w w2 (M + 2) (upr (upr f M ⟨some ⟨g1, 0, none⟩, n + 9, xs ++ nine⟩) (M + 1) ⟨b2, c2, r⟩) M f ra rc) := ⟨H1.out.1.below hb H1.out.1.lt, H1.out.2.push hb ho (show r.length ≤ 100000 by omega)⟩; clear ho hb H1 Ha)
          | (go_at_call 5; have Ha := H2; refine (pack_at HX.out.2 H2.out.1.sl w2 (Below.refl _ _) r 0 HR.out.1).mono ?_; rintro e w3 ⟨b3, c3, rfl, ho, hb⟩; have H3 : Hid (Nu w.heap.size w w3 (M + 3) (upr (upr (upr f M ⟨some ⟨g1, 0, none⟩, n + 9, xs ++ nine⟩) (M + 1) ⟨b2, c2, r⟩) (M + 2) ⟨b3, c3, r⟩) M f ra rc) := H2.out.2.push hb ho (show r.length ≤ 100000 by omega); clear ho hb H2 Ha)
          | (go_at_call 7; have Ha := H3; refine (roomy_ok b2 c2 r.length r w3 (H3.out.sl (j := M + 1) (r := ⟨b2, c2, r⟩) (by omega) (by simp [upr])) rfl (by omega)).mono ?_; rintro e w4 ⟨g2, rfl, hg, hR, hk⟩; have hb1 : Below w3.heap.size w3 w4 := hk.below (Nat.le_refl _) (by simp); have H4 : Hid (Room w4 g2 r ∧ Nu w.heap.size w w4 (M + 4) (upr (upr (upr (upr f M ⟨some ⟨g1, 0, none⟩, n + 9, xs ++ nine⟩) (M + 1) ⟨b2, c2, r⟩) (M + 2) ⟨b3, c3, r⟩) (M + 3) ⟨some ⟨g2, 0, none⟩, r.length + 9, r ++ nine⟩) M f ra rc) := ⟨hR, H3.out.push hb1 (hR.row hg (by omega)) (show (r ++ nine).length ≤ 100000 by simp [nine]; omega)⟩; clear hg hR hk hb1 H3 Ha)
          | (go_at_call 6; have Ha := H4; have hu := unpack_at (n := r.length) (cap := r.length + 9) rfl (by omega) H4.out.1.sl (n : Int) w4 (Below.refl _ _) xs 0 HR.out.2; rw [HX.out.2] at hu; refine hu.mono ?_; clear hu; rintro e w5 ⟨b5, c5, rfl, ho, hb⟩; have H5 : Hid (Room w5 g2 r ∧ Nu w.heap.size w w5 (M + 5) (upr (upr (upr (upr (upr f M ⟨some ⟨g1, 0, none⟩, n + 9, xs ++ nine⟩) (M + 1) ⟨b2, c2, r⟩) (M + 2) ⟨b3, c3, r⟩) (M + 3) ⟨some ⟨g2, 0, none⟩, r.length + 9, r ++ nine⟩) (M + 4) ⟨b5, c5, xs⟩) M f ra rc) := ⟨H4.out.1.below hb H4.out.1.lt, H4.out.2.push hb (by unfold Rr.At Rr.val; rw [HX.out.2]; exact ho) (show xs.length ≤ 100000 by have := HX.out.2; omega)⟩; clear ho hb H4 Ha)
          | (go_at_call 6; have Ha := H5; have hu := unpack_at (n := r.length) (cap := r.length + 9) rfl (by omega) H5.out.1.sl (n : Int) w5 (Below.refl _ _) xs 0 HR.out.2; rw [HX.out.2] at hu; refine hu.mono ?_; clear hu; rintro e w6 ⟨b6, c6, rfl, ho, hb⟩; have H6 : Hid (Nu w.heap.size w w6 (M + 6) (six f M ⟨some ⟨g1, 0, none⟩, n + 9, xs ++ nine⟩ ⟨b2, c2, r⟩ ⟨b3, c3, r⟩ ⟨some ⟨g2, 0, none⟩, r.length + 9, r ++ nine⟩ ⟨b5, c5, xs⟩ ⟨b6, c6, xs⟩) M f ra rc) := H5.out.2.push hb (by unfold Rr.At Rr.val; rw [HX.out.2]; exact ho) (show xs.length ≤ 100000 by have := HX.out.2; omega); clear ho hb H5 Ha)
          | (go_at_call 8; have Ha := H6; refine (same_yes b5 da n c5 dc xs w6 HX.out.2 (by omega) (H6.out.sl (j := M + 4) (r := ⟨b5, c5, xs⟩) (by omega) (by simp [six, upr])) (HX.out.1.later H6.out.bel)).mono ?_; rintro e w7' ⟨rfl, j7, rfl⟩; have H7 := hide (H6.out.on (Kept.below ((Kept.refl [] w6).drewN j7) (Nat.le_refl _) (by simp))); clear H6 Ha; generalize w6.drewN j7 = w7 at H7 ⊢)
          | (go_at_call 8; have Ha := H7; refine (same_yes b6 da n c6 dc xs w7 HX.out.2 (by omega) (H7.out.sl (j := M + 5) (r := ⟨b6, c6, xs⟩) (by omega) (by simp [six, upr])) (HX.out.1.later H7.out.bel)).mono ?_; rintro e w8' ⟨rfl, j8, rfl⟩; have H8 := hide (H7.out.on (Kept.below ((Kept.refl [] w7).drewN j8) (Nat.le_refl _) (by simp))); clear H7 Ha; generalize w7.drewN j8 = w8 at H8 ⊢)
          | (go_at_call 8; have Ha := H8; refine (same_yes b2 b3 r.length c2 c3 r w8 rfl (by omega) (H8.out.sl (j := M + 1) (r := ⟨b2, c2, r⟩) (by omega) (by simp [six, upr])) (H8.out.sl (j := M + 2) (r := ⟨b3, c3, r⟩) (by omega) (by simp [six, upr]))).mono ?_; rintro e w9' ⟨rfl, j9, rfl⟩; have H9 := hide (H8.out.on (Kept.below ((Kept.refl [] w8).drewN j9) (Nat.le_refl _) (by simp))); clear H8 Ha; generalize w8.drewN j9 = w9 at H9 ⊢)
          | (at_builtin; refine wpList_appT w9 w.heap.size rfl _ _ rfl rfl ra rc M 6 (vals M f) [.slice (some ⟨g1, 0, none⟩) (n + 9) (n + 9), .slice b2 r.length c2, .slice b3 r.length c3, .slice (some ⟨g2, 0, none⟩) (r.length + 9) (r.length + 9), .slice b5 n c5, .slice b6 n c6] rfl rfl H9.out.all rfl (by decide) (by simp [Value.oneCell']) (by omega) H9.out.le _ rfl ?_; intro g c w10 h1 h3 h4; have HE : Hid (Nu w.heap.size w w10 (M + 6) (six f M ⟨some ⟨g1, 0, none⟩, n + 9, xs ++ nine⟩ ⟨b2, c2, r⟩ ⟨b3, c3, r⟩ ⟨some ⟨g2, 0, none⟩, r.length + 9, r ++ nine⟩ ⟨b5, c5, xs⟩ ⟨b6, c6, xs⟩) (M + 6) (six f M ⟨some ⟨g1, 0, none⟩, n + 9, xs ++ nine⟩ ⟨b2, c2, r⟩ ⟨b3, c3, r⟩ ⟨some ⟨g2, 0, none⟩, r.length + 9, r ++ nine⟩ ⟨b5, c5, xs⟩ ⟨b6, c6, xs⟩) (some ⟨g, 0, none⟩) c) := H9.out.next (by rw [six_vals]; simp only [Rr.val, List.length_append, HX.out.2, show nine.length = 9 from rfl]; exact h1) h3; clear h1 h3 h4 H9)
          | go_in)
        go_roundw
        case rel => exact ⟨i + 1, M + 6, _, some ⟨g, 0, none⟩, c, by omega, by omega, rfl, by go_num, by have h66 : M = 6 * i := HMi.out; show M + 6 = 6 * (i + 1); omega, HE.out⟩
        case measure => simp [intOf]; omega
      · have hq2 : ¬ ((600 : Int) < (dn : Int)) := by omega
        obtain ⟨n, hn⟩ : ∃ n, n = dn := ⟨_, rfl⟩
        subst hn
        have HX : Hid (Sl w da ds ∧ ds.length = n) := ⟨hin.sl, hin.len⟩
        have hn6 : n ≤ 600 := by omega
        clear hin h6
        obtain ⟨xs, hxs⟩ : ∃ xs, xs = ds := ⟨_, rfl⟩
        subst hxs
        obtain ⟨r, hr⟩ : ∃ r, Prs.pack xs = r := ⟨_, rfl⟩
        have hpl := Prs.pack_len xs
        rw [hr, HX.out.2] at hpl
        have hr8 : r.length ≤ 8192 := by omega
        have HR : Hid (Prs.packed xs = (r, 0) ∧ Prs.unpack r (n : Int) = (xs, 0)) := ⟨by unfold Prs.packed; rw [if_neg (by have := HX.out.2; omega), hr], by rw [← hr, ← HX.out.2]; exact Prs.pack_back xs (by have := HX.out.2; omega)⟩
        clear hpl hr
        go_wp2_with (first
          | (go_at_call 7; have Ha := HN; refine (roomy_ok da dc n xs wr (HX.out.1.later HN.out.bel) HX.out.2 (by omega)).mono ?_; rintro e w1 ⟨g1, rfl, hg, hR, hk⟩; have hb1 : Below wr.heap.size wr w1 := hk.below (Nat.le_refl _) (by simp); have H1 : Hid (Room w1 g1 xs ∧ Nu w.heap.size w w1 (M + 1) (upr f M ⟨some ⟨g1, 0, none⟩, n + 9, xs ++ nine⟩) M f ra rc) := ⟨hR, HN.out.push hb1 (by have := hR.row hg (by have := HX.out.2; omega); rw [HX.out.2] at this; exact this) (by rw [List.length_append, HX.out.2]; simp [nine]; omega)⟩; clear hg hR hk hb1 HN Ha)
          | (go_at_call 5; have Ha := H1; refine (pack_at HX.out.2 H1.out.1.sl w1 (Below.refl _ _) r 0 HR.out.1).mono ?_; rintro e w2 ⟨b2, c2, rfl, ho, hb⟩; have H2 : Hid (Room w2 g1 xs ∧ Nu w.heap.size w w2 (M + 2) (upr (upr f M ⟨some ⟨g1, 0, none⟩, n + 9, xs ++ nine⟩) (M + 1) ⟨b2, c2, r⟩) M f ra rc) := ⟨H1.out.1.below hb H1.out.1.lt, H1.out.2.push hb ho (show r.length ≤ 100000 by omega)⟩; clear ho hb H1 Ha)
          | (go_at_call 5; have Ha := H2; refine (pack_at HX.out.2 H2.out.1.sl w2 (Below.refl _ _) r 0 HR.out.1).mono ?_; rintro e w3 ⟨b3, c3, rfl, ho, hb⟩; have H3 : Hid (Nu w.heap.size w w3 (M + 3) (upr (upr (upr f M ⟨some ⟨g1, 0, none⟩, n + 9, xs ++ nine⟩) (M + 1) ⟨b2, c2, r⟩) (M + 2) ⟨b3, c3, r⟩) M f ra rc) := H2.out.2.push hb ho (show r.length ≤ 100000 by omega); clear ho hb H2 Ha)
          | (go_at_call 7; have Ha := H3; refine (roomy_ok b2 c2 r.length r w3 (H3.out.sl (j := M + 1) (r := ⟨b2, c2, r⟩) (by omega) (by simp [upr])) rfl (by omega)).mono ?_; rintro e w4 ⟨g2, rfl, hg, hR, hk⟩; have hb1 : Below w3.heap.size w3 w4 := hk.below (Nat.le_refl _) (by simp); have H4 : Hid (Room w4 g2 r ∧ Nu w.heap.size w w4 (M + 4) (upr (upr (upr (upr f M ⟨some ⟨g1, 0, none⟩, n + 9, xs ++ nine⟩) (M + 1) ⟨b2, c2, r⟩) (M + 2) ⟨b3, c3, r⟩) (M + 3) ⟨some ⟨g2, 0, none⟩, r.length + 9, r ++ nine⟩) M f ra rc) := ⟨hR, H3.out.push hb1 (hR.row hg (by omega)) (show (r ++ nine).length ≤ 100000 by simp [nine]; omega)⟩; clear hg hR hk hb1 H3 Ha)
          | (go_at_call 6; have Ha := H4; have hu := unpack_at (n := r.length) (cap := r.length + 9) rfl (by omega) H4.out.1.sl (n : Int) w4 (Below.refl _ _) xs 0 HR.out.2; rw [HX.out.2] at hu; refine hu.mono ?_; clear hu; rintro e w5 ⟨b5, c5, rfl, ho, hb⟩; have H5 : Hid (Room w5 g2 r ∧ Nu w.heap.size w w5 (M + 5) (upr (upr (upr (upr (upr f M ⟨some ⟨g1, 0, none⟩, n + 9, xs ++ nine⟩) (M + 1) ⟨b2, c2, r⟩) (M + 2) ⟨b3, c3, r⟩) (M + 3) ⟨some ⟨g2, 0, none⟩, r.length + 9, r ++ nine⟩) (M + 4) ⟨b5, c5, xs⟩) M f ra rc) := ⟨H4.out.1.below hb H4.out.1.lt, H4.out.2.push hb (by unfold Rr.At Rr.val; rw [HX.out.2]; exact ho) (show xs.length ≤ 100000 by have := HX.out.2; omega)⟩; clear ho hb H4 Ha)
          | (go_at_call 6; have Ha := H5; have hu := unpack_at (n := r.length) (cap := r.length + 9) rfl (by omega) H5.out.1.sl (n : Int) w5 (Below.refl _ _) xs 0 HR.out.2; rw [HX.out.2] at hu; refine hu.mono ?_; clear hu; rintro e w6 ⟨b6, c6, rfl, ho, hb⟩; have H6 : Hid (Nu w.heap.size w w6 (M + 6) (six f M ⟨some ⟨g1, 0, none⟩, n + 9, xs ++ nine⟩ ⟨b2, c2, r⟩ ⟨b3, c3, r⟩ ⟨some ⟨g2, 0, none⟩, r.length + 9, r ++ nine⟩ ⟨b5, c5, xs⟩ ⟨b6, c6, xs⟩) M f ra rc) := H5.out.2.push hb (by unfold Rr.At Rr.val; rw [HX.out.2]; exact ho) (show xs.length ≤ 100000 by have := HX.out.2; omega); clear ho hb H5 Ha)
          | (go_at_call 8; have Ha := H6; refine (same_yes b5 da n c5 dc xs w6 HX.out.2 (by omega) (H6.out.sl (j := M + 4) (r := ⟨b5, c5, xs⟩) (by omega) (by simp [six, upr])) (HX.out.1.later H6.out.bel)).mono ?_; rintro e w7' ⟨rfl, j7, rfl⟩; have H7 := hide (H6.out.on (Kept.below ((Kept.refl [] w6).drewN j7) (Nat.le_refl _) (by simp))); clear H6 Ha; generalize w6.drewN j7 = w7 at H7 ⊢)
          | (go_at_call 8; have Ha := H7; refine (same_yes b6 da n c6 dc xs w7 HX.out.2 (by omega) (H7.out.sl (j := M + 5) (r := ⟨b6, c6, xs⟩) (by omega) (by simp [six, upr])) (HX.out.1.later H7.out.bel)).mono ?_; rintro e w8' ⟨rfl, j8, rfl⟩; have H8 := hide (H7.out.on (Kept.below ((Kept.refl [] w7).drewN j8) (Nat.le_refl _) (by simp))); clear H7 Ha; generalize w7.drewN j8 = w8 at H8 ⊢)
          | (go_at_call 8; have Ha := H8; refine (same_yes b2 b3 r.length c2 c3 r w8 rfl (by omega) (H8.out.sl (j := M + 1) (r := ⟨b2, c2, r⟩) (by omega) (by simp [six, upr])) (H8.out.sl (j := M + 2) (r := ⟨b3, c3, r⟩) (by omega) (by simp [six, upr]))).mono ?_; rintro e w9' ⟨rfl, j9, rfl⟩; have H9 := hide (H8.out.on (Kept.below ((Kept.refl [] w8).drewN j9) (Nat.le_refl _) (by simp))); clear H8 Ha; generalize w8.drewN j9 = w9 at H9 ⊢)
          | (at_builtin; refine wpList_appT w9 w.heap.size rfl _ _ rfl rfl ra rc M 6 (vals M f) [.slice (some ⟨g1, 0, none⟩) (n + 9) (n + 9), .slice b2 r.length c2, .slice b3 r.length c3, .slice (some ⟨g2, 0, none⟩) (r.length + 9) (r.length + 9), .slice b5 n c5, .slice b6 n c6] rfl rfl H9.out.all rfl (by decide) (by simp [Value.oneCell']) (by omega) H9.out.le _ rfl ?_; intro g c w10 h1 h3 h4; have HE : Hid (Nu w.heap.size w w10 (M + 6) (six f M ⟨some ⟨g1, 0, none⟩, n + 9, xs ++ nine⟩ ⟨b2, c2, r⟩ ⟨b3, c3, r⟩ ⟨some ⟨g2, 0, none⟩, r.length + 9, r ++ nine⟩ ⟨b5, c5, xs⟩ ⟨b6, c6, xs⟩) (M + 6) (six f M ⟨some ⟨g1, 0, none⟩, n + 9, xs ++ nine⟩ ⟨b2, c2, r⟩ ⟨b3, c3, r⟩ ⟨some ⟨g2, 0, none⟩, r.length + 9, r ++ nine⟩ ⟨b5, c5, xs⟩ ⟨b6, c6, xs⟩) (some ⟨g, 0, none⟩) c) := H9.out.next (by rw [six_vals]; simp only [Rr.val, List.length_append, HX.out.2, show nine.length = 9 from rfl]; exact h1) h3; clear h1 h3 h4 H9)
          | go_in)
        go_roundw
        case rel => exact ⟨i + 1, M + 6, _, some ⟨g, 0, none⟩, c, by omega, by omega, rfl, by go_num, by have h66 : M = 6 * i := HMi.out; show M + 6 = 6 * (i + 1); omega, HE.out⟩
        case measure => simp [intOf]; omega
    · have hq1 : ¬ ((i : Int) < (n0 : Int)) := by omega
      have hiN2 : n0 = i := by omega
      go_wp2_with (first
        | (go_at_call 10; refine (apart_ok w.heap.size ra M rc f wr hM72 HN.out.len HN.out.fam HN.out.all HN.out.le).mono ?_; rintro e w2 ⟨rfl, hb2⟩; have H2 : Hid (Below w.heap.size w w2) := HN.out.bel.trans hb2; clear hb2 HN)
        | (go_at_call 9; refine (awake_ok w2).mono ?_; rintro e w3 ⟨rfl, hb3⟩; have H3 : Hid (Below w.heap.size w w3) := H2.out.trans (Below.less hb3 H2.out.size); clear hb3 H2)
        | go_in)
      go_ret
      exact ⟨rfl, H3.out⟩

set_option maxHeartbeats 4000000 in
set_option maxRecDepth 100000 in
theorem isNew_cut (ao : Option Addr) (n0 cap N : Nat) (Ls : List Bx) (w : World) (hN : N = 12) (hn0 : 12 < n0) (hcap : N ≤ cap) (hro : ∀ i, i < N → ∃ b off, ao = some ⟨b, off, none⟩ ∧ w.cell? ⟨b, off + i, none⟩ = some (.slice (Ls.getD i bx0).da (Ls.getD i bx0).dn (Ls.getD i bx0).dc) ∧ InB w (Ls.getD i bx0).da (Ls.getD i bx0).dn (Ls.getD i bx0).dc (Ls.getD i bx0).ds) :
    Calls Try.prog 4 #[.slice ao n0 cap] w fun e w' => e = .returned (.bool true) ∧ Below w.heap.size w w' := by
  have hq0 : ((12 : Int) < (n0 : Int)) := by omega
  have hN12 : N ≤ 12 := by omega
  have hcutR : ∀ W, (Instr.slice 31 (.slice ao n0 cap) none (some (.int .i64 12)) none).run Try.prog W = .ok (.slice ao N cap) W := fun W => by have := Try.cutRows W ao n0 cap N hcap; rw [hN] at this ⊢; exact this
  have HRO := hide hro
  clear hro hN
  go_enter Try.func4, Try.ntmps4
  go_wp2
  clear hcutR
  go_loopw [3, 4] (fun v3 v4 wr => ∃ (i M : Nat) (f : Nat → Rr) (ra : Option Addr) (rc : Nat), i ≤ N ∧ M ≤ 72 ∧ v3 = .slice ra M rc ∧ v4 = .int .i64 i ∧ Hid (M = 6 * i) ∧ Hid (Nu w.heap.size w wr M f M f ra rc)) (fun _ v4 _ => N - (intOf v4).toNat)
  case atStart => exact ⟨0, 0, fun _ => rr0, none, 0, Nat.zero_le _, by omega, rfl, rfl, rfl, ⟨⟨fun i hi => by omega, fun i _ hi => by omega⟩, fun i hi => by omega, World.ownsRow_nil _ _ _ _, Below.refl _ _, Nat.le_refl _⟩⟩
  case round =>
    obtain ⟨i, M, f, ra, rc, hiN, hM72, rfl, rfl, HMi, HN⟩ := hrel
    by_cases hi : i < N
    · have hq1 : (i : Int) < (N : Int) := by omega
      obtain ⟨ab, off, hao, hcell, hin⟩ := HRO.out i hi
      subst hao
      have ca : wr.cell? ⟨ab, off + i, none⟩ = some (.slice (Ls.getD i bx0).da (Ls.getD i bx0).dn (Ls.getD i bx0).dc) := by rw [HN.out.bel.cell (p := ⟨ab, off + i, none⟩) (World.block_lt_of_cell? _ _ hcell)]; exact hcell
      generalize (Ls.getD i bx0).da = da at ca hin
      generalize (Ls.getD i bx0).dn = dn at ca hin
      generalize (Ls.getD i bx0).dc = dc at ca hin
      generalize (Ls.getD i bx0).ds = ds at hin
      have hM6 : M + 6 ≤ 72 := by have := HMi.out; omega
      clear hcell
      by_cases h6 : 600 < dn
      · have hq2 : (600 : Int) < (dn : Int) := by omega
        obtain ⟨n, hn⟩ : ∃ n, n = 600 := ⟨_, rfl⟩
        have hcut : ∀ W, (Instr.slice 22 (.slice da dn dc) none (some (.int .i64 600)) none).run Try.prog W = .ok (.slice da n dc) W := fun W => by have := Try.cutTo W da dn dc n (by have := hin.le; omega); rw [hn] at this ⊢; exact this
        obtain ⟨xs, hxs⟩ : ∃ xs, xs = ds.take n := ⟨_, rfl⟩
        have HX : Hid (Sl w da xs ∧ xs.length = n) := by
          have hl := hin.len
          refine ⟨fun t ht => ?_, by rw [hxs]; simp; omega⟩
          have ht' : t < n ∧ t < ds.length := by rw [hxs] at ht; simp at ht; omega
          obtain ⟨b', off', e', hc⟩ := hin.sl t ht'.2
          refine ⟨b', off', e', ?_⟩
          rw [hc]
          have : xs.getD t 0 = ds.getD t 0 := by rw [hxs]; simp [List.getD_eq_getElem?_getD, List.getElem?_take, ht'.1]
          rw [this]
        have hn6 : n ≤ 600 := by omega
        clear hin hn hxs
        obtain ⟨r, hr⟩ : ∃ r, Prs.pack xs = r := ⟨_, rfl⟩
        have hpl := Prs.pack_len xs
        rw [hr, HX.out.2] at hpl
        have hr8 : r.length ≤ 8192 := by omega
        have HR : Hid (Prs.packed xs = (r, 0) ∧ Prs.unpack r (n : Int) = (xs, 0)) := ⟨by unfold Prs.packed; rw [if_neg (by have := HX.out.2; omega), hr], by rw [← hr, ← HX.out.2]; exact Prs.pack_back xs (by have := HX.out.2; omega)⟩
        clear hpl hr
        go_wp2_with (first
          | (go_at_call 7; have Ha := HN; refine (roomy_ok da dc n xs wr (HX.out.1.later HN.out.bel) HX.out.2 (by omega)).mono ?_; rintro e w1 ⟨g1, rfl, hg, hR, hk⟩; have hb1 : Below wr.heap.size wr w1 := hk.below (Nat.le_refl _) (by simp); have H1 : Hid (Room w1 g1 xs ∧ Nu w.heap.size w w1 (M + 1) (upr f M ⟨some ⟨g1, 0, none⟩, n + 9, xs ++ nine⟩) M f ra rc) := ⟨hR, HN.out.push hb1 (by have := hR.row hg (by have := HX.out.2; omega); rw [HX.out.2] at this; exact this) (by rw [List.length_append, HX.out.2]; simp [nine]; omega)⟩; clear hg hR hk hb1 HN Ha)
          | (go_at_call 5; have Ha := H1; refine (pack_at HX.out.2 H1.out.1.sl w1 (Below.refl _ _) r 0 HR.out.1).mono ?_; rintro e w2 ⟨b2, c2, rfl, ho, hb⟩; have H2 : Hid (Room w2 g1 xs ∧ Nu w.heap.size w w2 (M + 2) (upr (upr f M ⟨some ⟨g1, 0, none⟩, n + 9, xs ++ nine⟩) (M + 1) ⟨b2, c2, r⟩) M f ra rc) := ⟨H1.out.1.below hb H1.out.1.lt, H1.out.2.push hb ho (show r.length ≤ 100000 by omega)⟩; clear ho hb H1 Ha)
          | (go_at_call 5; have Ha := H2; refine (pack_at HX.out.2 H2.out.1.sl w2 (Below.refl _ _) r 0 HR.out.1).mono ?_; rintro e w3 ⟨b3, c3, rfl, ho, hb⟩; have H3 : Hid (Nu w.heap.size w w3 (M + 3) (upr (upr (upr f M ⟨some ⟨g1, 0, none⟩, n + 9, xs ++ nine⟩) (M + 1) ⟨b2, c2, r⟩) (M + 2) ⟨b3, c3, r⟩) M f ra rc) := H2.out.2.push hb ho (show r.length ≤ 100000 by omega); clear ho hb H2 Ha)
          | (go_at_call 7; have Ha := H3; refine (roomy_ok b2 c2 r.length r w3 (H3.out.sl (j := M + 1) (r := ⟨b2, c2, r⟩) (by omega) (by simp [upr])) rfl (by omega)).mono ?_; rintro e w4 ⟨g2, rfl, hg, hR, hk⟩; have hb1 : Below w3.heap.size w3 w4 := hk.below (Nat.le_refl _) (by simp); have H4 : Hid (Room w4 g2 r ∧ Nu w.heap.size w w4 (M + 4) (upr (upr (upr (upr f M ⟨some ⟨g1, 0, none⟩, n + 9, xs ++ nine⟩) (M + 1) ⟨b2, c2, r⟩) (M + 2) ⟨b3, c3, r⟩) (M + 3) ⟨some ⟨g2, 0, none⟩, r.length + 9, r ++ nine⟩) M f ra rc) := ⟨hR, H3.out.push hb1 (hR.row hg (by omega)) (show (r ++ nine).length ≤ 100000 by simp [nine]; omega)⟩; clear hg hR hk hb1 H3 Ha)
          | (go_at_call 6; have Ha := H4; have hu := unpack_at (n := r.length) (cap := r.length + 9) rfl (by omega) H4.out.1.sl (n : Int) w4 (Below.refl _ _) xs 0 HR.out.2; rw [HX.out.2] at hu; refine hu.mono ?_; clear hu; rintro e w5 ⟨b5, c5, rfl, ho, hb⟩; have H5 : Hid (Room w5 g2 r ∧ Nu w.heap.size w w5 (M + 5) (upr (upr (upr (upr (upr f M ⟨some ⟨g1, 0, none⟩, n + 9, xs ++ nine⟩) (M + 1) ⟨b2, c2, r⟩) (M + 2) ⟨b3, c3, r⟩) (M + 3) ⟨some ⟨g2, 0, none⟩, r.length + 9, r ++ nine⟩) (M + 4) ⟨b5, c5, xs⟩) M f ra rc) := ⟨H4.out.1.below hb H4.out.1.lt, H4.out.2.push hb (by unfold Rr.At Rr.val; rw [HX.out.2]; exact ho) (show xs.length ≤ 100000 by have := HX.out.2; omega)⟩; clear ho hb H4 Ha)
          | (go_at_call 6; have Ha := H5; have hu := unpack_at (n := r.length) (cap := r.length + 9) rfl (by omega) H5.out.1.sl (n : Int) w5 (Below.refl _ _) xs 0 HR.out.2; rw [HX.out.2] at hu; refine hu.mono ?_; clear hu; rintro e w6 ⟨b6, c6, rfl, ho, hb⟩; have H6 : Hid (Nu w.heap.size w w6 (M + 6) (six f M ⟨some ⟨g1, 0, none⟩, n + 9, xs ++ nine⟩ ⟨b2, c2, r⟩ ⟨b3, c3, r⟩ ⟨some ⟨g2, 0, none⟩, r.length + 9, r ++ nine⟩ ⟨b5, c5, xs⟩ ⟨b6, c6, xs⟩) M f ra rc) := H5.out.2.push hb (by unfold Rr.At Rr.val; rw [HX.out.2]; exact ho) (show xs.length ≤ 100000 by have := HX.out.2; omega); clear ho hb H5 Ha)
          | (go_at_call 8; have Ha := H6; refine (same_yes b5 da n c5 dc xs w6 HX.out.2 (by omega) (H6.out.sl (j := M + 4) (r := ⟨b5, c5, xs⟩) (by omega) (by simp [six, upr])) (HX.out.1.later H6.out.bel)).mono ?_; rintro e w7' ⟨rfl, j7, rfl⟩; have H7 := hide (H6.out.on (Kept.below ((Kept.refl [] w6).drewN j7) (Nat.le_refl _) (by simp))); clear H6 Ha; generalize w6.drewN j7 = w7 at H7 ⊢)
          | (go_at_call 8; have Ha := H7; refine (same_yes b6 da n c6 dc xs w7 HX.out.2 (by omega) (H7.out.sl (j := M + 5) (r := ⟨b6, c6, xs⟩) (by omega) (by simp [six, upr])) (HX.out.1.later H7.out.bel)).mono ?_; rintro e w8' ⟨rfl, j8, rfl⟩; have H8 := hide (H7.out.on (Kept.below ((Kept.refl [] w7).drewN j8) (Nat.le_refl _) (by simp))); clear H7 Ha; generalize w7.drewN j8 = w8 at H8 ⊢)
          | (go_at_call 8; have Ha := H8; refine (same_yes b2 b3 r.length c2 c3 r w8 rfl (by omega) (H8.out.sl (j := M + 1) (r := ⟨b2, c2, r⟩) (by omega) (by simp [six, upr])) (H8.out.sl (j := M + 2) (r := ⟨b3, c3, r⟩) (by omega) (by simp [six, upr]))).mono ?_; rintro e w9' ⟨rfl, j9, rfl⟩; have H9 := hide (H8.out.on (Kept.below ((Kept.refl [] w8).drewN j9) (Nat.le_refl _) (by simp))); clear H8 Ha; generalize w8.drewN j9 = w9 at H9 ⊢)
          | (at_builtin; refine wpList_appT w9 w.heap.size rfl _ _ rfl rfl ra rc M 6 (vals M f) [.slice (some ⟨g1, 0, none⟩) (n + 9) (n + 9), .slice b2 r.length c2, .slice b3 r.length c3, .slice (some ⟨g2, 0, none⟩) (r.length + 9) (r.length + 9), .slice b5 n c5, .slice b6 n c6] rfl rfl H9.out.all rfl (by decide) (by simp [Value.oneCell']) (by omega) H9.out.le _ rfl ?_; intro g c w10 h1 h3 h4; have HE : Hid (Nu w.heap.size w w10 (M + 6) (six f M ⟨some ⟨g1, 0, none⟩, n + 9, xs ++ nine⟩ ⟨b2, c2, r⟩ ⟨b3, c3, r⟩ ⟨some ⟨g2, 0, none⟩, r.length + 9, r ++ nine⟩ ⟨b5, c5, xs⟩ ⟨b6, c6, xs⟩) (M + 6) (six f M ⟨some ⟨g1, 0, none⟩, n + 9, xs ++ nine⟩ ⟨b2, c2, r⟩ ⟨b3, c3, r⟩ ⟨some ⟨g2, 0, none⟩, r.length + 9, r ++ nine⟩ ⟨b5, c5, xs⟩ ⟨b6, c6, xs⟩) (some ⟨g, 0, none⟩) c) := H9.out.next (by rw [six_vals]; simp only [Rr.val, List.length_append, HX.out.2, show nine.length = 9 from rfl]; exact h1) h3; clear h1 h3 h4 H9)
          | go_in)
        go_roundw
        case rel => exact ⟨i + 1, M + 6, _, some ⟨g, 0, none⟩, c, by omega, by omega, rfl, by go_num, by have h66 : M = 6 * i := HMi.out; show M + 6 = 6 * (i + 1); omega, HE.out⟩
        case measure => simp [intOf]; omega
      · have hq2 : ¬ ((600 : Int) < (dn : Int)) := by omega
        obtain ⟨n, hn⟩ : ∃ n, n = dn := ⟨_, rfl⟩
        subst hn
        have HX : Hid (Sl w da ds ∧ ds.length = n) := ⟨hin.sl, hin.len⟩
        have hn6 : n ≤ 600 := by omega
        clear hin h6
        obtain ⟨xs, hxs⟩ : ∃ xs, xs = ds := ⟨_, rfl⟩
        subst hxs
        obtain ⟨r, hr⟩ : ∃ r, Prs.pack xs = r := ⟨_, rfl⟩
        have hpl := Prs.pack_len xs
        rw [hr, HX.out.2] at hpl
        have hr8 : r.length ≤ 8192 := by omega
        have HR : Hid (Prs.packed xs = (r, 0) ∧ Prs.unpack r (n : Int) = (xs, 0)) := ⟨by unfold Prs.packed; rw [if_neg (by have := HX.out.2; omega), hr], by rw [← hr, ← HX.out.2]; exact Prs.pack_back xs (by have := HX.out.2; omega)⟩
        clear hpl hr
        go_wp2_with (first
          | (go_at_call 7; have Ha := HN; refine (roomy_ok da dc n xs wr (HX.out.1.later HN.out.bel) HX.out.2 (by omega)).mono ?_; rintro e w1 ⟨g1, rfl, hg, hR, hk⟩; have hb1 : Below wr.heap.size wr w1 := hk.below (Nat.le_refl _) (by simp); have H1 : Hid (Room w1 g1 xs ∧ Nu w.heap.size w w1 (M + 1) (upr f M ⟨some ⟨g1, 0, none⟩, n + 9, xs ++ nine⟩) M f ra rc) := ⟨hR, HN.out.push hb1 (by have := hR.row hg (by have := HX.out.2; omega); rw [HX.out.2] at this; exact this) (by rw [List.length_append, HX.out.2]; simp [nine]; omega)⟩; clear hg hR hk hb1 HN Ha)
          | (go_at_call 5; have Ha := H1; refine (pack_at HX.out.2 H1.out.1.sl w1 (Below.refl _ _) r 0 HR.out.1).mono ?_; rintro e w2 ⟨b2, c2, rfl, ho, hb⟩; have H2 : Hid (Room w2 g1 xs ∧ Nu w.heap.size w w2 (M + 2) (upr (upr f M ⟨some ⟨g1, 0, none⟩, n + 9, xs ++ nine⟩) (M + 1) ⟨b2, c2, r⟩) M f ra rc) := ⟨H1.out.1.below hb H1.out.1.lt, H1.out.2.push hb ho (show r.length ≤ 100000 by omega)⟩; clear ho hb H1 Ha)
          | (go_at_call 5; have Ha := H2; refine (pack_at HX.out.2 H2.out.1.sl w2 (Below.refl _ _) r 0 HR.out.1).mono ?_; rintro e w3 ⟨b3, c3, rfl, ho, hb⟩; have H3 : Hid (Nu w.heap.size w w3 (M + 3) (upr (upr (upr f M ⟨some ⟨g1, 0, none⟩, n + 9, xs ++ nine⟩) (M + 1) ⟨b2, c2, r⟩) (M + 2) ⟨b3, c3, r⟩) M f ra rc) := H2.out.2.push hb ho (show r.length ≤ 100000 by omega); clear ho hb H2 Ha)
          | (go_at_call 7; have Ha := H3; refine (roomy_ok b2 c2 r.length r w3 (H3.out.sl (j := M + 1) (r := ⟨b2, c2, r⟩) (by omega) (by simp [upr])) rfl (by omega)).mono ?_; rintro e w4 ⟨g2, rfl, hg, hR, hk⟩; have hb1 : Below w3.heap.size w3 w4 := hk.below (Nat.le_refl _) (by simp); have H4 : Hid (Room w4 g2 r ∧ Nu w.heap.size w w4 (M + 4) (upr (upr (upr (upr f M ⟨some ⟨g1, 0, none⟩, n + 9, xs ++ nine⟩) (M + 1) ⟨b2, c2, r⟩) (M + 2) ⟨b3, c3, r⟩) (M + 3) ⟨some ⟨g2, 0, none⟩, r.length + 9, r ++ nine⟩) M f ra rc) := ⟨hR, H3.out.push hb1 (hR.row hg (by omega)) (show (r ++ nine).length ≤ 100000 by simp [nine]; omega)⟩; clear hg hR hk hb1 H3 Ha)
          | (go_at_call 6; have Ha := H4; have hu := unpack_at (n := r.length) (cap := r.length + 9) rfl (by omega) H4.out.1.sl (n : Int) w4 (Below.refl _ _) xs 0 HR.out.2; rw [HX.out.2] at hu; refine hu.mono ?_; clear hu; rintro e w5 ⟨b5, c5, rfl, ho, hb⟩; have H5 : Hid (Room w5 g2 r ∧ Nu w.heap.size w w5 (M + 5) (upr (upr (upr (upr (upr f M ⟨some ⟨g1, 0, none⟩, n + 9, xs ++ nine⟩) (M + 1) ⟨b2, c2, r⟩) (M + 2) ⟨b3, c3, r⟩) (M + 3) ⟨some ⟨g2, 0, none⟩, r.length + 9, r ++ nine⟩) (M + 4) ⟨b5, c5, xs⟩) M f ra rc) := ⟨H4.out.1.below hb H4.out.1.lt, H4.out.2.push hb (by unfold Rr.At Rr.val; rw [HX.out.2]; exact ho) (show xs.length ≤ 100000 by have := HX.out.2; omega)⟩; clear ho hb H4 Ha)
          | (go_at_call 6; have Ha := H5; have hu := unpack_at (n := r.length) (cap := r.length + 9) rfl (by omega) H5.out.1.sl (n : Int) w5 (Below.refl _ _) xs 0 HR.out.2; rw [HX.out.2] at hu; refine hu.mono ?_; clear hu; rintro e w6 ⟨b6, c6, rfl, ho, hb⟩; have H6 : Hid (Nu w.heap.size w w6 (M + 6) (six f M ⟨some ⟨g1, 0, none⟩, n + 9, xs ++ nine⟩ ⟨b2, c2, r⟩ ⟨b3, c3, r⟩ ⟨some ⟨g2, 0, none⟩, r.length + 9, r ++ nine⟩ ⟨b5, c5, xs⟩ ⟨b6, c6, xs⟩) M f ra rc) := H5.out.2.push hb (by unfold Rr.At Rr.val; rw [HX.out.2]; exact ho) (show xs.length ≤ 100000 by have := HX.out.2; omega); clear ho hb H5 Ha)
          | (go_at_call 8; have Ha := H6; refine (same_yes b5 da n c5 dc xs w6 HX.out.2 (by omega) (H6.out.sl (j := M + 4) (r := ⟨b5, c5, xs⟩) (by omega) (by simp [six, upr])) (HX.out.1.later H6.out.bel)).mono ?_; rintro e w7' ⟨rfl, j7, rfl⟩; have H7 := hide (H6.out.on (Kept.below ((Kept.refl [] w6).drewN j7) (Nat.le_refl _) (by simp))); clear H6 Ha; generalize w6.drewN j7 = w7 at H7 ⊢)
          | (go_at_call 8; have Ha := H7; refine (same_yes b6 da n c6 dc xs w7 HX.out.2 (by omega) (H7.out.sl (j := M + 5) (r := ⟨b6, c6, xs⟩) (by omega) (by simp [six, upr])) (HX.out.1.later H7.out.bel)).mono ?_; rintro e w8' ⟨rfl, j8, rfl⟩; have H8 := hide (H7.out.on (Kept.below ((Kept.refl [] w7).drewN j8) (Nat.le_refl _) (by simp))); clear H7 Ha; generalize w7.drewN j8 = w8 at H8 ⊢)
          | (go_at_call 8; have Ha := H8; refine (same_yes b2 b3 r.length c2 c3 r w8 rfl (by omega) (H8.out.sl (j := M + 1) (r := ⟨b2, c2, r⟩) (by omega) (by simp [six, upr])) (H8.out.sl (j := M + 2) (r := ⟨b3, c3, r⟩) (by omega) (by simp [six, upr]))).mono ?_; rintro e w9' ⟨rfl, j9, rfl⟩; have H9 := hide (H8.out.on (Kept.below ((Kept.refl [] w8).drewN j9) (Nat.le_refl _) (by simp))); clear H8 Ha; generalize w8.drewN j9 = w9 at H9 ⊢)
          | (at_builtin; refine wpList_appT w9 w.heap.size rfl _ _ rfl rfl ra rc M 6 (vals M f) [.slice (some ⟨g1, 0, none⟩) (n + 9) (n + 9), .slice b2 r.length c2, .slice b3 r.length c3, .slice (some ⟨g2, 0, none⟩) (r.length + 9) (r.length + 9), .slice b5 n c5, .slice b6 n c6] rfl rfl H9.out.all rfl (by decide) (by simp [Value.oneCell']) (by omega) H9.out.le _ rfl ?_; intro g c w10 h1 h3 h4; have HE : Hid (Nu w.heap.size w w10 (M + 6) (six f M ⟨some ⟨g1, 0, none⟩, n + 9, xs ++ nine⟩ ⟨b2, c2, r⟩ ⟨b3, c3, r⟩ ⟨some ⟨g2, 0, none⟩, r.length + 9, r ++ nine⟩ ⟨b5, c5, xs⟩ ⟨b6, c6, xs⟩) (M + 6) (six f M ⟨some ⟨g1, 0, none⟩, n + 9, xs ++ nine⟩ ⟨b2, c2, r⟩ ⟨b3, c3, r⟩ ⟨some ⟨g2, 0, none⟩, r.length + 9, r ++ nine⟩ ⟨b5, c5, xs⟩ ⟨b6, c6, xs⟩) (some ⟨g, 0, none⟩) c) := H9.out.next (by rw [six_vals]; simp only [Rr.val, List.length_append, HX.out.2, show nine.length = 9 from rfl]; exact h1) h3; clear h1 h3 h4 H9)
          | go_in)
        go_roundw
        case rel => exact ⟨i + 1, M + 6, _, some ⟨g, 0, none⟩, c, by omega, by omega, rfl, by go_num, by have h66 : M = 6 * i := HMi.out; show M + 6 = 6 * (i + 1); omega, HE.out⟩
        case measure => simp [intOf]; omega
    · have hq1 : ¬ ((i : Int) < (N : Int)) := by omega
      have hiN2 : N = i := by omega
      go_wp2_with (first
        | (go_at_call 10; refine (apart_ok w.heap.size ra M rc f wr hM72 HN.out.len HN.out.fam HN.out.all HN.out.le).mono ?_; rintro e w2 ⟨rfl, hb2⟩; have H2 : Hid (Below w.heap.size w w2) := HN.out.bel.trans hb2; clear hb2 HN)
        | (go_at_call 9; refine (awake_ok w2).mono ?_; rintro e w3 ⟨rfl, hb3⟩; have H3 : Hid (Below w.heap.size w w3) := H2.out.trans (Below.less hb3 H2.out.size); clear hb3 H2)
        | go_in)
      go_ret
      exact ⟨rfl, H3.out⟩

theorem isNew_walk (ao : Option Addr) (n cap : Nat) (Ls : List Bx) (w : World) (hl : Ls.length = n) (hm : n ≤ 9223372036854775807 ∧ n ≤ cap) (hr : RowsAt w ao Ls) :
    Calls Try.prog 4 #[.slice ao n cap] w fun e w' => e = .returned (.bool true) ∧ Below w.heap.size w w' := by
  rcases Nat.lt_or_ge 12 n with h | h
  · exact isNew_cut ao n cap 12 Ls w rfl h (by omega) (fun i hi => hr i (by omega))
  · exact isNew_in ao n cap n Ls w rfl h (fun i hi => hr i (by omega))

end Go.Proofs.Ytcgkjdchkpnldab
