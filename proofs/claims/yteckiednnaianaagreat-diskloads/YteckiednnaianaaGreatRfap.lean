import Derived.Test.YteckiednnaianaaGreatIbp
import Derived.Laws.CopyRow
import Derived.Laws.IdiomCopy
import Derived.Laws.Tables
import Derived.WalkArith
import Derived.OwnWalk
namespace Go.Proofs.YteckiednnaianaaGreat
open Go.RowKit
set_option linter.unusedVariables false
set_option linter.unusedSimpArgs false
theorem kept_setRow {l : List Nat} {a w : World} (h : Kept l a w) {g : Nat} (hg : g < a.heap.size → g ∈ l) (cs : Array Value) : Kept l a (w.setRow g cs) :=
 h.trans (l2 := [g]) ⟨rfl, rfl, rfl, by simp [World.setRow], fun k _ hn => setRow_other w g k cs (by simpa using hn)⟩ (by simpa using hg)
theorem Tryz.sizeByte : (Tryz.prog.info? 5).map (·.size) = some 1 := by kernel_rfl
structure Dk (w : World) (D : Nat) (bo : Option Nat) (R : List UInt8) : Prop where
 cell : w.cell? ⟨D, 0, none⟩ = some (.slice (bo.map fun g => ⟨g, 0, none⟩) R.length R.length)
 fr : w.frozen? ⟨D, 0, none⟩ = false
 none : bo = none → R = []
 row : ∀ g, bo = some g → g ≠ D ∧ w.heap[g]? = some (.cells (bys R).toArray 5 (0, 0))
 small : R.length ≤ 1000000
theorem Dk.kept {l : List Nat} {w w' : World} {D : Nat} {bo : Option Nat} {R : List UInt8} (h : Dk w D bo R) (hk : Kept l w w') (hD : D ∉ l) (hg : ∀ g, bo = some g → g ∉ l) : Dk w' D bo R :=
 ⟨hk.cellOf h.cell hD, (hk.frozen (World.block_lt_of_cell? _ _ h.cell) hD).trans h.fr, h.none, fun g e => ⟨(h.row g e).1, by rw [hk.block g (Array.getElem?_eq_some_iff.1 (h.row g e).2).1 (hg g e)]; exact (h.row g e).2⟩, h.small⟩
theorem Dk.lt {w : World} {D : Nat} {bo : Option Nat} {R : List UInt8} (h : Dk w D bo R) : D < w.heap.size := World.block_lt_of_cell? _ _ h.cell
theorem Dk.ltg {w : World} {D : Nat} {bo : Option Nat} {R : List UInt8} (h : Dk w D bo R) : ∀ g, bo = some g → g < w.heap.size := fun g e => (Array.getElem?_eq_some_iff.1 (h.row g e).2).1
def One (i D : Nat) (w w' : World) : Prop := (∀ v, w.cell? ⟨D, i, none⟩ = some v → w'.cell? ⟨D, i, none⟩ = some v) ∧ (D < w.heap.size → w'.frozen? ⟨D, i, none⟩ = w.frozen? ⟨D, i, none⟩)
theorem One.kept {i D : Nat} {l : List Nat} {w w' : World} (h : Kept l w w') (hD : D ∉ l) : One i D w w' := ⟨fun v hv => h.cellOf hv hD, fun hd => h.frozen (p := ⟨D, i, none⟩) hd hD⟩
theorem One.trans {i D : Nat} {a b c : World} (h : One i D a b) (k : One i D b c) (hs : a.heap.size ≤ b.heap.size) : One i D a c := ⟨fun v hv => k.1 v (h.1 v hv), fun hd => (k.2 (by omega)).trans (h.2 hd)⟩
theorem One.setCell {i j D : Nat} {w : World} (v : Value) (hij : i ≠ j) : One i D w (w.setCell ⟨D, j, none⟩ v) :=
 ⟨fun u hu => by rw [World.cell?_setCell_other _ _ _ _ (fun e => hij (by cases e; rfl))]; exact hu, fun _ => World.frozen?_setCell ..⟩
def dkfp (D : Nat) (bo : Option Nat) : List Nat := D :: bo.toList
def laid (xs : List UInt8) (m : Nat) : List UInt8 := xs ++ List.replicate (m - xs.length) 171
structure FillRel (w0 wr : World) (D g m : Nat) (R : List UInt8) (k : Nat) : Prop where
 cell : wr.cell? ⟨D, 0, Option.none⟩ = some (.slice (some ⟨g, 0, Option.none⟩) m m)
 fr : wr.frozen? ⟨D, 0, Option.none⟩ = false
 row : wr.heap[g]? = some (.cells (bys (List.replicate k 171 ++ R.drop k)).toArray 5 (0, 0))
 kept : Kept [g] w0 wr
theorem FillRel.step {w0 wr : World} {D g m : Nat} {R : List UInt8} {k : Nat} (h : FillRel w0 wr D g m R k) (hgD : g ≠ D) (hR : R.length = m) (hk : k < m) : FillRel w0 (wr.setCell ⟨g, k, none⟩ (.int .u8 171)) D g m R (k + 1) := by
 refine ⟨?_, ?_, ?_, h.kept.setCell (by simp) _⟩
 ·rw [World.cell?_setCell_other _ _ _ _ (by intro e; cases e; exact hgD rfl)]; exact h.cell
 ·rw [World.frozen?_setCell]; exact h.fr
 ·rw [heap_setCell_same _ _ _ _ _ _ h.row]
  simp only [List.setIfInBounds_toArray]
  congr 3
  have e : R.drop k = R.getD k 0 :: R.drop (k + 1) := by
   rw [List.drop_eq_getElem_cons (by omega)]
   simp [List.getElem?_eq_getElem (show k < R.length by omega)]
  have := bys_set (List.replicate k 171 ++ R.drop k) k 171
  rw [show (Value.int .u8 (171 : Int)) = .int .u8 ((171 : UInt8).toNat : Nat) from rfl, this, e]
  congr 1
  rw [List.set_append_right _ _ (by simp)]
  simp [List.replicate_succ']
theorem made_bytes (m : Nat) : (madeCells #[.int .u8 0] m).toList = bys (List.replicate m 0) := by
 apply List.ext_getElem
 ·simp [madeCells, bys]
 ·intro i h1 h2
  simp [madeCells, bys, Nat.mod_one]
set_option maxRecDepth 100000 in
theorem copy_laid (wr : World) (g m : Nat) (ao : Option Addr) (n cap : Nat) (xs : List UInt8) (hrow : wr.heap[g]? = some (.cells (bys (List.replicate m 171)).toArray 5 (0, 0))) (hx : xs.length = n) (hnm : n ≤ m) (hs : Sl wr ao xs) :
  ∃ w2, (Builtin.copy_ #[24, 24] 3 #[.slice (some ⟨g, 0, none⟩) m m, .slice ao n cap]).run Tryz.prog wr = .ok (.int .i64 n) w2 ∧ w2.heap[g]? = some (.cells (bys (laid xs m)).toArray 5 (0, 0)) ∧ Kept [g] wr w2 := by
 by_cases h0 : xs = []
 ·subst h0
  obtain rfl : n = 0 := by simpa using hx.symm
  refine ⟨wr, run_copy_none (P := Tryz.prog) wr _ _ _ 5 _ _ _ _ _ _ Tryz.underlying24 Tryz.sizeByte (by simp), by simpa [laid] using hrow, Kept.refl _ _⟩
 ·obtain ⟨b, off, rfl, hb, hc⟩ := hs.open h0
  have h := run_copy_row (P := Tryz.prog) wr 24 24 3 5 g 0 m m ⟨b, off, none⟩ n cap _ 5 (bys xs) Tryz.underlying24 Tryz.sizeByte hrow (by rw [bys_length, hx]; simp only [Nat.min_def]; split <;> omega) (Sl.cells hc) (by rw [bys_length, hx]; simp [bys_length]; omega) (bys_oneCell xs)
  refine ⟨_, by rw [h, bys_length, hx]; rfl, ?_, kept_setRow (Kept.refl _ _) (by simp) _⟩
  rw [setRow_heap _ _ _ _ _ _ hrow]
  congr 2
  simp [laid, bys_append, bys_length, hx]
  simp [bys]
set_option maxHeartbeats 1600000 in
set_option maxRecDepth 100000 in
theorem lay_room (D g : Nat) (ao : Option Addr) (n cap : Nat) (xs R : List UInt8) (w : World) (hD : Dk w D (some g) R) (hx : xs.length = n) (hs : Sl w ao xs) (hfar : xs ≠ [] → ∀ a, ao = some a → a.block ≠ g) (hroom : n + 5 ≤ R.length) :
  Calls Tryz.prog 53 #[.pointer (some ⟨D, 0, none⟩), .slice ao n cap] w fun e w' => ∃ g' m, e = .returned (.slice (some ⟨g', 0, none⟩) n m) ∧ Dk w' D (some g') (laid xs m) ∧ n + 5 ≤ m ∧ Kept [g] w w' ∧ (g' = g ∨ w.heap.size ≤ g') := by
 have hc := hD.cell
 have hsm := hD.small
 have hgD := (hD.row g rfl).1
 obtain ⟨m, hm⟩ : ∃ m, R.length = m := ⟨_, rfl⟩
 have HI : Hid (FillRel w w D g m R 0) := ⟨by rw [← hm]; exact hc, hD.fr, by simpa using (hD.row g rfl).2, Kept.refl _ _⟩
 rw [hm] at hroom hsm hc
 simp only [Option.map_some] at hc
 have hRm : R.length = m := hm
 have HX : Hid (xs.length = n) := hx
 have HS : Hid (Sl w ao xs) := hs
 have HF : Hid (xs ≠ [] → ∀ a, ao = some a → a.block ≠ g) := hfar
 clear hD hm hx hs hfar
 go_enter Tryz.func53, Tryz.ntmps53
 go_wp2
 clear hc
 go_loopw [5] (fun i wr => ∃ k : Nat, k ≤ m ∧ i = .int .i64 k ∧ Hid (FillRel w wr D g m R k)) (fun i wr => m - (intOf i).toNat)
 case atStart => exact ⟨0, Nat.zero_le _, rfl, HI⟩
 case round =>
  clear HI
  obtain ⟨k, hk, rfl, HR⟩ := hrel
  have hcD := HR.out.cell
  by_cases hlt : k < m
  ·have hcg : ∃ u, wr.cell? ⟨g, k, none⟩ = some u := by
    rw [cell_of_row _ _ _ _ _ _ HR.out.row]
    have hl : k < (bys (List.replicate k 171 ++ R.drop k)).length := by rw [bys_length]; simp; omega
    exact ⟨_, by rw [List.getElem?_toArray]; exact List.getElem?_eq_getElem hl⟩
   obtain ⟨u, hcg⟩ := hcg
   have hfz : wr.frozen? ⟨g, k, none⟩ = false := frozen_of_row _ _ _ _ _ HR.out.row
   have HR2 : Hid (FillRel w (wr.setCell ⟨g, k, none⟩ (.int .u8 171)) D g m R (k + 1)) := HR.out.step hgD hRm hlt
   clear HR
   go_wp2
   go_roundw
   case rel => exact ⟨k + 1, by omega, by go_num, HR2⟩
   case measure => simp [intOf]; omega
  ·obtain rfl : k = m := by omega
   have hrow : wr.heap[g]? = some (.cells (bys (List.replicate k 171)).toArray 5 (0, 0)) := by
    have := HR.out.row
    rwa [List.drop_of_length_le (by omega), List.append_nil] at this
   have hsl : Sl wr ao xs := HS.out.kept HR.out.kept (fun hne a ha => by simp; exact HF.out hne a ha)
   obtain ⟨w2, hcp, hrow2, hk2⟩ := copy_laid wr g k ao n cap xs hrow HX.out (by omega) hsl
   have hc2 : w2.cell? ⟨D, 0, none⟩ = some (.slice (some ⟨g, 0, none⟩) k k) := hk2.cellOf hcD (by simp; omega)
   have HF2 : Hid (Dk w2 D (some g) (laid xs k)) := by
    have hll : (laid xs k).length = k := by simp [laid, HX.out]; omega
    refine ⟨by rw [hll]; exact hc2, (hk2.frozen (World.block_lt_of_cell? _ _ hcD) (by simp; omega)).trans HR.out.fr, by simp, fun g' e => by cases e; exact ⟨hgD, hrow2⟩, by rw [hll]; omega⟩
   have HK : Hid (Kept [g] w w2) := HR.out.kept.trans hk2 (by simp)
   clear hrow hsl hrow2 HR
   go_wp2
   go_ret
   exact ⟨g, k, rfl, HF2.out, by omega, HK.out, .inl rfl⟩
set_option maxHeartbeats 1600000 in
set_option maxRecDepth 100000 in
theorem lay_make (D : Nat) (bo : Option Nat) (ao : Option Addr) (n cap : Nat) (xs R0 : List UInt8) (w : World) (hD : Dk w D bo R0) (hx : xs.length = n) (hs : Sl w ao xs) (hfar : xs ≠ [] → ∀ a, ao = some a → a.block ≠ D) (hn : n ≤ 200000) (hroom : R0.length < n + 5) :
  Calls Tryz.prog 53 #[.pointer (some ⟨D, 0, none⟩), .slice ao n cap] w fun e w' => ∃ g' m, e = .returned (.slice (some ⟨g', 0, none⟩) n m) ∧ Dk w' D (some g') (laid xs m) ∧ n + 5 ≤ m ∧ Kept [D] w w' ∧ w.heap.size ≤ g' ∧ One 1 D w w' := by
 have hc := hD.cell
 have hsm := hD.small
 have hfr := hD.fr
 have hDl := hD.lt
 obtain ⟨bp, hbp⟩ : ∃ bp, bp = bo.map (fun g => (⟨g, 0, none⟩ : Addr)) := ⟨_, rfl⟩
 rw [← hbp] at hc
 obtain ⟨i0, hi, hz0, hz1, hz2⟩ := info_parts Tryz.infoByte
 have HX : Hid (xs.length = n) := hx
 have HS0 : Hid (Sl w ao xs) := hs
 have HFD : Hid (xs ≠ [] → ∀ a, ao = some a → a.block ≠ D) := hfar
 clear hD hx hs hbp hfar
 go_enter Tryz.func53, Tryz.ntmps53
 go_wp2_with (at_make; refine wpList_make_full _ rfl _ _ 24 rfl w.heap.size 5 i0 (.int .u8 0) 1 Tryz.underlying24 hi hz0 hz1 .i64 .i64 (2 * (n : Int) + 40) (2 * (n : Int) + 40) (2 * n + 40) rfl rfl (by omega) (by omega) ?c1 ?c2 ?c3 ?_)
 case c1 => rw [hz2]; omega
 case c2 => unfold maxLen; omega
 case c3 => exact Nat.le_refl _
 intro w1 hown hgrow
 have hk1 : Kept [] w w1 := (Kept.refl _ _).grown hgrow (by simp)
 obtain ⟨g, hg⟩ : ∃ g, g = w.heap.size := ⟨_, rfl⟩
 obtain ⟨m, hm⟩ : ∃ m, m = 2 * n + 40 := ⟨_, rfl⟩
 obtain ⟨R, hRm, hrow1⟩ : ∃ R : List UInt8, R.length = m ∧ w1.heap[g]? = some (.cells (bys R).toArray 5 (0, 0)) := by
  refine ⟨List.replicate m 0, by simp, ?_⟩
  rcases hown.2 with ⟨h, _⟩ | ⟨g', cap', cur, hv, _, hg', _, _, hsz, htk⟩
  ·cases h
  ·cases hv
   rw [hg, hg']
   have hcs : cur.size = m := by rw [hm]; simpa using hsz
   have : cur.toList = bys (List.replicate m 0) := by
    rw [List.take_of_length_le (by simp; omega)] at htk
    rw [htk, hm]
    exact made_bytes _
   rw [← this]
 have hgs : w.heap.size ≤ g := by omega
 have hgD : g ≠ D := by omega
 have hc1 := hk1.cellOf hc (by simp)
 have hf1 : w1.frozen? ⟨D, 0, none⟩ = false := (hk1.frozen (p := ⟨D, 0, none⟩) hDl (by simp)).trans hfr
 have hmn : n + 5 ≤ m ∧ m ≤ 1000000 := by omega
 obtain ⟨hmn, hmx⟩ := hmn
 have hcm : (2 * (n : Int) + 40) = (m : Int) := by omega
 rw [← hg, ← hm]
 have hk3 : Kept [D] w (w1.setCell ⟨D, 0, none⟩ (.slice (some ⟨g, 0, none⟩) m m)) := (hk1.mono (by simp)).setCell (by simp) _
 have ho3 : One 1 D w (w1.setCell ⟨D, 0, none⟩ (.slice (some ⟨g, 0, none⟩) m m)) := (One.kept hk1 (by simp)).trans (One.setCell _ (by decide)) hk1.size
 have HO3 := hide ho3
 clear ho3
 have hs3 : Sl (w1.setCell ⟨D, 0, none⟩ (.slice (some ⟨g, 0, none⟩) m m)) ao xs := HS0.out.kept hk3 (fun hne a ha => by simpa using HFD.out hne a ha)
 have HI : Hid (FillRel (w1.setCell ⟨D, 0, none⟩ (.slice (some ⟨g, 0, none⟩) m m)) (w1.setCell ⟨D, 0, none⟩ (.slice (some ⟨g, 0, none⟩) m m)) D g m R 0) := by
  refine ⟨World.cell?_setCell_same _ _ _ hc1, by rw [World.frozen?_setCell]; exact hf1, ?_, Kept.refl _ _⟩
  rw [heap_setCell_other _ _ _ _ (by simpa using hgD)]
  simpa using hrow1
 clear hown hgrow hrow1 hk1 hm hg hc hfr hsm hroom
 go_wp2
 generalize w1.setCell _ _ = w3 at hk3 HO3 HI hs3 ⊢
 have HS : Hid (Sl w3 ao xs) := hs3
 have HF : Hid (xs ≠ [] → ∀ a, ao = some a → a.block ≠ g) := fun hne a ha => by
  obtain ⟨b', off', e', hb', _⟩ := HS0.out.open hne
  rw [e'] at ha
  cases ha
  show b' ≠ g
  omega
 clear hs3 hc1 hf1
 go_loopw [5] (fun i wr => ∃ k : Nat, k ≤ m ∧ i = .int .i64 k ∧ Hid (FillRel w3 wr D g m R k)) (fun i wr => m - (intOf i).toNat)
 case atStart => exact ⟨0, Nat.zero_le _, rfl, HI⟩
 case round =>
  clear HI
  obtain ⟨k, hk, rfl, HR⟩ := hrel
  have hcD := HR.out.cell
  by_cases hlt : k < m
  ·have hcg : ∃ u, wr.cell? ⟨g, k, none⟩ = some u := by
    rw [cell_of_row _ _ _ _ _ _ HR.out.row]
    have hl : k < (bys (List.replicate k 171 ++ R.drop k)).length := by rw [bys_length]; simp; omega
    exact ⟨_, by rw [List.getElem?_toArray]; exact List.getElem?_eq_getElem hl⟩
   obtain ⟨u, hcg⟩ := hcg
   have hfz : wr.frozen? ⟨g, k, none⟩ = false := frozen_of_row _ _ _ _ _ HR.out.row
   have HR2 : Hid (FillRel w3 (wr.setCell ⟨g, k, none⟩ (.int .u8 171)) D g m R (k + 1)) := HR.out.step hgD hRm hlt
   clear HR
   go_wp2
   go_roundw
   case rel => exact ⟨k + 1, by omega, by go_num, HR2⟩
   case measure => simp [intOf]; omega
  ·obtain rfl : k = m := by omega
   have hrow : wr.heap[g]? = some (.cells (bys (List.replicate k 171)).toArray 5 (0, 0)) := by
    have := HR.out.row
    rwa [List.drop_of_length_le (by omega), List.append_nil] at this
   have hsl : Sl wr ao xs := HS.out.kept HR.out.kept (fun hne a ha => by simp; exact HF.out hne a ha)
   obtain ⟨w2, hcp, hrow2, hk2⟩ := copy_laid wr g k ao n cap xs hrow HX.out (by omega) hsl
   have hc2 : w2.cell? ⟨D, 0, none⟩ = some (.slice (some ⟨g, 0, none⟩) k k) := hk2.cellOf hcD (by simp; omega)
   have HF2 : Hid (Dk w2 D (some g) (laid xs k)) := by
    have hll : (laid xs k).length = k := by simp [laid, HX.out]; omega
    refine ⟨by rw [hll]; exact hc2, (hk2.frozen (World.block_lt_of_cell? _ _ hcD) (by simp; omega)).trans HR.out.fr, by simp, fun g' e => by cases e; exact ⟨hgD, hrow2⟩, by rw [hll]; omega⟩
   have HK : Hid (Kept [D] w w2) := (hk3.trans HR.out.kept (by simp; omega)).trans hk2 (by simp; omega)
   have HO : Hid (One 1 D w w2) := hide (((HO3.out.trans (One.kept HR.out.kept (by simp; omega)) hk3.size).trans (One.kept hk2 (by simp; omega)) (hk3.trans HR.out.kept (by simp; omega)).size))
   clear hrow hsl hrow2 HR
   go_wp2
   go_ret
   exact ⟨g, k, rfl, HF2.out, by omega, HK.out, hgs, HO.out⟩
theorem lay_any (D : Nat) (bo : Option Nat) (ao : Option Addr) (n cap : Nat) (xs R : List UInt8) (w : World) (hD : Dk w D bo R) (hx : xs.length = n) (hs : Sl w ao xs) (hfar : xs ≠ [] → ∀ a, ao = some a → a.block ∉ dkfp D bo) (hn : n ≤ 200000) :
  Calls Tryz.prog 53 #[.pointer (some ⟨D, 0, none⟩), .slice ao n cap] w fun e w' => ∃ g m, e = .returned (.slice (some ⟨g, 0, none⟩) n m) ∧ Dk w' D (some g) (laid xs m) ∧ n + 5 ≤ m ∧ Kept (dkfp D bo) w w' ∧ (bo = some g ∨ w.heap.size ≤ g) ∧ One 1 D w w' := by
 by_cases hroom : n + 5 ≤ R.length
 ·cases bo with
  | none => have := hD.none rfl; subst this; simp at hroom
  | some g =>
   refine (lay_room D g ao n cap xs R w hD hx hs (fun hne a ha => by have := hfar hne a ha; simp [dkfp] at this; exact this.2) hroom).mono fun e w' ⟨g', m, he, hd, hm, hk, hg⟩ => ?_
   refine ⟨g', m, he, hd, hm, hk.mono (by simp [dkfp]), ?_, One.kept hk (by simpa using (hD.row g rfl).1.symm)⟩
   rcases hg with rfl | hg
   ·exact .inl rfl
   ·exact .inr hg
 ·refine (lay_make D bo ao n cap xs R w hD hx hs (fun hne a ha => by have := hfar hne a ha; simp [dkfp] at this; exact this.1) hn (by omega)).mono fun e w' ⟨g', m, he, hd, hm, hk, hg, h1⟩ => ?_
  exact ⟨g', m, he, hd, hm, hk.mono (by simp [dkfp]), .inr hg, h1⟩
set_option maxHeartbeats 1600000 in
set_option maxRecDepth 100000 in
theorem lies_some (D g : Nat) (a : Addr) (n cap m : Nat) (xs : List UInt8) (w : World) (hD : Dk w D (some g) (laid xs m)) (hx : xs.length = n) (hs : ∀ i, i < n → w.cell? (a.add i) = some (.int .u8 (xs.getD i 0).toNat)) (hnm : n + 5 ≤ m) :
  Calls Tryz.prog 84 #[.pointer (some ⟨D, 0, none⟩), .slice (some a) n cap] w fun e w' => e = .returned (.bool true) ∧ ∃ k, w' = w.drewN k := by
 have hll : (laid xs m).length = m := by simp [laid, hx]; omega
 have hc := hD.cell
 have hsm := hD.small
 rw [hll] at hc hsm
 simp only [Option.map_some] at hc
 have hcg : ∀ i, i < m → w.cell? ⟨g, i, none⟩ = some (.int .u8 ((laid xs m).getD i 0).toNat) := fun i hi => by
  rw [cell_of_row _ _ _ _ _ _ (hD.row g rfl).2, List.getElem?_toArray]
  exact bys_at (by omega)
 have H1 : Hid (∀ i, i < n → w.cell? ⟨g, i, none⟩ = some (.int .u8 (xs.getD i 0).toNat)) := fun i hi => by
  rw [hcg i (by omega)]
  have : (laid xs m).getD i 0 = xs.getD i 0 := by simp [laid, List.getElem?_append_left (show i < xs.length by omega)]
  rw [this]
 have H2 : Hid (∀ i, n ≤ i → i < m → w.cell? ⟨g, i, none⟩ = some (.int .u8 171)) := fun i hn hi => by
  rw [hcg i hi]
  have : (laid xs m).getD i 0 = 171 := by
   simp only [laid, List.getD_eq_getElem?_getD]
   rw [List.getElem?_append_right (by omega), List.getElem?_replicate, if_pos (by omega)]
   rfl
  rw [this]; rfl
 have HS : Hid (∀ i, i < n → w.cell? (a.add i) = some (.int .u8 (xs.getD i 0).toNat)) := hs
 clear hD hx hs hll hcg
 go_enter Tryz.func84, Tryz.ntmps84
 go_wp2
 go_loopw [5] (fun i wr => ∃ k : Nat, k ≤ m ∧ i = .int .i64 k ∧ ∃ j, wr = w.drewN j) (fun i wr => m - (intOf i).toNat)
 case atStart => exact ⟨0, Nat.zero_le _, rfl, 0, rfl⟩
 case round =>
  obtain ⟨k, hk, rfl, j, hwr⟩ := hrel
  subst hwr
  by_cases hlt : k < m
  ·by_cases hkn : k < n
   ·have c1 := H1.out k hkn
    have c2 := HS.out k hkn
    have hcb : (xs.getD k 0).toNat < 256 := UInt8.toNat_lt _
    generalize (xs.getD k 0).toNat = c at c1 c2 hcb
    have g1 : (decide ((k : Int) < (n : Int))) = true := by simp; omega
    have g2 : (decide ((n : Int) ≤ (k : Int))) = false := by simp; omega
    have g1' : (decide (k < n)) = true := by simp; omega
    have g2' : (decide (n ≤ k)) = false := by simp; omega
    have g3 : ((c : Int) != (c : Int)) = false := by simp
    go_wp2
    go_quiet (fail)
    go_wp2
    go_roundw
    case rel => exact ⟨k + 1, by omega, by go_num, _, rfl⟩
    case measure => simp [intOf]; omega
   ·have c1 := H2.out k (by omega) hlt
    have g1 : (decide ((k : Int) < (n : Int))) = false := by simp; omega
    have g2 : (decide ((n : Int) ≤ (k : Int))) = true := by simp; omega
    have g1' : (decide (k < n)) = false := by simp; omega
    have g2' : (decide (n ≤ k)) = true := by simp; omega
    go_wp2
    go_quiet (fail)
    go_wp2
    go_roundw
    case rel => exact ⟨k + 1, by omega, by go_num, _, rfl⟩
    case measure => simp [intOf]; omega
  ·go_wp2
   go_ret
   exact ⟨rfl, j, rfl⟩
set_option maxHeartbeats 1600000 in
set_option maxRecDepth 100000 in
theorem lies_none (D g : Nat) (ao : Option Addr) (cap m : Nat) (w : World) (hD : Dk w D (some g) (laid [] m)) :
  Calls Tryz.prog 84 #[.pointer (some ⟨D, 0, none⟩), .slice ao 0 cap] w fun e w' => e = .returned (.bool true) ∧ ∃ k, w' = w.drewN k := by
 have hll : (laid [] m).length = m := by simp [laid]
 have hc := hD.cell
 have hsm := hD.small
 rw [hll] at hc hsm
 simp only [Option.map_some] at hc
 have H2 : Hid (∀ i, i < m → w.cell? ⟨g, i, none⟩ = some (.int .u8 171)) := fun i hi => by
  rw [cell_of_row _ _ _ _ _ _ (hD.row g rfl).2, List.getElem?_toArray, bys_at (by omega)]
  have : (laid [] m).getD i 0 = 171 := by simp [laid, hi]
  rw [this]; rfl
 clear hD hll
 go_enter Tryz.func84, Tryz.ntmps84
 go_wp2
 go_loopw [5] (fun i wr => ∃ k : Nat, k ≤ m ∧ i = .int .i64 k ∧ ∃ j, wr = w.drewN j) (fun i wr => m - (intOf i).toNat)
 case atStart => exact ⟨0, Nat.zero_le _, rfl, 0, rfl⟩
 case round =>
  obtain ⟨k, hk, rfl, j, hwr⟩ := hrel
  subst hwr
  by_cases hlt : k < m
  ·have c1 := H2.out k hlt
   have g1 : (decide ((k : Int) < (0 : Int))) = false := by simp
   have g2 : (decide ((0 : Int) ≤ (k : Int))) = true := by simp
   have g2' : (decide (0 ≤ k)) = true := by simp
   go_wp2
   go_quiet (fail)
   go_wp2
   go_roundw
   case rel => exact ⟨k + 1, by omega, by go_num, _, rfl⟩
   case measure => simp [intOf]; omega
  ·go_wp2
   go_ret
   exact ⟨rfl, j, rfl⟩
theorem lies_ok (D g : Nat) (ao : Option Addr) (n cap m : Nat) (xs : List UInt8) (w : World) (hD : Dk w D (some g) (laid xs m)) (hx : xs.length = n) (hs : Sl w ao xs) (hnm : n + 5 ≤ m) :
  Calls Tryz.prog 84 #[.pointer (some ⟨D, 0, none⟩), .slice ao n cap] w fun e w' => e = .returned (.bool true) ∧ ∃ k, w' = w.drewN k := by
 by_cases h0 : xs = []
 ·subst h0
  obtain rfl : n = 0 := by simpa using hx.symm
  exact lies_none D g ao cap m w hD
 ·obtain ⟨b, off, rfl, hb, hc⟩ := hs.open h0
  exact lies_some D g _ n cap m xs w hD hx (fun i hi => by rw [Addr.add_mid]; exact hc i (by omega)) hnm
end Go.Proofs.YteckiednnaianaaGreat
