import Derived.Test.YtmoaaimjgdbelaaGreatIbp
import Derived.Laws.CopyRow
import Derived.Laws.IdiomCopy
import Derived.Laws.Tables
import Derived.WalkArith
import Derived.OwnWalk
import Derived.Test.YtmoaaimjgdbelaaGreatGap
namespace Go.Proofs.YtmoaaimjgdbelaaGreat
section
open Go.RowKit
set_option linter.unusedVariables false
set_option linter.unusedSimpArgs false

theorem kept_setRow {l : List Nat} {a w : World} (h : Kept l a w) {g : Nat} (hg : g < a.heap.size → g ∈ l) (cs : Array Value) : Kept l a (w.setRow g cs) :=
  h.trans (l2 := [g]) ⟨rfl, rfl, rfl, by simp [World.setRow], fun k _ hn => setRow_other w g k cs (by simpa using hn)⟩ (by simpa using hg)
theorem Tryz.sizeByte : (Tryz.prog.info? 5).map (·.size) = some 1 := by kernel_rfl

/-- A Desk lies at block D: what it has is a row of m bytes at block g, or nothing. -/
structure Dk (w : World) (D : Nat) (bo : Option Nat) (R : List UInt8) : Prop where
  cell : w.cell? ⟨D, 0, none⟩ = some (.slice (bo.map fun g => ⟨g, 0, none⟩) R.length R.length)
  fr : w.frozen? ⟨D, 0, none⟩ = false
  none : bo = none → R = []
  row : ∀ g, bo = some g → g ≠ D ∧ w.heap[g]? = some (.cells (bys R).toArray 5 (0, 0))
  small : R.length ≤ 1000000

theorem Dk.kept {l : List Nat} {w w' : World} {D : Nat} {bo : Option Nat} {R : List UInt8} (h : Dk w D bo R) (hk : Kept l w w') (hD : D ∉ l) (hg : ∀ g, bo = some g → g ∉ l) : Dk w' D bo R :=
  ⟨hk.cellOf h.cell hD, (hk.frozen (World.block_lt_of_cell? _ _ h.cell) hD).trans h.fr, h.none, fun g e => ⟨(h.row g e).1, by rw [hk.block g (Array.getElem?_eq_some_iff.1 (h.row g e).2).1 (hg g e)]; exact (h.row g e).2⟩, h.small⟩
theorem Dk.lt {w : World} {D : Nat} {bo : Option Nat} {R : List UInt8} (h : Dk w D bo R) : D < w.heap.size := World.block_lt_of_cell? _ _ h.cell
theorem Dk.ltg {w : World} {D : Nat} {bo : Option Nat} {R : List UInt8} (h : Dk w D bo R) : ∀ g, bo = some g → g < w.heap.size := fun g e => (Array.getElem?_eq_some_iff.1 (h.row g e).2).1

/-- The cell i of D stands. -/
def One (i D : Nat) (w w' : World) : Prop := (∀ v, w.cell? ⟨D, i, none⟩ = some v → w'.cell? ⟨D, i, none⟩ = some v) ∧ (D < w.heap.size → w'.frozen? ⟨D, i, none⟩ = w.frozen? ⟨D, i, none⟩)
theorem One.kept {i D : Nat} {l : List Nat} {w w' : World} (h : Kept l w w') (hD : D ∉ l) : One i D w w' := ⟨fun v hv => h.cellOf hv hD, fun hd => h.frozen (p := ⟨D, i, none⟩) hd hD⟩
theorem One.trans {i D : Nat} {a b c : World} (h : One i D a b) (k : One i D b c) (hs : a.heap.size ≤ b.heap.size) : One i D a c := ⟨fun v hv => k.1 v (h.1 v hv), fun hd => (k.2 (by omega)).trans (h.2 hd)⟩
theorem One.setCell {i j D : Nat} {w : World} (v : Value) (hij : i ≠ j) : One i D w (w.setCell ⟨D, j, none⟩ v) :=
  ⟨fun u hu => by rw [World.cell?_setCell_other _ _ _ _ (fun e => hij (by cases e; rfl))]; exact hu, fun _ => World.frozen?_setCell ..⟩

/-- The blocks of a Desk. -/
def dkfp (D : Nat) (bo : Option Nat) : List Nat := D :: bo.toList

/-- What lay leaves of bytes. -/
def laid (xs : List UInt8) (m : Nat) : List UInt8 := xs ++ List.replicate (m - xs.length) 171

/-- The bytes written over one by one. -/
structure FillRel (w0 wr : World) (D g m : Nat) (R : List UInt8) (k : Nat) : Prop where
  cell : wr.cell? ⟨D, 0, Option.none⟩ = some (.slice (some ⟨g, 0, Option.none⟩) m m)
  fr : wr.frozen? ⟨D, 0, Option.none⟩ = false
  row : wr.heap[g]? = some (.cells (bys (List.replicate k 171 ++ R.drop k)).toArray 5 (0, 0))
  kept : Kept [g] w0 wr

theorem FillRel.step {w0 wr : World} {D g m : Nat} {R : List UInt8} {k : Nat} (h : FillRel w0 wr D g m R k) (hgD : g ≠ D) (hR : R.length = m) (hk : k < m) : FillRel w0 (wr.setCell ⟨g, k, none⟩ (.int .u8 171)) D g m R (k + 1) := by
  refine ⟨?_, ?_, ?_, h.kept.setCell (by simp) _⟩
  · rw [World.cell?_setCell_other _ _ _ _ (by intro e; cases e; exact hgD rfl)]; exact h.cell
  · rw [World.frozen?_setCell]; exact h.fr
  · rw [heap_setCell_same _ _ _ _ _ _ h.row]
    simp only [List.setIfInBounds_toArray]
    congr 3
    have e : R.drop k = R.getD k 0 :: R.drop (k + 1) := by
      rw [List.drop_eq_getElem_cons (by omega)]
      simp [List.getElem?_eq_getElem (show k < R.length by omega)]
    have := bys_set (List.replicate k 171 ++ R.drop k) k 171
    rw [show (Value.int .u8 (171 : Int)) = .int .u8 ((171 : UInt8).toNat : Nat) from rfl, this, e]
    congr 1
    rw [List.set_append_right _ _ (by simp)]
    simp [List.replicate_succ']

theorem made_bytes (m : Nat) : (madeCells #[.int .u8 0] m).toList = bys (List.replicate m 0) := by
  apply List.ext_getElem
  · simp [madeCells, bys]
  · intro i h1 h2
    simp [madeCells, bys, Nat.mod_one]

set_option maxRecDepth 100000 in
theorem copy_laid (wr : World) (g m : Nat) (ao : Option Addr) (n cap : Nat) (xs : List UInt8) (hrow : wr.heap[g]? = some (.cells (bys (List.replicate m 171)).toArray 5 (0, 0))) (hx : xs.length = n) (hnm : n ≤ m) (hs : Sl wr ao xs) :
    ∃ w2, (Builtin.copy_ #[24, 24] 3 #[.slice (some ⟨g, 0, none⟩) m m, .slice ao n cap]).run Tryz.prog wr = .ok (.int .i64 n) w2 ∧ w2.heap[g]? = some (.cells (bys (laid xs m)).toArray 5 (0, 0)) ∧ Kept [g] wr w2 := by
  by_cases h0 : xs = []
  · subst h0
    obtain rfl : n = 0 := by simpa using hx.symm
    refine ⟨wr, run_copy_none (P := Tryz.prog) wr _ _ _ 5 _ _ _ _ _ _ Tryz.underlying24 Tryz.sizeByte (by simp), by simpa [laid] using hrow, Kept.refl _ _⟩
  · obtain ⟨b, off, rfl, hb, hc⟩ := hs.open h0
    have h := run_copy_row (P := Tryz.prog) wr 24 24 3 5 g 0 m m ⟨b, off, none⟩ n cap _ 5 (bys xs) Tryz.underlying24 Tryz.sizeByte hrow (by rw [bys_length, hx]; simp only [Nat.min_def]; split <;> omega) (Sl.cells hc) (by rw [bys_length, hx]; simp [bys_length]; omega) (bys_oneCell xs)
    refine ⟨_, by rw [h, bys_length, hx]; rfl, ?_, kept_setRow (Kept.refl _ _) (by simp) _⟩
    rw [setRow_heap _ _ _ _ _ _ hrow]
    congr 2
    simp [laid, bys_append, bys_length, hx]
    simp [bys]

set_option maxHeartbeats 1600000 in
set_option maxRecDepth 100000 in
theorem lay_room (D g : Nat) (ao : Option Addr) (n cap : Nat) (xs R : List UInt8) (w : World) (hD : Dk w D (some g) R) (hx : xs.length = n) (hs : Sl w ao xs) (hfar : xs ≠ [] → ∀ a, ao = some a → a.block ≠ g) (hroom : n + 5 ≤ R.length) :
    Calls Tryz.prog 60 #[.pointer (some ⟨D, 0, none⟩), .slice ao n cap] w fun e w' => ∃ g' m, e = .returned (.slice (some ⟨g', 0, none⟩) n m) ∧ Dk w' D (some g') (laid xs m) ∧ n + 5 ≤ m ∧ Kept [g] w w' ∧ (g' = g ∨ w.heap.size ≤ g') := by
  have hc := hD.cell
  have hsm := hD.small
  have hgD := (hD.row g rfl).1
  obtain ⟨m, hm⟩ : ∃ m, R.length = m := ⟨_, rfl⟩
  have HI : Hid (FillRel w w D g m R 0) := ⟨by rw [← hm]; exact hc, hD.fr, by simpa using (hD.row g rfl).2, Kept.refl _ _⟩
  rw [hm] at hroom hsm hc
  simp only [Option.map_some] at hc
  have hRm : R.length = m := hm
  have HX : Hid (xs.length = n) := hx
  have HS : Hid (Sl w ao xs) := hs
  have HF : Hid (xs ≠ [] → ∀ a, ao = some a → a.block ≠ g) := hfar
  clear hD hm hx hs hfar
  go_enter Tryz.func60, Tryz.ntmps60
  go_wp2
  clear hc
  go_loopw [5] (fun i wr => ∃ k : Nat, k ≤ m ∧ i = .int .i64 k ∧ Hid (FillRel w wr D g m R k)) (fun i wr => m - (intOf i).toNat)
  case atStart => exact ⟨0, Nat.zero_le _, rfl, HI⟩
  case round =>
    clear HI
    obtain ⟨k, hk, rfl, HR⟩ := hrel
    have hcD := HR.out.cell
    by_cases hlt : k < m
    · have hcg : ∃ u, wr.cell? ⟨g, k, none⟩ = some u := by
        rw [cell_of_row _ _ _ _ _ _ HR.out.row]
        have hl : k < (bys (List.replicate k 171 ++ R.drop k)).length := by rw [bys_length]; simp; omega
        exact ⟨_, by rw [List.getElem?_toArray]; exact List.getElem?_eq_getElem hl⟩
      obtain ⟨u, hcg⟩ := hcg
      have hfz : wr.frozen? ⟨g, k, none⟩ = false := frozen_of_row _ _ _ _ _ HR.out.row
      have HR2 : Hid (FillRel w (wr.setCell ⟨g, k, none⟩ (.int .u8 171)) D g m R (k + 1)) := HR.out.step hgD hRm hlt
      clear HR
      go_wp2
      go_roundw
      case rel => exact ⟨k + 1, by omega, by go_num, HR2⟩
      case measure => simp [intOf]; omega
    · obtain rfl : k = m := by omega
      have hrow : wr.heap[g]? = some (.cells (bys (List.replicate k 171)).toArray 5 (0, 0)) := by
        have := HR.out.row
        rwa [List.drop_of_length_le (by omega), List.append_nil] at this
      have hsl : Sl wr ao xs := HS.out.kept HR.out.kept (fun hne a ha => by simp; exact HF.out hne a ha)
      obtain ⟨w2, hcp, hrow2, hk2⟩ := copy_laid wr g k ao n cap xs hrow HX.out (by omega) hsl
      have hc2 : w2.cell? ⟨D, 0, none⟩ = some (.slice (some ⟨g, 0, none⟩) k k) := hk2.cellOf hcD (by simp; omega)
      have HF2 : Hid (Dk w2 D (some g) (laid xs k)) := by
        have hll : (laid xs k).length = k := by simp [laid, HX.out]; omega
        refine ⟨by rw [hll]; exact hc2, (hk2.frozen (World.block_lt_of_cell? _ _ hcD) (by simp; omega)).trans HR.out.fr, by simp, fun g' e => by cases e; exact ⟨hgD, hrow2⟩, by rw [hll]; omega⟩
      have HK : Hid (Kept [g] w w2) := HR.out.kept.trans hk2 (by simp)
      clear hrow hsl hrow2 HR
      go_wp2
      go_ret
      exact ⟨g, k, rfl, HF2.out, by omega, HK.out, .inl rfl⟩

set_option maxHeartbeats 1600000 in
set_option maxRecDepth 100000 in
theorem lay_make (D : Nat) (bo : Option Nat) (ao : Option Addr) (n cap : Nat) (xs R0 : List UInt8) (w : World) (hD : Dk w D bo R0) (hx : xs.length = n) (hs : Sl w ao xs) (hfar : xs ≠ [] → ∀ a, ao = some a → a.block ≠ D) (hn : n ≤ 200000) (hroom : R0.length < n + 5) :
    Calls Tryz.prog 60 #[.pointer (some ⟨D, 0, none⟩), .slice ao n cap] w fun e w' => ∃ g' m, e = .returned (.slice (some ⟨g', 0, none⟩) n m) ∧ Dk w' D (some g') (laid xs m) ∧ n + 5 ≤ m ∧ Kept [D] w w' ∧ w.heap.size ≤ g' ∧ One 1 D w w' := by
  have hc := hD.cell
  have hsm := hD.small
  have hfr := hD.fr
  have hDl := hD.lt
  obtain ⟨bp, hbp⟩ : ∃ bp, bp = bo.map (fun g => (⟨g, 0, none⟩ : Addr)) := ⟨_, rfl⟩
  rw [← hbp] at hc
  obtain ⟨i0, hi, hz0, hz1, hz2⟩ := info_parts Tryz.infoByte
  have HX : Hid (xs.length = n) := hx
  have HS0 : Hid (Sl w ao xs) := hs
  have HFD : Hid (xs ≠ [] → ∀ a, ao = some a → a.block ≠ D) := hfar
  clear hD hx hs hbp hfar
  go_enter Tryz.func60, Tryz.ntmps60
  go_wp2_with (at_make; refine wpList_make_full _ rfl _ _ 24 rfl w.heap.size 5 i0 (.int .u8 0) 1 Tryz.underlying24 hi hz0 hz1 .i64 .i64 (2 * (n : Int) + 40) (2 * (n : Int) + 40) (2 * n + 40) rfl rfl (by omega) (by omega) ?c1 ?c2 ?c3 ?_)
  case c1 => rw [hz2]; omega
  case c2 => unfold maxLen; omega
  case c3 => exact Nat.le_refl _
  intro w1 hown hgrow
  have hk1 : Kept [] w w1 := (Kept.refl _ _).grown hgrow (by simp)
  obtain ⟨g, hg⟩ : ∃ g, g = w.heap.size := ⟨_, rfl⟩
  obtain ⟨m, hm⟩ : ∃ m, m = 2 * n + 40 := ⟨_, rfl⟩
  obtain ⟨R, hRm, hrow1⟩ : ∃ R : List UInt8, R.length = m ∧ w1.heap[g]? = some (.cells (bys R).toArray 5 (0, 0)) := by
    refine ⟨List.replicate m 0, by simp, ?_⟩
    rcases hown.2 with ⟨h, _⟩ | ⟨g', cap', cur, hv, _, hg', _, _, hsz, htk⟩
    · cases h
    · cases hv
      rw [hg, hg']
      have hcs : cur.size = m := by rw [hm]; simpa using hsz
      have : cur.toList = bys (List.replicate m 0) := by
        rw [List.take_of_length_le (by simp; omega)] at htk
        rw [htk, hm]
        exact made_bytes _
      rw [← this]
  have hgs : w.heap.size ≤ g := by omega
  have hgD : g ≠ D := by omega
  have hc1 := hk1.cellOf hc (by simp)
  have hf1 : w1.frozen? ⟨D, 0, none⟩ = false := (hk1.frozen (p := ⟨D, 0, none⟩) hDl (by simp)).trans hfr
  have hmn : n + 5 ≤ m ∧ m ≤ 1000000 := by omega
  obtain ⟨hmn, hmx⟩ := hmn
  have hcm : (2 * (n : Int) + 40) = (m : Int) := by omega
  rw [← hg, ← hm]
  have hk3 : Kept [D] w (w1.setCell ⟨D, 0, none⟩ (.slice (some ⟨g, 0, none⟩) m m)) := (hk1.mono (by simp)).setCell (by simp) _
  have ho3 : One 1 D w (w1.setCell ⟨D, 0, none⟩ (.slice (some ⟨g, 0, none⟩) m m)) := (One.kept hk1 (by simp)).trans (One.setCell _ (by decide)) hk1.size
  have HO3 := hide ho3
  clear ho3
  have hs3 : Sl (w1.setCell ⟨D, 0, none⟩ (.slice (some ⟨g, 0, none⟩) m m)) ao xs := HS0.out.kept hk3 (fun hne a ha => by simpa using HFD.out hne a ha)
  have HI : Hid (FillRel (w1.setCell ⟨D, 0, none⟩ (.slice (some ⟨g, 0, none⟩) m m)) (w1.setCell ⟨D, 0, none⟩ (.slice (some ⟨g, 0, none⟩) m m)) D g m R 0) := by
    refine ⟨World.cell?_setCell_same _ _ _ hc1, by rw [World.frozen?_setCell]; exact hf1, ?_, Kept.refl _ _⟩
    rw [heap_setCell_other _ _ _ _ (by simpa using hgD)]
    simpa using hrow1
  clear hown hgrow hrow1 hk1 hm hg hc hfr hsm hroom
  go_wp2
  generalize w1.setCell _ _ = w3 at hk3 HO3 HI hs3 ⊢
  have HS : Hid (Sl w3 ao xs) := hs3
  have HF : Hid (xs ≠ [] → ∀ a, ao = some a → a.block ≠ g) := fun hne a ha => by
    obtain ⟨b', off', e', hb', _⟩ := HS0.out.open hne
    rw [e'] at ha
    cases ha
    show b' ≠ g
    omega
  clear hs3 hc1 hf1
  go_loopw [5] (fun i wr => ∃ k : Nat, k ≤ m ∧ i = .int .i64 k ∧ Hid (FillRel w3 wr D g m R k)) (fun i wr => m - (intOf i).toNat)
  case atStart => exact ⟨0, Nat.zero_le _, rfl, HI⟩
  case round =>
    clear HI
    obtain ⟨k, hk, rfl, HR⟩ := hrel
    have hcD := HR.out.cell
    by_cases hlt : k < m
    · have hcg : ∃ u, wr.cell? ⟨g, k, none⟩ = some u := by
        rw [cell_of_row _ _ _ _ _ _ HR.out.row]
        have hl : k < (bys (List.replicate k 171 ++ R.drop k)).length := by rw [bys_length]; simp; omega
        exact ⟨_, by rw [List.getElem?_toArray]; exact List.getElem?_eq_getElem hl⟩
      obtain ⟨u, hcg⟩ := hcg
      have hfz : wr.frozen? ⟨g, k, none⟩ = false := frozen_of_row _ _ _ _ _ HR.out.row
      have HR2 : Hid (FillRel w3 (wr.setCell ⟨g, k, none⟩ (.int .u8 171)) D g m R (k + 1)) := HR.out.step hgD hRm hlt
      clear HR
      go_wp2
      go_roundw
      case rel => exact ⟨k + 1, by omega, by go_num, HR2⟩
      case measure => simp [intOf]; omega
    · obtain rfl : k = m := by omega
      have hrow : wr.heap[g]? = some (.cells (bys (List.replicate k 171)).toArray 5 (0, 0)) := by
        have := HR.out.row
        rwa [List.drop_of_length_le (by omega), List.append_nil] at this
      have hsl : Sl wr ao xs := HS.out.kept HR.out.kept (fun hne a ha => by simp; exact HF.out hne a ha)
      obtain ⟨w2, hcp, hrow2, hk2⟩ := copy_laid wr g k ao n cap xs hrow HX.out (by omega) hsl
      have hc2 : w2.cell? ⟨D, 0, none⟩ = some (.slice (some ⟨g, 0, none⟩) k k) := hk2.cellOf hcD (by simp; omega)
      have HF2 : Hid (Dk w2 D (some g) (laid xs k)) := by
        have hll : (laid xs k).length = k := by simp [laid, HX.out]; omega
        refine ⟨by rw [hll]; exact hc2, (hk2.frozen (World.block_lt_of_cell? _ _ hcD) (by simp; omega)).trans HR.out.fr, by simp, fun g' e => by cases e; exact ⟨hgD, hrow2⟩, by rw [hll]; omega⟩
      have HK : Hid (Kept [D] w w2) := (hk3.trans HR.out.kept (by simp; omega)).trans hk2 (by simp; omega)
      have HO : Hid (One 1 D w w2) := hide (((HO3.out.trans (One.kept HR.out.kept (by simp; omega)) hk3.size).trans (One.kept hk2 (by simp; omega)) (hk3.trans HR.out.kept (by simp; omega)).size))
      clear hrow hsl hrow2 HR
      go_wp2
      go_ret
      exact ⟨g, k, rfl, HF2.out, by omega, HK.out, hgs, HO.out⟩

/-- Desk.lay: the bytes lie at the head of the desk's row, behind them marks. -/
theorem lay_any (D : Nat) (bo : Option Nat) (ao : Option Addr) (n cap : Nat) (xs R : List UInt8) (w : World) (hD : Dk w D bo R) (hx : xs.length = n) (hs : Sl w ao xs) (hfar : xs ≠ [] → ∀ a, ao = some a → a.block ∉ dkfp D bo) (hn : n ≤ 200000) :
    Calls Tryz.prog 60 #[.pointer (some ⟨D, 0, none⟩), .slice ao n cap] w fun e w' => ∃ g m, e = .returned (.slice (some ⟨g, 0, none⟩) n m) ∧ Dk w' D (some g) (laid xs m) ∧ n + 5 ≤ m ∧ Kept (dkfp D bo) w w' ∧ (bo = some g ∨ w.heap.size ≤ g) ∧ One 1 D w w' := by
  by_cases hroom : n + 5 ≤ R.length
  · cases bo with
    | none => have := hD.none rfl; subst this; simp at hroom
    | some g =>
      refine (lay_room D g ao n cap xs R w hD hx hs (fun hne a ha => by have := hfar hne a ha; simp [dkfp] at this; exact this.2) hroom).mono fun e w' ⟨g', m, he, hd, hm, hk, hg⟩ => ?_
      refine ⟨g', m, he, hd, hm, hk.mono (by simp [dkfp]), ?_, One.kept hk (by simpa using (hD.row g rfl).1.symm)⟩
      rcases hg with rfl | hg
      · exact .inl rfl
      · exact .inr hg
  · refine (lay_make D bo ao n cap xs R w hD hx hs (fun hne a ha => by have := hfar hne a ha; simp [dkfp] at this; exact this.1) hn (by omega)).mono fun e w' ⟨g', m, he, hd, hm, hk, hg, h1⟩ => ?_
    exact ⟨g', m, he, hd, hm, hk.mono (by simp [dkfp]), .inr hg, h1⟩

set_option maxHeartbeats 1600000 in
set_option maxRecDepth 100000 in
theorem lies_some (D g : Nat) (a : Addr) (n cap m : Nat) (xs : List UInt8) (w : World) (hD : Dk w D (some g) (laid xs m)) (hx : xs.length = n) (hs : ∀ i, i < n → w.cell? (a.add i) = some (.int .u8 (xs.getD i 0).toNat)) (hnm : n + 5 ≤ m) :
    Calls Tryz.prog 94 #[.pointer (some ⟨D, 0, none⟩), .slice (some a) n cap] w fun e w' => e = .returned (.bool true) ∧ ∃ k, w' = w.drewN k := by
  have hll : (laid xs m).length = m := by simp [laid, hx]; omega
  have hc := hD.cell
  have hsm := hD.small
  rw [hll] at hc hsm
  simp only [Option.map_some] at hc
  have hcg : ∀ i, i < m → w.cell? ⟨g, i, none⟩ = some (.int .u8 ((laid xs m).getD i 0).toNat) := fun i hi => by
    rw [cell_of_row _ _ _ _ _ _ (hD.row g rfl).2, List.getElem?_toArray]
    exact bys_at (by omega)
  have H1 : Hid (∀ i, i < n → w.cell? ⟨g, i, none⟩ = some (.int .u8 (xs.getD i 0).toNat)) := fun i hi => by
    rw [hcg i (by omega)]
    have : (laid xs m).getD i 0 = xs.getD i 0 := by simp [laid, List.getElem?_append_left (show i < xs.length by omega)]
    rw [this]
  have H2 : Hid (∀ i, n ≤ i → i < m → w.cell? ⟨g, i, none⟩ = some (.int .u8 171)) := fun i hn hi => by
    rw [hcg i hi]
    have : (laid xs m).getD i 0 = 171 := by
      simp only [laid, List.getD_eq_getElem?_getD]
      rw [List.getElem?_append_right (by omega), List.getElem?_replicate, if_pos (by omega)]
      rfl
    rw [this]; rfl
  have HS : Hid (∀ i, i < n → w.cell? (a.add i) = some (.int .u8 (xs.getD i 0).toNat)) := hs
  clear hD hx hs hll hcg
  go_enter Tryz.func94, Tryz.ntmps94
  go_wp2
  go_loopw [5] (fun i wr => ∃ k : Nat, k ≤ m ∧ i = .int .i64 k ∧ ∃ j, wr = w.drewN j) (fun i wr => m - (intOf i).toNat)
  case atStart => exact ⟨0, Nat.zero_le _, rfl, 0, rfl⟩
  case round =>
    obtain ⟨k, hk, rfl, j, hwr⟩ := hrel
    subst hwr
    by_cases hlt : k < m
    · by_cases hkn : k < n
      · have c1 := H1.out k hkn
        have c2 := HS.out k hkn
        have hcb : (xs.getD k 0).toNat < 256 := UInt8.toNat_lt _
        generalize (xs.getD k 0).toNat = c at c1 c2 hcb
        have g1 : (decide ((k : Int) < (n : Int))) = true := by simp; omega
        have g2 : (decide ((n : Int) ≤ (k : Int))) = false := by simp; omega
        have g1' : (decide (k < n)) = true := by simp; omega
        have g2' : (decide (n ≤ k)) = false := by simp; omega
        have g3 : ((c : Int) != (c : Int)) = false := by simp
        go_wp2
        go_quiet (fail)
        go_wp2
        go_roundw
        case rel => exact ⟨k + 1, by omega, by go_num, _, rfl⟩
        case measure => simp [intOf]; omega
      · have c1 := H2.out k (by omega) hlt
        have g1 : (decide ((k : Int) < (n : Int))) = false := by simp; omega
        have g2 : (decide ((n : Int) ≤ (k : Int))) = true := by simp; omega
        have g1' : (decide (k < n)) = false := by simp; omega
        have g2' : (decide (n ≤ k)) = true := by simp; omega
        go_wp2
        go_quiet (fail)
        go_wp2
        go_roundw
        case rel => exact ⟨k + 1, by omega, by go_num, _, rfl⟩
        case measure => simp [intOf]; omega
    · go_wp2
      go_ret
      exact ⟨rfl, j, rfl⟩

set_option maxHeartbeats 1600000 in
set_option maxRecDepth 100000 in
theorem lies_none (D g : Nat) (ao : Option Addr) (cap m : Nat) (w : World) (hD : Dk w D (some g) (laid [] m)) :
    Calls Tryz.prog 94 #[.pointer (some ⟨D, 0, none⟩), .slice ao 0 cap] w fun e w' => e = .returned (.bool true) ∧ ∃ k, w' = w.drewN k := by
  have hll : (laid [] m).length = m := by simp [laid]
  have hc := hD.cell
  have hsm := hD.small
  rw [hll] at hc hsm
  simp only [Option.map_some] at hc
  have H2 : Hid (∀ i, i < m → w.cell? ⟨g, i, none⟩ = some (.int .u8 171)) := fun i hi => by
    rw [cell_of_row _ _ _ _ _ _ (hD.row g rfl).2, List.getElem?_toArray, bys_at (by omega)]
    have : (laid [] m).getD i 0 = 171 := by simp [laid, hi]
    rw [this]; rfl
  clear hD hll
  go_enter Tryz.func94, Tryz.ntmps94
  go_wp2
  go_loopw [5] (fun i wr => ∃ k : Nat, k ≤ m ∧ i = .int .i64 k ∧ ∃ j, wr = w.drewN j) (fun i wr => m - (intOf i).toNat)
  case atStart => exact ⟨0, Nat.zero_le _, rfl, 0, rfl⟩
  case round =>
    obtain ⟨k, hk, rfl, j, hwr⟩ := hrel
    subst hwr
    by_cases hlt : k < m
    · have c1 := H2.out k hlt
      have g1 : (decide ((k : Int) < (0 : Int))) = false := by simp
      have g2 : (decide ((0 : Int) ≤ (k : Int))) = true := by simp
      have g2' : (decide (0 ≤ k)) = true := by simp
      go_wp2
      go_quiet (fail)
      go_wp2
      go_roundw
      case rel => exact ⟨k + 1, by omega, by go_num, _, rfl⟩
      case measure => simp [intOf]; omega
    · go_wp2
      go_ret
      exact ⟨rfl, j, rfl⟩

/-- Desk.lies: true where the bytes lie and all behind them are marks. -/
theorem lies_ok (D g : Nat) (ao : Option Addr) (n cap m : Nat) (xs : List UInt8) (w : World) (hD : Dk w D (some g) (laid xs m)) (hx : xs.length = n) (hs : Sl w ao xs) (hnm : n + 5 ≤ m) :
    Calls Tryz.prog 94 #[.pointer (some ⟨D, 0, none⟩), .slice ao n cap] w fun e w' => e = .returned (.bool true) ∧ ∃ k, w' = w.drewN k := by
  by_cases h0 : xs = []
  · subst h0
    obtain rfl : n = 0 := by simpa using hx.symm
    exact lies_none D g ao cap m w hD
  · obtain ⟨b, off, rfl, hb, hc⟩ := hs.open h0
    exact lies_some D g _ n cap m xs w hD hx (fun i hi => by rw [Addr.add_mid]; exact hc i (by omega)) hnm
end

section
open Go.RowKit Dsk
set_option linter.unusedVariables false
set_option linter.unusedSimpArgs false

theorem Tryz.sizeInt : (Tryz.prog.info? 3).map (·.size) = some 1 := by kernel_rfl
theorem ins_set (l : List Int) (i : Nat) (c : Int) : (ins l).set i (.int .i64 c) = ins (l.set i c) := by simp [ins, List.map_set]
theorem ins_length (l : List Int) : (ins l).length = l.length := by simp [ins]
theorem ins_at {l : List Int} {j : Nat} (hj : j < l.length) : (ins l)[j]? = some (.int .i64 (l.getD j 0)) := by simp [ins, hj]
theorem ins_one (l : List Int) : ∀ u ∈ ins l, u.oneCell' = true := by simp [ins, Value.oneCell']
theorem made_ints (m : Nat) : (madeCells #[.int .i64 0] m).toList = ins (List.replicate m 0) := by
  apply List.ext_getElem
  · simp [madeCells, ins]
  · intro i h1 h2
    simp [madeCells, ins, Nat.mod_one]

/-- The picks of a Desk. -/
structure Pk (w : World) (D g : Nat) (R : List Int) : Prop where
  cell : w.cell? ⟨D, 1, none⟩ = some (.slice (some ⟨g, 0, none⟩) R.length R.length)
  row : w.heap[g]? = some (.cells (ins R).toArray 3 (0, 0))
def plaid (ps : List Int) : List Int := ps ++ [77, 77, 77]

structure FillI (w0 wr : World) (D g m : Nat) (R : List Int) (k : Nat) : Prop where
  cell : wr.cell? ⟨D, 1, Option.none⟩ = some (.slice (some ⟨g, 0, Option.none⟩) m m)
  row : wr.heap[g]? = some (.cells (ins (List.replicate k 77 ++ R.drop k)).toArray 3 (0, 0))
  kept : Kept [g] w0 wr
theorem FillI.step {w0 wr : World} {D g m : Nat} {R : List Int} {k : Nat} (h : FillI w0 wr D g m R k) (hgD : g ≠ D) (hR : R.length = m) (hk : k < m) : FillI w0 (wr.setCell ⟨g, k, none⟩ (.int .i64 77)) D g m R (k + 1) := by
  refine ⟨?_, ?_, h.kept.setCell (by simp) _⟩
  · rw [World.cell?_setCell_other _ _ _ _ (by intro e; cases e; exact hgD rfl)]; exact h.cell
  · rw [heap_setCell_same _ _ _ _ _ _ h.row]
    simp only [List.setIfInBounds_toArray]
    congr 3
    have e : R.drop k = R.getD k 0 :: R.drop (k + 1) := by
      rw [List.drop_eq_getElem_cons (by omega)]
      simp [List.getElem?_eq_getElem (show k < R.length by omega)]
    rw [ins_set, e]
    congr 1
    rw [List.set_append_right _ _ (by simp)]
    simp [List.replicate_succ']

set_option maxRecDepth 100000 in
theorem copy_plaid (wr : World) (g n : Nat) (ao : Option Addr) (cap : Nat) (ps : List Int) (hrow : wr.heap[g]? = some (.cells (ins (List.replicate (n + 3) 77)).toArray 3 (0, 0))) (hx : ps.length = n) (hs : Ints wr ao ps) :
    ∃ w2, (Builtin.copy_ #[43, 43] 3 #[.slice (some ⟨g, 0, none⟩) (n + 3) (n + 3), .slice ao n cap]).run Tryz.prog wr = .ok (.int .i64 n) w2 ∧ w2.heap[g]? = some (.cells (ins (plaid ps)).toArray 3 (0, 0)) ∧ Kept [g] wr w2 := by
  by_cases h0 : ps = []
  · subst h0
    obtain rfl : n = 0 := by simpa using hx.symm
    refine ⟨wr, run_copy_none (P := Tryz.prog) wr _ _ _ 3 _ _ _ _ _ _ Tryz.underlying43 Tryz.sizeInt (by simp), by simpa [plaid, ins] using hrow, Kept.refl _ _⟩
  · have hlen : 0 < ps.length := List.length_pos_iff.2 h0
    obtain ⟨b, off, rfl, _⟩ := hs 0 hlen
    have hc : ∀ j u, (ins ps)[j]? = some u → wr.cell? ((⟨b, off, none⟩ : Addr).add j) = some u := fun j u hu => by
      have hj : j < ps.length := by have := (List.getElem?_eq_some_iff.1 hu).1; rwa [ins_length] at this
      rw [ins_at hj] at hu
      injection hu with hu
      obtain ⟨b', off', e, hcc⟩ := hs j hj
      injection e with e
      injection e with e1 e2
      subst e1 e2
      rw [show ((⟨b, off, none⟩ : Addr).add j) = ⟨b, off + j, none⟩ from by unfold Addr.add; by_cases h : j = 0 <;> simp [h], hcc, hu]
    have h := run_copy_row (P := Tryz.prog) wr 43 43 3 3 g 0 (n + 3) (n + 3) ⟨b, off, none⟩ n cap _ 3 (ins ps) Tryz.underlying43 Tryz.sizeInt hrow (by rw [ins_length, hx]; simp only [Nat.min_def]; split <;> omega) hc (by rw [ins_length, hx]; simp [ins_length]) (ins_one ps)
    refine ⟨_, by rw [h, ins_length, hx]; rfl, ?_, kept_setRow (Kept.refl _ _) (by simp) _⟩
    rw [setRow_heap _ _ _ _ _ _ hrow]
    congr 2
    simp [plaid, ins, hx]

set_option maxHeartbeats 1600000 in
set_option maxRecDepth 100000 in
theorem picks_ok (D : Nat) (ao : Option Addr) (n cap : Nat) (ps : List Int) (w : World) (v0 : Value) (hc : w.cell? ⟨D, 1, none⟩ = some v0) (hfr : w.frozen? ⟨D, 1, none⟩ = false) (hx : ps.length = n) (hs : Ints w ao ps) (hfar : ps ≠ [] → ∀ a, ao = some a → a.block ≠ D) (hn : n ≤ 1000000) :
    Calls Tryz.prog 100 #[.pointer (some ⟨D, 0, none⟩), .slice ao n cap] w fun e w' => ∃ g, e = .returned (.slice (some ⟨g, 0, none⟩) n (n + 3)) ∧ Pk w' D g (plaid ps) ∧ Kept [D] w w' ∧ w.heap.size ≤ g ∧ w'.frozen? ⟨D, 1, none⟩ = false ∧ One 0 D w w' := by
  obtain ⟨i0, hi, hz0, hz1, hz2⟩ := info_parts Tryz.infoInt
  have hDl := World.block_lt_of_cell? _ _ hc
  have HX : Hid (ps.length = n) := hx
  have HS0 : Hid (Ints w ao ps) := hs
  have HFD : Hid (ps ≠ [] → ∀ a, ao = some a → a.block ≠ D) := hfar
  clear hx hs hfar
  go_enter Tryz.func100, Tryz.ntmps100
  go_wp2_with (at_make; refine wpList_make_full _ rfl _ _ 43 rfl w.heap.size 3 i0 (.int .i64 0) 1 Tryz.underlying43 hi hz0 hz1 .i64 .i64 ((n : Int) + 3) ((n : Int) + 3) (n + 3) rfl rfl (by omega) (by omega) ?c1 ?c2 ?c3 ?_)
  case c1 => omega
  case c2 => unfold maxLen; omega
  intro w1 hown hgrow
  have hk1 : Kept [] w w1 := (Kept.refl _ _).grown hgrow (by simp)
  obtain ⟨g, hg⟩ : ∃ g, g = w.heap.size := ⟨_, rfl⟩
  obtain ⟨m, hm⟩ : ∃ m, m = n + 3 := ⟨_, rfl⟩
  obtain ⟨R, hRm, hrow1⟩ : ∃ R : List Int, R.length = m ∧ w1.heap[g]? = some (.cells (ins R).toArray 3 (0, 0)) := by
    refine ⟨List.replicate m 0, by simp, ?_⟩
    rcases hown.2 with ⟨h, _⟩ | ⟨g', cap', cur, hv, _, hg', _, _, hsz, htk⟩
    · cases h
    · cases hv
      rw [hg, hg']
      have hcs : cur.size = m := by rw [hm]; simpa using hsz
      have : cur.toList = ins (List.replicate m 0) := by
        rw [List.take_of_length_le (by simp; omega)] at htk
        rw [htk, hm]
        exact made_ints _
      rw [← this]
  have hgs : w.heap.size ≤ g := by omega
  have hgD : g ≠ D := by omega
  have hc1 := hk1.cellOf hc (by simp)
  have hf1 : w1.frozen? ⟨D, 1, none⟩ = false := (hk1.frozen (p := ⟨D, 1, none⟩) hDl (by simp)).trans hfr
  rw [← hg, ← hm]
  have hmb : m ≤ 1000003 := by omega
  have hk3 : Kept [D] w (w1.setCell ⟨D, 1, none⟩ (.slice (some ⟨g, 0, none⟩) m m)) := (hk1.mono (by simp)).setCell (by simp) _
  have ho3 : One 0 D w (w1.setCell ⟨D, 1, none⟩ (.slice (some ⟨g, 0, none⟩) m m)) := (One.kept hk1 (by simp)).trans (One.setCell _ (by decide)) hk1.size
  have HO3 := hide ho3
  clear ho3
  have hs3 : Ints (w1.setCell ⟨D, 1, none⟩ (.slice (some ⟨g, 0, none⟩) m m)) ao ps := HS0.out.kept (Keep.ofKept hk3) (fun hne a ha e => HFD.out hne a ha (by simpa using e))
  have hf3 : (w1.setCell ⟨D, 1, none⟩ (.slice (some ⟨g, 0, none⟩) m m)).frozen? ⟨D, 1, none⟩ = false := by rw [World.frozen?_setCell]; exact hf1
  have HI : Hid (FillI (w1.setCell ⟨D, 1, none⟩ (.slice (some ⟨g, 0, none⟩) m m)) (w1.setCell ⟨D, 1, none⟩ (.slice (some ⟨g, 0, none⟩) m m)) D g m R 0) := by
    refine ⟨World.cell?_setCell_same _ _ _ hc1, ?_, Kept.refl _ _⟩
    rw [heap_setCell_other _ _ _ _ (by simpa using hgD)]
    simpa using hrow1
  have hD3 : D < (w1.setCell ⟨D, 1, none⟩ (.slice (some ⟨g, 0, none⟩) m m)).heap.size := World.block_lt_of_cell? _ _ HI.out.cell
  have HMN := hide hm
  clear hown hgrow hrow1 hk1 hg hc hfr hm
  go_wp2
  generalize w1.setCell _ _ = w3 at hk3 HO3 HI hs3 hf3 hD3 ⊢
  have HS : Hid (Ints w3 ao ps) := hs3
  have HF : Hid (ps ≠ [] → ∀ a, ao = some a → a.block ≠ g) := fun hne a ha => by
    obtain ⟨b', off', e', hcc⟩ := HS0.out 0 (List.length_pos_iff.2 hne)
    have hb' := World.block_lt_of_cell? _ _ hcc
    rw [e'] at ha
    cases ha
    show b' ≠ g
    have : b' < w.heap.size := hb'
    omega
  have HF3 := hide hf3
  clear hs3 hc1 hf1 hf3
  go_loopw [5] (fun i wr => ∃ k : Nat, k ≤ m ∧ i = .int .i64 k ∧ Hid (FillI w3 wr D g m R k)) (fun i wr => m - (intOf i).toNat)
  case atStart => exact ⟨0, Nat.zero_le _, rfl, HI⟩
  case round =>
    clear HI
    obtain ⟨k, hk, rfl, HR⟩ := hrel
    have hcD := HR.out.cell
    by_cases hlt : k < m
    · have hcg : ∃ u, wr.cell? ⟨g, k, none⟩ = some u := by
        rw [cell_of_row _ _ _ _ _ _ HR.out.row]
        have hl : k < (ins (List.replicate k 77 ++ R.drop k)).length := by rw [ins_length]; simp; omega
        exact ⟨_, by rw [List.getElem?_toArray]; exact List.getElem?_eq_getElem hl⟩
      obtain ⟨u, hcg⟩ := hcg
      have hfz : wr.frozen? ⟨g, k, none⟩ = false := frozen_of_row _ _ _ _ _ HR.out.row
      have HR2 : Hid (FillI w3 (wr.setCell ⟨g, k, none⟩ (.int .i64 77)) D g m R (k + 1)) := HR.out.step hgD hRm hlt
      clear HR
      go_wp2
      go_roundw
      case rel => exact ⟨k + 1, by omega, by go_num, HR2⟩
      case measure => simp [intOf]; omega
    · have hkm : k = m := by omega
      have hrow : wr.heap[g]? = some (.cells (ins (List.replicate (n + 3) 77)).toArray 3 (0, 0)) := by
        have := HR.out.row
        rw [List.drop_of_length_le (by omega), List.append_nil, hkm, HMN.out] at this
        exact this
      have hsl : Ints wr ao ps := HS.out.kept (Keep.ofKept HR.out.kept) (fun hne a ha e => HF.out hne a ha (by simpa using e))
      obtain ⟨w2, hcp, hrow2, hk2⟩ := copy_plaid wr g n ao cap ps hrow HX.out hsl
      rw [← HMN.out] at hcp
      have hc2 : w2.cell? ⟨D, 1, none⟩ = some (.slice (some ⟨g, 0, none⟩) m m) := hk2.cellOf hcD (by simp; omega)
      have HF2 : Hid (Pk w2 D g (plaid ps) ∧ w2.frozen? ⟨D, 1, none⟩ = false) := by
        have hll : (plaid ps).length = m := by simp [plaid, HX.out, HMN.out]
        exact ⟨⟨by rw [hll]; exact hc2, hrow2⟩, (hk2.frozen (World.block_lt_of_cell? _ _ hcD) (by simp; omega)).trans ((HR.out.kept.frozen hD3 (by simp; omega)).trans HF3.out)⟩
      have HK : Hid (Kept [D] w w2) := (hk3.trans HR.out.kept (by simp; omega)).trans hk2 (by simp; omega)
      have HO : Hid (One 0 D w w2) := hide (((HO3.out.trans (One.kept HR.out.kept (by simp; omega)) hk3.size).trans (One.kept hk2 (by simp; omega)) (hk3.trans HR.out.kept (by simp; omega)).size))
      have hnm : n ≤ m := by have := HMN.out; omega
      clear hrow hsl hrow2 HR hkm
      go_wp2
      go_ret
      rw [HMN.out]
      exact ⟨g, rfl, HF2.out.1, HK.out, hgs, HF2.out.2, HO.out⟩

set_option maxHeartbeats 1600000 in
set_option maxRecDepth 100000 in
theorem picked_some (D g : Nat) (b off n cap : Nat) (ps : List Int) (w : World) (hD : Pk w D g (plaid ps)) (hx : ps.length = n) (hs : ∀ i, i < n → w.cell? ⟨b, off + i, none⟩ = some (.int .i64 (ps.getD i 0))) (hn : n ≤ 1000000) :
    Calls Tryz.prog 102 #[.pointer (some ⟨D, 0, none⟩), .slice (some ⟨b, off, none⟩) n cap] w fun e w' => e = .returned (.bool true) ∧ ∃ k, w' = w.drewN k := by
  have hll : (plaid ps).length = n + 3 := by simp [plaid, hx]
  have hc := hD.cell
  rw [hll] at hc
  have hcg : ∀ i, i < n + 3 → w.cell? ⟨g, i, none⟩ = some (.int .i64 ((plaid ps).getD i 0)) := fun i hi => by
    rw [cell_of_row _ _ _ _ _ _ hD.row, List.getElem?_toArray]
    exact ins_at (by omega)
  have H1 : Hid (∀ i, i < n → w.cell? ⟨g, i, none⟩ = some (.int .i64 (ps.getD i 0))) := fun i hi => by
    rw [hcg i (by omega)]
    have : (plaid ps).getD i 0 = ps.getD i 0 := by simp [plaid, List.getElem?_append_left (show i < ps.length by omega)]
    rw [this]
  have H2 : Hid (∀ i, n ≤ i → i < n + 3 → w.cell? ⟨g, i, none⟩ = some (.int .i64 77)) := fun i hn' hi => by
    rw [hcg i hi]
    have : (plaid ps).getD i 0 = 77 := by
      simp only [plaid, List.getD_eq_getElem?_getD]
      rw [List.getElem?_append_right (by omega)]
      rcases (show i - ps.length = 0 ∨ i - ps.length = 1 ∨ i - ps.length = 2 by omega) with e | e | e <;> rw [e] <;> rfl
    rw [this]
  have HS : Hid (∀ i, i < n → w.cell? ⟨b, off + i, none⟩ = some (.int .i64 (ps.getD i 0))) := hs
  obtain ⟨m, hm⟩ : ∃ m, m = n + 3 := ⟨_, rfl⟩
  rw [← hm] at hc H2
  have hmb : m ≤ 1000003 := by omega
  have hnm : n ≤ m := by omega
  clear hD hx hs hll hcg hm
  go_enter Tryz.func102, Tryz.ntmps102
  go_wp2
  go_loopw [5] (fun i wr => ∃ k : Nat, k ≤ m ∧ i = .int .i64 k ∧ ∃ j, wr = w.drewN j) (fun i wr => m - (intOf i).toNat)
  case atStart => exact ⟨0, Nat.zero_le _, rfl, 0, rfl⟩
  case round =>
    obtain ⟨k, hk, rfl, j, hwr⟩ := hrel
    subst hwr
    by_cases hlt : k < m
    · by_cases hkn : k < n
      · have c1 := H1.out k hkn
        have c2 := HS.out k hkn
        generalize ps.getD k 0 = c at c1 c2
        have g1 : (decide ((k : Int) < (n : Int))) = true := by simp; omega
        have g2 : (decide ((n : Int) ≤ (k : Int))) = false := by simp; omega
        have g1' : (decide (k < n)) = true := by simp; omega
        have g2' : (decide (n ≤ k)) = false := by simp; omega
        have g3 : (c != c) = false := by simp
        go_wp2
        go_quiet (fail)
        go_wp2
        go_roundw
        case rel => exact ⟨k + 1, by omega, by go_num, _, rfl⟩
        case measure => simp [intOf]; omega
      · have c1 := H2.out k (by omega) hlt
        have g1 : (decide ((k : Int) < (n : Int))) = false := by simp; omega
        have g2 : (decide ((n : Int) ≤ (k : Int))) = true := by simp; omega
        have g1' : (decide (k < n)) = false := by simp; omega
        have g2' : (decide (n ≤ k)) = true := by simp; omega
        go_wp2
        go_quiet (fail)
        go_wp2
        go_roundw
        case rel => exact ⟨k + 1, by omega, by go_num, _, rfl⟩
        case measure => simp [intOf]; omega
    · go_wp2
      go_ret
      exact ⟨rfl, j, rfl⟩

set_option maxHeartbeats 1600000 in
set_option maxRecDepth 100000 in
theorem picked_none (D g : Nat) (ao : Option Addr) (cap : Nat) (w : World) (hD : Pk w D g (plaid [])) :
    Calls Tryz.prog 102 #[.pointer (some ⟨D, 0, none⟩), .slice ao 0 cap] w fun e w' => e = .returned (.bool true) ∧ ∃ k, w' = w.drewN k := by
  have hc : w.cell? ⟨D, 1, none⟩ = some (.slice (some ⟨g, 0, none⟩) 3 3) := hD.cell
  have H2 : Hid (∀ i, i < 3 → w.cell? ⟨g, i, none⟩ = some (.int .i64 77)) := fun i hi => by
    rw [cell_of_row _ _ _ _ _ _ hD.row, List.getElem?_toArray, ins_at (by simp [plaid]; omega)]
    rcases (show i = 0 ∨ i = 1 ∨ i = 2 by omega) with e | e | e <;> rw [e] <;> rfl
  obtain ⟨m, hm⟩ : ∃ m, m = 3 := ⟨_, rfl⟩
  rw [← hm] at H2
  have hc' : w.cell? ⟨D, 1, none⟩ = some (.slice (some ⟨g, 0, none⟩) m m) := by rw [hm]; exact hc
  have hmb : m ≤ 3 := by omega
  clear hD hc hm
  go_enter Tryz.func102, Tryz.ntmps102
  go_wp2
  go_loopw [5] (fun i wr => ∃ k : Nat, k ≤ m ∧ i = .int .i64 k ∧ ∃ j, wr = w.drewN j) (fun i wr => m - (intOf i).toNat)
  case atStart => exact ⟨0, Nat.zero_le _, rfl, 0, rfl⟩
  case round =>
    obtain ⟨k, hk, rfl, j, hwr⟩ := hrel
    subst hwr
    by_cases hlt : k < m
    · have c1 := H2.out k hlt
      have g1 : (decide ((k : Int) < (0 : Int))) = false := by simp
      have g2 : (decide ((0 : Int) ≤ (k : Int))) = true := by simp
      have g2' : (decide (0 ≤ k)) = true := by simp
      go_wp2
      go_quiet (fail)
      go_wp2
      go_roundw
      case rel => exact ⟨k + 1, by omega, by go_num, _, rfl⟩
      case measure => simp [intOf]; omega
    · go_wp2
      go_ret
      exact ⟨rfl, j, rfl⟩
theorem picked_ok (D g : Nat) (ao : Option Addr) (n cap : Nat) (ps : List Int) (w : World) (hD : Pk w D g (plaid ps)) (hx : ps.length = n) (hs : Ints w ao ps) (hn : n ≤ 1000000) :
    Calls Tryz.prog 102 #[.pointer (some ⟨D, 0, none⟩), .slice ao n cap] w fun e w' => e = .returned (.bool true) ∧ ∃ k, w' = w.drewN k := by
  by_cases h0 : ps = []
  · subst h0
    obtain rfl : n = 0 := by simpa using hx.symm
    exact picked_none D g ao cap w hD
  · obtain ⟨b, off, rfl, _⟩ := hs 0 (List.length_pos_iff.2 h0)
    refine picked_some D g b off n cap ps w hD hx (fun i hi => ?_) hn
    obtain ⟨b', off', e, hc⟩ := hs i (by omega)
    injection e with e
    injection e with e1 e2
    subst e1 e2
    exact hc
end

section
open Go.RowKit Dsk
set_option linter.unusedVariables false
set_option linter.unusedSimpArgs false
namespace Dsk
open _root_.Go.Proofs.YtmoaaimjgdbelaaGreat.Dsk.Ds
namespace Nm
def ren (f : Nat → Nat) (l : Nm) : Nm := l.map (fun p => (p.1, f p.2))
theorem ren_ids (f : Nat → Nat) (l : Nm) : (l.ren f).ids = l.ids.map f := by simp [ren, ids, Function.comp_def]
theorem ren_del (f : Nat → Nat) (l : Nm) (n : By) : (l.ren f).del n = (l.del n).ren f := by
  simp only [ren, del, List.filter_map, Function.comp_def]
theorem ren_ins (f : Nat → Nat) (x : By × Nat) (l : Nm) : ins (x.1, f x.2) (l.ren f) = (ins x l).ren f := by
  induction l with
  | nil => rfl
  | cons y r ih =>
    show ins (x.1, f x.2) ((y.1, f y.2) :: ren f r) = ren f (ins x (y :: r))
    simp only [ins]
    by_cases h : bytesBefore x.1 y.1 = true
    · rw [if_pos h, if_pos h]; rfl
    · rw [if_neg h, if_neg h, ih]; rfl
theorem ren_put (f : Nat → Nat) (l : Nm) (n : By) (k : Nat) : (l.ren f).put n (f k) = (l.put n k).ren f := by
  unfold put
  rw [ren_del]
  exact ren_ins f (n, k) _
theorem ren_get (f : Nat → Nat) (l : Nm) (n : By) : (l.ren f).get n = (l.get n).map f := by
  unfold get ren
  rw [List.find?_map]
  simp only [Function.comp_def, Option.map_map]
theorem ren_up (f : Nat → Nat) {l : Nm} (h : l.Up) : (l.ren f).Up := by
  unfold ren Up
  rw [List.pairwise_map]
  exact h
theorem ren_len (f : Nat → Nat) (l : Nm) : (l.ren f).length = l.length := by simp [ren]
end Nm
namespace Nc
def ren (f : Nat → Nat) : Nc → Nc
  | .mk n k => .mk n (f k)
  | .gv a b => .gv a b
  | .tk n => .tk n
theorem ren_apply (f : Nat → Nat) (c : Nc) (l : Nm) : (c.ren f).apply (l.ren f) = (c.apply l).ren f := by
  cases c with
  | mk n k => exact Nm.ren_put f l n k
  | tk n => exact Nm.ren_del f l n
  | gv a b =>
    simp only [ren, apply]
    rw [Nm.ren_get]
    cases h : l.get a with
    | none => rfl
    | some k =>
      show ((l.ren f).put b (f k)).del a = _
      rw [Nm.ren_put, Nm.ren_del]
theorem ren_ok (f : Nat → Nat) (c : Nc) {l : Nm} (h : c.ok l) : (c.ren f).ok (l.ren f) := by
  cases c with
  | mk n k => trivial
  | tk n => trivial
  | gv a b =>
    obtain ⟨h1, k, h2⟩ := h
    exact ⟨h1, f k, by rw [Nm.ren_get, h2]; rfl⟩
theorem ren_made (f : Nat → Nat) (c : Nc) : (c.ren f).made = c.made.map f := by cases c <;> rfl
end Nc
theorem ren_run (f : Nat → Nat) (l : Nm) (r : List Nc) : runN (l.ren f) (r.map (Nc.ren f)) = (runN l r).ren f := by
  induction r generalizing l with
  | nil => rfl
  | cons c r ih => simp only [List.map_cons, runN, Nc.ren_apply, ih]
theorem ren_okN (f : Nat → Nat) (l : Nm) (r : List Nc) (h : okN l r) : okN (l.ren f) (r.map (Nc.ren f)) := by
  induction r generalizing l with
  | nil => trivial
  | cons c r ih => exact ⟨Nc.ren_ok f c h.1, by rw [Nc.ren_apply]; exact ih _ h.2⟩
theorem ren_madeN (f : Nat → Nat) (r : List Nc) : madeN (r.map (Nc.ren f)) = (madeN r).map f := by
  induction r with
  | nil => rfl
  | cons c r ih => simp only [List.map_cons, madeN_cons, Nc.ren_made, ih, List.map_append]

namespace Ds
def lives (S : Ds) : List Nat := S.safe.ids ++ madeN S.row
def rho (S : Ds) (k : Nat) : Nat := S.lives.idxOf k
def compact (S : Ds) : Ds := { S with safe := S.safe.ren S.rho, row := S.row.map (Nc.ren S.rho), shown := S.shown.ren S.rho, th := fun j => S.th (S.lives.getD j 0), nx := S.lives.length }
theorem rho_lt {S : Ds} {k : Nat} (h : k ∈ S.lives) : S.rho k < S.lives.length := List.idxOf_lt_length_of_mem h
theorem rho_back {S : Ds} {k : Nat} (h : k ∈ S.lives) : S.lives.getD (S.rho k) 0 = k := by
  rw [List.getD_eq_getElem?_getD, List.getElem?_eq_getElem (rho_lt h)]
  exact List.getElem_idxOf (rho_lt h)
theorem rho_inj {S : Ds} {j k : Nat} (hj : j ∈ S.lives) (hk : k ∈ S.lives) (h : S.rho j = S.rho k) : j = k := by
  rw [← rho_back hj, ← rho_back hk, h]
theorem compact_th {S : Ds} {k : Nat} (h : k ∈ S.lives) : S.compact.th (S.rho k) = S.th k := by
  show S.th _ = _
  rw [rho_back h]
theorem lives_map {S : Ds} (h : S.lives.Nodup) : (S.lives.map S.rho).Nodup := by
  unfold List.Nodup
  rw [List.pairwise_map]
  refine List.Pairwise.imp_of_mem ?_ h
  intro a b ha hb hne e
  exact hne (rho_inj ha hb e)
theorem shown_lives {S : Ds} (hw : S.Wf) {p : By × Nat} (hp : p ∈ S.shown) : p.2 ∈ S.lives := by
  have : p.2 ∈ S.shown.ids := List.mem_map.2 ⟨p, hp, rfl⟩
  rw [hw.shown] at this
  exact runN_ids_sub _ this
theorem safe_lives {S : Ds} {p : By × Nat} (hp : p ∈ S.safe) : p.2 ∈ S.lives := List.mem_append_left _ (List.mem_map.2 ⟨p, hp, rfl⟩)
theorem compact_ids (S : Ds) : S.compact.safe.ids ++ madeN S.compact.row = S.lives.map S.rho := by
  show (S.safe.ren S.rho).ids ++ madeN (S.row.map (Nc.ren S.rho)) = _
  rw [Nm.ren_ids, ren_madeN, ← List.map_append]
  rfl
theorem Wf.compact {S : Ds} (h : S.Wf) : S.compact.Wf := by
  refine ⟨h.room, Nm.ren_up _ h.up, ?_, ren_okN _ _ _ h.ok, by rw [compact_ids]; exact lives_map h.nodup, fun k hk => ?_, fun p hp => ?_, fun c hc => ?_, fun k hk => ?_⟩
  · show S.shown.ren S.rho = runN (S.safe.ren S.rho) (S.row.map (Nc.ren S.rho))
    rw [ren_run, ← h.shown]
  · rw [compact_ids] at hk
    obtain ⟨j, hj, rfl⟩ := List.mem_map.1 hk
    exact rho_lt hj
  · obtain ⟨q, hq, rfl⟩ := List.mem_map.1 hp
    exact h.nm q hq
  · obtain ⟨d, hd, rfl⟩ := List.mem_map.1 hc
    have := h.nmr d hd
    cases d <;> exact this
  · have hm : S.lives.getD k 0 ∈ S.lives := by
      rw [List.getD_eq_getElem?_getD, List.getElem?_eq_getElem hk]
      exact List.getElem_mem _
    exact h.th _ (h.lt _ hm)
theorem Bd.compact {S : Ds} {N : Nat} (h : S.Bd N) (hw : S.Wf) : S.compact.Bd N := by
  refine ⟨?_, fun k hk => ?_, h.reads, h.strokes, h.planned⟩
  · show (S.safe.ren S.rho).length + (S.row.map (Nc.ren S.rho)).length ≤ N
    rw [Nm.ren_len, List.length_map]
    exact h.nm
  · have hm : S.lives.getD k 0 ∈ S.lives := by
      rw [List.getD_eq_getElem?_getD, List.getElem?_eq_getElem hk]
      exact List.getElem_mem _
    exact h.th _ (hw.lt _ hm)
theorem compact_files {S : Ds} (hw : S.Wf) : S.compact.files = S.files := by
  show (S.shown.ren S.rho).map (fun p => (p.1, (S.compact.th p.2).shown)) = S.shown.map _
  unfold Nm.ren
  rw [List.map_map]
  apply List.map_congr_left
  intro p hp
  simp only [Function.comp_def]
  rw [compact_th (shown_lives hw hp)]
theorem compact_safeFiles {S : Ds} : S.compact.safeFiles = S.safeFiles := by
  show (S.safe.ren S.rho).map (fun p => (p.1, (S.compact.th p.2).safe)) = S.safe.map _
  unfold Nm.ren
  rw [List.map_map]
  apply List.map_congr_left
  intro p hp
  simp only [Function.comp_def]
  rw [compact_th (safe_lives hp)]
theorem crashTh_ren (ps : List Int) (f : Nat → Nat) (L : List Nat) (hf : ∀ j ∈ L, ∀ k ∈ L, f j = f k → j = k) (i : Nat) (l : Nm) (hl : ∀ p ∈ l, p.2 ∈ L) (th th' : Nat → Th) (ht : ∀ k ∈ L, th' (f k) = th k) : ∀ k ∈ L, crashTh ps i (l.ren f) th' (f k) = crashTh ps i l th k := by
  induction l generalizing i th th' with
  | nil => exact ht
  | cons x r ih =>
    have hx : x.2 ∈ L := hl x (by simp)
    show ∀ k ∈ L, crashTh ps (i + 1) (Nm.ren f r) (upd th' (f x.2) ((th' (f x.2)).crash (ps.getD (i + 1) 0))) (f k) = crashTh ps (i + 1) r (upd th x.2 ((th x.2).crash (ps.getD (i + 1) 0))) k
    refine ih (i + 1) (fun p hp => hl p (by simp [hp])) _ _ (fun k hk => ?_)
    by_cases e : k = x.2
    · rw [e, upd_same, upd_same, ht _ hx]
    · rw [upd_other _ _ e, upd_other _ _ (fun h => e (hf k hk _ hx h)), ht k hk]
theorem compact_crashNm {S : Ds} (ps : List Int) : S.compact.crashNm ps = (S.crashNm ps).ren S.rho := by
  unfold crashNm
  show runN (S.safe.ren S.rho) ((S.row.map (Nc.ren S.rho)).take (rnd (ps.getD 0 0) (S.row.map (Nc.ren S.rho)).length)) = _
  rw [List.length_map, ← List.map_take, ren_run]
theorem crash_lives {S : Ds} (ps : List Int) {p : By × Nat} (hp : p ∈ S.crashNm ps) : p.2 ∈ S.lives := by
  have h1 : p.2 ∈ (S.crashNm ps).ids := List.mem_map.2 ⟨p, hp, rfl⟩
  have h2 := runN_ids_sub _ h1
  rcases List.mem_append.1 h2 with h | h
  · exact List.mem_append_left _ h
  · exact List.mem_append_right _ ((made_take S.row _).subset h)
theorem compact_crash {S : Ds} (ps : List Int) : (S.compact.crash ps).files = (S.crash ps).files ∧ (S.compact.crash ps).safeFiles = (S.crash ps).safeFiles := by
  have key : ∀ p ∈ S.crashNm ps, crashTh ps 0 (S.compact.crashNm ps) S.compact.th (S.rho p.2) = crashTh ps 0 (S.crashNm ps) S.th p.2 := fun p hp => by
    rw [compact_crashNm]
    exact crashTh_ren ps S.rho S.lives (fun j hj k hk e => rho_inj hj hk e) 0 _ (fun q hq => crash_lives ps hq) _ _ (fun k hk => compact_th hk) _ (crash_lives ps hp)
  constructor
  · show (S.compact.crashNm ps).map (fun p => (p.1, (crashTh ps 0 (S.compact.crashNm ps) S.compact.th p.2).shown)) = (S.crashNm ps).map (fun p => (p.1, (crashTh ps 0 (S.crashNm ps) S.th p.2).shown))
    rw [show (S.compact.crashNm ps).map (fun p => (p.1, (crashTh ps 0 (S.compact.crashNm ps) S.compact.th p.2).shown)) = ((S.crashNm ps).ren S.rho).map (fun p => (p.1, (crashTh ps 0 (S.compact.crashNm ps) S.compact.th p.2).shown)) by rw [compact_crashNm]]
    unfold Nm.ren
    rw [List.map_map]
    apply List.map_congr_left
    intro p hp
    simp only [Function.comp_def]
    rw [key p hp]
  · show (S.compact.crashNm ps).map (fun p => (p.1, (crashTh ps 0 (S.compact.crashNm ps) S.compact.th p.2).safe)) = (S.crashNm ps).map (fun p => (p.1, (crashTh ps 0 (S.crashNm ps) S.th p.2).safe))
    rw [show (S.compact.crashNm ps).map (fun p => (p.1, (crashTh ps 0 (S.compact.crashNm ps) S.compact.th p.2).safe)) = ((S.crashNm ps).ren S.rho).map (fun p => (p.1, (crashTh ps 0 (S.compact.crashNm ps) S.compact.th p.2).safe)) by rw [compact_crashNm]]
    unfold Nm.ren
    rw [List.map_map]
    apply List.map_congr_left
    intro p hp
    simp only [Function.comp_def]
    rw [key p hp]
end Ds
end Dsk
end

end Go.Proofs.YtmoaaimjgdbelaaGreat
