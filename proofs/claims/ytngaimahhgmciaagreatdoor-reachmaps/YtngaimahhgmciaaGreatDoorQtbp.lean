/-
  A Walk of freightref9 in memory.
-/
import Derived.Test.YtngaimahhgmciaaGreatDoorQtap
import Derived.Test.YtngaimahhgmciaaGreatDoorQ9cp
import Derived.Test.YtngaimahhgmciaaGreatDoorQ9ap
import Derived.Test.YtngaimahhgmciaaGreatDoorQpbp
namespace Go.Proofs.YtngaimahhgmciaaGreatDoor
open Go.RowKit Go.Lib Go.Sort
set_option linter.unusedVariables false
set_option linter.unusedSimpArgs false

/-- The blocks of two rows are two. -/
def Apt (u v : Value) : Prop := ∀ k, u.ownBlock = some k → v.ownBlock ≠ some k
/-- The cells of a Walk. -/
def wcs (va vn vb vd vl : Value) (cd : Int) (ci : List UInt8) : List Value := va :: vn :: vb :: vd :: vl :: .int .i64 cd :: bys ci
/-- A Walk at g, with rows of the same kind beside it: what was asked lies apart from all others. -/
structure Wk9 (w : World) (B g : Nat) (va vn vb vd vl : Value) (R : Rw) (dp : List (List UInt8)) (cd : Int) (ci : List UInt8) (X : List (Value × List (List UInt8))) : Prop where
  row : w.heap[g]? = some (.cells (wcs va vn vb vd vl cd ci).toArray 77 (0, 0))
  gB : B ≤ g
  cil : ci.length = 32
  a : OwnI w B va R.asked
  n : OwnI w B vn R.need ∧ Apt va vn
  b : OwnI w B vb R.bad ∧ Apt va vb
  d : OwnI w B vd dp ∧ Apt va vd
  l : OwnI w B vl R.lacks ∧ Apt va vl
  x : ∀ p ∈ X, OwnI w B p.1 p.2 ∧ Apt va p.1
section
variable {w w' : World} {B g : Nat} {va vn vb vd vl : Value} {R : Rw} {dp : List (List UInt8)} {cd : Int} {ci : List UInt8} {X : List (Value × List (List UInt8))}
theorem Wk9.lt (h : Wk9 w B g va vn vb vd vl R dp cd ci X) : g < w.heap.size := (Array.getElem?_eq_some_iff.1 h.row).1
theorem Wk9.BS (h : Wk9 w B g va vn vb vd vl R dp cd ci X) : B ≤ w.heap.size := Nat.le_trans h.gB (Nat.le_of_lt h.lt)
theorem Wk9.kept (h : Wk9 w B g va vn vb vd vl R dp cd ci X) (hk : Kept [] w w') : Wk9 w' B g va vn vb vd vl R dp cd ci X :=
  ⟨by rw [hk.block g h.lt (by simp)]; exact h.row, h.gB, h.cil, h.a.kept hk (by simp), ⟨h.n.1.kept hk (by simp), h.n.2⟩, ⟨h.b.1.kept hk (by simp), h.b.2⟩, ⟨h.d.1.kept hk (by simp), h.d.2⟩, ⟨h.l.1.kept hk (by simp), h.l.2⟩, fun p hp => ⟨(h.x p hp).1.kept hk (by simp), (h.x p hp).2⟩⟩
theorem Wk9.fz (h : Wk9 w B g va vn vb vd vl R dp cd ci X) (k : Nat) : w.frozen? ⟨g, k, none⟩ = false := frozen_of_row _ _ _ _ _ h.row
theorem Wk9.ca (h : Wk9 w B g va vn vb vd vl R dp cd ci X) : w.cell? ⟨g, 0, none⟩ = some va := by rw [cell_of_row _ _ _ _ _ _ h.row]; rfl
theorem Wk9.cn (h : Wk9 w B g va vn vb vd vl R dp cd ci X) : w.cell? ⟨g, 1, none⟩ = some vn := by rw [cell_of_row _ _ _ _ _ _ h.row]; rfl
theorem Wk9.cb (h : Wk9 w B g va vn vb vd vl R dp cd ci X) : w.cell? ⟨g, 2, none⟩ = some vb := by rw [cell_of_row _ _ _ _ _ _ h.row]; rfl
theorem Wk9.cdd (h : Wk9 w B g va vn vb vd vl R dp cd ci X) : w.cell? ⟨g, 3, none⟩ = some vd := by rw [cell_of_row _ _ _ _ _ _ h.row]; rfl
theorem Wk9.cl (h : Wk9 w B g va vn vb vd vl R dp cd ci X) : w.cell? ⟨g, 4, none⟩ = some vl := by rw [cell_of_row _ _ _ _ _ _ h.row]; rfl
theorem Wk9.cc (h : Wk9 w B g va vn vb vd vl R dp cd ci X) : w.cell? ⟨g, 5, none⟩ = some (.int .i64 cd) := by rw [cell_of_row _ _ _ _ _ _ h.row]; rfl
theorem Wk9.cid (h : Wk9 w B g va vn vb vd vl R dp cd ci X) : w.rangeAt g 6 (bys ci) := fun j u hu => by
  rw [cell_of_row _ _ _ _ _ _ h.row]
  show (wcs va vn vb vd vl cd ci).toArray[6 + j]? = some u
  rw [List.getElem?_toArray, show 6 + j = j + 6 by omega]
  exact hu
/-- A row of ids is no Walk's block. -/
theorem ids_noWalk {v : Value} {L : List (List UInt8)} {cs : Array Value} (ho : OwnI w B v L) (hr : w.heap[g]? = some (.cells cs 77 (0, 0))) : ∀ k, v.ownBlock = some k → k ∉ [g] := fun k hk hm => by
  have : k = g := by simpa using hm
  subst this
  exact own_cell9 ho.1 hr (by decide) hk
theorem Wk9.set (h : Wk9 w B g va vn vb vd vl R dp cd ci X) (k : Nat) (v : Value) : Kept [g] w (w.setCell ⟨g, k, none⟩ v) ∧ (w.setCell ⟨g, k, none⟩ v).heap[g]? = some (.cells ((wcs va vn vb vd vl cd ci).set k v).toArray 77 (0, 0)) := by
  refine ⟨(Kept.refl [g] w).setCell (fun _ => by simp) _, ?_⟩
  rw [heap_setCell_same w _ _ _ _ _ h.row]
  simp
theorem Wk9.setN (h : Wk9 w B g va vn vb vd vl R dp cd ci X) {v : Value} {L : List (List UInt8)} (ho : OwnI w B v L) (ha : Apt va v) : Wk9 (w.setCell ⟨g, 1, none⟩ v) B g va v vb vd vl { R with need := L } dp cd ci X := by
  obtain ⟨hk, hr⟩ := h.set 1 v
  exact ⟨hr, h.gB, h.cil, h.a.kept hk (ids_noWalk h.a h.row), ⟨ho.kept hk (ids_noWalk ho h.row), ha⟩, ⟨h.b.1.kept hk (ids_noWalk h.b.1 h.row), h.b.2⟩, ⟨h.d.1.kept hk (ids_noWalk h.d.1 h.row), h.d.2⟩, ⟨h.l.1.kept hk (ids_noWalk h.l.1 h.row), h.l.2⟩, fun p hp => ⟨(h.x p hp).1.kept hk (ids_noWalk (h.x p hp).1 h.row), (h.x p hp).2⟩⟩
theorem Wk9.setB (h : Wk9 w B g va vn vb vd vl R dp cd ci X) {v : Value} {L : List (List UInt8)} (ho : OwnI w B v L) (ha : Apt va v) : Wk9 (w.setCell ⟨g, 2, none⟩ v) B g va vn v vd vl { R with bad := L } dp cd ci X := by
  obtain ⟨hk, hr⟩ := h.set 2 v
  exact ⟨hr, h.gB, h.cil, h.a.kept hk (ids_noWalk h.a h.row), ⟨h.n.1.kept hk (ids_noWalk h.n.1 h.row), h.n.2⟩, ⟨ho.kept hk (ids_noWalk ho h.row), ha⟩, ⟨h.d.1.kept hk (ids_noWalk h.d.1 h.row), h.d.2⟩, ⟨h.l.1.kept hk (ids_noWalk h.l.1 h.row), h.l.2⟩, fun p hp => ⟨(h.x p hp).1.kept hk (ids_noWalk (h.x p hp).1 h.row), (h.x p hp).2⟩⟩
theorem Wk9.setD (h : Wk9 w B g va vn vb vd vl R dp cd ci X) {v : Value} {L : List (List UInt8)} (ho : OwnI w B v L) (ha : Apt va v) : Wk9 (w.setCell ⟨g, 3, none⟩ v) B g va vn vb v vl R L cd ci X := by
  obtain ⟨hk, hr⟩ := h.set 3 v
  exact ⟨hr, h.gB, h.cil, h.a.kept hk (ids_noWalk h.a h.row), ⟨h.n.1.kept hk (ids_noWalk h.n.1 h.row), h.n.2⟩, ⟨h.b.1.kept hk (ids_noWalk h.b.1 h.row), h.b.2⟩, ⟨ho.kept hk (ids_noWalk ho h.row), ha⟩, ⟨h.l.1.kept hk (ids_noWalk h.l.1 h.row), h.l.2⟩, fun p hp => ⟨(h.x p hp).1.kept hk (ids_noWalk (h.x p hp).1 h.row), (h.x p hp).2⟩⟩
theorem Wk9.setL (h : Wk9 w B g va vn vb vd vl R dp cd ci X) {v : Value} {L : List (List UInt8)} (ho : OwnI w B v L) (ha : Apt va v) : Wk9 (w.setCell ⟨g, 4, none⟩ v) B g va vn vb vd v { R with lacks := L } dp cd ci X := by
  obtain ⟨hk, hr⟩ := h.set 4 v
  exact ⟨hr, h.gB, h.cil, h.a.kept hk (ids_noWalk h.a h.row), ⟨h.n.1.kept hk (ids_noWalk h.n.1 h.row), h.n.2⟩, ⟨h.b.1.kept hk (ids_noWalk h.b.1 h.row), h.b.2⟩, ⟨h.d.1.kept hk (ids_noWalk h.d.1 h.row), h.d.2⟩, ⟨ho.kept hk (ids_noWalk ho h.row), ha⟩, fun p hp => ⟨(h.x p hp).1.kept hk (ids_noWalk (h.x p hp).1 h.row), (h.x p hp).2⟩⟩
theorem Wk9.setC (h : Wk9 w B g va vn vb vd vl R dp cd ci X) (c : Int) : Wk9 (w.setCell ⟨g, 5, none⟩ (.int .i64 c)) B g va vn vb vd vl R dp c ci X := by
  obtain ⟨hk, hr⟩ := h.set 5 (.int .i64 c)
  exact ⟨hr, h.gB, h.cil, h.a.kept hk (ids_noWalk h.a h.row), ⟨h.n.1.kept hk (ids_noWalk h.n.1 h.row), h.n.2⟩, ⟨h.b.1.kept hk (ids_noWalk h.b.1 h.row), h.b.2⟩, ⟨h.d.1.kept hk (ids_noWalk h.d.1 h.row), h.d.2⟩, ⟨h.l.1.kept hk (ids_noWalk h.l.1 h.row), h.l.2⟩, fun p hp => ⟨(h.x p hp).1.kept hk (ids_noWalk (h.x p hp).1 h.row), (h.x p hp).2⟩⟩
/-- The block turns as a whole: another id. -/
theorem Wk9.setI (h : Wk9 w B g va vn vb vd vl R dp cd ci X) {i : List UInt8} (hi : i.length = 32) (hk : Kept [g] w w') (hr : w'.heap[g]? = some (.cells (wcs va vn vb vd vl cd i).toArray 77 (0, 0))) : Wk9 w' B g va vn vb vd vl R dp cd i X :=
  ⟨hr, h.gB, hi, h.a.kept hk (ids_noWalk h.a h.row), ⟨h.n.1.kept hk (ids_noWalk h.n.1 h.row), h.n.2⟩, ⟨h.b.1.kept hk (ids_noWalk h.b.1 h.row), h.b.2⟩, ⟨h.d.1.kept hk (ids_noWalk h.d.1 h.row), h.d.2⟩, ⟨h.l.1.kept hk (ids_noWalk h.l.1 h.row), h.l.2⟩, fun p hp => ⟨(h.x p hp).1.kept hk (ids_noWalk (h.x p hp).1 h.row), (h.x p hp).2⟩⟩
theorem own_ltI {v : Value} {L : List (List UInt8)} (ho : OwnI w B v L) (k : Nat) (hk : v.ownBlock = some k) : k < w.heap.size := by
  rcases ho.1.2 with ⟨rfl, _⟩ | ⟨g1, c1, cur1, rfl, _, hg, _⟩
  · simp [Value.ownBlock] at hk
  · simp only [Value.ownBlock, Option.some.injEq] at hk
    subst hk
    exact (Array.getElem?_eq_some_iff.1 hg).1
/-- What was asked is grown by append; then it is written down. -/
theorem Wk9.grow (h : Wk9 w B g va vn vb vd vl R dp cd ci X) {va' : Value} {L : List (List UInt8)} (ho : OwnI w' B va' L) (hk : ∀ l, (∀ k, va.ownBlock = some k → k ∈ l) → Kept l w w') (hb : ∀ k, va'.ownBlock = some k → va.ownBlock = some k ∨ w.heap.size ≤ k) : Wk9 (w'.setCell ⟨g, 0, none⟩ va') B g va' vn vb vd vl { R with asked := L } dp cd ci X := by
  have hkl : Kept va.ownBlock.toList w w' := hk _ (fun k hk => by simp [hk])
  have hgn : g ∉ va.ownBlock.toList := fun hm => ids_noWalk h.a h.row g (by simpa using hm) (by simp)
  have hrow : w'.heap[g]? = some (.cells (wcs va vn vb vd vl cd ci).toArray 77 (0, 0)) := by rw [hkl.block g h.lt hgn]; exact h.row
  have hks : Kept [g] w' (w'.setCell ⟨g, 0, none⟩ va') := (Kept.refl [g] w').setCell (fun _ => by simp) _
  have hrr : (w'.setCell ⟨g, 0, none⟩ va').heap[g]? = some (.cells ((wcs va vn vb vd vl cd ci).set 0 va').toArray 77 (0, 0)) := by
    rw [heap_setCell_same w' _ _ _ _ _ hrow]
    simp
  have key : ∀ {v : Value} {M : List (List UInt8)}, OwnI w B v M ∧ Apt va v → OwnI (w'.setCell ⟨g, 0, none⟩ va') B v M ∧ Apt va' v := fun {v M} hv => by
    have h1 : OwnI w' B v M := hv.1.kept hkl (fun k hk hm => hv.2 k (by simpa using hm) hk)
    refine ⟨h1.kept hks (ids_noWalk h1 hrow), fun k hk hvk => ?_⟩
    rcases hb k hk with h2 | h2
    · exact hv.2 k h2 hvk
    · have := own_ltI hv.1 k hvk
      omega
  exact ⟨hrr, h.gB, h.cil, ho.kept hks (ids_noWalk ho hrow), key h.n, key h.b, key h.d, key h.l, fun p hp => key (h.x p hp)⟩
/-- Another row beside it. -/
theorem Wk9.with_ (h : Wk9 w B g va vn vb vd vl R dp cd ci X) {v : Value} {L : List (List UInt8)} (ho : OwnI w B v L) (ha : Apt va v) {Y : List (Value × List (List UInt8))} (hY : ∀ p ∈ Y, p = (v, L) ∨ p ∈ X) : Wk9 w B g va vn vb vd vl R dp cd ci Y :=
  ⟨h.row, h.gB, h.cil, h.a, h.n, h.b, h.d, h.l, fun p hp => by
    rcases hY p hp with rfl | h1
    · exact ⟨ho, ha⟩
    · exact h.x p h1⟩
/-- What With answers lies apart from what was asked. -/
theorem Apt.withd {v v' : Value} {L : List (List UInt8)} (ha : Apt va v) (hA : OwnI w B va L) (hd : v' = v ∨ ∀ j, v'.ownBlock = some j → w.heap.size ≤ j) : Apt va v' := fun k hk hk' => by
  rcases hd with rfl | hd
  · exact ha k hk hk'
  · have h1 := hd k hk'
    have h2 := own_ltI hA k hk
    omega
theorem apt_nil (va : Value) : Apt va (.slice none 0 0) := fun k _ h => by simp [Value.ownBlock] at h
end

theorem setCells_rowT : ∀ (vs : List Value) (w : World) (g o : Nat) (cur : List Value) (t : TypeId), w.heap[g]? = some (.cells cur.toArray t (0, 0)) → o + vs.length ≤ cur.length →
    w.setCells g o vs = w.setRow g (cur.take o ++ (vs ++ cur.drop (o + vs.length))).toArray
  | [], w, g, o, cur, t, hg, hl => by
    simp only [World.setCells, List.nil_append, List.length_nil, Nat.add_zero, List.take_append_drop]
    cases w with
    | mk heap tape drawn os output =>
      unfold World.setRow
      congr 1
      apply Array.ext
      · simp
      · intro k h1 h2
        simp only [Array.getElem_modify]
        split
        · rename_i hk
          subst hk
          have := (Array.getElem?_eq_some_iff.1 hg).2
          simp at this
          simp [this]
        · rfl
  | v :: vs, w, g, o, cur, t, hg, hl => by
    simp only [List.length_cons] at hl
    have hs : w.setCell ⟨g, o, none⟩ v = w.setRow g (cur.set o v).toArray := by
      rw [setCell_eq_setRow w g o _ t (0, 0) v hg, List.setIfInBounds_toArray]
    have hg2 : (w.setRow g (cur.set o v).toArray).heap[g]? = some (.cells (cur.set o v).toArray t (0, 0)) := setRow_heap _ _ _ _ _ _ hg
    rw [World.setCells, hs, setCells_rowT vs _ g (o + 1) _ t hg2 (by simp; omega), setRow_setRow]
    congr 2
    apply List.ext_getElem?
    intro i
    simp only [List.length_cons, List.getElem?_append, List.length_take, List.length_set, List.getElem?_take, List.getElem?_drop, List.getElem?_set, List.getElem?_cons, List.length_append]
    by_cases h1 : i < o
    · simp [h1, show i < o + 1 by omega, show i < min (o + 1) cur.length by omega, show i < min o cur.length by omega, show o ≠ i by omega]
    · by_cases h2 : i = o
      · subst h2
        simp [show i < min (i + 1) cur.length by omega, show ¬ i < min i cur.length by omega, show min i cur.length = i by omega, show i < cur.length by omega]
      · have e1 : min (o + 1) cur.length = o + 1 := by omega
        have e2 : min o cur.length = o := by omega
        rw [e1, e2]
        simp only [show ¬ i < o + 1 by omega, show ¬ i < o by omega, if_false]
        have e3 : i - o = (i - (o + 1)) + 1 := by omega
        by_cases h3 : i - (o + 1) < vs.length
        · simp [h3, e3, show (i - (o + 1) + 1) < vs.length + 1 by omega]
        · simp [h3, e3, show ¬ (i - (o + 1) + 1) < vs.length + 1 by omega, show o ≠ o + 1 + vs.length + (i - (o + 1) - vs.length) by omega, show o + (vs.length + 1) + (i - (o + 1) - vs.length) = o + 1 + vs.length + (i - (o + 1) - vs.length) by omega]

theorem kept_setCellsT {l : List Nat} {a : World} {g : Nat} (hg : g < a.heap.size → g ∈ l) : ∀ (vs : List Value) (o : Nat) (w : World), Kept l a w → Kept l a (w.setCells g o vs)
  | [], o, w, h => h
  | v :: r, o, w, h => by
    rw [World.setCells]
    exact kept_setCellsT hg r (o + 1) _ (h.setCell hg v)

theorem there_rowT {w : World} {g : Nat} {cs : Array Value} {t : TypeId} (h : w.heap[g]? = some (.cells cs t (0, 0))) (o n : Nat) (hl : o + n ≤ cs.size) : w.there g o n := fun j hj => by
  refine ⟨?_, frozen_of_row _ _ _ _ _ h⟩
  rw [cell_of_row _ _ _ _ _ _ h]
  simp [Array.getElem?_eq_getElem (show o + j < cs.size by omega)]
theorem bys_allT (x : List UInt8) : (bys x).toArray.all (·.oneCell') = true := by
  simp [bys, Value.oneCell']
section
variable {w w' : World} {B g : Nat} {va vn vb vd vl : Value} {R : Rw} {dp : List (List UInt8)} {cd : Int} {ci : List UInt8} {X : List (Value × List (List UInt8))}
theorem Wk9.thereI (h : Wk9 w B g va vn vb vd vl R dp cd ci X) : w.there g 6 32 := there_rowT h.row 6 32 (by simp [wcs, bys_length, h.cil])
theorem Wk9.storeI (h : Wk9 w B g va vn vb vd vl R dp cd ci X) {i : List UInt8} (hi : i.length = 32) : Wk9 (w.setCells g 6 (bys i)) B g va vn vb vd vl R dp cd i X ∧ Kept [g] w (w.setCells g 6 (bys i)) := by
  have hk : Kept [g] w (w.setCells g 6 (bys i)) := kept_setCellsT (fun _ => by simp) _ _ _ (Kept.refl [g] w)
  refine ⟨h.setI hi hk ?_, hk⟩
  rw [setCells_rowT _ _ _ _ _ _ h.row (by simp [wcs, bys_length, hi, h.cil]), setRow_heap _ _ _ _ _ _ h.row]
  congr 2
  simp [wcs, bys_length, hi, h.cil]
end
/-- What a source in memory says of each id: its bytes, that it lacks, or what it is refused with. -/
structure Fnd9 (w : World) (I : List (List UInt8)) (D : List Value) (C : List Int) (f : List UInt8 → An) (cf : List UInt8 → Int) : Prop where
  data : ∀ i xs, f i = .data xs → ∃ ao c, fnd9 I D C i = (.slice ao xs.length c, 0) ∧ xs.length ≤ c ∧ xs.length ≤ 140737488355328 ∧ Sl w ao xs
  lack : ∀ i, f i = .lack → (fnd9 I D C i).2 = 93 ∨ (fnd9 I D C i).2 = 94
  fail : ∀ i, f i = .fail → (fnd9 I D C i).2 = cf i ∧ cf i ≠ 0 ∧ cf i ≠ 93 ∧ cf i ≠ 94
theorem Fnd9.kept {w w' : World} {I : List (List UInt8)} {D : List Value} {C : List Int} {f : List UInt8 → An} {cf : List UInt8 → Int} (h : Fnd9 w I D C f cf) (hk : Kept [] w w') : Fnd9 w' I D C f cf :=
  ⟨fun i xs hi => by
    obtain ⟨ao, c, h1, h2, h3, h4⟩ := h.data i xs hi
    exact ⟨ao, c, h1, h2, h3, h4.kept hk (by simp)⟩, h.lack, h.fail⟩
end Go.Proofs.YtngaimahhgmciaaGreatDoor
