import Derived.Test.YtngaimahhgmciaaGreatDoorQtas
import Derived.Test.YtngaimahhgmciaaGreatDoorQ9cs
import Derived.Test.YtngaimahhgmciaaGreatDoorQpbs
namespace Go.Proofs.YtngaimahhgmciaaGreatDoor
section
open Go.RowKit Go.Lib Go.Sort
set_option linter.unusedVariables false
set_option linter.unusedSimpArgs false
def Apt (u v : Value) : Prop := ∀ k, u.ownBlock = some k → v.ownBlock ≠ some k
def wcs (va vn vb vd vl : Value) (cd : Int) (ci : List UInt8) : List Value := va :: vn :: vb :: vd :: vl :: .int .i64 cd :: bys ci
structure Wk9 (w : World) (B g : Nat) (va vn vb vd vl : Value) (R : Rw) (dp : List (List UInt8)) (cd : Int) (ci : List UInt8) (X : List (Value × List (List UInt8))) : Prop where
 row : w.heap[g]? = some (.cells (wcs va vn vb vd vl cd ci).toArray 77 (0, 0))
 gB : B ≤ g
 cil : ci.length = 32
 a : OwnI w B va R.asked
 n : OwnI w B vn R.need ∧ Apt va vn
 b : OwnI w B vb R.bad ∧ Apt va vb
 d : OwnI w B vd dp ∧ Apt va vd
 l : OwnI w B vl R.lacks ∧ Apt va vl
 x : ∀ p ∈ X, OwnI w B p.1 p.2 ∧ Apt va p.1
section
variable {w w' : World} {B g : Nat} {va vn vb vd vl : Value} {R : Rw} {dp : List (List UInt8)} {cd : Int} {ci : List UInt8} {X : List (Value × List (List UInt8))}
theorem Wk9.lt (h : Wk9 w B g va vn vb vd vl R dp cd ci X) : g < w.heap.size := (Array.getElem?_eq_some_iff.1 h.row).1
theorem Wk9.BS (h : Wk9 w B g va vn vb vd vl R dp cd ci X) : B ≤ w.heap.size := Nat.le_trans h.gB (Nat.le_of_lt h.lt)
theorem Wk9.kept (h : Wk9 w B g va vn vb vd vl R dp cd ci X) (hk : Kept [] w w') : Wk9 w' B g va vn vb vd vl R dp cd ci X :=
 ⟨by rw [hk.block g h.lt (by simp)]; exact h.row, h.gB, h.cil, h.a.kept hk (by simp), ⟨h.n.1.kept hk (by simp), h.n.2⟩, ⟨h.b.1.kept hk (by simp), h.b.2⟩, ⟨h.d.1.kept hk (by simp), h.d.2⟩, ⟨h.l.1.kept hk (by simp), h.l.2⟩, fun p hp => ⟨(h.x p hp).1.kept hk (by simp), (h.x p hp).2⟩⟩
theorem Wk9.fz (h : Wk9 w B g va vn vb vd vl R dp cd ci X) (k : Nat) : w.frozen? ⟨g, k, none⟩ = false := frozen_of_row _ _ _ _ _ h.row
theorem Wk9.ca (h : Wk9 w B g va vn vb vd vl R dp cd ci X) : w.cell? ⟨g, 0, none⟩ = some va := by rw [cell_of_row _ _ _ _ _ _ h.row]; rfl
theorem Wk9.cn (h : Wk9 w B g va vn vb vd vl R dp cd ci X) : w.cell? ⟨g, 1, none⟩ = some vn := by rw [cell_of_row _ _ _ _ _ _ h.row]; rfl
theorem Wk9.cb (h : Wk9 w B g va vn vb vd vl R dp cd ci X) : w.cell? ⟨g, 2, none⟩ = some vb := by rw [cell_of_row _ _ _ _ _ _ h.row]; rfl
theorem Wk9.cdd (h : Wk9 w B g va vn vb vd vl R dp cd ci X) : w.cell? ⟨g, 3, none⟩ = some vd := by rw [cell_of_row _ _ _ _ _ _ h.row]; rfl
theorem Wk9.cl (h : Wk9 w B g va vn vb vd vl R dp cd ci X) : w.cell? ⟨g, 4, none⟩ = some vl := by rw [cell_of_row _ _ _ _ _ _ h.row]; rfl
theorem Wk9.cc (h : Wk9 w B g va vn vb vd vl R dp cd ci X) : w.cell? ⟨g, 5, none⟩ = some (.int .i64 cd) := by rw [cell_of_row _ _ _ _ _ _ h.row]; rfl
theorem Wk9.cid (h : Wk9 w B g va vn vb vd vl R dp cd ci X) : w.rangeAt g 6 (bys ci) := fun j u hu => by
 rw [cell_of_row _ _ _ _ _ _ h.row]
 show (wcs va vn vb vd vl cd ci).toArray[6 + j]? = some u
 rw [List.getElem?_toArray, show 6 + j = j + 6 by omega]
 exact hu
theorem ids_noWalk {v : Value} {L : List (List UInt8)} {cs : Array Value} (ho : OwnI w B v L) (hr : w.heap[g]? = some (.cells cs 77 (0, 0))) : ∀ k, v.ownBlock = some k → k ∉ [g] := fun k hk hm => by
 have : k = g := by simpa using hm
 subst this
 exact own_cell9 ho.1 hr (by decide) hk
theorem Wk9.set (h : Wk9 w B g va vn vb vd vl R dp cd ci X) (k : Nat) (v : Value) : Kept [g] w (w.setCell ⟨g, k, none⟩ v) ∧ (w.setCell ⟨g, k, none⟩ v).heap[g]? = some (.cells ((wcs va vn vb vd vl cd ci).set k v).toArray 77 (0, 0)) := by
 refine ⟨(Kept.refl [g] w).setCell (fun _ => by simp) _, ?_⟩
 rw [heap_setCell_same w _ _ _ _ _ h.row]
 simp
theorem Wk9.setN (h : Wk9 w B g va vn vb vd vl R dp cd ci X) {v : Value} {L : List (List UInt8)} (ho : OwnI w B v L) (ha : Apt va v) : Wk9 (w.setCell ⟨g, 1, none⟩ v) B g va v vb vd vl { R with need := L } dp cd ci X := by
 obtain ⟨hk, hr⟩ := h.set 1 v
 exact ⟨hr, h.gB, h.cil, h.a.kept hk (ids_noWalk h.a h.row), ⟨ho.kept hk (ids_noWalk ho h.row), ha⟩, ⟨h.b.1.kept hk (ids_noWalk h.b.1 h.row), h.b.2⟩, ⟨h.d.1.kept hk (ids_noWalk h.d.1 h.row), h.d.2⟩, ⟨h.l.1.kept hk (ids_noWalk h.l.1 h.row), h.l.2⟩, fun p hp => ⟨(h.x p hp).1.kept hk (ids_noWalk (h.x p hp).1 h.row), (h.x p hp).2⟩⟩
theorem Wk9.setB (h : Wk9 w B g va vn vb vd vl R dp cd ci X) {v : Value} {L : List (List UInt8)} (ho : OwnI w B v L) (ha : Apt va v) : Wk9 (w.setCell ⟨g, 2, none⟩ v) B g va vn v vd vl { R with bad := L } dp cd ci X := by
 obtain ⟨hk, hr⟩ := h.set 2 v
 exact ⟨hr, h.gB, h.cil, h.a.kept hk (ids_noWalk h.a h.row), ⟨h.n.1.kept hk (ids_noWalk h.n.1 h.row), h.n.2⟩, ⟨ho.kept hk (ids_noWalk ho h.row), ha⟩, ⟨h.d.1.kept hk (ids_noWalk h.d.1 h.row), h.d.2⟩, ⟨h.l.1.kept hk (ids_noWalk h.l.1 h.row), h.l.2⟩, fun p hp => ⟨(h.x p hp).1.kept hk (ids_noWalk (h.x p hp).1 h.row), (h.x p hp).2⟩⟩
theorem Wk9.setD (h : Wk9 w B g va vn vb vd vl R dp cd ci X) {v : Value} {L : List (List UInt8)} (ho : OwnI w B v L) (ha : Apt va v) : Wk9 (w.setCell ⟨g, 3, none⟩ v) B g va vn vb v vl R L cd ci X := by
 obtain ⟨hk, hr⟩ := h.set 3 v
 exact ⟨hr, h.gB, h.cil, h.a.kept hk (ids_noWalk h.a h.row), ⟨h.n.1.kept hk (ids_noWalk h.n.1 h.row), h.n.2⟩, ⟨h.b.1.kept hk (ids_noWalk h.b.1 h.row), h.b.2⟩, ⟨ho.kept hk (ids_noWalk ho h.row), ha⟩, ⟨h.l.1.kept hk (ids_noWalk h.l.1 h.row), h.l.2⟩, fun p hp => ⟨(h.x p hp).1.kept hk (ids_noWalk (h.x p hp).1 h.row), (h.x p hp).2⟩⟩
theorem Wk9.setL (h : Wk9 w B g va vn vb vd vl R dp cd ci X) {v : Value} {L : List (List UInt8)} (ho : OwnI w B v L) (ha : Apt va v) : Wk9 (w.setCell ⟨g, 4, none⟩ v) B g va vn vb vd v { R with lacks := L } dp cd ci X := by
 obtain ⟨hk, hr⟩ := h.set 4 v
 exact ⟨hr, h.gB, h.cil, h.a.kept hk (ids_noWalk h.a h.row), ⟨h.n.1.kept hk (ids_noWalk h.n.1 h.row), h.n.2⟩, ⟨h.b.1.kept hk (ids_noWalk h.b.1 h.row), h.b.2⟩, ⟨h.d.1.kept hk (ids_noWalk h.d.1 h.row), h.d.2⟩, ⟨ho.kept hk (ids_noWalk ho h.row), ha⟩, fun p hp => ⟨(h.x p hp).1.kept hk (ids_noWalk (h.x p hp).1 h.row), (h.x p hp).2⟩⟩
theorem Wk9.setC (h : Wk9 w B g va vn vb vd vl R dp cd ci X) (c : Int) : Wk9 (w.setCell ⟨g, 5, none⟩ (.int .i64 c)) B g va vn vb vd vl R dp c ci X := by
 obtain ⟨hk, hr⟩ := h.set 5 (.int .i64 c)
 exact ⟨hr, h.gB, h.cil, h.a.kept hk (ids_noWalk h.a h.row), ⟨h.n.1.kept hk (ids_noWalk h.n.1 h.row), h.n.2⟩, ⟨h.b.1.kept hk (ids_noWalk h.b.1 h.row), h.b.2⟩, ⟨h.d.1.kept hk (ids_noWalk h.d.1 h.row), h.d.2⟩, ⟨h.l.1.kept hk (ids_noWalk h.l.1 h.row), h.l.2⟩, fun p hp => ⟨(h.x p hp).1.kept hk (ids_noWalk (h.x p hp).1 h.row), (h.x p hp).2⟩⟩
theorem Wk9.setI (h : Wk9 w B g va vn vb vd vl R dp cd ci X) {i : List UInt8} (hi : i.length = 32) (hk : Kept [g] w w') (hr : w'.heap[g]? = some (.cells (wcs va vn vb vd vl cd i).toArray 77 (0, 0))) : Wk9 w' B g va vn vb vd vl R dp cd i X :=
 ⟨hr, h.gB, hi, h.a.kept hk (ids_noWalk h.a h.row), ⟨h.n.1.kept hk (ids_noWalk h.n.1 h.row), h.n.2⟩, ⟨h.b.1.kept hk (ids_noWalk h.b.1 h.row), h.b.2⟩, ⟨h.d.1.kept hk (ids_noWalk h.d.1 h.row), h.d.2⟩, ⟨h.l.1.kept hk (ids_noWalk h.l.1 h.row), h.l.2⟩, fun p hp => ⟨(h.x p hp).1.kept hk (ids_noWalk (h.x p hp).1 h.row), (h.x p hp).2⟩⟩
theorem own_ltI {v : Value} {L : List (List UInt8)} (ho : OwnI w B v L) (k : Nat) (hk : v.ownBlock = some k) : k < w.heap.size := by
 rcases ho.1.2 with ⟨rfl, _⟩ | ⟨g1, c1, cur1, rfl, _, hg, _⟩
 ·simp [Value.ownBlock] at hk
 ·simp only [Value.ownBlock, Option.some.injEq] at hk
  subst hk
  exact (Array.getElem?_eq_some_iff.1 hg).1
theorem Wk9.grow (h : Wk9 w B g va vn vb vd vl R dp cd ci X) {va' : Value} {L : List (List UInt8)} (ho : OwnI w' B va' L) (hk : ∀ l, (∀ k, va.ownBlock = some k → k ∈ l) → Kept l w w') (hb : ∀ k, va'.ownBlock = some k → va.ownBlock = some k ∨ w.heap.size ≤ k) : Wk9 (w'.setCell ⟨g, 0, none⟩ va') B g va' vn vb vd vl { R with asked := L } dp cd ci X := by
 have hkl : Kept va.ownBlock.toList w w' := hk _ (fun k hk => by simp [hk])
 have hgn : g ∉ va.ownBlock.toList := fun hm => ids_noWalk h.a h.row g (by simpa using hm) (by simp)
 have hrow : w'.heap[g]? = some (.cells (wcs va vn vb vd vl cd ci).toArray 77 (0, 0)) := by rw [hkl.block g h.lt hgn]; exact h.row
 have hks : Kept [g] w' (w'.setCell ⟨g, 0, none⟩ va') := (Kept.refl [g] w').setCell (fun _ => by simp) _
 have hrr : (w'.setCell ⟨g, 0, none⟩ va').heap[g]? = some (.cells ((wcs va vn vb vd vl cd ci).set 0 va').toArray 77 (0, 0)) := by
  rw [heap_setCell_same w' _ _ _ _ _ hrow]
  simp
 have key : ∀ {v : Value} {M : List (List UInt8)}, OwnI w B v M ∧ Apt va v → OwnI (w'.setCell ⟨g, 0, none⟩ va') B v M ∧ Apt va' v := fun {v M} hv => by
  have h1 : OwnI w' B v M := hv.1.kept hkl (fun k hk hm => hv.2 k (by simpa using hm) hk)
  refine ⟨h1.kept hks (ids_noWalk h1 hrow), fun k hk hvk => ?_⟩
  rcases hb k hk with h2 | h2
  ·exact hv.2 k h2 hvk
  ·have := own_ltI hv.1 k hvk
   omega
 exact ⟨hrr, h.gB, h.cil, ho.kept hks (ids_noWalk ho hrow), key h.n, key h.b, key h.d, key h.l, fun p hp => key (h.x p hp)⟩
theorem Wk9.with_ (h : Wk9 w B g va vn vb vd vl R dp cd ci X) {v : Value} {L : List (List UInt8)} (ho : OwnI w B v L) (ha : Apt va v) {Y : List (Value × List (List UInt8))} (hY : ∀ p ∈ Y, p = (v, L) ∨ p ∈ X) : Wk9 w B g va vn vb vd vl R dp cd ci Y :=
 ⟨h.row, h.gB, h.cil, h.a, h.n, h.b, h.d, h.l, fun p hp => by
  rcases hY p hp with rfl | h1
  ·exact ⟨ho, ha⟩
  ·exact h.x p h1⟩
theorem Apt.withd {v v' : Value} {L : List (List UInt8)} (ha : Apt va v) (hA : OwnI w B va L) (hd : v' = v ∨ ∀ j, v'.ownBlock = some j → w.heap.size ≤ j) : Apt va v' := fun k hk hk' => by
 rcases hd with rfl | hd
 ·exact ha k hk hk'
 ·have h1 := hd k hk'
  have h2 := own_ltI hA k hk
  omega
theorem apt_nil (va : Value) : Apt va (.slice none 0 0) := fun k _ h => by simp [Value.ownBlock] at h
end
theorem setCells_rowT : ∀ (vs : List Value) (w : World) (g o : Nat) (cur : List Value) (t : TypeId), w.heap[g]? = some (.cells cur.toArray t (0, 0)) → o + vs.length ≤ cur.length →
  w.setCells g o vs = w.setRow g (cur.take o ++ (vs ++ cur.drop (o + vs.length))).toArray
 | [], w, g, o, cur, t, hg, hl => by
  simp only [World.setCells, List.nil_append, List.length_nil, Nat.add_zero, List.take_append_drop]
  cases w with
  | mk heap tape drawn os output =>
   unfold World.setRow
   congr 1
   apply Array.ext
   ·simp
   ·intro k h1 h2
    simp only [Array.getElem_modify]
    split
    ·rename_i hk
     subst hk
     have := (Array.getElem?_eq_some_iff.1 hg).2
     simp at this
     simp [this]
    ·rfl
 | v :: vs, w, g, o, cur, t, hg, hl => by
  simp only [List.length_cons] at hl
  have hs : w.setCell ⟨g, o, none⟩ v = w.setRow g (cur.set o v).toArray := by
   rw [setCell_eq_setRow w g o _ t (0, 0) v hg, List.setIfInBounds_toArray]
  have hg2 : (w.setRow g (cur.set o v).toArray).heap[g]? = some (.cells (cur.set o v).toArray t (0, 0)) := setRow_heap _ _ _ _ _ _ hg
  rw [World.setCells, hs, setCells_rowT vs _ g (o + 1) _ t hg2 (by simp; omega), setRow_setRow]
  congr 2
  apply List.ext_getElem?
  intro i
  simp only [List.length_cons, List.getElem?_append, List.length_take, List.length_set, List.getElem?_take, List.getElem?_drop, List.getElem?_set, List.getElem?_cons, List.length_append]
  by_cases h1 : i < o
  ·simp [h1, show i < o + 1 by omega, show i < min (o + 1) cur.length by omega, show i < min o cur.length by omega, show o ≠ i by omega]
  ·by_cases h2 : i = o
   ·subst h2
    simp [show i < min (i + 1) cur.length by omega, show ¬ i < min i cur.length by omega, show min i cur.length = i by omega, show i < cur.length by omega]
   ·have e1 : min (o + 1) cur.length = o + 1 := by omega
    have e2 : min o cur.length = o := by omega
    rw [e1, e2]
    simp only [show ¬ i < o + 1 by omega, show ¬ i < o by omega, if_false]
    have e3 : i - o = (i - (o + 1)) + 1 := by omega
    by_cases h3 : i - (o + 1) < vs.length
    ·simp [h3, e3, show (i - (o + 1) + 1) < vs.length + 1 by omega]
    ·simp [h3, e3, show ¬ (i - (o + 1) + 1) < vs.length + 1 by omega, show o ≠ o + 1 + vs.length + (i - (o + 1) - vs.length) by omega, show o + (vs.length + 1) + (i - (o + 1) - vs.length) = o + 1 + vs.length + (i - (o + 1) - vs.length) by omega]
theorem kept_setCellsT {l : List Nat} {a : World} {g : Nat} (hg : g < a.heap.size → g ∈ l) : ∀ (vs : List Value) (o : Nat) (w : World), Kept l a w → Kept l a (w.setCells g o vs)
 | [], o, w, h => h
 | v :: r, o, w, h => by
  rw [World.setCells]
  exact kept_setCellsT hg r (o + 1) _ (h.setCell hg v)
theorem there_rowT {w : World} {g : Nat} {cs : Array Value} {t : TypeId} (h : w.heap[g]? = some (.cells cs t (0, 0))) (o n : Nat) (hl : o + n ≤ cs.size) : w.there g o n := fun j hj => by
 refine ⟨?_, frozen_of_row _ _ _ _ _ h⟩
 rw [cell_of_row _ _ _ _ _ _ h]
 simp [Array.getElem?_eq_getElem (show o + j < cs.size by omega)]
theorem bys_allT (x : List UInt8) : (bys x).toArray.all (·.oneCell') = true := by
 simp [bys, Value.oneCell']
section
variable {w w' : World} {B g : Nat} {va vn vb vd vl : Value} {R : Rw} {dp : List (List UInt8)} {cd : Int} {ci : List UInt8} {X : List (Value × List (List UInt8))}
theorem Wk9.thereI (h : Wk9 w B g va vn vb vd vl R dp cd ci X) : w.there g 6 32 := there_rowT h.row 6 32 (by simp [wcs, bys_length, h.cil])
theorem Wk9.storeI (h : Wk9 w B g va vn vb vd vl R dp cd ci X) {i : List UInt8} (hi : i.length = 32) : Wk9 (w.setCells g 6 (bys i)) B g va vn vb vd vl R dp cd i X ∧ Kept [g] w (w.setCells g 6 (bys i)) := by
 have hk : Kept [g] w (w.setCells g 6 (bys i)) := kept_setCellsT (fun _ => by simp) _ _ _ (Kept.refl [g] w)
 refine ⟨h.setI hi hk ?_, hk⟩
 rw [setCells_rowT _ _ _ _ _ _ h.row (by simp [wcs, bys_length, hi, h.cil]), setRow_heap _ _ _ _ _ _ h.row]
 congr 2
 simp [wcs, bys_length, hi, h.cil]
end
structure Fnd9 (w : World) (I : List (List UInt8)) (D : List Value) (C : List Int) (f : List UInt8 → An) (cf : List UInt8 → Int) : Prop where
 data : ∀ i xs, f i = .data xs → ∃ ao c, fnd9 I D C i = (.slice ao xs.length c, 0) ∧ xs.length ≤ c ∧ xs.length ≤ 140737488355328 ∧ Sl w ao xs
 lack : ∀ i, f i = .lack → (fnd9 I D C i).2 = 93 ∨ (fnd9 I D C i).2 = 94
 fail : ∀ i, f i = .fail → (fnd9 I D C i).2 = cf i ∧ cf i ≠ 0 ∧ cf i ≠ 93 ∧ cf i ≠ 94
theorem Fnd9.kept {w w' : World} {I : List (List UInt8)} {D : List Value} {C : List Int} {f : List UInt8 → An} {cf : List UInt8 → Int} (h : Fnd9 w I D C f cf) (hk : Kept [] w w') : Fnd9 w' I D C f cf :=
 ⟨fun i xs hi => by
  obtain ⟨ao, c, h1, h2, h3, h4⟩ := h.data i xs hi
  exact ⟨ao, c, h1, h2, h3, h4.kept hk (by simp)⟩, h.lack, h.fail⟩
end

section
open Go.RowKit Go.Lib Go.Sort
set_option linter.unusedVariables false
set_option linter.unusedSimpArgs false
set_option maxHeartbeats 6400000 in
set_option maxRecDepth 100000 in
theorem ask9_ok {w0 w : World} {g : Nat} {va vn vb vd vl : Value} {R : Rw} {dp : List (List UInt8)} {cd : Int} {ci : List UInt8} {X : List (Value × List (List UInt8))} (hW : Wk9 w w0.heap.size g va vn vb vd vl R dp cd ci X) (hK : Kept [] w0 w)
  {si sd sc : Value} {I : List (List UInt8)} {D : List Value} {C : List Int} {f : List UInt8 → An} {cf : List UInt8 → Int} (hS : Sr9 w0 si sd sc I D C) (hF : Fnd9 w0 I D C f cf) (i : List UInt8) (hi : i.length = 32) (huL : Up R.lacks) (ha : (R.asked.length + 1) * 32 ≤ 140737488355328) (hl : (R.lacks.length + 2) * 32 ≤ 140737488355328) (hn : I.length ≤ 4611686018427387904) :
  Calls Tryz.prog 43 #[.pointer (some ⟨g, 0, none⟩), .agg #[si, sd, sc], .agg (bys i).toArray] w fun e w' => e = .returned (.bool (R.ask f i).1) ∧ Kept [] w0 w' ∧ ∃ va' vl' cd' ci', Wk9 w' w0.heap.size g va' vn vb vd vl' (R.ask f i).2 dp cd' ci' X ∧ (((R.ask f i).1 = true ∧ cd' = cd ∧ ci' = ci) ∨ ((R.ask f i).1 = false ∧ cd' = cf i ∧ ci' = i)) := by
 obtain ⟨aa, ac, ea, _⟩ := own_shape hW.a.1
 obtain ⟨nA, hAl⟩ : ∃ n, R.asked.length = n := ⟨_, rfl⟩
 rw [hAl] at ea
 subst ea
 have hnA : nA ≤ 4611686018427387904 := by rw [← hAl]; omega
 have HAL := hide hAl
 clear hAl
 obtain ⟨S, hSS⟩ : ∃ r, r = w.heap.size := ⟨_, rfl⟩
 obtain ⟨G, hG⟩ : ∃ r, r = w.heap.size + 1 := ⟨_, rfl⟩
 have h1 := heap_alloc2_old w (.cells #[si, sd, sc] 39) (.cells (bys i).toArray 25)
 have h2 := heap_alloc2_new w (.cells #[si, sd, sc] 39) (.cells (bys i).toArray 25)
 have hk0 : Kept [] w ((w.alloc (.cells #[si, sd, sc] 39)).alloc (.cells (bys i).toArray 25)) := ((Kept.refl [] w).alloc _).alloc _
 rw [← hSS] at h1
 rw [← hG] at h2
 have HSG : Hid (S ≠ g ∧ G ≠ g ∧ (∀ k, (Value.slice aa nA ac).ownBlock = some k → k ≠ S) ∧ (∀ k, (Value.slice aa nA ac).ownBlock = some k → k ≠ G)) := hide (by
  have l1 := hW.lt
  refine ⟨by omega, by omega, fun k hk => ?_, fun k hk => ?_⟩
  ·have := own_ltI hW.a k hk; omega
  ·have := own_ltI hW.a k hk; omega)
 have HW0 := hide (And.intro (hK.trans hk0 (by simp)) (And.intro (hW.kept hk0) (And.intro h1 h2)))
 have HS := hide hS
 have HF := hide hF
 have hil := idl i hi
 have hial : (Tryz.prog.info? 39).map (·.size) = some [si, sd, sc].length := Tryz.infoSr9
 clear hS hF hk0 h1 h2 hW hK
 go_enter Tryz.func43, Tryz.ntmps43
 go_upto_region 1 with (fail)
 rw [← hG, ← hSS]
 clear hG hSS
 generalize (w.alloc _).alloc _ = w1 at HW0 ⊢
 have HK := hide HW0.out.1
 have HW := hide HW0.out.2.1
 have HR := hide HW0.out.2.2
 clear HW0
 have cA := HW.out.ca
 have hri : w1.rangeAt G 0 (bys i) := row_rangeK HR.out.2
 by_cases hin : i ∈ R.asked
 ·as_aux_lemma =>
  have hhas := fun W (hW : Kept [] w1 W) => has9_ok aa nA ac R.asked i W HAL.out ((HW.out.kept hW).a.ids.1) hi hnA
  rw [decide_eq_true hin] at hhas
  go_upto_region 1 with (fail)
  refine wp_region_held_drew (S := fun w' => Kept [] w1 w') (by kernel_rfl) ((Kept.refl [] w1).drew) (fun h0 => ?_)
  generalize World.drew w1 = v0 at h0  ⊢
  refine wpAnyH_take (i := 0) (v := .pointer (some ⟨g, 0, none⟩)) rfl (by kernel_rfl) (by kernel_rfl) (by kernel_rfl) (fun _ _ _ h => h) (Or.inl ⟨by rfl, fun w hSw => by go_simp⟩) h0 ?_
  try simp only [zk1, zk2, zk3, zk4, zk5, zk6, zk7, zk8]
  refine wpAnyH_take (i := 1) (v := .pointer (some ⟨g, 0, none⟩)) rfl (by kernel_rfl) (by kernel_rfl) (by kernel_rfl) (fun _ _ _ h => h) (Or.inl ⟨by rfl, fun w hSw => by go_simp⟩) h0 ?_
  try simp only [zk1, zk2, zk3, zk4, zk5, zk6, zk7, zk8]
  refine wpAnyH_take (i := 2) (v := .pointer (some ⟨g, 0, none⟩)) rfl (by kernel_rfl) (by kernel_rfl) (by kernel_rfl) (fun _ _ _ h => h) (Or.inl ⟨by rfl, fun w hSw => by go_simp⟩) h0 ?_
  try simp only [zk1, zk2, zk3, zk4, zk5, zk6, zk7, zk8]
  refine wpAnyH_take (i := 3) (v := .slice aa nA ac) rfl (by kernel_rfl) (by kernel_rfl) (by kernel_rfl) (fun _ _ _ h => h) (Or.inl ⟨by rfl, fun w hSw => by have c0 := hSw.cellOf cA (by simp); go_simp⟩) h0 ?_
  try simp only [zk1, zk2, zk3, zk4, zk5, zk6, zk7, zk8]
  refine wpAnyH_take (i := 4) (v := .agg (bys i).toArray) rfl (by kernel_rfl) (by kernel_rfl) (by kernel_rfl) (fun _ _ _ h => h) (yieldsIf_load_mid (by rfl) _ _ rfl G (0) rfl (bys i) _ (fun W h => fun jj u hu => Kept.cellOf h (hri jj u hu) (by simp)) Tryz.underlying25 rfl hil) h0 ?_
  try simp only [zk1, zk2, zk3, zk4, zk5, zk6, zk7, zk8]
  refine wpAnyH_ready (rs := [5]) (by kernel_rfl) (by simp) (AllReadyH.cons (i := 5) rfl (fun K hK => ?_) AllReadyH.nil)
  rw [if_pos (by rfl)]
  go_simp
  refine (hhas v0 h0).mono ?_
  rintro e v1 ⟨rfl, hq9⟩
  refine hK.out _ _ (h0.trans hq9 (by simp)) (fun h1 => ?_)
  clear hK K
  try simp only [zk1, zk2, zk3, zk4, zk5, zk6, zk7, zk8]
  refine wpAnyH_done (by kernel_rfl) ?_ _
  have HKF := hide (HK.out.trans h1 (by simp))
  have HWF := hide (HW.out.kept h1)
  have HE : Hid (R.ask f i = (true, R)) := hide (by unfold Rw.ask; rw [if_pos hin])
  clear h0 h1 hhas hri cA hq9 hin
  go_wp2
  go_ret
  exact ⟨by rw [HE.out]; rfl, HKF.out, _, _, _, _, by rw [HE.out]; exact HWF.out, .inl ⟨by rw [HE.out], rfl, rfl⟩⟩
 ·skip
  have hhas := fun W (hW : Kept [] w1 W) => has9_ok aa nA ac R.asked i W HAL.out ((HW.out.kept hW).a.ids.1) hi hnA
  rw [decide_eq_false hin] at hhas
  go_upto_region 1 with (fail)
  refine wp_region_held_drew (S := fun w' => Kept [] w1 w') (by kernel_rfl) ((Kept.refl [] w1).drew) (fun h0 => ?_)
  generalize World.drew w1 = v0 at h0  ⊢
  refine wpAnyH_take (i := 0) (v := .pointer (some ⟨g, 0, none⟩)) rfl (by kernel_rfl) (by kernel_rfl) (by kernel_rfl) (fun _ _ _ h => h) (Or.inl ⟨by rfl, fun w hSw => by go_simp⟩) h0 ?_
  try simp only [zk1, zk2, zk3, zk4, zk5, zk6, zk7, zk8]
  refine wpAnyH_take (i := 1) (v := .pointer (some ⟨g, 0, none⟩)) rfl (by kernel_rfl) (by kernel_rfl) (by kernel_rfl) (fun _ _ _ h => h) (Or.inl ⟨by rfl, fun w hSw => by go_simp⟩) h0 ?_
  try simp only [zk1, zk2, zk3, zk4, zk5, zk6, zk7, zk8]
  refine wpAnyH_take (i := 2) (v := .pointer (some ⟨g, 0, none⟩)) rfl (by kernel_rfl) (by kernel_rfl) (by kernel_rfl) (fun _ _ _ h => h) (Or.inl ⟨by rfl, fun w hSw => by go_simp⟩) h0 ?_
  try simp only [zk1, zk2, zk3, zk4, zk5, zk6, zk7, zk8]
  refine wpAnyH_take (i := 3) (v := .slice aa nA ac) rfl (by kernel_rfl) (by kernel_rfl) (by kernel_rfl) (fun _ _ _ h => h) (Or.inl ⟨by rfl, fun w hSw => by have c0 := hSw.cellOf cA (by simp); go_simp⟩) h0 ?_
  try simp only [zk1, zk2, zk3, zk4, zk5, zk6, zk7, zk8]
  refine wpAnyH_take (i := 4) (v := .agg (bys i).toArray) rfl (by kernel_rfl) (by kernel_rfl) (by kernel_rfl) (fun _ _ _ h => h) (yieldsIf_load_mid (by rfl) _ _ rfl G (0) rfl (bys i) _ (fun W h => fun jj u hu => Kept.cellOf h (hri jj u hu) (by simp)) Tryz.underlying25 rfl hil) h0 ?_
  try simp only [zk1, zk2, zk3, zk4, zk5, zk6, zk7, zk8]
  refine wpAnyH_ready (rs := [5]) (by kernel_rfl) (by simp) (AllReadyH.cons (i := 5) rfl (fun K hK => ?_) AllReadyH.nil)
  rw [if_pos (by rfl)]
  go_simp
  refine (hhas v0 h0).mono ?_
  rintro e v1 ⟨rfl, hq9⟩
  refine hK.out _ _ (h0.trans hq9 (by simp)) (fun h1 => ?_)
  clear hK K
  try simp only [zk1, zk2, zk3, zk4, zk5, zk6, zk7, zk8]
  refine wpAnyH_done (by kernel_rfl) ?_ _
  have HK1 := hide (HK.out.trans h1 (by simp))
  have HW1 := hide (HW.out.kept h1)
  have HRB := hide (And.intro ((h1.block S (Array.getElem?_eq_some_iff.1 HR.out.1).1 (by simp)).trans HR.out.1) ((h1.block G (Array.getElem?_eq_some_iff.1 HR.out.2).1 (by simp)).trans HR.out.2))
  clear h0 hhas hri cA hq9 h1
  go_upto_region 3 with (fail)
  have cA := HW1.out.ca
  have hri : v1.rangeAt G 0 (bys i) := row_rangeK HRB.out.2
  refine wp_region_late (fun w' => Kept [] v1 w') (fun i => i == 7 || i == 10) (by kernel_rfl) ?_
  have h0 : Kept [] v1 v1.drew := (Kept.refl [] v1).drew
  generalize World.drew v1 = v0 at h0 ⊢
  refine wpAnyL_free (i := 0) (v := .pointer (some ⟨g, 0, none⟩)) rfl (by kernel_rfl) (by kernel_rfl) (by kernel_rfl) (fun _ _ _ h => h) (Or.inl ⟨by rfl, fun w _ => by go_simp⟩) ?_
  try simp only [zk1, zk2, zk3, zk4, zk5, zk6, zk7, zk8]
  refine wpAnyL_free (i := 1) (v := .pointer (some ⟨g, 0, none⟩)) rfl (by kernel_rfl) (by kernel_rfl) (by kernel_rfl) (fun _ _ _ h => h) (Or.inl ⟨by rfl, fun w _ => by go_simp⟩) ?_
  try simp only [zk1, zk2, zk3, zk4, zk5, zk6, zk7, zk8]
  refine wpAnyL_free (i := 2) (v := .pointer (some ⟨g, 0, none⟩)) rfl (by kernel_rfl) (by kernel_rfl) (by kernel_rfl) (fun _ _ _ h => h) (Or.inl ⟨by rfl, fun w _ => by go_simp⟩) ?_
  try simp only [zk1, zk2, zk3, zk4, zk5, zk6, zk7, zk8]
  refine wpAnyL_free (i := 3) (v := .pointer (some ⟨g, 0, none⟩)) rfl (by kernel_rfl) (by kernel_rfl) (by kernel_rfl) (fun _ _ _ h => h) (Or.inl ⟨by rfl, fun w _ => by go_simp⟩) ?_
  try simp only [zk1, zk2, zk3, zk4, zk5, zk6, zk7, zk8]
  refine wpAnyL_take (i := 4) (v := .slice aa nA ac) rfl (by kernel_rfl) (by kernel_rfl) (by kernel_rfl) (by kernel_rfl) (by kernel_rfl) (fun _ _ _ h => h) (Or.inl ⟨by rfl, fun w hSw => by have c := Kept.cellOf hSw cA (by simp); go_simp⟩) h0 ?_
  try simp only [zk1, zk2, zk3, zk4, zk5, zk6, zk7, zk8]
  refine wpAnyL_take (i := 5) (v := .agg (bys i).toArray) rfl (by kernel_rfl) (by kernel_rfl) (by kernel_rfl) (by kernel_rfl) (by kernel_rfl) (fun _ _ _ h => h) (yieldsIf_load_mid (by rfl) _ _ rfl G (0) rfl (bys i) _ (fun W h => fun jj u hu => Kept.cellOf h (hri jj u hu) (by simp)) Tryz.underlying25 rfl hil) h0 ?_
  try simp only [zk1, zk2, zk3, zk4, zk5, zk6, zk7, zk8]
  have hV0 := HW1.out.kept h0
  have hk0 : Kept [] v0 (v0.alloc (.cells (bys i).toArray 25)) := (Kept.refl [] v0).alloc _
  obtain ⟨va', w3, hrun, hown, hkeep, hblk⟩ := run_appI (hV0.a.kept hk0 (fun _ _ => by simp)) (Nat.le_trans hV0.BS hk0.size) i hi v0.heap.size (new_atK _ _) ha
  obtain ⟨a', c', e', _⟩ := own_shape hown.1
  obtain ⟨n', hn'⟩ : ∃ n, (R.asked ++ [i]).length = n := ⟨_, rfl⟩
  rw [hn'] at e'
  clear hn'
  subst e'
  have hgn : Kept (Value.slice aa nA ac).ownBlock.toList (v0.alloc (.cells (bys i).toArray 25)) w3 := hkeep _ (fun k hk => by simp [hk])
  have hgnot : g ∉ (Value.slice aa nA ac).ownBlock.toList := fun hm => ids_noWalk hV0.a hV0.row g (by simpa using hm) (by simp)
  have hcs : w3.cell? ⟨g, 0, none⟩ = some (.slice aa nA ac) := hgn.cellOf (hk0.cellOf hV0.ca (by simp)) hgnot
  have hrow3 : w3.heap[g]? = _ := (hgn.block g (hV0.kept hk0).lt hgnot).trans (hV0.kept hk0).row
  have hfz : w3.frozen? ⟨g, 0, none⟩ = false := frozen_of_row _ _ _ _ _ hrow3
  refine wpAnyL_one (i := 6) (by kernel_rfl) rfl (fun K' hK => ?_)
  rw [if_pos (by rfl)]
  refine wp_buildI (.tmp 20) rfl i rfl hi ?_
  refine hK.out _ _ (fun _ _ => h0.alloc _) ?_
  clear hK K'
  try simp only [zk1, zk2, zk3, zk4, zk5, zk6, zk7, zk8]
  refine wpAnyL_one (i := 7) (by kernel_rfl) rfl (fun K' hK => ?_)
  rw [if_pos (by rfl)]
  refine wp_append_run (.tmp 19) (.tmp 21) 35 35 rfl (.slice aa nA ac) (.slice (some ⟨v0.heap.size, 0, none⟩) 1 1) rfl rfl _ _ hrun ?_
  refine hK.out _ _ (fun _ h => by cases h) ?_
  clear hK K' hrun
  try simp only [zk1, zk2, zk3, zk4, zk5, zk6, zk7, zk8]
  refine wpAnyL_free (i := 8) (v := .pointer (some ⟨g, 0, none⟩)) rfl (by kernel_rfl) (by kernel_rfl) (by kernel_rfl) (fun _ _ _ h => h) (Or.inl ⟨by rfl, fun w _ => by go_simp⟩) ?_
  try simp only [zk1, zk2, zk3, zk4, zk5, zk6, zk7, zk8]
  refine wpAnyL_free (i := 9) (v := .pointer (some ⟨g, 0, none⟩)) rfl (by kernel_rfl) (by kernel_rfl) (by kernel_rfl) (fun _ _ _ h => h) (Or.inl ⟨by rfl, fun w _ => by go_simp⟩) ?_
  try simp only [zk1, zk2, zk3, zk4, zk5, zk6, zk7, zk8]
  refine wpAnyL_one (i := 10) (by kernel_rfl) rfl (fun K' hK => ?_)
  rw [if_pos (by rfl)]
  go_simp
  refine hK.out _ _ (fun _ h => by cases h) ?_
  clear hK K'
  try simp only [zk1, zk2, zk3, zk4, zk5, zk6, zk7, zk8]
  refine wpAnyL_done (by kernel_rfl) ?_ _
  have hgr := (hV0.kept hk0).grow hown hkeep hblk
  obtain ⟨w5, hw5⟩ : ∃ r, w3.setCell ⟨g, 0, none⟩ (.slice a' n' c') = r := ⟨_, rfl⟩
  rw [hw5] at hgr ⊢
  have hks : Kept [g] w3 w5 := by rw [← hw5]; exact (Kept.refl [g] w3).setCell (fun _ => by simp) _
  have hBg : w0.heap.size ≤ g := hV0.gB
  have hBa : ∀ k, (Value.slice aa nA ac).ownBlock = some k → w0.heap.size ≤ k := fun k hk => own_far9 hV0.a.1 k hk
  have hother : ∀ k (o : Obj), v1.heap[k]? = some o → k ≠ g → (Value.slice aa nA ac).ownBlock ≠ some k → w5.heap[k]? = some o := fun k o hk h1 h2 => by
   have hlt := (Array.getElem?_eq_some_iff.1 hk).1
   have e1 : v0.heap[k]? = some o := (h0.block k hlt (by simp)).trans hk
   have e2 := (hk0.block k (Array.getElem?_eq_some_iff.1 e1).1 (by simp)).trans e1
   have e3 := (hgn.block k (Array.getElem?_eq_some_iff.1 e2).1 (by simpa using h2)).trans e2
   exact (hks.block k (Array.getElem?_eq_some_iff.1 e3).1 (by simpa using h1)).trans e3
  have hS5 : w5.heap[S]? = some (.cells #[si, sd, sc] 39) := hother S _ HRB.out.1 HSG.out.1 (fun h => HSG.out.2.2.1 _ h rfl)
  have hG5 : w5.heap[G]? = some (.cells (bys i).toArray 25) := hother G _ HRB.out.2 HSG.out.2.1 (fun h => HSG.out.2.2.2 _ h rfl)
  have HK5 : Hid (Kept [] w0 w5) := hide ((((HK1.out.trans h0 (by simp)).trans hk0 (by simp)).trans hgn (fun j hj hlt => by have := hBa j (by simpa using hj); omega)).trans hks (fun j hj hlt => by have : j = g := (by simpa using hj); omega))
  have HW5 := hide hgr
  have HRC := hide (And.intro hS5 hG5)
  clear hw5 hks hBg hBa hother hgr hgn hgnot hcs hrow3 hfz hown hkeep hblk hk0 hV0 h0 hS5 hG5 cA hri HW1 HK1 HRB HW HR
  have hfind := find9_ok si sd sc I D C i w5 (HS.out.kept HK5.out) hi hn
  have hrowS : w5.rangeAt S 0 [si, sd, sc] := row_rangeK HRC.out.1
  have hri5 : w5.rangeAt G 0 (bys i) := row_rangeK HRC.out.2
  cases hfi : f i with
  | data xs =>
   as_aux_lemma =>
   obtain ⟨ao, c, hfe, _, _, _⟩ := HF.out.data i xs hfi
   rw [hfe] at hfind
   have HE : Hid (R.ask f i = (true, { R with asked := R.asked ++ [i] })) := hide (by unfold Rw.ask; rw [if_neg hin]; simp only [hfi])
   clear hfe hfi hin
   go_upto_region 5 with (first
    | refine wpList_load_mid rfl 39 (.tmp 4) rfl S 0 rfl [si, sd, sc] _ hrowS Tryz.underlying39 rfl hial ?_
    | refine wpList_load_mid rfl 25 (.tmp 5) rfl G 0 rfl (bys i) _ hri5 Tryz.underlying25 rfl hil ?_
    | (go_at_call 17; refine hfind.mono ?_; rintro e w6 ⟨rfl, hk6⟩; have HK6 := hide (HK5.out.trans hk6 (by simp)); have HW6 := hide (HW5.out.kept hk6); have HG6 := hide ((hk6.block G (Array.getElem?_eq_some_iff.1 HRC.out.2).1 (by simp)).trans HRC.out.2); clear hfind hk6 hrowS hri5))
   clear HW5 HK5 HRC
   go_wp2
   go_ret
   exact ⟨by rw [HE.out]; rfl, HK6.out, _, _, _, _, by rw [HE.out]; exact HW6.out, .inl ⟨by rw [HE.out], rfl, rfl⟩⟩
  | lack =>
   as_aux_lemma =>
   have HE : Hid (R.ask f i = (true, { R with asked := R.asked ++ [i], lacks := wth R.lacks i })) := hide (by unfold Rw.ask; rw [if_neg hin]; simp only [hfi])
   obtain ⟨fv, fc, hfe⟩ : ∃ fv fc, fnd9 I D C i = (fv, fc) := ⟨_, _, rfl⟩
   have hfc := HF.out.lack i hfi
   rw [hfe] at hfind hfc
   obtain ⟨al, cl, el, _⟩ := own_shape HW5.out.l.1.1
   obtain ⟨nL, hnL⟩ : ∃ n, R.lacks.length = n := ⟨_, rfl⟩
   rw [hnL] at el
   subst el
   have HNL := hide hnL
   clear hfe hfi hin hnL
   rcases hfc with hfc | hfc
   ·cases hfc
    go_upto_region 5 with (first
     | refine wpList_load_mid rfl 39 (.tmp 4) rfl S 0 rfl [si, sd, sc] _ hrowS Tryz.underlying39 rfl hial ?_
     | refine wpList_load_mid rfl 25 (.tmp 5) rfl G 0 rfl (bys i) _ hri5 Tryz.underlying25 rfl hil ?_
     | (go_at_call 17; refine hfind.mono ?_; rintro e w6 ⟨rfl, hk6⟩; have HK6 := hide (HK5.out.trans hk6 (by simp)); have HW6 := hide (HW5.out.kept hk6); have HG6 := hide ((hk6.block G (Array.getElem?_eq_some_iff.1 HRC.out.2).1 (by simp)).trans HRC.out.2); clear hfind hk6 hrowS hri5))
    clear HW5 HK5 HRC
    go_upto_region 12 with (fail)
    obtain ⟨w5, hw5⟩ : ∃ r, r = w6 := ⟨_, rfl⟩
    rw [← hw5] at HK6 HW6 HG6 ⊢
    clear hw5
    have HW5 := HW6
    have cL := HW5.out.cl
    have hri5 : w5.rangeAt G 0 (bys i) := row_rangeK HG6.out
    have hwith := fun W (hW : Kept [] w5 W) => with9b_ok w0.heap.size al nL cl R.lacks i W ((HW5.out.kept hW).l.1) (HW5.out.kept hW).BS huL hi hl
    refine wp_region_late (fun w' => Kept [] w5 w') (fun i => i == 9) (by kernel_rfl) ?_
    have h0 : Kept [] w5 w5.drew := (Kept.refl [] w5).drew
    generalize World.drew w5 = v0 at h0 ⊢
    refine wpAnyL_free (i := 0) (v := .pointer (some ⟨g, 0, none⟩)) rfl (by kernel_rfl) (by kernel_rfl) (by kernel_rfl) (fun _ _ _ h => h) (Or.inl ⟨by rfl, fun w _ => by go_simp⟩) ?_
    try simp only [zk1, zk2, zk3, zk4, zk5, zk6, zk7, zk8]
    refine wpAnyL_free (i := 1) (v := .pointer (some ⟨g, 0, none⟩)) rfl (by kernel_rfl) (by kernel_rfl) (by kernel_rfl) (fun _ _ _ h => h) (Or.inl ⟨by rfl, fun w _ => by go_simp⟩) ?_
    try simp only [zk1, zk2, zk3, zk4, zk5, zk6, zk7, zk8]
    refine wpAnyL_free (i := 2) (v := .pointer (some ⟨g, 0, none⟩)) rfl (by kernel_rfl) (by kernel_rfl) (by kernel_rfl) (fun _ _ _ h => h) (Or.inl ⟨by rfl, fun w _ => by go_simp⟩) ?_
    try simp only [zk1, zk2, zk3, zk4, zk5, zk6, zk7, zk8]
    refine wpAnyL_free (i := 3) (v := .pointer (some ⟨g, 4, none⟩)) rfl (by kernel_rfl) (by kernel_rfl) (by kernel_rfl) (fun _ _ _ h => h) (Or.inl ⟨by rfl, fun w _ => by go_simp⟩) ?_
    try simp only [zk1, zk2, zk3, zk4, zk5, zk6, zk7, zk8]
    refine wpAnyL_take (i := 4) (v := .slice al nL cl) rfl (by kernel_rfl) (by kernel_rfl) (by kernel_rfl) (by kernel_rfl) (by kernel_rfl) (fun _ _ _ h => h) (Or.inl ⟨by rfl, fun w hSw => by have c := Kept.cellOf hSw cL (by simp); go_simp⟩) h0 ?_
    try simp only [zk1, zk2, zk3, zk4, zk5, zk6, zk7, zk8]
    refine wpAnyL_take (i := 5) (v := .agg (bys i).toArray) rfl (by kernel_rfl) (by kernel_rfl) (by kernel_rfl) (by kernel_rfl) (by kernel_rfl) (fun _ _ _ h => h) (yieldsIf_load_mid (by rfl) _ _ rfl G (0) rfl (bys i) _ (fun W h => fun jj u hu => Kept.cellOf h (hri5 jj u hu) (by simp)) Tryz.underlying25 rfl hil) h0 ?_
    try simp only [zk1, zk2, zk3, zk4, zk5, zk6, zk7, zk8]
    refine wpAnyL_one (i := 6) (by kernel_rfl) rfl (fun K' hK => ?_)
    rw [if_pos (by rfl)]
    go_simp
    refine (hwith v0 h0).mono ?_
    rintro e w7 ⟨vl', rfl, hol, hk6, hor⟩
    obtain ⟨a', c', e', _⟩ := own_shape hol.1
    obtain ⟨n', hn'⟩ : ∃ n, (wth R.lacks i).length = n := ⟨_, rfl⟩
    rw [hn'] at e'
    clear hn'
    subst e'
    have hcs : w7.cell? ⟨g, 4, none⟩ = some (.slice al nL cl) := hk6.cellOf (h0.cellOf cL (by simp)) (by simp)
    have hfz : w7.frozen? ⟨g, 4, none⟩ = false := ((HW5.out.kept h0).kept hk6).fz 4
    refine hK.out _ _ (fun _ _ => h0.trans hk6 (by simp)) ?_
    clear hK K'
    try simp only [zk1, zk2, zk3, zk4, zk5, zk6, zk7, zk8]
    refine wpAnyL_free (i := 7) (v := .pointer (some ⟨g, 0, none⟩)) rfl (by kernel_rfl) (by kernel_rfl) (by kernel_rfl) (fun _ _ _ h => h) (Or.inl ⟨by rfl, fun w _ => by go_simp⟩) ?_
    try simp only [zk1, zk2, zk3, zk4, zk5, zk6, zk7, zk8]
    refine wpAnyL_free (i := 8) (v := .pointer (some ⟨g, 4, none⟩)) rfl (by kernel_rfl) (by kernel_rfl) (by kernel_rfl) (fun _ _ _ h => h) (Or.inl ⟨by rfl, fun w _ => by go_simp⟩) ?_
    try simp only [zk1, zk2, zk3, zk4, zk5, zk6, zk7, zk8]
    refine wpAnyL_one (i := 9) (by kernel_rfl) rfl (fun K' hK => ?_)
    rw [if_pos (by rfl)]
    go_simp
    refine hK.out _ _ (fun _ h => by cases h) ?_
    clear hK K'
    try simp only [zk1, zk2, zk3, zk4, zk5, zk6, zk7, zk8]
    refine wpAnyL_done (by kernel_rfl) ?_ _
    have hV := HW5.out.kept h0
    have hap := Apt.withd hV.l.2 hV.a hor
    have hset := (hV.kept hk6).setL hol hap
    have HKF : Hid (Kept [] w0 (w7.setCell ⟨g, 4, none⟩ (.slice a' n' c'))) := hide (((HK6.out.trans h0 (by simp)).trans hk6 (by simp)).trans ((Kept.refl [g] w7).setCell (fun _ => by simp) _) (fun j hj hlt => by have h3 := hV.gB; have : j = g := (by simpa using hj); omega))
    have HWF := hide hset
    clear hset hap hV hwith cL hri5 h0 hk6 hor hol hcs hfz HW5 HW6 HK6
    generalize w7.setCell ⟨g, 4, none⟩ (.slice a' n' c') = w8 at HKF HWF ⊢
    go_wp2
    go_ret
    exact ⟨by rw [HE.out]; rfl, HKF.out, _, _, _, _, by rw [HE.out]; exact HWF.out, .inl ⟨by rw [HE.out], rfl, rfl⟩⟩
   ·cases hfc
    go_upto_region 5 with (first
     | refine wpList_load_mid rfl 39 (.tmp 4) rfl S 0 rfl [si, sd, sc] _ hrowS Tryz.underlying39 rfl hial ?_
     | refine wpList_load_mid rfl 25 (.tmp 5) rfl G 0 rfl (bys i) _ hri5 Tryz.underlying25 rfl hil ?_
     | (go_at_call 17; refine hfind.mono ?_; rintro e w6 ⟨rfl, hk6⟩; have HK6 := hide (HK5.out.trans hk6 (by simp)); have HW6 := hide (HW5.out.kept hk6); have HG6 := hide ((hk6.block G (Array.getElem?_eq_some_iff.1 HRC.out.2).1 (by simp)).trans HRC.out.2); clear hfind hk6 hrowS hri5))
    clear HW5 HK5 HRC
    go_upto_region 12 with (fail)
    obtain ⟨w5, hw5⟩ : ∃ r, r = w6 := ⟨_, rfl⟩
    rw [← hw5] at HK6 HW6 HG6 ⊢
    clear hw5
    have HW5 := HW6
    have cL := HW5.out.cl
    have hri5 : w5.rangeAt G 0 (bys i) := row_rangeK HG6.out
    have hwith := fun W (hW : Kept [] w5 W) => with9b_ok w0.heap.size al nL cl R.lacks i W ((HW5.out.kept hW).l.1) (HW5.out.kept hW).BS huL hi hl
    refine wp_region_late (fun w' => Kept [] w5 w') (fun i => i == 9) (by kernel_rfl) ?_
    have h0 : Kept [] w5 w5.drew := (Kept.refl [] w5).drew
    generalize World.drew w5 = v0 at h0 ⊢
    refine wpAnyL_free (i := 0) (v := .pointer (some ⟨g, 0, none⟩)) rfl (by kernel_rfl) (by kernel_rfl) (by kernel_rfl) (fun _ _ _ h => h) (Or.inl ⟨by rfl, fun w _ => by go_simp⟩) ?_
    try simp only [zk1, zk2, zk3, zk4, zk5, zk6, zk7, zk8]
    refine wpAnyL_free (i := 1) (v := .pointer (some ⟨g, 0, none⟩)) rfl (by kernel_rfl) (by kernel_rfl) (by kernel_rfl) (fun _ _ _ h => h) (Or.inl ⟨by rfl, fun w _ => by go_simp⟩) ?_
    try simp only [zk1, zk2, zk3, zk4, zk5, zk6, zk7, zk8]
    refine wpAnyL_free (i := 2) (v := .pointer (some ⟨g, 0, none⟩)) rfl (by kernel_rfl) (by kernel_rfl) (by kernel_rfl) (fun _ _ _ h => h) (Or.inl ⟨by rfl, fun w _ => by go_simp⟩) ?_
    try simp only [zk1, zk2, zk3, zk4, zk5, zk6, zk7, zk8]
    refine wpAnyL_free (i := 3) (v := .pointer (some ⟨g, 4, none⟩)) rfl (by kernel_rfl) (by kernel_rfl) (by kernel_rfl) (fun _ _ _ h => h) (Or.inl ⟨by rfl, fun w _ => by go_simp⟩) ?_
    try simp only [zk1, zk2, zk3, zk4, zk5, zk6, zk7, zk8]
    refine wpAnyL_take (i := 4) (v := .slice al nL cl) rfl (by kernel_rfl) (by kernel_rfl) (by kernel_rfl) (by kernel_rfl) (by kernel_rfl) (fun _ _ _ h => h) (Or.inl ⟨by rfl, fun w hSw => by have c := Kept.cellOf hSw cL (by simp); go_simp⟩) h0 ?_
    try simp only [zk1, zk2, zk3, zk4, zk5, zk6, zk7, zk8]
    refine wpAnyL_take (i := 5) (v := .agg (bys i).toArray) rfl (by kernel_rfl) (by kernel_rfl) (by kernel_rfl) (by kernel_rfl) (by kernel_rfl) (fun _ _ _ h => h) (yieldsIf_load_mid (by rfl) _ _ rfl G (0) rfl (bys i) _ (fun W h => fun jj u hu => Kept.cellOf h (hri5 jj u hu) (by simp)) Tryz.underlying25 rfl hil) h0 ?_
    try simp only [zk1, zk2, zk3, zk4, zk5, zk6, zk7, zk8]
    refine wpAnyL_one (i := 6) (by kernel_rfl) rfl (fun K' hK => ?_)
    rw [if_pos (by rfl)]
    go_simp
    refine (hwith v0 h0).mono ?_
    rintro e w7 ⟨vl', rfl, hol, hk6, hor⟩
    obtain ⟨a', c', e', _⟩ := own_shape hol.1
    obtain ⟨n', hn'⟩ : ∃ n, (wth R.lacks i).length = n := ⟨_, rfl⟩
    rw [hn'] at e'
    clear hn'
    subst e'
    have hcs : w7.cell? ⟨g, 4, none⟩ = some (.slice al nL cl) := hk6.cellOf (h0.cellOf cL (by simp)) (by simp)
    have hfz : w7.frozen? ⟨g, 4, none⟩ = false := ((HW5.out.kept h0).kept hk6).fz 4
    refine hK.out _ _ (fun _ _ => h0.trans hk6 (by simp)) ?_
    clear hK K'
    try simp only [zk1, zk2, zk3, zk4, zk5, zk6, zk7, zk8]
    refine wpAnyL_free (i := 7) (v := .pointer (some ⟨g, 0, none⟩)) rfl (by kernel_rfl) (by kernel_rfl) (by kernel_rfl) (fun _ _ _ h => h) (Or.inl ⟨by rfl, fun w _ => by go_simp⟩) ?_
    try simp only [zk1, zk2, zk3, zk4, zk5, zk6, zk7, zk8]
    refine wpAnyL_free (i := 8) (v := .pointer (some ⟨g, 4, none⟩)) rfl (by kernel_rfl) (by kernel_rfl) (by kernel_rfl) (fun _ _ _ h => h) (Or.inl ⟨by rfl, fun w _ => by go_simp⟩) ?_
    try simp only [zk1, zk2, zk3, zk4, zk5, zk6, zk7, zk8]
    refine wpAnyL_one (i := 9) (by kernel_rfl) rfl (fun K' hK => ?_)
    rw [if_pos (by rfl)]
    go_simp
    refine hK.out _ _ (fun _ h => by cases h) ?_
    clear hK K'
    try simp only [zk1, zk2, zk3, zk4, zk5, zk6, zk7, zk8]
    refine wpAnyL_done (by kernel_rfl) ?_ _
    have hV := HW5.out.kept h0
    have hap := Apt.withd hV.l.2 hV.a hor
    have hset := (hV.kept hk6).setL hol hap
    have HKF : Hid (Kept [] w0 (w7.setCell ⟨g, 4, none⟩ (.slice a' n' c'))) := hide (((HK6.out.trans h0 (by simp)).trans hk6 (by simp)).trans ((Kept.refl [g] w7).setCell (fun _ => by simp) _) (fun j hj hlt => by have h3 := hV.gB; have : j = g := (by simpa using hj); omega))
    have HWF := hide hset
    clear hset hap hV hwith cL hri5 h0 hk6 hor hol hcs hfz HW5 HW6 HK6
    generalize w7.setCell ⟨g, 4, none⟩ (.slice a' n' c') = w8 at HKF HWF ⊢
    go_wp2
    go_ret
    exact ⟨by rw [HE.out]; rfl, HKF.out, _, _, _, _, by rw [HE.out]; exact HWF.out, .inl ⟨by rw [HE.out], rfl, rfl⟩⟩
  | fail =>
   as_aux_lemma =>
   have HE : Hid (R.ask f i = (false, { R with asked := R.asked ++ [i] })) := hide (by unfold Rw.ask; rw [if_neg hin]; simp only [hfi])
   obtain ⟨fv, fc, hfe⟩ : ∃ fv fc, fnd9 I D C i = (fv, fc) := ⟨_, _, rfl⟩
   have hfc := HF.out.fail i hfi
   rw [hfe] at hfind hfc
   have hc1 : fc = cf i := hfc.1
   have hc2 := hfc.2.1
   have hc3 := hfc.2.2.1
   have hc4 := hfc.2.2.2
   have HC1 := hide hc1
   rw [← hc1] at hc2 hc3 hc4
   have d2 : (fc == 0) = false := by simpa using hc2
   have d3 : (fc == 93) = false := by simpa using hc3
   have d4 : (fc == 94) = false := by simpa using hc4
   clear hfe hfi hin hc1 hfc
   go_upto_region 5 with (first
    | refine wpList_load_mid rfl 39 (.tmp 4) rfl S 0 rfl [si, sd, sc] _ hrowS Tryz.underlying39 rfl hial ?_
    | refine wpList_load_mid rfl 25 (.tmp 5) rfl G 0 rfl (bys i) _ hri5 Tryz.underlying25 rfl hil ?_
    | (go_at_call 17; refine hfind.mono ?_; rintro e w6 ⟨rfl, hk6⟩; have HK6 := hide (HK5.out.trans hk6 (by simp)); have HW6 := hide (HW5.out.kept hk6); have HG6 := hide ((hk6.block G (Array.getElem?_eq_some_iff.1 HRC.out.2).1 (by simp)).trans HRC.out.2); clear hfind hk6 hrowS hri5))
   clear HW5 HK5 HRC
   have cC := HW6.out.cc
   have fC := HW6.out.fz 5
   go_upto_region 7 with (fail)
   have hs5 := HW6.out.setC fc
   have hk5 : Kept [g] w6 (w6.setCell ⟨g, 5, none⟩ (.int .i64 fc)) := (Kept.refl [g] w6).setCell (fun _ => by simp) _
   have hGg : (w6.setCell ⟨g, 5, none⟩ (.int .i64 fc)).heap[G]? = some (.cells (bys i).toArray 25) := (hk5.block G (Array.getElem?_eq_some_iff.1 HG6.out).1 (by simpa using HSG.out.2.1)).trans HG6.out
   have HKC : Hid (Kept [] w0 (w6.setCell ⟨g, 5, none⟩ (.int .i64 fc))) := hide (HK6.out.trans hk5 (fun j hj hlt => by have h3 := HW6.out.gB; have : j = g := (by simpa using hj); omega))
   have HWC := hide hs5
   have hri7 : (w6.setCell ⟨g, 5, none⟩ (.int .i64 fc)).rangeAt G 0 (bys i) := row_rangeK hGg
   clear hs5 hk5 hGg cC fC
   generalize w6.setCell ⟨g, 5, none⟩ (.int .i64 fc) = w7 at HKC HWC hri7 ⊢
   have hsI := HWC.out.storeI hi
   have hth := HWC.out.thereI
   have HWD := hide hsI.1
   have HKD : Hid (Kept [] w0 (w7.setCells g 6 (bys i))) := hide (HKC.out.trans hsI.2 (fun j hj hlt => by have h3 := HWC.out.gB; have : j = g := (by simpa using hj); omega))
   have hall := bys_allT i
   clear hsI HW6 HK6 HG6
   have hsz : (bys i).toArray.size = 32 := by simp [bys_length, hi]
   go_upto_region 8 with (first
    | refine wpList_load_mid rfl 25 (.tmp 5) rfl G 0 rfl (bys i) _ hri7 Tryz.underlying25 rfl hil ?_
    | refine wpList_store_mid rfl 25 (.tmp 39) (.tmp 37) rfl g 6 (bys i).toArray rfl rfl (by rw [hsz]; exact hth) (by rw [List.size_toArray]; exact hil) hall ?_)
   try go_frame
   go_wp2
   go_ret
   exact ⟨by rw [HE.out]; rfl, HKD.out, _, _, _, _, by rw [HE.out]; exact HWD.out, .inr ⟨by rw [HE.out], HC1.out, rfl⟩⟩
end

end Go.Proofs.YtngaimahhgmciaaGreatDoor
