/-
  The laws' own comparisons: rows of bytes, spans, files.
-/
import Derived.Test.YtemlbmamcbmnjaaGreatDoorIbp
import Derived.Deep.QuietTactic
import Derived.BigQuiet
import Derived.WalkArith
import Derived.Deep.OwnRows
namespace Go.Proofs.YtemlbmamcbmnjaaGreatDoor
open Go.RowKit Dsk
set_option linter.unusedVariables false
set_option linter.unusedSimpArgs false

theorem take_snoc' (l : List UInt8) (d : UInt8) (k : Nat) (h : k < l.length) : l.take (k + 1) = l.take k ++ [l.getD k d] := by
  rw [List.take_succ_eq_append_getElem h]
  simp [List.getElem?_eq_getElem h]



/-- A row of spans that can be read. -/
def Sps (w : World) (ao : Option Addr) (l : List Dsk.Span) : Prop := ∀ i, i < l.length → ∃ b, ao = some ⟨b, 0, none⟩ ∧ ∃ s : Dsk.Span, l[i]? = some s ∧ w.cell? ⟨b, i * 3, none⟩ = some (encStr s.name) ∧ w.cell? ⟨b, i * 3 + 1, none⟩ = some (.int .i64 s.at_) ∧ w.cell? ⟨b, i * 3 + 2, none⟩ = some (.int .i64 s.n)

theorem encSp_get (l : List Dsk.Span) (i : Nat) (s : Dsk.Span) (h : l[i]? = some s) (j : Nat) (v : Value) (hv : (encSp s)[j]? = some v) : (l.flatMap encSp)[i * 3 + j]? = some v := by
  have hj : j < 3 := by have := (List.getElem?_eq_some_iff.1 hv).1; simpa [encSp] using this
  induction l generalizing i with
  | nil => simp at h
  | cons x r ih =>
    have hl : (encSp x).length = 3 := rfl
    rw [List.flatMap_cons]
    cases i with
    | zero =>
      simp only [List.getElem?_cons_zero, Option.some.injEq] at h
      subst h
      rw [Nat.zero_mul, Nat.zero_add, List.getElem?_append_left (by omega)]
      exact hv
    | succ i =>
      rw [List.getElem?_append_right (by omega), hl, show (i + 1) * 3 + j - 3 = i * 3 + j by omega]
      exact ih i (by simpa using h)

theorem Sps.of {w : World} {B : Nat} {ao : Option Addr} {n c : Nat} {l : List Dsk.Span} (h : w.ownsRow B 199 3 (.slice ao n c) n (l.flatMap encSp)) : Sps w ao l := by
  intro i hi
  rcases h.2 with ⟨_, e⟩ | ⟨g, cap, cur, e, _⟩
  · have h1 := h.1
    subst e
    rw [Nat.zero_mul] at h1
    have := encSp_get l i _ (List.getElem?_eq_getElem hi) 0 _ rfl
    rw [List.getElem?_eq_none (by omega)] at this
    cases this
  · injection e with e _ _
    subst e
    refine ⟨g, rfl, l[i], List.getElem?_eq_getElem hi, ?_, ?_, ?_⟩
    · have := h.cells (g := g) rfl (i * 3 + 0) _ (encSp_get l i _ (List.getElem?_eq_getElem hi) 0 _ rfl)
      rwa [add0] at this
    · have := h.cells (g := g) rfl (i * 3 + 1) _ (encSp_get l i _ (List.getElem?_eq_getElem hi) 1 _ rfl)
      rwa [add0] at this
    · have := h.cells (g := g) rfl (i * 3 + 2) _ (encSp_get l i _ (List.getElem?_eq_getElem hi) 2 _ rfl)
      rwa [add0] at this

/-- A list of files that can be read. -/
def Fis (w : World) (ao : Option Addr) (L : List (By × By)) : Prop := ∀ i, i < L.length → ∃ b, ao = some ⟨b, 0, none⟩ ∧ ∃ f : By × By, L[i]? = some f ∧ w.cell? ⟨b, i * 2, none⟩ = some (encStr f.1) ∧ ∃ bo bc, w.cell? ⟨b, i * 2 + 1, none⟩ = some (.slice bo f.2.length bc) ∧ Sl w bo f.2

theorem fcells_get (L : List (By × By)) (vs : List Value) (i : Nat) (f : By × By) (u : Value) (hl : vs.length = L.length) (h : L[i]? = some f) (hu : vs[i]? = some u) : (fcells L vs)[i * 2]? = some (encStr f.1) ∧ (fcells L vs)[i * 2 + 1]? = some u := by
  induction L generalizing i vs with
  | nil => simp at h
  | cons x r ih =>
    cases vs with
    | nil => simp at hl
    | cons y vs =>
      cases i with
      | zero =>
        simp only [List.getElem?_cons_zero, Option.some.injEq] at h hu
        subst h hu
        exact ⟨rfl, rfl⟩
      | succ i =>
        have := ih vs i (by simpa using hl) (by simpa using h) (by simpa using hu)
        rw [show (i + 1) * 2 = i * 2 + 1 + 1 by omega, show i * 2 + 1 + 1 + 1 = i * 2 + 1 + 1 + 1 from rfl]
        simp only [fcells, List.getElem?_cons_succ]
        exact this

theorem Fis.of {w : World} {B : Nat} {ao : Option Addr} {n c : Nat} {L : List (By × By)} {vs : List Value} (h : Fls w B (.slice ao n c) L vs) : Fis w ao L ∧ n = L.length := by
  have hn : n = L.length := by
    rcases h.row.2 with ⟨e, e2⟩ | ⟨g, cap, cur, e, _⟩
    · injection e with _ e _; omega
    · injection e
  refine ⟨fun i hi => ?_, hn⟩
  have hv : i < vs.length := by rw [h.len]; exact hi
  obtain ⟨q1, q2⟩ := fcells_get L vs i _ _ h.len (List.getElem?_eq_getElem hi) (List.getElem?_eq_getElem hv)
  have hb := h.own i _ _ (List.getElem?_eq_getElem hi) (List.getElem?_eq_getElem hv)
  obtain ⟨bo, bc, e, _⟩ := hb.shape
  rw [e] at q2 hb
  rcases h.row.2 with ⟨e, e2⟩ | ⟨g, cap, cur, e, _⟩
  · omega
  · injection e with e _ _
    subst e
    refine ⟨g, rfl, _, List.getElem?_eq_getElem hi, ?_, bo, bc, ?_, hb.sl⟩
    · have := h.row.cells (g := g) rfl _ _ q1
      rwa [add0] at this
    · have := h.row.cells (g := g) rfl _ _ q2
      rwa [add0] at this

theorem Fis.kept {w w' : World} {ao : Option Addr} {L : List (By × By)} (h : Fis w ao L) (hk : Kept [] w w') : Fis w' ao L := fun i hi => by
  obtain ⟨b, e, f, hf, c1, bo, bc, c2, hs⟩ := h i hi
  exact ⟨b, e, f, hf, hk.cellOf c1 (by simp), bo, bc, hk.cellOf c2 (by simp), hs.kept hk (by simp)⟩

def totalOf (L : List (By × By)) : Nat := (L.map (fun f => f.2.length)).sum

theorem totalOf_take (L : List (By × By)) (k : Nat) (f : By × By) (h : L[k]? = some f) : totalOf (L.take (k + 1)) = totalOf (L.take k) + f.2.length := by
  rw [List.take_add_one, h]
  simp [totalOf]

theorem totalOf_le (L : List (By × By)) (k : Nat) : totalOf (L.take k) ≤ totalOf L := by
  have : totalOf L = totalOf (L.take k) + totalOf (L.drop k) := by
    unfold totalOf
    rw [← List.sum_append_nat, ← List.map_append, List.take_append_drop]
  omega

end Go.Proofs.YtemlbmamcbmnjaaGreatDoor
