/-
  Contract: freightref8.Valid. (Written by tools/t8b.py.)
-/
import Derived.Test.YtmhnjhnnaciokaaT8a
namespace Go.Proofs.Ytmhnjhnnaciokaa
open Go.RowKit Go.Sort
set_option linter.unusedVariables false
set_option linter.unusedSimpArgs false

namespace Tb
/-- As far as k the list is in order. -/
def upto (L : List Res) (k : Nat) : Prop := (∀ i, i < k → noCode (L.getD i res0) = false) ∧ ∀ i, i + 1 < k → cf (L.getD i res0) (L.getD (i + 1) res0) < 0
theorem valid_iff (L : List Res) : valid L = true ↔ L.length ≤ 32 ∧ upto L L.length := by
  simp only [valid, Bool.and_eq_true, decide_eq_true_eq, Bool.not_eq_true', List.any_eq_false, rise_iff, upto]
  constructor
  · rintro ⟨⟨h1, h2⟩, h3⟩
    exact ⟨h1, fun i hi => by have := h2 _ (getD_mem hi); simpa using this, h3⟩
  · rintro ⟨h1, h2, h3⟩
    refine ⟨⟨h1, fun e he => ?_⟩, h3⟩
    obtain ⟨i, hi, rfl⟩ := List.getElem_of_mem he
    have := h2 i hi
    rw [show L.getD i res0 = L[i] by simp [List.getD, List.getElem?_eq_getElem hi]] at this
    simpa using this
theorem valid_long {L : List Res} (h : 32 < L.length) : valid L = false := by
  cases hv : valid L with
  | false => rfl
  | true => have := ((valid_iff L).1 hv).1; omega
theorem valid_code_bad {L : List Res} {k : Nat} (hk : k < L.length) (h : noCode (L.getD k res0) = true) : valid L = false := by
  cases hv : valid L with
  | false => rfl
  | true => have := ((valid_iff L).1 hv).2.1 k hk; rw [h] at this; cases this
theorem valid_order_bad {L : List Res} {k : Nat} (hk : k + 1 < L.length) (h : 0 ≤ cf (L.getD k res0) (L.getD (k + 1) res0)) : valid L = false := by
  cases hv : valid L with
  | false => rfl
  | true => have := ((valid_iff L).1 hv).2.2 k hk; omega
end Tb