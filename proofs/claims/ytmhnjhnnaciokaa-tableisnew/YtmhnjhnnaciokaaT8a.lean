/-
  Contracts: freightref8.Order; copy of results; freightlaw8.same.
-/
import Derived.Test.YtmhnjhnnaciokaaZf
import Derived.WalkArith
namespace Go.Proofs.Ytmhnjhnnaciokaa
open Go.RowKit Go.Sort
set_option linter.unusedVariables false
set_option linter.unusedSimpArgs false

theorem cmp_at : ∀ (i : Nat) (A B : List UInt8), A.take i = B.take i → i < A.length → i < B.length → (A.getD i 0 < B.getD i 0 → Lib.compareBytes A B = -1) ∧ (B.getD i 0 < A.getD i 0 → Lib.compareBytes A B = 1) := by
  intro i
  induction i with
  | zero =>
    intro A B _ hA hB
    cases A with
    | nil => simp at hA
    | cons x A =>
      cases B with
      | nil => simp at hB
      | cons y B =>
        simp only [List.getD, List.getElem?_cons_zero, Option.getD_some]
        refine ⟨fun h => by unfold Lib.compareBytes; simp [h], fun h => ?_⟩
        have h2 : ¬ x < y := fun h' => UInt8.lt_irrefl x (UInt8.lt_trans h' h)
        unfold Lib.compareBytes; simp [h, h2]
  | succ i ih =>
    intro A B h hA hB
    cases A with
    | nil => simp at hA
    | cons x A =>
      cases B with
      | nil => simp at hB
      | cons y B =>
        simp only [List.take_succ_cons, List.cons.injEq] at h
        obtain ⟨rfl, h⟩ := h
        have := ih A B h (by simpa using hA) (by simpa using hB)
        simp only [List.getD, List.getElem?_cons_succ] at this ⊢
        unfold Lib.compareBytes
        simp only [UInt8.lt_irrefl, if_false]
        exact this
theorem take_snoc' (l : List UInt8) (d : UInt8) (k : Nat) (h : k < l.length) : l.take (k + 1) = l.take k ++ [l.getD k d] := by
  rw [List.take_succ_eq_append_getElem h]
  simp [List.getElem?_eq_getElem h]

/-- copy(results, more), of as many. -/
theorem run_copyR (w : World) (g n c c2 : Nat) (ty : TypeId) (ao : Option Addr) (L M R : List Res) (hL : L.length = n) (hM : M.length = n) (h : Ress w (some ⟨g, 0, none⟩) (L ++ R)) (ht : w.there g 0 ((n + R.length) * 65)) (hm : Ress w ao M) :
    ∃ w', (Builtin.copy_ #[22, 22] ty #[.slice (some ⟨g, 0, none⟩) n c, .slice ao n c2]).run Try.prog w = .ok (.int .i64 n) w' ∧ Ress w' (some ⟨g, 0, none⟩) (M ++ R) ∧ w'.there g 0 ((n + R.length) * 65) ∧ Kept [g] w w' := by
  obtain ⟨i0, hi, hz0, hz1, hz2⟩ := info_parts Try.infoRes
  by_cases h0 : M = []
  · subst h0
    obtain rfl : n = 0 := hM.symm
    obtain rfl : L = [] := List.eq_nil_of_length_eq_zero hL
    refine ⟨w, ?_, h, ht, Kept.refl _ _⟩
    have hl : ∀ (x : Addr), (loadCells x 0).run Try.prog w = .ok #[] w := fun x => by simpa using run_loadCells_list (P := Try.prog) w x [] (by simp)
    cases ao <;> simp [Builtin.copy_, run_underlying Try.underlying22, Builtin.lenOf, Builtin.firstCells, sizeOf, typeInfo, hi, storeCells, hl, goInt]
  · obtain ⟨b, o, rfl, _, _⟩ := hm.open h0
    have hrl : (rows M).length = n * 65 := by rw [rows_len, hM]
    have hl := run_loadCells_list (P := Try.prog) w ⟨b, o, none⟩ (rows M) (fun j v hv => by rw [Addr.add_mid]; exact hm.cells hv)
    have hst := run_storeCells_cells (P := Try.prog) g 0 (rows M) 0 w (fun j hj => by simpa using (ht j (by rw [hrl] at hj; omega)).1) (fun j hj => by simpa using (ht j (by rw [hrl] at hj; omega)).2) (rows_one M)
    rw [hrl] at hl
    refine ⟨w.setCells g 0 (rows M), ?_, ?_, World.there_setCells ht g 0 (rows M), kept_setCells (by simp) _ _ _ (Kept.refl _ _)⟩
    · simp [Builtin.copy_, run_underlying Try.underlying22, Builtin.lenOf, Builtin.firstCells, sizeOf, typeInfo, hi, hz1, hl, hst, goInt]
    · intro i hi2
      have hi3 : i < n + R.length := by simpa [hM] using hi2
      refine ⟨g, 0, rfl, fun j v hv => ?_⟩
      have hj : j < 65 := by have := (List.getElem?_eq_some_iff.1 hv).1; rwa [Res.len] at this
      rw [Nat.zero_add]
      by_cases hin : i < n
      · have e1 : (M ++ R).getD i res0 = M.getD i res0 := by simp only [List.getD]; rw [List.getElem?_append_left (by omega)]
        rw [e1] at hv
        have h1 := rows_at i j v (by omega) hv
        have h2 := World.cell?_setCells_in g (rows M) 0 w (fun j hj => by simpa using (ht j (by rw [hrl] at hj; omega)).1) (i * 65 + j) (by rw [hrl]; omega)
        rw [Nat.zero_add] at h2
        rw [h2]
        rw [List.getElem?_eq_getElem (by rw [hrl]; omega)] at h1
        exact h1
      · have e1 : (M ++ R).getD i res0 = (L ++ R).getD i res0 := by simp only [List.getD]; rw [List.getElem?_append_right (by omega), List.getElem?_append_right (by omega), hM, hL]
        rw [e1] at hv
        rw [World.cell?_setCells_out g (rows M) 0 w _ (fun _ _ => .inr (by rw [hrl]; simp; omega))]
        obtain ⟨b', o', e', hr⟩ := h i (by simp [hL]; exact hi3)
        cases e'
        have := hr j v hv
        rwa [Nat.zero_add] at this
end Go.Proofs.Ytmhnjhnnaciokaa
