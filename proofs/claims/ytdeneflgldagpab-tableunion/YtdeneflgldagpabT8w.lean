/-
  append of one result. Contract: freightref8.With. (Written by tools/t8w.py.)
-/
import Derived.Test.YtdeneflgldagpabT8b
import Derived.Test.YtdeneflgldagpabZn
namespace Go.Proofs.Ytdeneflgldagpab
open Go.RowKit Go.Sort
set_option linter.unusedVariables false
set_option linter.unusedSimpArgs false

theorem wpList_buildOne {ops : Array Oper} {rest : List Oper} {o : Oper} {a : Act} {w : World} {Q : Exit → Act → World → Prop} (hgd : o.guard = none) (x : Operand) (ho : o.op = .buildSlice 23 1 #[(0, x)]) (e : Res) (hx : a.eval x = .agg e.cells.toArray)
    (h : wpList Try.prog ops Q rest (a.put o.dst (.slice (some ⟨w.heap.size, 0, none⟩) 1 1)) (w.alloc (.cells e.cells.toArray 36))) : wpList Try.prog ops Q (o :: rest) a w :=
  wpList_plain hgd fun _ hK => wp_build1 x ho e hx (hK _ _ h)
theorem one_row {w : World} {g : Nat} {e : Res} {t : TypeId} {f : Nat × Nat} (h : w.heap[g]? = some (.cells e.cells.toArray t f)) : Ress w (some ⟨g, 0, none⟩) [e] := fun i hi => by
  obtain rfl : i = 0 := by simpa using hi
  exact ⟨g, 0, rfl, by rw [Nat.zero_mul]; exact res_range h⟩
/-- append(results, one): the one's own row is new. -/
theorem run_app1R (w : World) (base : Nat) (v : Value) (L : List Res) (e : Res) (h : OwnR w base v L) (hl : (L.length + 1) * 72 ≤ 140737488355328) (hb : base ≤ w.heap.size) :
    ∃ v' w', (Builtin.append_ #[23, 23] 23 #[v, .slice (some ⟨w.heap.size, 0, none⟩) 1 1]).run Try.prog (w.alloc (.cells e.cells.toArray 36)) = .ok v' w' ∧ OwnR w' base v' (L ++ [e]) ∧ Below base w w' := by
  have kN : Kept [] w (w.alloc (.cells e.cells.toArray 36)) := (Kept.refl [] w).alloc _
  obtain ⟨v', w', hrun, ho, hk, hbl⟩ := run_appR (w.alloc (.cells e.cells.toArray 36)) base v L (h.kept kN (by simp)) (some ⟨w.heap.size, 0, none⟩) 1 1 [e] (one_row (heap_new w _)) rfl (.inr ⟨_, rfl⟩) (by simp) hl (Nat.le_trans hb kN.size)
  refine ⟨v', w', hrun, ho, ?_⟩
  have k2 : Kept v.ownBlock.toList w w' := (kN.mono (l2 := v.ownBlock.toList) (by simp)).trans (hk v.ownBlock.toList (by simp)) (fun i hi _ => hi)
  exact k2.below hb (fun g hg => (h.lt (by simpa using hg)).1)

namespace Tb
def wE (Z : List Res) : Int := if 32 < Z.length then 97 else 0
def wL (Z : List Res) : List Res := if 32 < Z.length then [] else Z
/-- What With has laid as far as i. -/
def withU (L : List Res) (e : Res) (i : Nat) : List Res := if i ≤ rank L e.action then L.take i else L.take (rank L e.action) ++ e :: (L.take i).drop (step L e)
theorem take_getD (L : List Res) (k : Nat) (h : k < L.length) : L.take (k + 1) = L.take k ++ [L.getD k res0] := by
  rw [List.take_succ_eq_append_getElem h]
  simp [List.getElem?_eq_getElem h]
theorem withU_lt {L : List Res} {e : Res} {i : Nat} (h : i < rank L e.action) (hi : i < L.length) : withU L e (i + 1) = withU L e i ++ [L.getD i res0] := by
  unfold withU
  rw [if_pos (by omega), if_pos (by omega), take_getD L i hi]
theorem withU_has {L : List Res} {e : Res} {i : Nat} (h : i = rank L e.action) (hi : i < L.length) (hh : has L e.action = true) : withU L e (i + 1) = withU L e i ++ [e] := by
  unfold withU step
  rw [if_neg (show ¬ i + 1 ≤ rank L e.action by omega), if_pos (show i ≤ rank L e.action by omega), hh, if_pos rfl, ← h, List.drop_of_length_le (by simp; omega)]
theorem withU_not {L : List Res} {e : Res} {i : Nat} (h : i = rank L e.action) (hi : i < L.length) (hh : has L e.action = false) : withU L e (i + 1) = withU L e i ++ [e] ++ [L.getD i res0] := by
  unfold withU step
  rw [if_neg (show ¬ i + 1 ≤ rank L e.action by omega), if_pos (show i ≤ rank L e.action by omega), hh, ← h]
  simp only [Bool.false_eq_true, if_false, Nat.add_zero]
  rw [take_getD L i hi, List.drop_append_of_le_length (by simp; omega), List.drop_of_length_le (by simp; omega)]
  simp
theorem withU_gt {L : List Res} {e : Res} {i : Nat} (h : rank L e.action < i) (hi : i < L.length) : withU L e (i + 1) = withU L e i ++ [L.getD i res0] := by
  have hs : step L e ≤ i := by unfold step; split <;> omega
  unfold withU
  rw [if_neg (by omega), if_neg (by omega), take_getD L i hi, List.drop_append_of_le_length (by simp; omega)]
  simp
theorem withU_end {L : List Res} {e : Res} (h : rank L e.action < L.length) : withU L e L.length = withR L e := by
  unfold withU withR
  rw [if_neg (by omega), List.take_length]
theorem withU_end' {L : List Res} {e : Res} (h : ¬ rank L e.action < L.length) : withU L e L.length ++ [e] = withR L e := by
  have h1 := rank_le L e.action
  have h2 : rank L e.action = L.length := by omega
  unfold withU withR step
  rw [if_pos (by omega), h2, List.take_length, List.drop_of_length_le (by omega)]
theorem withU_len (L : List Res) (e : Res) (i : Nat) : (withU L e i).length ≤ L.length + 1 := by
  have h1 := rank_le L e.action
  unfold withU step
  split
  · simp only [List.length_take]; omega
  · simp only [List.length_append, List.length_cons, List.length_drop, List.length_take]; omega
theorem withR_len {L : List Res} (hr : rise L = true) (e : Res) : (withR L e).length = L.length + (if has L e.action then 0 else 1) := by
  have h1 := rank_le L e.action
  have h2 := step_le hr e
  unfold withR
  unfold step at h2 ⊢
  simp only [List.length_append, List.length_cons, List.length_drop, List.length_take]
  split at h2 <;> rename_i hh <;> simp only [hh, if_true, if_false] <;> simp <;> omega
/-- What Order says on the way. -/
theorem way {L : List Res} (hr : rise L = true) (e : Res) {i : Nat} (hi : i < L.length) :
    (i < rank L e.action ∧ Lib.compareBytes (L.getD i res0).action e.action < 0) ∨ (i = rank L e.action ∧ has L e.action = true ∧ Lib.compareBytes (L.getD i res0).action e.action = 0) ∨
    (i = rank L e.action ∧ has L e.action = false ∧ 0 < Lib.compareBytes (L.getD i res0).action e.action) ∨ (rank L e.action < i ∧ 0 < Lib.compareBytes (L.getD i res0).action e.action) := by
  obtain ⟨f1, f2⟩ := rank_facts hr e.action
  rcases Nat.lt_trichotomy i (rank L e.action) with h | h | h
  · exact .inl ⟨h, f1 i h⟩
  · have h0 := f2 i (by omega) hi
    have hh := has_iff hr e.action
    rw [← h] at hh
    simp only [hi, decide_true, Bool.true_and] at hh
    by_cases h3 : (L.getD i res0).action = e.action
    · exact .inr (.inl ⟨h, by rw [hh]; simpa using h3, by rw [h3]; exact cmp_self _⟩)
    · refine .inr (.inr (.inl ⟨h, by rw [hh]; simpa using h3, ?_⟩))
      have : Lib.compareBytes (L.getD i res0).action e.action ≠ 0 := fun hz => h3 (cmp_zero hz)
      omega
  · refine .inr (.inr (.inr ⟨h, ?_⟩))
    have h0 := f2 (rank L e.action) (Nat.le_refl _) (by omega)
    have h1 := rise_pair hr h hi
    have h2 : Lib.compareBytes e.action (L.getD (rank L e.action) res0).action ≤ 0 := by have := cmp_swap (L.getD (rank L e.action) res0).action e.action; omega
    have h3 : Lib.compareBytes (L.getD (rank L e.action) res0).action (L.getD i res0).action < 0 := h1
    have h4 : Lib.compareBytes e.action (L.getD i res0).action < 0 := by
      by_cases hz : Lib.compareBytes e.action (L.getD (rank L e.action) res0).action = 0
      · rw [cmp_zero hz]; exact h3
      · exact cmp_trans (by omega) h3
    have := cmp_swap (L.getD i res0).action e.action
    omega
end Tb