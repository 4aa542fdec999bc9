/-
  What Join answers, policy by policy: mathematics.
-/
import Derived.Test.YtdeneflgldagpabT8w1
namespace Go.Proofs.Ytdeneflgldagpab
open Go.RowKit Go.Sort
set_option linter.unusedVariables false
set_option linter.unusedSimpArgs false

namespace Tb
def kep (A B : List Res) : List Res := (prs A B).map (·.1)
def tak (A B : List Res) : List Res := (prs A B).map (·.2)
def big (A B : List Res) : Nat := A.length + cnt A B
def jk (A B : List Res) : St := if 32 < big A B then ([], [], 97) else (kep A B, unl A B, 0)
def jt (A B : List Res) : St := if 32 < big A B then ([], [], 97) else (tak A B, unl A B, 0)
def jf (A B : List Res) : St := if unl A B ≠ [] then ([], unl A B, 150) else jk A B
theorem pick1 (L : List (Res × Res)) : L.map (pick 1) = L.map (·.1) := by apply List.map_congr_left; intro q _; rfl
theorem pick2 (L : List (Res × Res)) : L.map (pick 2) = L.map (·.2) := by apply List.map_congr_left; intro q _; rfl
theorem join_keep {A B : List Res} (hA : valid A = true) (hB : valid B = true) : join A B 1 = jk A B := by
  obtain ⟨h1, h2⟩ := cfl_unl A B (valid_rise hA) (valid_rise hB)
  unfold join jk
  rw [if_neg (by omega), if_neg (by rw [hA, hB]; simp), uni_prs 1 (.inl rfl)]
  simp only [List.nil_append, ne_eq, not_true_eq_false, if_false, List.length_map]
  rw [h1, h2, pick1]
  rfl
theorem join_take {A B : List Res} (hA : valid A = true) (hB : valid B = true) : join A B 2 = jt A B := by
  obtain ⟨h1, h2⟩ := cfl_unl A B (valid_rise hA) (valid_rise hB)
  unfold join jt
  rw [if_neg (by omega), if_neg (by rw [hA, hB]; simp), uni_prs 2 (.inr rfl)]
  simp only [List.nil_append, ne_eq, not_true_eq_false, if_false, List.length_map]
  rw [h1, h2, pick2]
  rfl
theorem join_fail {A B : List Res} (hA : valid A = true) (hB : valid B = true) : join A B 3 = jf A B := by
  obtain ⟨h1, h2⟩ := cfl_unl A B (valid_rise hA) (valid_rise hB)
  obtain ⟨u1, u2, u3⟩ := uni_fail A B ([], [], 0)
  unfold join jf
  rw [if_neg (by omega), if_neg (by rw [hA, hB]; simp)]
  by_cases hc : cfl A B = []
  · have hu : unl A B = [] := by rw [← h1]; exact hc
    have hj : (if unl A B ≠ [] then (([], unl A B, 150) : St) else jk A B) = jk A B := if_neg (by simp [hu])
    rw [u3 hc, hj]
    unfold jk
    simp only [List.nil_append, ne_eq, not_true_eq_false, if_false, List.length_map]
    rw [h2, hu]
    rfl
  · rw [if_pos (by rw [u2 hc]; decide), if_pos (by rw [← h1]; exact hc), u1, u2 hc, List.nil_append, h1]
theorem kep_len {A B : List Res} (hA : valid A = true) (hB : valid B = true) : (kep A B).length = big A B ∧ (tak A B).length = big A B := by
  obtain ⟨h1, h2⟩ := cfl_unl A B (valid_rise hA) (valid_rise hB)
  unfold kep tak big
  rw [List.length_map, List.length_map, h2]
  exact ⟨rfl, rfl⟩
theorem kep_rise {A B : List Res} (hA : valid A = true) (hB : valid B = true) : rise (kep A B) = true := pair_rise.1 (prs_rise A B (valid_rise hA) (valid_rise hB))
theorem rise_acts {L M : List Res} (hl : L.length = M.length) (h : ∀ i, i < L.length → (L.getD i res0).action = (M.getD i res0).action) (hr : rise L = true) : rise M = true := by
  rw [rise_iff] at hr ⊢
  intro i hi
  have := hr i (by omega)
  unfold cf at this ⊢
  rw [← h i (by omega), ← h (i + 1) (by omega)]
  exact this
theorem prs_at {A B : List Res} {i : Nat} (hi : i < (prs A B).length) : ((kep A B).getD i res0, (tak A B).getD i res0) ∈ prs A B := by
  have h1 : (kep A B).getD i res0 = ((prs A B)[i]'hi).1 := by unfold kep; simp [List.getD, hi]
  have h2 : (tak A B).getD i res0 = ((prs A B)[i]'hi).2 := by unfold tak; simp [List.getD, hi]
  rw [h1, h2]
  exact List.getElem_mem hi
theorem code_of {A : List Res} (h : valid A = true) {x : Res} (hx : x ∈ A) : noCode x = false := by
  obtain ⟨k, hk, rfl⟩ := mem_getD hx
  exact ((valid_iff A).1 h).2.1 k hk
theorem find_in {A : List Res} {α : List UInt8} {x : Res} (h : find A α = some x) : x ∈ A := List.mem_of_find?_eq_some h
/-- Each of the union's results, as the statement looks them up. -/
theorem uni_at {A B : List Res} (hA : valid A = true) (hB : valid B = true) {i : Nat} (hi : i < big A B) :
    ∃ x y, (kep A B).getD i res0 = x ∧ (tak A B).getD i res0 = y ∧ ((∃ a b, find A x.action = some a ∧ find B x.action = some b ∧ x = a ∧ y = b) ∨ (find A x.action = some x ∧ find B x.action = none ∧ y = x) ∨ (find A x.action = none ∧ find B x.action = some x ∧ y = x)) := by
  obtain ⟨h1, h2⟩ := cfl_unl A B (valid_rise hA) (valid_rise hB)
  have hm := prs_mem A B (valid_rise hA) (valid_rise hB) _ (prs_at (A := A) (B := B) (i := i) (by rw [h2]; exact hi))
  refine ⟨_, _, rfl, rfl, ?_⟩
  generalize (kep A B).getD i res0 = x at hm ⊢
  generalize (tak A B).getD i res0 = y at hm ⊢
  obtain ⟨_, _, e1, e2, e3⟩ := hm
  simp only at e1 e2 e3
  cases ha : find A x.action with
  | some a =>
    rw [ha] at e1 e2
    cases hb : find B x.action with
    | some b =>
      rw [hb] at e2
      exact .inl ⟨a, b, rfl, rfl, e1, e2⟩
    | none =>
      rw [hb] at e2
      simp only [Option.getD_some, Option.getD_none] at e1 e2
      subst e1
      exact .inr (.inl ⟨rfl, rfl, e2⟩)
  | none =>
    rw [ha] at e1 e2 e3
    cases hb : find B x.action with
    | some b =>
      rw [hb] at e1 e2
      simp only [Option.getD_some, Option.getD_none] at e1 e2
      subst e1
      exact .inr (.inr ⟨rfl, rfl, e2⟩)
    | none => rw [hb] at e3; simp at e3
theorem kep_valid {A B : List Res} (hA : valid A = true) (hB : valid B = true) (hn : ¬ 32 < big A B) : valid (kep A B) = true ∧ valid (tak A B) = true := by
  obtain ⟨l1, l2⟩ := kep_len hA hB
  have hr := kep_rise hA hB
  have hu := fun i (hi : i < big A B) => uni_at hA hB hi
  have hc : ∀ i, i < big A B → noCode ((kep A B).getD i res0) = false ∧ noCode ((tak A B).getD i res0) = false ∧ ((kep A B).getD i res0).action = ((tak A B).getD i res0).action := fun i hi => by
    obtain ⟨x, y, hx, hy, h⟩ := hu i hi
    rw [hx, hy]
    rcases h with ⟨a, b, ha, hb, rfl, rfl⟩ | ⟨ha, _, rfl⟩ | ⟨_, hb, rfl⟩
    · refine ⟨code_of hA (find_in ha), code_of hB (find_in hb), ?_⟩
      have := List.find?_some hb
      simp only [decide_eq_true_eq] at this
      exact this.symm
    · exact ⟨code_of hA (find_in ha), code_of hA (find_in ha), rfl⟩
    · exact ⟨code_of hB (find_in hb), code_of hB (find_in hb), rfl⟩
  have hr2 : rise (tak A B) = true := rise_acts (by rw [l1, l2]) (fun i hi => (hc i (by rw [← l1]; exact hi)).2.2) hr
  refine ⟨(valid_iff _).2 ⟨by rw [l1]; omega, fun i hi => (hc i (by rw [← l1]; exact hi)).1, fun i hi => rise_iff.1 hr i hi⟩, (valid_iff _).2 ⟨by rw [l2]; omega, fun i hi => (hc i (by rw [← l2]; exact hi)).2.1, fun i hi => rise_iff.1 hr2 i hi⟩⟩
theorem prs_self : ∀ K : List Res, prs K K = K.map fun k => (k, k)
  | [] => by rw [prs_nil]
  | k :: K => by rw [prs_eq _ _ (cf_self k), prs_self K]; rfl
theorem unl_self {K : List Res} (hr : rise K = true) : ∀ {B : List Res}, (∀ y ∈ B, y ∈ K) → unl K B = [] ∧ cnt K B = 0
  | [], _ => ⟨rfl, rfl⟩
  | y :: B, h => by
    obtain ⟨h1, h2⟩ := unl_self hr (B := B) (fun z hz => h z (by simp [hz]))
    simp only [unl, cnt, find_mem hr (h y (by simp)), h1, h2]
    simp
theorem map_fst (K : List Res) : (K.map fun k => (k, k)).map (fun q : Res × Res => q.1) = K := by
  rw [List.map_map]
  conv => rhs; rw [← List.map_id K]
  rfl
theorem join_self {K : List Res} (hK : valid K = true) : join K K 3 = (K, [], 0) := by
  obtain ⟨h1, h2⟩ := unl_self (valid_rise hK) (B := K) (fun y h => h)
  have hk : kep K K = K := by unfold kep; rw [prs_self, map_fst]
  have h32 := valid_len hK
  rw [join_fail hK hK]
  unfold jf jk big
  rw [h1, h2, hk, if_neg (by simp), if_neg (by omega)]
theorem unl_nil : ∀ B : List Res, unl [] B = [] ∧ cnt [] B = B.length
  | [] => ⟨rfl, rfl⟩
  | y :: B => by
    have hf : find [] y.action = none := rfl
    obtain ⟨h1, h2⟩ := unl_nil B
    simp only [unl, cnt, hf, h1, h2, List.length_cons]
    exact ⟨trivial, by simp; omega⟩
theorem join_none {K : List Res} (hK : valid K = true) : join [] K 3 = (K, [], 0) := by
  obtain ⟨h1, h2⟩ := unl_nil K
  have hk : kep [] K = K := by unfold kep; rw [prs_nil, map_fst]
  have h32 := valid_len hK
  rw [join_fail rfl hK]
  unfold jf jk big
  rw [h1, h2, hk, if_neg (by simp), if_neg (by simp; omega)]
/-- As far as i of theirs. -/
theorem unl_snoc (A : List Res) : ∀ (B : List Res) (y : Res), unl A (B ++ [y]) = unl A B ++ unl A [y] ∧ cnt A (B ++ [y]) = cnt A B + cnt A [y]
  | [], y => by simp [unl, cnt]
  | z :: B, y => by
    obtain ⟨h1, h2⟩ := unl_snoc A B y
    simp only [List.cons_append, unl, cnt] at h1 h2 ⊢
    constructor
    · split
      · split
        · rw [h1]; rfl
        · rw [h1]
      · rw [h1]
    · omega
theorem unl_len (A : List Res) : ∀ B : List Res, (unl A B).length ≤ B.length ∧ cnt A B ≤ B.length
  | [] => ⟨Nat.le_refl _, Nat.le_refl _⟩
  | y :: B => by
    obtain ⟨h1, h2⟩ := unl_len A B
    simp only [unl, cnt, List.length_cons]
    constructor
    · split
      · split
        · simp; omega
        · omega
      · omega
    · split <;> omega
end Tb
end Go.Proofs.Ytdeneflgldagpab
