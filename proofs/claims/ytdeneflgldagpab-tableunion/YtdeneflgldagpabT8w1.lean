/-
  The union of two tables, action by action: mathematics.
-/
import Derived.Test.YtdeneflgldagpabT8v0
import Derived.Test.YtdeneflgldagpabZs
namespace Go.Proofs.Ytdeneflgldagpab
open Go.RowKit Go.Sort
set_option linter.unusedVariables false
set_option linter.unusedSimpArgs false

namespace Tb
/-- The union as pairs: what our side makes of each action, and what theirs does. -/
def prs : List Res → List Res → List (Res × Res)
  | [], B => B.map fun b => (b, b)
  | a :: A, [] => (a :: A).map fun a => (a, a)
  | a :: A, b :: B => if cf a b < 0 then (a, a) :: prs A (b :: B) else if 0 < cf a b then (b, b) :: prs (a :: A) B else (a, b) :: prs A B
termination_by A B => A.length + B.length
def cfl : List Res → List Res → List (List UInt8)
  | [], _ => []
  | _ :: _, [] => []
  | a :: A, b :: B => if cf a b < 0 then cfl A (b :: B) else if 0 < cf a b then cfl (a :: A) B else if a = b then cfl A B else a.action :: cfl A B
termination_by A B => A.length + B.length
theorem prs_nil (B : List Res) : prs [] B = B.map fun b => (b, b) := by rw [prs]
theorem prs_right (A : List Res) : prs A [] = A.map fun a => (a, a) := by cases A with
  | nil => rw [prs]
  | cons a A => rw [prs]
theorem prs_lt {a b : Res} (A B : List Res) (h : cf a b < 0) : prs (a :: A) (b :: B) = (a, a) :: prs A (b :: B) := by rw [prs, if_pos h]
theorem prs_gt {a b : Res} (A B : List Res) (h : 0 < cf a b) : prs (a :: A) (b :: B) = (b, b) :: prs (a :: A) B := by rw [prs, if_neg (by omega), if_pos h]
theorem prs_eq {a b : Res} (A B : List Res) (h : cf a b = 0) : prs (a :: A) (b :: B) = (a, b) :: prs A B := by rw [prs, if_neg (by omega), if_neg (by omega)]
theorem cfl_nil (B : List Res) : cfl [] B = [] := by rw [cfl]
theorem cfl_right (A : List Res) : cfl A [] = [] := by cases A with
  | nil => rw [cfl]
  | cons a A => rw [cfl]
theorem cfl_lt {a b : Res} (A B : List Res) (h : cf a b < 0) : cfl (a :: A) (b :: B) = cfl A (b :: B) := by rw [cfl, if_pos h]
theorem cfl_gt {a b : Res} (A B : List Res) (h : 0 < cf a b) : cfl (a :: A) (b :: B) = cfl (a :: A) B := by rw [cfl, if_neg (by omega), if_pos h]
theorem cfl_same {a b : Res} (A B : List Res) (h : cf a b = 0) (e : a = b) : cfl (a :: A) (b :: B) = cfl A B := by rw [cfl, if_neg (by omega), if_neg (by omega), if_pos e]
theorem cfl_unlike {a b : Res} (A B : List Res) (h : cf a b = 0) (e : a ≠ b) : cfl (a :: A) (b :: B) = a.action :: cfl A B := by rw [cfl, if_neg (by omega), if_neg (by omega), if_neg e]
/-- A step of both lists at once. -/
theorem both_ind {P : List Res → List Res → Prop} (h1 : ∀ B, P [] B) (h2 : ∀ A, P A []) (h3 : ∀ a A b B, cf a b < 0 → P A (b :: B) → P (a :: A) (b :: B)) (h4 : ∀ a A b B, 0 < cf a b → P (a :: A) B → P (a :: A) (b :: B)) (h5 : ∀ a A b B, cf a b = 0 → P A B → P (a :: A) (b :: B)) : ∀ A B, P A B := by
  intro A B
  induction hn : A.length + B.length using Nat.strongRecOn generalizing A B with
  | _ n ih =>
    subst hn
    cases A with
    | nil => exact h1 B
    | cons a A =>
      cases B with
      | nil => exact h2 _
      | cons b B =>
        by_cases c1 : cf a b < 0
        · exact h3 a A b B c1 (ih (A.length + (b :: B).length) (by simp) A (b :: B) rfl)
        · by_cases c2 : 0 < cf a b
          · exact h4 a A b B c2 (ih ((a :: A).length + B.length) (by simp) (a :: A) B rfl)
          · exact h5 a A b B (by omega) (ih (A.length + B.length) (by simp; omega) A B rfl)
def pick (p : Int) (q : Res × Res) : Res := if p = 2 then q.2 else q.1
theorem uni_prs (p : Int) (hp : p = 1 ∨ p = 2) : ∀ (A B : List Res) (s : St), uni (setl p) (sete p) A B s = (s.1 ++ (prs A B).map (pick p), s.2.1 ++ cfl A B, s.2.2) := by
  have he : sete p = 0 := by rcases hp with rfl | rfl <;> rfl
  have hpp : ∀ b : Res, pick p (b, b) = b := fun b => by unfold pick; split <;> rfl
  have hs : ∀ a b : Res, setl p a b = pick p (a, b) := fun a b => by rcases hp with rfl | rfl <;> rfl
  have hmap : ∀ B : List Res, (B.map fun b => (b, b)).map (pick p) = B := fun B => by
    rw [List.map_map]
    conv => rhs; rw [← List.map_id B]
    apply List.map_congr_left
    intro b _
    exact hpp b
  refine both_ind ?_ ?_ ?_ ?_ ?_
  · intro B s; rw [uni_left, prs_nil, cfl_nil, hmap]; simp
  · intro A s; rw [uni_right, prs_right, cfl_right, hmap]; simp
  · intro a A b B h ih s; rw [uni_lt _ _ _ _ _ _ _ h, ih, prs_lt _ _ h, cfl_lt _ _ h]; simp [hpp]
  · intro a A b B h ih s; rw [uni_gt _ _ _ _ _ _ _ h, ih, prs_gt _ _ h, cfl_gt _ _ h]; simp [hpp]
  · intro a A b B h ih s
    rw [uni_eq _ _ _ _ _ _ _ h, ih, prs_eq _ _ h]
    unfold both
    by_cases e : a = b
    · rw [if_pos e, cfl_same _ _ h e]
      subst e
      simp [hpp]
    · rw [if_neg e, if_pos he, cfl_unlike _ _ h e, hs]
      simp
theorem uni_fail : ∀ (A B : List Res) (s : St), (uni (setl 3) (sete 3) A B s).2.1 = s.2.1 ++ cfl A B ∧ (cfl A B ≠ [] → (uni (setl 3) (sete 3) A B s).2.2 = 150) ∧ (cfl A B = [] → uni (setl 3) (sete 3) A B s = (s.1 ++ (prs A B).map (·.1), s.2)) := by
  have hmap : ∀ B : List Res, (B.map fun b => (b, b)).map (fun q : Res × Res => q.1) = B := fun B => by
    rw [List.map_map]
    conv => rhs; rw [← List.map_id B]
    rfl
  refine both_ind ?_ ?_ ?_ ?_ ?_
  · intro B s; rw [uni_left, cfl_nil, prs_nil, hmap]; simp
  · intro A s; rw [uni_right, cfl_right, prs_right, hmap]; simp
  · intro a A b B h ih s; rw [uni_lt _ _ _ _ _ _ _ h, prs_lt _ _ h, cfl_lt _ _ h]
    have := ih (s.1 ++ [a], s.2)
    refine ⟨this.1, this.2.1, fun hc => by rw [this.2.2 hc]; simp⟩
  · intro a A b B h ih s; rw [uni_gt _ _ _ _ _ _ _ h, prs_gt _ _ h, cfl_gt _ _ h]
    have := ih (s.1 ++ [b], s.2)
    refine ⟨this.1, this.2.1, fun hc => by rw [this.2.2 hc]; simp⟩
  · intro a A b B h ih s
    rw [uni_eq _ _ _ _ _ _ _ h, prs_eq _ _ h]
    unfold both
    by_cases e : a = b
    · rw [if_pos e, cfl_same _ _ h e]
      have := ih (s.1 ++ [a], s.2.1, s.2.2)
      refine ⟨this.1, this.2.1, fun hc => by rw [this.2.2 hc]; simp⟩
    · rw [if_neg e, if_neg (by decide), cfl_unlike _ _ h e]
      have := ih (s.1, s.2.1 ++ [a.action], sete 3)
      refine ⟨by rw [this.1]; simp, fun _ => ?_, fun hc => by cases hc⟩
      by_cases hc : cfl A B = []
      · rw [this.2.2 hc]; rfl
      · exact this.2.1 hc
theorem rise_tail {a : Res} {A : List Res} (h : rise (a :: A) = true) : rise A = true ∧ ∀ x ∈ A, cf a x < 0 := by
  have := pair_rise.2 h
  rw [List.pairwise_cons] at this
  exact ⟨pair_rise.1 this.2, this.1⟩
theorem find_cons_ne {a : Res} {A : List Res} {α : List UInt8} (h : a.action ≠ α) : find (a :: A) α = find A α := by
  unfold find
  rw [List.find?_cons_of_neg (by simpa using h)]
theorem find_cons_eq {a : Res} {A : List Res} {α : List UInt8} (h : a.action = α) : find (a :: A) α = some a := by
  unfold find
  rw [List.find?_cons_of_pos (by simpa using h)]
theorem find_none {A : List Res} {α : List UInt8} (h : ∀ x ∈ A, x.action ≠ α) : find A α = none := by
  unfold find
  rw [List.find?_eq_none]
  intro x hx
  simpa using h x hx
theorem cf_ne {a b : Res} (h : cf a b < 0) : a.action ≠ b.action := fun e => by rw [cf_zero.2 e] at h; omega
theorem cf_gt {a b : Res} (h : 0 < cf a b) : cf b a < 0 := by have := cf_swap a b; omega
/-- What stands in the union. -/
theorem prs_mem : ∀ (A B : List Res), rise A = true → rise B = true → ∀ q ∈ prs A B, (q.1 ∈ A ∨ q.1 ∈ B) ∧ q.1.action = q.2.action ∧ q.1 = ((find A q.1.action).getD ((find B q.1.action).getD res0)) ∧ q.2 = ((find B q.1.action).getD ((find A q.1.action).getD res0)) ∧ ((find A q.1.action).isSome = true ∨ (find B q.1.action).isSome = true) := by
  refine both_ind ?_ ?_ ?_ ?_ ?_
  · intro B _ hB q hq
    rw [prs_nil, List.mem_map] at hq
    obtain ⟨b, hb, rfl⟩ := hq
    rw [find_mem hB hb]
    exact ⟨.inr hb, rfl, rfl, rfl, .inr rfl⟩
  · intro A hA _ q hq
    rw [prs_right, List.mem_map] at hq
    obtain ⟨a, ha, rfl⟩ := hq
    rw [find_mem hA ha]
    exact ⟨.inl ha, rfl, rfl, rfl, .inl rfl⟩
  · intro a A b B h ih hA hB q hq
    obtain ⟨hA1, hA2⟩ := rise_tail hA
    obtain ⟨hB1, hB2⟩ := rise_tail hB
    rw [prs_lt _ _ h, List.mem_cons] at hq
    rcases hq with rfl | hq
    · have hf : find (b :: B) a.action = none := find_none (fun x hx => by
        rcases List.mem_cons.1 hx with rfl | hx
        · exact fun e => cf_ne h e.symm
        · exact fun e => cf_ne (cf_trans h (hB2 x hx)) e.symm)
      simp only [find_cons_eq rfl, hf]
      exact ⟨.inl (by simp), trivial, rfl, rfl, .inl rfl⟩
    · obtain ⟨i1, i2, i3, i4, i5⟩ := ih hA1 hB q hq
      have hne : a.action ≠ q.1.action := by
        rcases i1 with i1 | i1
        · exact cf_ne (hA2 _ i1)
        · rcases List.mem_cons.1 i1 with i1 | i1
          · rw [i1]; exact cf_ne h
          · exact cf_ne (cf_trans h (hB2 _ i1))
      rw [find_cons_ne hne]
      exact ⟨by rcases i1 with i1 | i1
                · exact .inl (by simp [i1])
                · exact .inr i1, i2, i3, i4, i5⟩
  · intro a A b B h ih hA hB q hq
    obtain ⟨hA1, hA2⟩ := rise_tail hA
    obtain ⟨hB1, hB2⟩ := rise_tail hB
    have h' := cf_gt h
    rw [prs_gt _ _ h, List.mem_cons] at hq
    rcases hq with rfl | hq
    · have hf : find (a :: A) b.action = none := find_none (fun x hx => by
        rcases List.mem_cons.1 hx with rfl | hx
        · exact fun e => cf_ne h' e.symm
        · exact fun e => cf_ne (cf_trans h' (hA2 x hx)) e.symm)
      simp only [find_cons_eq rfl, hf]
      exact ⟨.inr (by simp), trivial, rfl, rfl, .inr rfl⟩
    · obtain ⟨i1, i2, i3, i4, i5⟩ := ih hA hB1 q hq
      have hne : b.action ≠ q.1.action := by
        rcases i1 with i1 | i1
        · rcases List.mem_cons.1 i1 with i1 | i1
          · rw [i1]; exact cf_ne h'
          · exact cf_ne (cf_trans h' (hA2 _ i1))
        · exact cf_ne (hB2 _ i1)
      rw [find_cons_ne hne]
      exact ⟨by rcases i1 with i1 | i1
                · exact .inl i1
                · exact .inr (by simp [i1]), i2, i3, i4, i5⟩
  · intro a A b B h ih hA hB q hq
    obtain ⟨hA1, hA2⟩ := rise_tail hA
    obtain ⟨hB1, hB2⟩ := rise_tail hB
    have hab := cf_zero.1 h
    rw [prs_eq _ _ h, List.mem_cons] at hq
    rcases hq with rfl | hq
    · simp only [find_cons_eq rfl, find_cons_eq hab.symm]
      exact ⟨.inl (by simp), hab, rfl, rfl, .inl rfl⟩
    · obtain ⟨i1, i2, i3, i4, i5⟩ := ih hA1 hB1 q hq
      have hne : a.action ≠ q.1.action ∧ b.action ≠ q.1.action := by
        rcases i1 with i1 | i1
        · exact ⟨cf_ne (hA2 _ i1), by rw [← hab]; exact cf_ne (hA2 _ i1)⟩
        · exact ⟨by rw [hab]; exact cf_ne (hB2 _ i1), cf_ne (hB2 _ i1)⟩
      rw [find_cons_ne hne.1, find_cons_ne hne.2]
      exact ⟨by rcases i1 with i1 | i1
                · exact .inl (by simp [i1])
                · exact .inr (by simp [i1]), i2, i3, i4, i5⟩
theorem prs_rise : ∀ (A B : List Res), rise A = true → rise B = true → ((prs A B).map (·.1)).Pairwise (fun x y => cf x y < 0) := by
  have hmap : ∀ B : List Res, (B.map fun b => (b, b)).map (fun q : Res × Res => q.1) = B := fun B => by
    rw [List.map_map]
    conv => rhs; rw [← List.map_id B]
    rfl
  refine both_ind ?_ ?_ ?_ ?_ ?_
  · intro B _ hB; rw [prs_nil, hmap]; exact pair_rise.2 hB
  · intro A hA _; rw [prs_right, hmap]; exact pair_rise.2 hA
  · intro a A b B h ih hA hB
    obtain ⟨hA1, hA2⟩ := rise_tail hA
    obtain ⟨hB1, hB2⟩ := rise_tail hB
    rw [prs_lt _ _ h, List.map_cons, List.pairwise_cons]
    refine ⟨fun x hx => ?_, ih hA1 hB⟩
    obtain ⟨q, hq, rfl⟩ := List.mem_map.1 hx
    rcases (prs_mem A (b :: B) hA1 hB q hq).1 with i1 | i1
    · exact hA2 _ i1
    · rcases List.mem_cons.1 i1 with i1 | i1
      · rw [i1]; exact h
      · exact cf_trans h (hB2 _ i1)
  · intro a A b B h ih hA hB
    obtain ⟨hA1, hA2⟩ := rise_tail hA
    obtain ⟨hB1, hB2⟩ := rise_tail hB
    have h' := cf_gt h
    rw [prs_gt _ _ h, List.map_cons, List.pairwise_cons]
    refine ⟨fun x hx => ?_, ih hA hB1⟩
    obtain ⟨q, hq, rfl⟩ := List.mem_map.1 hx
    rcases (prs_mem (a :: A) B hA hB1 q hq).1 with i1 | i1
    · rcases List.mem_cons.1 i1 with i1 | i1
      · rw [i1]; exact h'
      · exact cf_trans h' (hA2 _ i1)
    · exact hB2 _ i1
  · intro a A b B h ih hA hB
    obtain ⟨hA1, hA2⟩ := rise_tail hA
    obtain ⟨hB1, hB2⟩ := rise_tail hB
    rw [prs_eq _ _ h, List.map_cons, List.pairwise_cons]
    refine ⟨fun x hx => ?_, ih hA1 hB1⟩
    obtain ⟨q, hq, rfl⟩ := List.mem_map.1 hx
    rcases (prs_mem A B hA1 hB1 q hq).1 with i1 | i1
    · exact hA2 _ i1
    · have := hB2 _ i1
      unfold cf at this ⊢
      rw [cf_zero.1 h]
      exact this
/-- The conflicts, as they are met along theirs. -/
def unl (A : List Res) : List Res → List (List UInt8)
  | [] => []
  | y :: B => match find A y.action with
    | some x => if x ≠ y then x.action :: unl A B else unl A B
    | none => unl A B
def cnt (A : List Res) : List Res → Nat
  | [] => 0
  | y :: B => (if (find A y.action).isSome then 0 else 1) + cnt A B
theorem unl_congr {A A' : List Res} : ∀ {B : List Res}, (∀ y ∈ B, find A y.action = find A' y.action) → unl A B = unl A' B ∧ cnt A B = cnt A' B
  | [], _ => ⟨rfl, rfl⟩
  | y :: B, h => by
    have h1 := h y (by simp)
    obtain ⟨h2, h3⟩ := unl_congr (B := B) (fun z hz => h z (by simp [hz]))
    simp only [unl, cnt, h1, h2, h3]
    exact ⟨trivial, trivial⟩
theorem cfl_unl : ∀ (A B : List Res), rise A = true → rise B = true → cfl A B = unl A B ∧ (prs A B).length = A.length + cnt A B := by
  refine both_ind ?_ ?_ ?_ ?_ ?_
  · intro B _ _
    rw [cfl_nil, prs_nil]
    have : ∀ B : List Res, unl [] B = [] ∧ cnt [] B = B.length := by
      intro B
      induction B with
      | nil => exact ⟨rfl, rfl⟩
      | cons y B ih =>
        have hf : find [] y.action = none := rfl
        simp only [unl, cnt, hf, ih.1, ih.2, List.length_cons]
        exact ⟨trivial, by simp; omega⟩
    obtain ⟨h1, h2⟩ := this B
    rw [h1, h2]
    simp
  · intro A _ _
    rw [cfl_right, prs_right]
    simp [unl, cnt]
  · intro a A b B h ih hA hB
    obtain ⟨hA1, hA2⟩ := rise_tail hA
    obtain ⟨hB1, hB2⟩ := rise_tail hB
    obtain ⟨i1, i2⟩ := ih hA1 hB
    have hc := unl_congr (A := a :: A) (A' := A) (B := b :: B) (fun y hy => find_cons_ne (by
      rcases List.mem_cons.1 hy with rfl | hy
      · exact cf_ne h
      · exact cf_ne (cf_trans h (hB2 _ hy))))
    rw [cfl_lt _ _ h, prs_lt _ _ h, hc.1, hc.2, i1, List.length_cons, i2, List.length_cons]
    exact ⟨rfl, by omega⟩
  · intro a A b B h ih hA hB
    obtain ⟨hA1, hA2⟩ := rise_tail hA
    obtain ⟨hB1, hB2⟩ := rise_tail hB
    obtain ⟨i1, i2⟩ := ih hA hB1
    have h' := cf_gt h
    have hf : find (a :: A) b.action = none := find_none (fun x hx => by
      rcases List.mem_cons.1 hx with rfl | hx
      · exact fun e => cf_ne h' e.symm
      · exact fun e => cf_ne (cf_trans h' (hA2 x hx)) e.symm)
    rw [cfl_gt _ _ h, prs_gt _ _ h, i1, List.length_cons, i2]
    simp only [unl, cnt, hf]
    exact ⟨trivial, by simp; omega⟩
  · intro a A b B h ih hA hB
    obtain ⟨hA1, hA2⟩ := rise_tail hA
    obtain ⟨hB1, hB2⟩ := rise_tail hB
    obtain ⟨i1, i2⟩ := ih hA1 hB1
    have hab := cf_zero.1 h
    have hc := unl_congr (A := a :: A) (A' := A) (B := B) (fun y hy => find_cons_ne (by rw [hab]; exact cf_ne (hB2 _ hy)))
    have hf : find (a :: A) b.action = some a := find_cons_eq hab
    rw [prs_eq _ _ h, List.length_cons, i2, List.length_cons]
    by_cases e : a = b
    · rw [cfl_same _ _ h e, i1]
      simp only [unl, cnt, hf, hc.1, hc.2]
      simp [e]
      omega
    · rw [cfl_unlike _ _ h e, i1]
      simp only [unl, cnt, hf, hc.1, hc.2]
      simp [e]
      omega
end Tb
end Go.Proofs.Ytdeneflgldagpab
