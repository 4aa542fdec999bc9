/-
  The order of results: mathematics.
-/
import Derived.Test.YtmhnjhnnaciokaaZd
namespace Go.Proofs.Ytmhnjhnnaciokaa
open Go.RowKit Go.Sort Go.Lib
set_option linter.unusedVariables false
set_option linter.unusedSimpArgs false

theorem cmp_self : ∀ a : List UInt8, compareBytes a a = 0
  | [] => rfl
  | x :: a => by unfold compareBytes; simp [UInt8.lt_irrefl, cmp_self a]
theorem cmp_swap : ∀ a b : List UInt8, compareBytes b a = - compareBytes a b
  | [], [] => rfl
  | [], _ :: _ => rfl
  | _ :: _, [] => rfl
  | x :: a, y :: b => by
    unfold compareBytes
    by_cases h1 : x < y
    · have h2 : ¬ y < x := fun h => UInt8.lt_irrefl x (UInt8.lt_trans h1 h)
      simp [h1, h2]
    · by_cases h2 : y < x
      · simp [h1, h2]
      · simp only [h1, h2, if_false]; exact cmp_swap a b
theorem cmp_zero : ∀ {a b : List UInt8}, compareBytes a b = 0 → a = b
  | [], [], _ => rfl
  | [], _ :: _, h => by simp [compareBytes] at h
  | _ :: _, [], h => by simp [compareBytes] at h
  | x :: a, y :: b, h => by
    unfold compareBytes at h
    by_cases h1 : x < y
    · simp [h1] at h
    · by_cases h2 : y < x
      · simp [h1, h2] at h
      · simp only [h1, h2, if_false] at h
        have e : x = y := UInt8.le_antisymm (UInt8.not_lt.1 h2) (UInt8.not_lt.1 h1)
        rw [e, cmp_zero h]
theorem cmp_trans : ∀ {a b c : List UInt8}, compareBytes a b < 0 → compareBytes b c < 0 → compareBytes a c < 0
  | [], [], _, h, _ => by simp [compareBytes] at h
  | [], _ :: _, [], _, h => by simp [compareBytes] at h
  | [], _ :: _, _ :: _, _, _ => by simp [compareBytes]
  | _ :: _, [], _, h, _ => by simp [compareBytes] at h
  | _ :: _, _ :: _, [], _, h => by simp [compareBytes] at h
  | x :: a, y :: b, z :: c, h1, h2 => by
    unfold compareBytes at h1 h2 ⊢
    by_cases hxy : x < y
    · by_cases hyz : y < z
      · simp [UInt8.lt_trans hxy hyz]
      · by_cases hzy : z < y
        · simp [hyz, hzy] at h2
        · have e : y = z := UInt8.le_antisymm (UInt8.not_lt.1 hzy) (UInt8.not_lt.1 hyz)
          subst e
          simp [hxy]
    · by_cases hyx : y < x
      · simp [hxy, hyx] at h1
      · have e : x = y := UInt8.le_antisymm (UInt8.not_lt.1 hyx) (UInt8.not_lt.1 hxy)
        subst e
        by_cases hyz : x < z
        · simp [hyz]
        · by_cases hzy : z < x
          · simp [hyz, hzy] at h2
          · simp only [hxy, hyx, hyz, hzy, if_false] at h1 h2 ⊢
            exact cmp_trans h1 h2

namespace Tb
theorem cf_self (a : Res) : cf a a = 0 := cmp_self _
theorem cf_swap (a b : Res) : cf b a = - cf a b := cmp_swap _ _
theorem cf_zero {a b : Res} : cf a b = 0 ↔ a.action = b.action := ⟨cmp_zero, fun h => by unfold cf; rw [h]; exact cmp_self _⟩
theorem cf_trans {a b c : Res} (h1 : cf a b < 0) (h2 : cf b c < 0) : cf a c < 0 := cmp_trans h1 h2
theorem cf_le_trans {a b c : Res} (h1 : cf a b ≤ 0) (h2 : cf b c ≤ 0) : cf a c ≤ 0 := by
  by_cases e1 : cf a b = 0
  · have := cf_zero.1 e1; unfold cf at h2 ⊢; rw [this]; exact h2
  · by_cases e2 : cf b c = 0
    · have := cf_zero.1 e2; unfold cf at h1 ⊢; rw [← this]; exact h1
    · have := cf_trans (a := a) (b := b) (c := c) (by omega) (by omega)
      omega
theorem swo : SWO (ltOf cf) where
  irrefl x := by simp [ltOf, cf_self]
  trans x y z h1 h2 := by simp only [ltOf, decide_eq_true_eq] at *; exact cf_trans h1 h2
  ntrans x y z h1 h2 := by
    simp only [ltOf, decide_eq_false_iff_not, Int.not_lt] at *
    have a1 := cf_swap x y
    have a2 := cf_swap y z
    have a3 := cf_swap x z
    have := cf_le_trans (a := z) (b := y) (c := x) (by omega) (by omega)
    omega

/-- Each action once, rising. -/
def rise (L : List Res) : Bool := (List.range (L.length - 1)).all fun i => decide (cf (L.getD i res0) (L.getD (i + 1) res0) < 0)
theorem rise_iff {L : List Res} : rise L = true ↔ ∀ i, i + 1 < L.length → cf (L.getD i res0) (L.getD (i + 1) res0) < 0 := by
  simp only [rise, List.all_eq_true, List.mem_range, decide_eq_true_eq]
  exact ⟨fun h i hi => h i (by omega), fun h i hi => h i (by omega)⟩
theorem rise_lt {L : List Res} (h : rise L = true) : ∀ i d, i + d + 1 < L.length → cf (L.getD i res0) (L.getD (i + d + 1) res0) < 0 := by
  intro i d
  induction d with
  | zero => intro hi; exact rise_iff.1 h i hi
  | succ d ih =>
    intro hi
    exact cf_trans (ih (by omega)) (rise_iff.1 h (i + d + 1) (by omega))
theorem rise_pair {L : List Res} (h : rise L = true) {i j : Nat} (hij : i < j) (hj : j < L.length) : cf (L.getD i res0) (L.getD j res0) < 0 := by
  have := rise_lt h i (j - i - 1) (by omega)
  rwa [show i + (j - i - 1) + 1 = j by omega] at this
theorem rise_apart {L : List Res} (h : rise L = true) : apart L := fun i hi e => by
  have := rise_iff.1 h i hi
  rw [cf_zero.2 e] at this
  omega
theorem pairwise_getD {R : Res → Res → Prop} {L : List Res} : (∀ i j, i < j → j < L.length → R (L.getD i res0) (L.getD j res0)) → L.Pairwise R := by
  intro h
  rw [List.pairwise_iff_getElem]
  intro i j hi hj hij
  have := h i j hij hj
  simpa [List.getElem?_eq_getElem hi, List.getElem?_eq_getElem hj] using this
/-- What is put in order is the same just if it was so. -/
theorem sorted_same {L M : List Res} (hp : M.Perm L) (hs : ∀ i j, i < j → j < M.length → cf (M.getD i res0) (M.getD j res0) ≤ 0) (h : rise L = true) : M = L := by
  have hL : L.Pairwise fun a b => cf a b ≤ 0 := pairwise_getD fun i j hij hj => by have := rise_pair h hij hj; omega
  refine List.Perm.eq_of_pairwise (le := fun a b => cf a b ≤ 0) ?_ (pairwise_getD hs) hL hp
  intro a b ha hb h1 h2
  have ha' : a ∈ L := hp.mem_iff.1 ha
  obtain ⟨i, hi, rfl⟩ := List.getElem_of_mem ha'
  obtain ⟨j, hj, rfl⟩ := List.getElem_of_mem hb
  have e1 : L[i] = L.getD i res0 := by simp [List.getElem?_eq_getElem hi]
  have e2 : L[j] = L.getD j res0 := by simp [List.getElem?_eq_getElem hj]
  rcases Nat.lt_trichotomy i j with hij | hij | hij
  · have := rise_pair h hij hj
    have := cf_swap (L.getD i res0) (L.getD j res0)
    rw [e1, e2] at h2
    omega
  · subst hij; rfl
  · have := rise_pair h hij hi
    have := cf_swap (L.getD j res0) (L.getD i res0)
    rw [e1, e2] at h1
    omega
theorem sorted_rise {M : List Res} (hs : ∀ i j, i < j → j < M.length → cf (M.getD i res0) (M.getD j res0) ≤ 0) (ha : apart M) : rise M = true := by
  rw [rise_iff]
  intro i hi
  have h1 := hs i (i + 1) (by omega) hi
  have h2 : cf (M.getD i res0) (M.getD (i + 1) res0) ≠ 0 := fun e => ha i hi (cf_zero.1 e)
  omega
def valid (L : List Res) : Bool := decide (L.length ≤ 32) && !(L.any noCode) && rise L
end Tb
end Go.Proofs.Ytmhnjhnnaciokaa
