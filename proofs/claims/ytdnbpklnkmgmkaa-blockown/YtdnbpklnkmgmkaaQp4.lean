/-
  Packed bytes as mathematics: the search among the places of three bytes. Nothing of the program.
-/
import Derived.Test.YtdnbpklnkmgmkaaQp3
namespace Go.Proofs.Ytdnbpklnkmgmkaa
set_option linter.unusedVariables false

namespace Prs

/-- These three bytes stand at a place. -/
def here (data : List UInt8) (a b c : UInt8) (i : Nat) : Bool := decide (i + 3 ≤ data.length) && (data.getD i 0 == a && (data.getD (i + 1) 0 == b && data.getD (i + 2) 0 == c))
/-- Where they stand ahead of a place, rising. -/
def pls (data : List UInt8) (a b c : UInt8) (at_ : Nat) : List Nat := (List.range at_).filter (here data a b c)

theorem here_iff (data : List UInt8) (a b c : UInt8) (i : Nat) : here data a b c i = true ↔ i + 3 ≤ data.length ∧ data.getD i 0 = a ∧ data.getD (i + 1) 0 = b ∧ data.getD (i + 2) 0 = c := by
  unfold here
  simp only [Bool.and_eq_true, decide_eq_true_eq, beq_iff_eq]
theorem pls_succ (data : List UInt8) (a b c : UInt8) (at_ : Nat) : pls data a b c (at_ + 1) = pls data a b c at_ ++ (if here data a b c at_ then [at_] else []) := by
  unfold pls
  rw [List.range_succ, List.filter_append]
  simp [List.filter_cons]
theorem pls_far (data : List UInt8) (a b c : UInt8) (at_ : Nat) (h : data.length < at_ + 3) : pls data a b c (at_ + 1) = pls data a b c at_ := by
  rw [pls_succ, if_neg, List.append_nil]
  rw [here_iff]; omega
theorem pls_mem {data : List UInt8} {a b c : UInt8} {at_ i : Nat} : i ∈ pls data a b c at_ ↔ i < at_ ∧ here data a b c i = true := by
  unfold pls; simp
theorem pls_len (data : List UInt8) (a b c : UInt8) (at_ : Nat) : (pls data a b c at_).length ≤ at_ := by
  unfold pls; exact Nat.le_trans (List.length_filter_le _ _) (by simp)
theorem pls_rising (data : List UInt8) (a b c : UInt8) (at_ : Nat) : (pls data a b c at_).Pairwise (· < ·) := by
  unfold pls; exact List.Pairwise.filter _ List.pairwise_lt_range

/-- A match has at the least three bytes. -/
def thr (m : Nat × Nat) : Nat × Nat := if 3 ≤ m.1 then m else (0, 0)
/-- A match of that length, if it is longer. -/
def upd (m : Nat × Nat) (d l : Nat) : Nat × Nat := if m.1 < l ∧ 3 ≤ l then (l, d) else m

theorem alike_three (data : List UInt8) (fr at_ : Nat) (h3 : at_ + 3 ≤ data.length) (hf : fr ≤ at_) : here data (data.getD at_ 0) (data.getD (at_ + 1) 0) (data.getD (at_ + 2) 0) fr = true ↔ 3 ≤ alike data fr at_ 66 := by
  rw [here_iff]
  constructor
  · rintro ⟨h0, h1, h2, h4⟩
    rw [alike, if_pos ⟨by omega, h1⟩, alike, if_pos ⟨by omega, h2⟩, alike, if_pos ⟨by omega, h4⟩]
    omega
  · intro h
    refine ⟨by omega, ?_, ?_, ?_⟩
    · have := alike_same data 66 fr at_ 0 (by omega); simpa using this
    · exact alike_same data 66 fr at_ 1 (by omega)
    · exact alike_same data 66 fr at_ 2 (by omega)

theorem best_succ (data : List UInt8) (at_ d : Nat) : best data at_ (d + 1) = if (best data at_ d).1 < alike data (at_ - (d + 1)) at_ 66 then (alike data (at_ - (d + 1)) at_ 66, d + 1) else best data at_ d := rfl

/-- Distances at which there is no match change nothing. -/
theorem thr_skip (data : List UInt8) (at_ D : Nat) : ∀ k, (∀ e, D < e → e ≤ D + k → alike data (at_ - e) at_ 66 < 3) → thr (best data at_ (D + k)) = thr (best data at_ D)
  | 0, _ => rfl
  | k + 1, h => by
    have ih := thr_skip data at_ D k (fun e h1 h2 => h e h1 (by omega))
    have h3 := h (D + k + 1) (by omega) (by omega)
    rw [← ih, show D + (k + 1) = D + k + 1 by omega, best_succ]
    split
    · next hc => unfold thr; rw [if_neg (by show ¬ 3 ≤ alike data (at_ - (D + k + 1)) at_ 66; omega), if_neg (by omega)]
    · rfl
theorem thr_step (data : List UInt8) (at_ d : Nat) (h : 3 ≤ alike data (at_ - (d + 1)) at_ 66) : thr (best data at_ (d + 1)) = upd (thr (best data at_ d)) (d + 1) (alike data (at_ - (d + 1)) at_ 66) := by
  rw [best_succ]
  generalize best data at_ d = m
  generalize alike data (at_ - (d + 1)) at_ 66 = A at h ⊢
  obtain ⟨m1, m2⟩ := m
  unfold upd thr
  show (if 3 ≤ (if m1 < A then (A, d + 1) else (m1, m2)).1 then (if m1 < A then (A, d + 1) else (m1, m2)) else (0, 0)) = _
  by_cases h1 : 3 ≤ m1
  · rw [if_pos (show 3 ≤ (m1, m2).1 from h1)]
    by_cases h2 : m1 < A
    · rw [if_pos h2, if_pos h, if_pos ⟨h2, h⟩]
    · rw [if_neg h2, if_pos h1, if_neg (fun hc => h2 hc.1)]
  · rw [if_neg (show ¬ 3 ≤ (m1, m2).1 from h1), if_pos (show m1 < A by omega), if_pos h, if_pos ⟨by show 0 < A; omega, h⟩]
/-- Nothing is longer than the longest. -/
theorem best_full (data : List UInt8) (at_ D : Nat) (h : ∀ e, alike data (at_ - e) at_ 66 ≤ (best data at_ D).1) : ∀ k, best data at_ (D + k) = best data at_ D
  | 0 => rfl
  | k + 1 => by
    have ih := best_full data at_ D h k
    rw [show D + (k + 1) = D + k + 1 by omega, best_succ, ih, if_neg]
    have := h (D + k + 1)
    omega

/-- So many bytes a match has at the most. -/
def mostAt (data : List UInt8) (at_ : Nat) : Nat := min 66 (data.length - at_)
theorem alike_most (data : List UInt8) (fr at_ : Nat) (h : at_ ≤ data.length) : alike data fr at_ 66 ≤ mostAt data at_ := by
  have h1 := alike_le data 66 fr at_
  have h2 := alike_in data 66 fr at_ h
  unfold mostAt; omega
/-- As far as L is alike: it ends there, or goes on. -/
theorem alike_ends (data : List UInt8) (fr at_ L : Nat) (h : L ≤ alike data fr at_ 66) (hne : data.getD (fr + L) 0 ≠ data.getD (at_ + L) 0) : alike data fr at_ 66 = L := by
  rcases Nat.lt_or_ge L (alike data fr at_ 66) with h1 | h1
  · exact absurd (alike_same data 66 fr at_ L h1) hne
  · omega
theorem alike_goes (data : List UInt8) (fr at_ L : Nat) (ha : at_ ≤ data.length) (h : L ≤ alike data fr at_ 66) (hm : L ≠ mostAt data at_) (he : data.getD (fr + L) 0 = data.getD (at_ + L) 0) : L + 1 ≤ alike data fr at_ 66 := by
  rcases Nat.lt_or_ge L (alike data fr at_ 66) with h1 | h1
  · exact h1
  · have e : alike data fr at_ 66 = L := by omega
    have hmost := alike_most data fr at_ ha
    rcases alike_stop data 66 fr at_ with h2 | h2 | h2
    · unfold mostAt at hm hmost; omega
    · unfold mostAt at hm hmost; omega
    · rw [e] at h2; exact absurd he h2

/-- The search, as far as it has come: the places from i on (those of rising number) are done with. -/
structure Srch (data : List UInt8) (at_ : Nat) (fr : List Nat) (i : Nat) (m : Nat × Nat) : Prop where
  le : i ≤ fr.length
  done : ∃ D, D ≤ at_ ∧ D ≤ 1024 ∧ m = thr (best data at_ D) ∧ (∀ j, j < i → D < at_ - fr.getD j 0) ∧ (∀ e, D < e → e ≤ at_ → 3 ≤ alike data (at_ - e) at_ 66 → ∃ j, j < i ∧ fr.getD j 0 = at_ - e)

/-- The places at which a match begins that has its three bytes. -/
def froms (data : List UInt8) (at_ : Nat) : List Nat := pls data (data.getD at_ 0) (data.getD (at_ + 1) 0) (data.getD (at_ + 2) 0) at_

theorem froms_at (data : List UInt8) (at_ j : Nat) (hj : j < (froms data at_).length) : (froms data at_).getD j 0 < at_ ∧ here data (data.getD at_ 0) (data.getD (at_ + 1) 0) (data.getD (at_ + 2) 0) ((froms data at_).getD j 0) = true := by
  have hm : (froms data at_).getD j 0 ∈ froms data at_ := by rw [List.getD_eq_getElem?_getD, List.getElem?_eq_getElem hj]; exact List.getElem_mem hj
  exact pls_mem.1 hm
theorem froms_rising (data : List UInt8) (at_ : Nat) {i j : Nat} (hij : i < j) (hj : j < (froms data at_).length) : (froms data at_).getD i 0 < (froms data at_).getD j 0 := by
  have h := List.pairwise_iff_getElem.1 (pls_rising data (data.getD at_ 0) (data.getD (at_ + 1) 0) (data.getD (at_ + 2) 0) at_) i j (Nat.lt_trans hij hj) hj hij
  rw [List.getD_eq_getElem?_getD, List.getD_eq_getElem?_getD, List.getElem?_eq_getElem hj, List.getElem?_eq_getElem (Nat.lt_trans hij hj)]
  exact h

theorem srch_start (data : List UInt8) (at_ : Nat) (h3 : at_ + 3 ≤ data.length) : Srch data at_ (froms data at_) (froms data at_).length (0, 0) := by
  refine ⟨Nat.le_refl _, 0, Nat.zero_le _, by omega, by simp [thr, best], fun j hj => ?_, fun e h1 h2 h => ?_⟩
  · have := (froms_at data at_ j hj).1; omega
  · have hm : at_ - e ∈ froms data at_ := pls_mem.2 ⟨by omega, (alike_three data (at_ - e) at_ h3 (by omega)).2 h⟩
    obtain ⟨j, hj, e'⟩ := List.getElem_of_mem hm
    exact ⟨j, hj, by rw [List.getD_eq_getElem?_getD, List.getElem?_eq_getElem hj]; exact e'⟩

/-- The next place is too far off, or there is none: done. -/
theorem srch_far (data : List UInt8) (at_ i : Nat) (m : Nat × Nat) (h : Srch data at_ (froms data at_) i m) (hf : ∀ j, j < i → 1024 < at_ - (froms data at_).getD j 0) : m = thr (mtch data at_) := by
  obtain ⟨D, h1, h2, rfl, h4, h5⟩ := h.done
  unfold mtch far
  have hD : D + (min 1024 at_ - D) = min 1024 at_ := by omega
  rw [← hD]
  refine (thr_skip data at_ D _ (fun e he1 he2 => ?_)).symm
  rcases Nat.lt_or_ge (alike data (at_ - e) at_ 66) 3 with h' | h'
  · exact h'
  · obtain ⟨j, hj, e'⟩ := h5 e he1 (by omega) h'
    have := hf j hj
    omega
theorem srch_step (data : List UInt8) (at_ i : Nat) (m : Nat × Nat) (h3 : at_ + 3 ≤ data.length) (h : Srch data at_ (froms data at_) (i + 1) m) (hd : at_ - (froms data at_).getD i 0 ≤ 1024) :
    ∃ d, at_ - (froms data at_).getD i 0 = d + 1 ∧ 3 ≤ alike data ((froms data at_).getD i 0) at_ 66 ∧ upd m (d + 1) (alike data ((froms data at_).getD i 0) at_ 66) = thr (best data at_ (d + 1)) ∧ Srch data at_ (froms data at_) i (upd m (d + 1) (alike data ((froms data at_).getD i 0) at_ 66)) := by
  obtain ⟨D, h1, h2, rfl, h4, h5⟩ := h.done
  obtain ⟨hlt, hh⟩ := froms_at data at_ i (by have := h.le; omega)
  have hal := (alike_three data _ at_ h3 (Nat.le_of_lt hlt)).1 hh
  have hD := h4 i (by omega)
  obtain ⟨d, hd'⟩ : ∃ d, at_ - (froms data at_).getD i 0 = d + 1 := ⟨at_ - (froms data at_).getD i 0 - 1, by omega⟩
  have hfr : (froms data at_).getD i 0 = at_ - (d + 1) := by omega
  have hskip : thr (best data at_ d) = thr (best data at_ D) := by
    have := thr_skip data at_ D (d - D) (fun e he1 he2 => by
      rcases Nat.lt_or_ge (alike data (at_ - e) at_ 66) 3 with h' | h'
      · exact h'
      · obtain ⟨j, hj, e'⟩ := h5 e he1 (by omega) h'
        rcases Nat.lt_or_ge j i with hji | hji
        · have := froms_rising data at_ hji (by have := h.le; omega)
          omega
        · obtain rfl : j = i := by omega
          omega)
    rwa [show D + (d - D) = d by omega] at this
  have e2 : upd (thr (best data at_ D)) (d + 1) (alike data ((froms data at_).getD i 0) at_ 66) = thr (best data at_ (d + 1)) := by
    rw [← hskip, hfr]
    exact (thr_step data at_ d (by rw [← hfr]; exact hal)).symm
  refine ⟨d, hd', hal, e2, by have := h.le; omega, d + 1, by omega, by omega, e2, fun j hj => ?_, fun e he1 he2 he3 => ?_⟩
  · have := froms_rising data at_ hj (by have := h.le; omega); omega
  · obtain ⟨j, hj, e'⟩ := h5 e (by omega) he2 he3
    rcases Nat.lt_or_ge j i with hji | hji
    · exact ⟨j, hji, e'⟩
    · obtain rfl : j = i := by omega
      omega
/-- Nothing longer can come: done. -/
theorem srch_full (data : List UInt8) (at_ d : Nat) (h3 : at_ + 3 ≤ data.length) (hd : d + 1 ≤ 1024) (hda : d + 1 ≤ at_) (hal : alike data (at_ - (d + 1)) at_ 66 = mostAt data at_) : thr (best data at_ (d + 1)) = thr (mtch data at_) := by
  have hb : ∀ e, alike data (at_ - e) at_ 66 ≤ (best data at_ (d + 1)).1 := fun e => by
    have h1 := alike_most data (at_ - e) at_ (by omega)
    have h2 := best_most data at_ (d + 1) (d + 1) (by omega) (Nat.le_refl _)
    omega
  have := best_full data at_ (d + 1) hb (far at_ - (d + 1))
  rw [show d + 1 + (far at_ - (d + 1)) = far at_ by unfold far; omega] at this
  unfold mtch
  rw [this]

/-- Too few bytes for a match. -/
theorem thr_few (data : List UInt8) (at_ : Nat) (ha : at_ ≤ data.length) (h : data.length < at_ + 3) : thr (mtch data at_) = (0, 0) := by
  unfold thr
  rw [if_neg]
  intro h3
  obtain ⟨_, _, _, e⟩ := mtch_is data at_ (by omega)
  have := alike_most data (at_ - (mtch data at_).2) at_ ha
  unfold mostAt at this
  omega

/-- The item, by what the search finds. -/
theorem itemAt_thr (data : List UInt8) (at_ : Nat) : itemAt data at_ = if 3 ≤ (thr (mtch data at_)).1 then (.mat (thr (mtch data at_)).2 (thr (mtch data at_)).1, (thr (mtch data at_)).1) else (.lit (data.getD at_ 0), 1) := by
  unfold itemAt thr
  by_cases h : 3 ≤ (mtch data at_).1
  · rw [if_pos h, if_pos h, if_pos h]
  · rw [if_neg h, if_neg h, if_neg (by simp)]

/-- One step of the lengths of one place. -/
theorem upd_step (m : Nat × Nat) (d L : Nat) (h3 : 3 ≤ L) : (if (upd m d (L - 1)).1 < L then (L, d) else upd m d (L - 1)) = upd m d L := by
  unfold upd
  by_cases h1 : m.1 < L - 1 ∧ 3 ≤ L - 1
  · rw [if_pos h1, if_pos (by show L - 1 < L; omega), if_pos (by omega)]
  · rw [if_neg h1]
    by_cases h2 : m.1 < L
    · rw [if_pos h2, if_pos ⟨h2, h3⟩]
    · rw [if_neg h2, if_neg (by omega)]
theorem upd_two (m : Nat × Nat) (d : Nat) : upd m d 2 = m := by unfold upd; rw [if_neg (by omega)]

end Prs
end Go.Proofs.Ytdnbpklnkmgmkaa
