/-
  Packed bytes as mathematics: matches, items, what they make. Nothing of the program.
-/
import Derived.WalkKit
namespace Go.Proofs.Ytdnbpklnkmgmkaa
set_option linter.unusedVariables false

namespace Prs

/-- How many bytes from at on are those from fr on: at most k. -/
def alike (data : List UInt8) (fr at_ : Nat) : Nat → Nat
  | 0 => 0
  | k + 1 => if at_ < data.length ∧ data.getD fr 0 = data.getD at_ 0 then alike data (fr + 1) (at_ + 1) k + 1 else 0

theorem alike_le (data : List UInt8) : ∀ (k fr at_ : Nat), alike data fr at_ k ≤ k
  | 0, _, _ => Nat.le_refl _
  | k + 1, fr, at_ => by
    unfold alike
    split
    · have := alike_le data k (fr + 1) (at_ + 1); omega
    · omega
theorem alike_in (data : List UInt8) : ∀ (k fr at_ : Nat), at_ ≤ data.length → at_ + alike data fr at_ k ≤ data.length
  | 0, _, _, h => h
  | k + 1, fr, at_, h => by
    unfold alike
    split
    · next hc => have := alike_in data k (fr + 1) (at_ + 1) (by omega); omega
    · omega
theorem alike_same (data : List UInt8) : ∀ (k fr at_ i : Nat), i < alike data fr at_ k → data.getD (fr + i) 0 = data.getD (at_ + i) 0
  | 0, fr, at_, i, h => by simp [alike] at h
  | k + 1, fr, at_, i, h => by
    unfold alike at h
    split at h
    · next hc =>
      cases i with
      | zero => simpa using hc.2
      | succ i =>
        have := alike_same data k (fr + 1) (at_ + 1) i (by omega)
        rw [show fr + (i + 1) = fr + 1 + i by omega, show at_ + (i + 1) = at_ + 1 + i by omega]
        exact this
    · omega
/-- It ends only at k, at the end, or at bytes that are unlike. -/
theorem alike_stop (data : List UInt8) : ∀ (k fr at_ : Nat), alike data fr at_ k = k ∨ at_ + alike data fr at_ k ≥ data.length ∨ data.getD (fr + alike data fr at_ k) 0 ≠ data.getD (at_ + alike data fr at_ k) 0
  | 0, _, _ => .inl rfl
  | k + 1, fr, at_ => by
    by_cases hc : at_ < data.length ∧ data.getD fr 0 = data.getD at_ 0
    · have e : alike data fr at_ (k + 1) = alike data (fr + 1) (at_ + 1) k + 1 := by rw [alike, if_pos hc]
      rw [e]
      rcases alike_stop data k (fr + 1) (at_ + 1) with h | h | h
      · exact .inl (by omega)
      · exact .inr (.inl (by omega))
      · refine .inr (.inr ?_)
        rw [show fr + (alike data (fr + 1) (at_ + 1) k + 1) = fr + 1 + alike data (fr + 1) (at_ + 1) k by omega, show at_ + (alike data (fr + 1) (at_ + 1) k + 1) = at_ + 1 + alike data (fr + 1) (at_ + 1) k by omega]
        exact h
    · have e : alike data fr at_ (k + 1) = 0 := by rw [alike, if_neg hc]
      rw [e]
      by_cases h1 : at_ < data.length
      · exact .inr (.inr fun h => hc ⟨h1, by simpa using h⟩)
      · exact .inr (.inl (by omega))

/-- The greatest length of a match at that place among the distances 1 to d, and its least distance. -/
def best (data : List UInt8) (at_ : Nat) : Nat → Nat × Nat
  | 0 => (0, 0)
  | d + 1 => if (best data at_ d).1 < alike data (at_ - (d + 1)) at_ 66 then (alike data (at_ - (d + 1)) at_ 66, d + 1) else best data at_ d

/-- How far back a match may lie. -/
def far (at_ : Nat) : Nat := min 1024 at_
def mtch (data : List UInt8) (at_ : Nat) : Nat × Nat := best data at_ (far at_)

theorem best_is (data : List UInt8) (at_ : Nat) : ∀ d, (best data at_ d = (0, 0) ∧ ∀ e, 1 ≤ e → e ≤ d → alike data (at_ - e) at_ 66 = 0) ∨
    (1 ≤ (best data at_ d).2 ∧ (best data at_ d).2 ≤ d ∧ (best data at_ d).1 = alike data (at_ - (best data at_ d).2) at_ 66 ∧ 0 < (best data at_ d).1)
  | 0 => .inl ⟨rfl, fun e h1 h2 => by omega⟩
  | d + 1 => by
    by_cases hc : (best data at_ d).1 < alike data (at_ - (d + 1)) at_ 66
    · have e : best data at_ (d + 1) = (alike data (at_ - (d + 1)) at_ 66, d + 1) := by rw [best, if_pos hc]
      rw [e]
      exact .inr ⟨by simp, by simp, rfl, by show 0 < alike data (at_ - (d + 1)) at_ 66; omega⟩
    · have e : best data at_ (d + 1) = best data at_ d := by rw [best, if_neg hc]
      rw [e]
      rcases best_is data at_ d with ⟨h1, h2⟩ | ⟨h1, h2, h3, h4⟩
      · refine .inl ⟨h1, fun e he1 he2 => ?_⟩
        by_cases hd : e = d + 1
        · rw [h1] at hc; subst hd; simp at hc; exact hc
        · exact h2 e he1 (by omega)
      · exact .inr ⟨h1, by omega, h3, h4⟩
/-- None of the distances has more. -/
theorem best_most (data : List UInt8) (at_ : Nat) : ∀ d e, 1 ≤ e → e ≤ d → alike data (at_ - e) at_ 66 ≤ (best data at_ d).1
  | 0, e, h1, h2 => by omega
  | d + 1, e, h1, h2 => by
    by_cases hc : (best data at_ d).1 < alike data (at_ - (d + 1)) at_ 66
    · rw [best, if_pos hc]
      by_cases hd : e = d + 1
      · subst hd; exact Nat.le_refl _
      · have := best_most data at_ d e h1 (by omega)
        show _ ≤ alike data (at_ - (d + 1)) at_ 66
        omega
    · rw [best, if_neg hc]
      by_cases hd : e = d + 1
      · subst hd; omega
      · exact best_most data at_ d e h1 (by omega)
/-- None that is nearer has as much. -/
theorem best_near (data : List UInt8) (at_ : Nat) : ∀ d e, 1 ≤ e → e < (best data at_ d).2 → alike data (at_ - e) at_ 66 < (best data at_ d).1
  | 0, e, h1, h2 => by simp [best] at h2
  | d + 1, e, h1, h2 => by
    by_cases hc : (best data at_ d).1 < alike data (at_ - (d + 1)) at_ 66
    · rw [best, if_pos hc] at h2 ⊢
      have h3 : e < d + 1 := h2
      have := best_most data at_ d e h1 (by omega)
      show _ < alike data (at_ - (d + 1)) at_ 66
      omega
    · rw [best, if_neg hc] at h2 ⊢
      exact best_near data at_ d e h1 h2

/-- An item. -/
inductive Item where
  | lit (b : UInt8)
  | mat (d l : Nat)

/-- What a match makes, byte by byte: it may run over what it has made. -/
def copied (d : Nat) : Nat → List UInt8 → List UInt8
  | 0, out => out
  | k + 1, out => copied d k (out ++ [out.getD (out.length - d) 0])
def made (out : List UInt8) : Item → List UInt8
  | .lit b => out ++ [b]
  | .mat d l => copied d l out
def madeAll (out : List UInt8) (l : List Item) : List UInt8 := l.foldl made out

theorem copied_len (d : Nat) : ∀ (k : Nat) (out : List UInt8), (copied d k out).length = out.length + k
  | 0, out => rfl
  | k + 1, out => by rw [copied, copied_len d k]; simp; omega

/-- The first at bytes, and k that are alike: the first at + k. -/
theorem copied_take (data : List UInt8) (d : Nat) (hd : 1 ≤ d) : ∀ (k at_ : Nat), d ≤ at_ → at_ + k ≤ data.length → (∀ i, i < k → data.getD (at_ - d + i) 0 = data.getD (at_ + i) 0) → copied d k (data.take at_) = data.take (at_ + k)
  | 0, at_, _, _, _ => by simp [copied]
  | k + 1, at_, h1, h2, h3 => by
    have hl : (data.take at_).length = at_ := by simp; omega
    have hb : (data.take at_).getD ((data.take at_).length - d) 0 = data.getD at_ 0 := by
      rw [hl]
      have := h3 0 (by omega)
      simp only [Nat.add_zero] at this
      rw [← this]
      simp [show at_ - d < at_ by omega]
    have e : data.take (at_ + 1) = data.take at_ ++ [data.getD at_ 0] := by
      rw [List.take_succ_eq_append_getElem (by omega)]
      simp [List.getElem?_eq_getElem (show at_ < data.length by omega)]
    rw [copied, hb, ← e, copied_take data d hd k (at_ + 1) (by omega) (by omega) (fun i hi => ?_)]
    · congr 1; omega
    · have := h3 (i + 1) (by omega)
      rw [show at_ - d + (i + 1) = at_ + 1 - d + i by omega, show at_ + (i + 1) = at_ + 1 + i by omega] at this
      exact this

/-- The item at a place, and how far it goes. -/
def itemAt (data : List UInt8) (at_ : Nat) : Item × Nat :=
  if 3 ≤ (mtch data at_).1 then (.mat (mtch data at_).2 (mtch data at_).1, (mtch data at_).1) else (.lit (data.getD at_ 0), 1)

/-- The items from a place on. -/
def items (data : List UInt8) : Nat → Nat → List Item
  | 0, _ => []
  | fuel + 1, at_ => if at_ < data.length then (itemAt data at_).1 :: items data fuel (at_ + (itemAt data at_).2) else []

theorem mtch_is (data : List UInt8) (at_ : Nat) (h : 0 < (mtch data at_).1) : 1 ≤ (mtch data at_).2 ∧ (mtch data at_).2 ≤ 1024 ∧ (mtch data at_).2 ≤ at_ ∧ (mtch data at_).1 = alike data (at_ - (mtch data at_).2) at_ 66 := by
  rcases best_is data at_ (far at_) with ⟨h1, _⟩ | ⟨h1, h2, h3, _⟩
  · unfold mtch at h; rw [h1] at h; simp at h
  · unfold mtch
    have hf : far at_ ≤ 1024 ∧ far at_ ≤ at_ := by unfold far; omega
    exact ⟨h1, by omega, by omega, h3⟩

theorem item_made (data : List UInt8) (at_ : Nat) (h : at_ < data.length) : made (data.take at_) (itemAt data at_).1 = data.take (at_ + (itemAt data at_).2) ∧ 1 ≤ (itemAt data at_).2 ∧ at_ + (itemAt data at_).2 ≤ data.length := by
  unfold itemAt
  by_cases hm : 3 ≤ (mtch data at_).1
  · rw [if_pos hm]
    obtain ⟨h1, h2, h3, h4⟩ := mtch_is data at_ (by omega)
    have hin : at_ + (mtch data at_).1 ≤ data.length := by rw [h4]; exact alike_in data 66 _ _ (by omega)
    refine ⟨?_, by omega, hin⟩
    show copied (mtch data at_).2 (mtch data at_).1 (data.take at_) = _
    exact copied_take data _ h1 _ at_ h3 hin (fun i hi => alike_same data 66 _ _ i (by rw [← h4]; exact hi))
  · rw [if_neg hm]
    refine ⟨?_, Nat.le_refl _, by omega⟩
    show data.take at_ ++ [data.getD at_ 0] = data.take (at_ + 1)
    rw [List.take_succ_eq_append_getElem h]
    simp [List.getElem?_eq_getElem h]

/-- THERE AND BACK: what the items make is what they were made of. -/
theorem items_made (data : List UInt8) : ∀ (fuel at_ : Nat), at_ ≤ data.length → data.length - at_ ≤ fuel → madeAll (data.take at_) (items data fuel at_) = data
  | 0, at_, h1, h2 => by
    have : at_ = data.length := by omega
    subst this
    simp [items, madeAll]
  | fuel + 1, at_, h1, h2 => by
    by_cases h : at_ < data.length
    · obtain ⟨e1, e2, e3⟩ := item_made data at_ h
      rw [items, if_pos h]
      show madeAll (made (data.take at_) (itemAt data at_).1) (items data fuel (at_ + (itemAt data at_).2)) = data
      rw [e1]
      exact items_made data fuel _ e3 (by omega)
    · have : at_ = data.length := by omega
      subst this
      rw [items, if_neg h]
      simp [madeAll]

end Prs
end Go.Proofs.Ytdnbpklnkmgmkaa
