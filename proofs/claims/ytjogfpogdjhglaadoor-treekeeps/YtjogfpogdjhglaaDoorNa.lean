/-
  Chapter 7 as mathematics: names: the document's reading of characters beside that of a range over a text.
-/
import Derived.Lib.DecodeNEq
import Derived.Laws.RangeAny
set_option linter.unusedVariables false
namespace Go.Proofs.YtjogfpogdjhglaaDoor
namespace Tn
open Go.Lib

/-- How many bytes the character has that begins with these; 0: none that is well written (n bytes are left). -/
def scal (n b0 b1 b2 b3 : Nat) : Nat :=
  if b0 < 128 then 1
  else if 192 ≤ b0 ∧ b0 < 224 then
    (if n < 2 ∨ b1 < 128 ∨ 191 < b1 then 0 else if 64 * (b0 - 192) + b1 - 128 < 128 then 0 else 2)
  else if 224 ≤ b0 ∧ b0 < 240 then
    (if n < 3 ∨ b1 < 128 ∨ 191 < b1 ∨ b2 < 128 ∨ 191 < b2 then 0
     else if 64 * (64 * (b0 - 224) + b1 - 128) + b2 - 128 < 2048 ∨ (55296 ≤ 64 * (64 * (b0 - 224) + b1 - 128) + b2 - 128 ∧ 64 * (64 * (b0 - 224) + b1 - 128) + b2 - 128 < 57344) then 0 else 3)
  else if 240 ≤ b0 ∧ b0 < 248 then
    (if n < 4 ∨ b1 < 128 ∨ 191 < b1 ∨ b2 < 128 ∨ 191 < b2 ∨ b3 < 128 ∨ 191 < b3 then 0
     else if 64 * (64 * (64 * (b0 - 240) + b1 - 128) + b2 - 128) + b3 - 128 < 65536 ∨ 1114111 < 64 * (64 * (64 * (b0 - 240) + b1 - 128) + b2 - 128) + b3 - 128 then 0 else 4)
  else 0

set_option maxRecDepth 100000 in
set_option maxHeartbeats 4000000 in
theorem scal_none (n b0 b1 b2 b3 : Nat) (h0 : b0 < 256) (h1 : b1 < 256) (h2 : b2 < 256) (h3 : b3 < 256) (h : scal n b0 b1 b2 b3 = 0) : decodeN n b0 b1 b2 b3 = (65533, 1) := by
  unfold scal at h
  unfold decodeN
  repeat' split at h
  all_goals repeat' split
  all_goals first | (exfalso; omega) | rfl

set_option maxRecDepth 100000 in
set_option maxHeartbeats 4000000 in
theorem scal_some (n b0 b1 b2 b3 : Nat) (h0 : b0 < 256) (h1 : b1 < 256) (h2 : b2 < 256) (h3 : b3 < 256) (hb : 128 ≤ b0) (h : scal n b0 b1 b2 b3 ≠ 0) :
    (decodeN n b0 b1 b2 b3).2 = scal n b0 b1 b2 b3 ∧ 128 ≤ (decodeN n b0 b1 b2 b3).1 ∧ ((decodeN n b0 b1 b2 b3).1 = 65533 → (decodeN n b0 b1 b2 b3).2 = 3) ∧
    (scal n b0 b1 b2 b3 = 2 ∨ scal n b0 b1 b2 b3 = 3 ∨ scal n b0 b1 b2 b3 = 4) ∧ scal n b0 b1 b2 b3 ≤ n ∧ 128 ≤ b1 ∧ (3 ≤ scal n b0 b1 b2 b3 → 128 ≤ b2) ∧ (4 ≤ scal n b0 b1 b2 b3 → 128 ≤ b3) := by
  unfold scal at h ⊢
  unfold decodeN
  repeat' split at h
  all_goals repeat' split
  all_goals first | (exfalso; omega) | (simp only; omega) | omega

/-- A byte of a row, as a number; behind the end 0. -/
def by' (L : List UInt8) (i : Nat) : Nat := (L.getD i 0).toNat
theorem by_lt (L : List UInt8) (i : Nat) : by' L i < 256 := (L.getD i 0).toNat_lt
def scalAt (L : List UInt8) (i : Nat) : Nat := scal (L.length - i) (by' L i) (by' L (i + 1)) (by' L (i + 2)) (by' L (i + 3))
theorem get_mk (L : List UInt8) (i : Nat) : (⟨L.toArray⟩ : ByteArray).get! i = L.getD i 0 := by
  show (Array.mk L)[i]! = _
  simp [List.getD]
  rfl
theorem dec_at (L : List UInt8) (i : Nat) : Utf8.decode ⟨L.toArray⟩ i = decodeN (L.length - i) (by' L i) (by' L (i + 1)) (by' L (i + 2)) (by' L (i + 3)) := by
  rw [decode_at]
  simp only [get_mk]
  rfl
theorem scalAt_low {L : List UInt8} {i : Nat} (h : by' L i < 128) : scalAt L i = 1 ∧ Utf8.decode ⟨L.toArray⟩ i = (by' L i, 1) := by
  rw [dec_at]; simp [scalAt, scal, decodeN, h]

/-- May a byte stand in a name? -/
def okb (L : List UInt8) (i : Nat) : Bool := !(decide (by' L i < 32) || decide (by' L i = 127) || decide (by' L i = 47))
/-- May this character? -/
def okc (c wd : Nat) : Bool := !(decide (c < 32) || decide (c = 127) || decide (c = 47)) && !(decide (c = 65533) && !decide (wd = 3))

def chain : Nat → List UInt8 → Nat → Bool
  | 0, _, _ => true
  | k + 1, L, i => if i < L.length then decide (scalAt L i ≠ 0) && chain k L (i + scalAt L i) else true
def walk : Nat → List UInt8 → Nat → Bool
  | 0, _, _ => true
  | k + 1, L, i => if i < L.length then okc (Utf8.decode ⟨L.toArray⟩ i).1 (Utf8.decode ⟨L.toArray⟩ i).2 && walk k L (i + (Utf8.decode ⟨L.toArray⟩ i).2) else true
theorem chain_past : ∀ (k : Nat) (L : List UInt8) (i : Nat), L.length ≤ i → chain k L i = true
  | 0, _, _, _ => rfl
  | k + 1, L, i, h => by simp [chain, Nat.not_lt.2 h]
theorem walk_past : ∀ (k : Nat) (L : List UInt8) (i : Nat), L.length ≤ i → walk k L i = true
  | 0, _, _, _ => rfl
  | k + 1, L, i, h => by simp [walk, Nat.not_lt.2 h]
theorem dec_pos (L : List UInt8) (i : Nat) : 1 ≤ (Utf8.decode ⟨L.toArray⟩ i).2 := by
  rw [dec_at]; unfold decodeN; repeat' split
  all_goals simp
theorem chain_fuel : ∀ (k : Nat) (L : List UInt8) (i : Nat), L.length - i ≤ k → chain k L i = chain (L.length - i) L i
  | 0, L, i, h => by have : L.length - i = 0 := by omega
                     rw [this]
  | k + 1, L, i, h => by
    by_cases hi : i < L.length
    · obtain ⟨m, hm⟩ : ∃ m, L.length - i = m + 1 := ⟨L.length - i - 1, by omega⟩
      rw [hm]
      simp only [chain, hi, if_true]
      by_cases hs : scalAt L i = 0
      · simp [hs]
      · rw [chain_fuel k L (i + scalAt L i) (by omega), chain_fuel m L (i + scalAt L i) (by omega)]
    · rw [chain_past _ _ _ (by omega), chain_past _ _ _ (by omega)]
theorem walk_fuel : ∀ (k : Nat) (L : List UInt8) (i : Nat), L.length - i ≤ k → walk k L i = walk (L.length - i) L i
  | 0, L, i, h => by have : L.length - i = 0 := by omega
                     rw [this]
  | k + 1, L, i, h => by
    by_cases hi : i < L.length
    · obtain ⟨m, hm⟩ : ∃ m, L.length - i = m + 1 := ⟨L.length - i - 1, by omega⟩
      have hp := dec_pos L i
      rw [hm]
      simp only [walk, hi, if_true]
      rw [walk_fuel k L (i + (Utf8.decode ⟨L.toArray⟩ i).2) (by omega), walk_fuel m L (i + (Utf8.decode ⟨L.toArray⟩ i).2) (by omega)]
    · rw [walk_past _ _ _ (by omega), walk_past _ _ _ (by omega)]

/-- Well written from here on. -/
def cfrom (L : List UInt8) (i : Nat) : Bool := chain (L.length - i) L i
/-- What a range over a text asks from here on. -/
def vfrom (L : List UInt8) (i : Nat) : Bool := walk (L.length - i) L i
theorem cfrom_step {L : List UInt8} {i : Nat} (h : i < L.length) : cfrom L i = (decide (scalAt L i ≠ 0) && cfrom L (i + scalAt L i)) := by
  unfold cfrom
  obtain ⟨m, hm⟩ : ∃ m, L.length - i = m + 1 := ⟨L.length - i - 1, by omega⟩
  rw [hm]; simp only [chain, h, if_true]
  by_cases hs : scalAt L i = 0
  · simp [hs]
  · rw [chain_fuel m L _ (by omega)]
theorem cfrom_end {L : List UInt8} {i : Nat} (h : ¬ i < L.length) : cfrom L i = true := chain_past _ _ _ (by omega)
theorem vfrom_step {L : List UInt8} {i : Nat} (h : i < L.length) : vfrom L i = (okc (Utf8.decode ⟨L.toArray⟩ i).1 (Utf8.decode ⟨L.toArray⟩ i).2 && vfrom L (i + (Utf8.decode ⟨L.toArray⟩ i).2)) := by
  have hp := dec_pos L i
  unfold vfrom
  obtain ⟨m, hm⟩ : ∃ m, L.length - i = m + 1 := ⟨L.length - i - 1, by omega⟩
  rw [hm]; simp only [walk, h, if_true]
  rw [walk_fuel m L _ (by omega)]
theorem vfrom_end {L : List UInt8} {i : Nat} (h : ¬ i < L.length) : vfrom L i = true := walk_past _ _ _ (by omega)

theorem by_past {L : List UInt8} {i : Nat} (h : L.length ≤ i) : by' L i = 0 := by
  simp [by', List.getD, List.getElem?_eq_none h]
/-- Both readings agree. -/
theorem both : ∀ (k : Nat) (L : List UInt8) (i : Nat), L.length - i ≤ k → (vfrom L i = true ↔ ((∀ j, i ≤ j → j < L.length → okb L j = true) ∧ cfrom L i = true))
  | 0, L, i, h => by
    rw [vfrom_end (by omega), cfrom_end (by omega)]
    exact ⟨fun _ => ⟨fun j a b => by omega, rfl⟩, fun _ => rfl⟩
  | k + 1, L, i, h => by
    by_cases hi : i < L.length
    · rw [vfrom_step hi, cfrom_step hi]
      by_cases hl : by' L i < 128
      · obtain ⟨hs, hd⟩ := scalAt_low hl
        rw [hs, hd]
        have IH := both k L (i + 1) (by omega)
        simp only [Bool.and_eq_true, decide_eq_true_eq]
        rw [IH]
        constructor
        · rintro ⟨ho, ha, hc⟩
          refine ⟨fun j hj hjl => ?_, by omega, hc⟩
          by_cases e : j = i
          · subst e
            simp only [okc, okb, Bool.and_eq_true] at ho ⊢
            exact ho.1
          · exact ha j (by omega) hjl
        · rintro ⟨ha, _, hc⟩
          refine ⟨?_, fun j hj hjl => ha j (by omega) hjl, hc⟩
          have := ha i (Nat.le_refl _) hi
          have hne : ¬ by' L i = 65533 := by omega
          simp only [okc, okb, Bool.and_eq_true] at this ⊢
          exact ⟨this, by simp [hne]⟩
      · by_cases hs : scalAt L i = 0
        · have hd := scal_none _ _ _ _ _ (by_lt L i) (by_lt L (i + 1)) (by_lt L (i + 2)) (by_lt L (i + 3)) hs
          rw [dec_at, hd, hs]
          simp [okc]
        · obtain ⟨e2, c1, c3, hv, hn, q1, q2, q3⟩ := scal_some _ _ _ _ _ (by_lt L i) (by_lt L (i + 1)) (by_lt L (i + 2)) (by_lt L (i + 3)) (by omega) hs
          rw [dec_at]
          generalize decodeN (L.length - i) (by' L i) (by' L (i + 1)) (by' L (i + 2)) (by' L (i + 3)) = D at *
          obtain ⟨c, wd⟩ := D
          simp only at e2 c1 c3
          subst e2
          change _ ↔ _ ∧ (decide (scalAt L i ≠ 0) && _) = true
          have hsd : scal (L.length - i) (by' L i) (by' L (i + 1)) (by' L (i + 2)) (by' L (i + 3)) = scalAt L i := rfl
          simp only [hsd] at *
          have IH := both k L (i + scalAt L i) (by omega)
          simp only [Bool.and_eq_true, decide_eq_true_eq]
          rw [IH]
          have hoc : okc c (scalAt L i) = true := by
            simp only [okc, Bool.and_eq_true]
            refine ⟨by simp; omega, ?_⟩
            by_cases e : c = 65533
            · simp [e, c3 e]
            · simp [e]
          have hin : ∀ j, i ≤ j → j < i + scalAt L i → okb L j = true := fun j a b => by
            have : 128 ≤ by' L j := by
              rcases Nat.lt_or_ge j (i + 1) with g | g
              · have : j = i := by omega
                subst this; omega
              rcases Nat.lt_or_ge j (i + 2) with g2 | g2
              · have : j = i + 1 := by omega
                subst this; exact q1
              rcases Nat.lt_or_ge j (i + 3) with g3 | g3
              · have : j = i + 2 := by omega
                subst this; exact q2 (by omega)
              · have : j = i + 3 := by omega
                subst this; exact q3 (by omega)
            simp [okb]; omega
          constructor
          · rintro ⟨_, ha, hc⟩
            refine ⟨fun j hj hjl => ?_, hs, hc⟩
            rcases Nat.lt_or_ge j (i + scalAt L i) with g | g
            · exact hin j hj g
            · exact ha j g hjl
          · rintro ⟨ha, _, hc⟩
            exact ⟨hoc, fun j hj hjl => ha j (by omega) hjl, hc⟩
    · rw [vfrom_end hi, cfrom_end hi]
      exact ⟨fun _ => ⟨fun j a b => by omega, rfl⟩, fun _ => rfl⟩

/-- P7.1. -/
def valid (L : List UInt8) : Bool := !(L.isEmpty || decide (32 < L.length) || decide (L = [46]) || decide (L = [46, 46])) && vfrom L 0
end Tn
end Go.Proofs.YtjogfpogdjhglaaDoor
