/-
  Compare's order, and that of the hex.
-/
import Derived.Test.YtbpdmfhkaodeeaaDx6
import Derived.Test.YtbpdmfhkaodeeaaDx7
namespace Go.Proofs.Ytbpdmfhkaodeeaa
open Go.RowKit
set_option linter.unusedVariables false
set_option linter.unusedSimpArgs false

theorem cmp_three : ∀ (a b : List UInt8), cmp a b = -1 ∨ cmp a b = 0 ∨ cmp a b = 1
  | [], _ => by simp [cmp]
  | _ :: _, [] => by simp [cmp]
  | x :: a, y :: b => by
    rw [cmp]
    split
    · simp
    · split
      · simp
      · exact cmp_three a b
theorem cmp_turn : ∀ (a b : List UInt8), cmp b a = - cmp a b
  | [], [] => by simp [cmp]
  | [], _ :: _ => by simp [cmp]
  | _ :: _, [] => by simp [cmp]
  | x :: a, y :: b => by
    rw [cmp, cmp, cmp_turn a b]
    split <;> split <;> (try split) <;> (first | rfl | omega | (simp; done) | skip)
theorem cmp_eq : ∀ (a b : List UInt8), a.length = b.length → (cmp a b = 0 ↔ a = b)
  | [], [], _ => by simp [cmp]
  | [], _ :: _, h => by simp at h
  | _ :: _, [], h => by simp at h
  | x :: a, y :: b, h => by
    rw [cmp]
    have ih := cmp_eq a b (by simpa using h)
    by_cases h1 : x.toNat < y.toNat
    · rw [if_pos h1]
      constructor
      · intro h; simp at h
      · intro h; simp at h; rw [h.1] at h1; omega
    · rw [if_neg h1]
      by_cases h2 : y.toNat < x.toNat
      · rw [if_pos h2]
        constructor
        · intro h; simp at h
        · intro h; simp at h; rw [h.1] at h2; omega
      · rw [if_neg h2, ih]
        have : x = y := UInt8.toNat_inj.1 (by omega)
        simp [this]
theorem cmp_goes : ∀ (a b c : List UInt8), a.length = b.length → b.length = c.length → cmp a b ≤ 0 → cmp b c ≤ 0 → cmp a c ≤ 0
  | [], _, _, _, _, _, _ => by simp [cmp]
  | _ :: _, [], _, h, _, _, _ => by simp at h
  | _ :: _, _ :: _, [], _, h, _, _ => by simp at h
  | x :: a, y :: b, z :: c, h1, h2, h3, h4 => by
    rw [cmp] at h3 h4 ⊢
    have ih := cmp_goes a b c (by simpa using h1) (by simpa using h2)
    by_cases p : x.toNat < z.toNat
    · rw [if_pos p]; omega
    · rw [if_neg p]
      by_cases q : z.toNat < x.toNat
      · exfalso
        by_cases r : x.toNat < y.toNat
        · rw [if_neg (by omega), if_pos (by omega)] at h4; omega
        · rw [if_neg r] at h3
          by_cases s : y.toNat < x.toNat
          · rw [if_pos s] at h3; omega
          · rw [if_neg (by omega), if_pos (by omega)] at h4; omega
      · rw [if_neg q]
        by_cases r : x.toNat < y.toNat
        · rw [if_neg (by omega), if_pos (by omega)] at h4; omega
        · rw [if_neg r] at h3
          by_cases s : y.toNat < x.toNat
          · rw [if_pos s] at h3; omega
          · rw [if_neg s] at h3
            rw [if_neg (by omega), if_neg (by omega)] at h4
            exact ih h3 h4

theorem hexD_lt : ∀ m, m < 16 → ∀ n, n < 16 → (hexD m < hexD n ↔ m < n) ∧ (hexD m = hexD n ↔ m = n) := by decide
theorem hex_less : ∀ (a b : List UInt8), a.length = b.length → Op.bytesLess (hex a) (hex b) = decide (cmp a b < 0)
  | [], [], _ => by simp [hex, Op.bytesLess, cmp]
  | [], _ :: _, h => by simp at h
  | _ :: _, [], h => by simp at h
  | x :: a, y :: b, h => by
    have ih := hex_less a b (by simpa using h)
    have e : ∀ (x : UInt8) (l : List UInt8), hex (x :: l) = hexD (x.toNat / 16) :: hexD (x.toNat % 16) :: hex l := fun x l => rfl
    have hx := x.toNat_lt
    have hy := y.toNat_lt
    obtain ⟨a1, a2⟩ := hexD_lt (x.toNat / 16) (by omega) (y.toNat / 16) (by omega)
    obtain ⟨b1, b2⟩ := hexD_lt (x.toNat % 16) (by omega) (y.toNat % 16) (by omega)
    rw [e, e, Op.bytesLess, Op.bytesLess, ih, cmp]
    by_cases p : x.toNat < y.toNat
    · rw [if_pos p]
      by_cases q : x.toNat / 16 < y.toNat / 16
      · simp [a1.2 q]
      · have q2 : x.toNat / 16 = y.toNat / 16 := by omega
        simp [a2.2 q2, b1.2 (by omega : x.toNat % 16 < y.toNat % 16)]
    · rw [if_neg p]
      by_cases p2 : y.toNat < x.toNat
      · rw [if_pos p2]
        have q : ¬ hexD (x.toNat / 16) < hexD (y.toNat / 16) := fun h => by have := a1.1 h; omega
        by_cases r : hexD (x.toNat / 16) = hexD (y.toNat / 16)
        · have r1 := a2.1 r
          have s : ¬ hexD (x.toNat % 16) < hexD (y.toNat % 16) := fun h => by have := b1.1 h; omega
          have s2 : ¬ hexD (x.toNat % 16) = hexD (y.toNat % 16) := fun h => by have := b2.1 h; omega
          simp [q, s, s2]
        · simp [q, r]
      · rw [if_neg p2]
        have : x = y := UInt8.toNat_inj.1 (by omega)
        subst this
        have l0 : ∀ u : UInt8, ¬ u < u := fun u h => by simp at h
        simp [l0]
end Go.Proofs.Ytbpdmfhkaodeeaa
