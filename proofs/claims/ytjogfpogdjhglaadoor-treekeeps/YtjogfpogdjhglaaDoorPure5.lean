/-
  What was written is read again: mathematics.
-/
import Derived.Test.YtjogfpogdjhglaaDoorPure4
namespace Go.Proofs.YtjogfpogdjhglaaDoor.Pure

theorem numGo_back (xs rest : List UInt8) : ∀ f k x y, k + f = 5 → xs.drop k = enc y ++ rest → x + y * 2 ^ (7 * k) ≤ 2147483647 → (0 < k → 0 < y) → numGo xs f k x = (x + y * 2 ^ (7 * k), k + (enc y).length, 0) := by
  intro f
  induction f with
  | zero =>
    intro k x y hk hd hx hy
    obtain rfl : k = 5 := by omega
    have := hy (by omega)
    exfalso
    have h2 : 2 ^ (7 * 5) = 34359738368 := by decide
    rw [h2] at hx
    omega
  | succ f ih =>
    intro k x y hk hd hx hy
    have hlen : k < xs.length := by
      have h1 : (xs.drop k).length = (enc y ++ rest).length := by rw [hd]
      have h2 : 0 < (enc y).length := by
        by_cases h : y < 128
        · rw [enc_small h]; simp
        · rw [enc_more h]; simp
      simp at h1
      omega
    by_cases h : y < 128
    · rw [enc_small h] at hd
      have hg : (xs.getD k 0).toNat = y := by
        have h1 : xs.getD k 0 = (xs.drop k).getD 0 0 := by simp [List.getD_eq_getElem?_getD]
        rw [h1, hd]
        simp only [List.cons_append, List.getD_cons_zero]
        exact toNat_ofNat_small (by omega)
      have hno : ¬ (2147483647 < x + (xs.getD k 0).toNat * 2 ^ (7 * k) ∨ (0 < k ∧ (xs.getD k 0).toNat = 0)) := by
        rw [hg]
        rintro (h1 | ⟨h1, h2⟩)
        · omega
        · have := hy h1
          omega
      rw [numGo_good hlen (by omega) hno, hg, enc_small h]
      rfl
    · rw [enc_more h] at hd
      have hg : (xs.getD k 0).toNat = y % 128 + 128 := by
        have h1 : xs.getD k 0 = (xs.drop k).getD 0 0 := by simp [List.getD_eq_getElem?_getD]
        rw [h1, hd]
        simp only [List.cons_append, List.getD_cons_zero]
        exact toNat_ofNat_small (by omega)
      have hd2 : xs.drop (k + 1) = enc (y / 128) ++ rest := by
        rw [← List.drop_drop, hd]
        simp
      have hp : 2 ^ (7 * (k + 1)) = 128 * 2 ^ (7 * k) := by
        rw [show 7 * (k + 1) = 7 + 7 * k by omega, Nat.pow_add]
      have hm : y * 2 ^ (7 * k) = y % 128 * 2 ^ (7 * k) + y / 128 * 2 ^ (7 * (k + 1)) := by
        rw [hp, ← Nat.mul_assoc, ← Nat.add_mul]
        congr 1
        omega
      rw [numGo_more hlen (by omega), hg, show y % 128 + 128 - 128 = y % 128 by omega]
      rw [ih (k + 1) _ (y / 128) (by omega) hd2 (by omega) (by omega), enc_more h, hm]
      simp
      omega

theorem num_back {v : Nat} (h : v ≤ 2147483647) (rest : List UInt8) : num (enc v ++ rest) = (v, (enc v).length, 0) := by
  have := numGo_back (enc v ++ rest) rest 5 0 0 v rfl rfl (by simpa using h) (by simp)
  simpa [num] using this

theorem be_fix (v : Nat) : ∀ k, be (fix v k) = v % 256 ^ k
  | 0 => by simp [fix, be, Nat.mod_one]
  | k + 1 => by
    rw [fix, be_cons, be_fix v k, fix_len, toNat_ofNat_small (Nat.mod_lt _ (by omega)), Nat.pow_succ, Nat.mod_mul]
    rw [Nat.mul_comm, Nat.add_comm]

theorem enc_pos (y : Nat) : 0 < (enc y).length := by
  by_cases h : y < 128
  · rw [enc_small h]; simp
  · rw [enc_more h]; simp

end Go.Proofs.YtjogfpogdjhglaaDoor.Pure
