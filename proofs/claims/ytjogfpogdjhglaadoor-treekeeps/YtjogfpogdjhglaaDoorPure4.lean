/-
  Plain mathematics of chapter 1 (code): what is read is written again. Nothing of the program.
-/
import Derived.Test.YtjogfpogdjhglaaDoorPure2
namespace Go.Proofs.YtjogfpogdjhglaaDoor.Pure

theorem ofNat_toNat (c : UInt8) : UInt8.ofNat c.toNat = c := by simp

/-- What is read of a number is its shortest form: from the k-th byte on. -/
theorem numGo_enc (xs : List UInt8) : ∀ f k x v n, numGo xs f k x = (v, n, 0) → x < 2 ^ (7 * k) → ∃ y, v = x + y * 2 ^ (7 * k) ∧ k < n ∧ n ≤ xs.length ∧ enc y = (xs.take n).drop k ∧ (0 < k → 0 < y)
  | 0, k, x, v, n, h, _ => by simp [numGo] at h
  | f + 1, k, x, v, n, h, hx => by
    simp only [numGo] at h
    split at h
    · rename_i hk
      have hcb : (xs.getD k 0).toNat < 256 := UInt8.toNat_lt _
      have htk : (xs.take (k + 1)).drop k = [xs.getD k 0] := by
        rw [List.take_succ_eq_append_getElem hk, List.drop_append_of_le_length (by simp; omega), List.drop_of_length_le (by rw [List.length_take]; exact Nat.min_le_left _ _)]
        simp [List.getElem?_eq_getElem hk]
      split at h
      · rename_i h1
        split at h
        · simp at h
        · rename_i h2
          simp only [Prod.mk.injEq] at h
          obtain ⟨rfl, rfl, _⟩ := h
          refine ⟨(xs.getD k 0).toNat, rfl, by omega, by omega, ?_, fun hk0 => ?_⟩
          · rw [enc_small h1, htk, ofNat_toNat]
          · omega
      · rename_i h1
        have hx2 : x + ((xs.getD k 0).toNat - 128) * 2 ^ (7 * k) < 2 ^ (7 * (k + 1)) := by
          have e : 2 ^ (7 * (k + 1)) = 128 * 2 ^ (7 * k) := by rw [show 7 * (k + 1) = 7 * k + 7 by omega, Nat.pow_add]; omega
          have : ((xs.getD k 0).toNat - 128) * 2 ^ (7 * k) ≤ 127 * 2 ^ (7 * k) := Nat.mul_le_mul (by omega) (Nat.le_refl _)
          omega
        obtain ⟨y, hv, hn1, hn2, he, hy⟩ := numGo_enc xs f (k + 1) _ v n h hx2
        have hy0 := hy (by omega)
        refine ⟨((xs.getD k 0).toNat - 128) + 128 * y, ?_, by omega, hn2, ?_, fun _ => by omega⟩
        · rw [hv, show 7 * (k + 1) = 7 * k + 7 by omega, Nat.pow_add, Nat.add_mul, Nat.add_assoc]
          congr 2
          rw [Nat.mul_comm (2 ^ (7 * k)) (2 ^ 7), ← Nat.mul_assoc, Nat.mul_comm y]
        · have hsm : ((xs.getD k 0).toNat - 128 + 128 * y) % 128 + 128 = (xs.getD k 0).toNat := by omega
          have hdv : ((xs.getD k 0).toNat - 128 + 128 * y) / 128 = y := by omega
          rw [enc_more (by omega), hsm, hdv, he, ofNat_toNat]
          have hkn : k < (xs.take n).length := by simp; omega
          rw [List.drop_eq_getElem_cons hkn]
          simp [List.getElem?_eq_getElem hk]
    · simp at h

theorem num_enc {xs : List UInt8} {v n : Nat} (h : num xs = (v, n, 0)) : enc v = xs.take n ∧ n ≤ xs.length ∧ v ≤ 2147483647 := by
  obtain ⟨y, hv, _, h2, he, _⟩ := numGo_enc xs 5 0 0 v n h (by simp)
  have hf := num_facts xs
  rw [h] at hf
  simp only at hf
  refine ⟨?_, h2, by omega⟩
  have : v = y := by simpa using hv
  rw [this]
  simpa using he

theorem be_cons (c : UInt8) (l : List UInt8) : be (c :: l) = c.toNat * 256 ^ l.length + be l := by
  have : ∀ (l : List UInt8) (a : Nat), l.foldl (fun v c => 256 * v + c.toNat) a = a * 256 ^ l.length + be l := by
    intro l
    induction l with
    | nil => intro a; simp [be]
    | cons d l ih =>
      intro a
      simp only [List.foldl_cons, List.length_cons, be]
      rw [ih, ih (256 * 0 + d.toNat), Nat.pow_succ, Nat.mul_comm (256 ^ l.length) 256, ← Nat.mul_assoc, Nat.add_mul, Nat.mul_comm 256 a]
      simp only [Nat.mul_zero, Nat.zero_add]
      omega
  simp only [be, List.foldl_cons, Nat.mul_zero, Nat.zero_add]
  exact this l c.toNat

theorem fix_mod (v w : Nat) (k : Nat) (h : v % 256 ^ k = w % 256 ^ k) : fix v k = fix w k := by
  induction k with
  | zero => rfl
  | succ k ih =>
    have h1 : v / 256 ^ k % 256 = w / 256 ^ k % 256 := by
      rw [Nat.pow_succ] at h
      rw [← Nat.mod_mul_right_div_self, ← Nat.mod_mul_right_div_self, h]
    have h2 : v % 256 ^ k = w % 256 ^ k := by
      have := congrArg (· % 256 ^ k) h
      simp only [Nat.pow_succ, Nat.mod_mul_right_mod] at this
      exact this
    simp only [fix]
    rw [h1, ih h2]

theorem fix_be (l : List UInt8) : fix (be l) l.length = l := by
  induction l with
  | nil => rfl
  | cons c l ih =>
    have hl := be_lt l
    have hc := UInt8.toNat_lt c
    simp only [List.length_cons, fix]
    have h1 : be (c :: l) / 256 ^ l.length % 256 = c.toNat := by
      rw [be_cons, Nat.mul_comm, Nat.mul_add_div (Nat.pow_pos (by omega)), Nat.div_eq_of_lt hl, Nat.add_zero, Nat.mod_eq_of_lt hc]
    have h2 : fix (be (c :: l)) l.length = fix (be l) l.length := fix_mod _ _ _ (by rw [be_cons, Nat.mul_comm, Nat.mul_add_mod])
    rw [h1, ofNat_toNat, h2, ih]

end Go.Proofs.YtjogfpogdjhglaaDoor.Pure
