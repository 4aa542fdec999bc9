/-
  Plain mathematics of chapter 1 (code): the shortest form of a number. Nothing of the program.
-/
import Derived.Laws.BitsAllLaws
namespace Go.Proofs.Ytdnbpklnkmgmkaa.Pure

/-- The number that bytes begin with, from the k-th byte on, x gathered so far: the number, its bytes, an error. -/
def numGo (xs : List UInt8) : Nat → Nat → Nat → Nat × Nat × Nat
  | 0, _, _ => (0, 0, 11)
  | f + 1, k, x =>
    if k < xs.length then
      if (xs.getD k 0).toNat < 128 then
        if 2147483647 < x + (xs.getD k 0).toNat * 2 ^ (7 * k) ∨ (0 < k ∧ (xs.getD k 0).toNat = 0) then (0, 0, 11)
        else (x + (xs.getD k 0).toNat * 2 ^ (7 * k), k + 1, 0)
      else numGo xs f (k + 1) (x + ((xs.getD k 0).toNat - 128) * 2 ^ (7 * k))
    else (0, 0, 10)
def num (xs : List UInt8) : Nat × Nat × Nat := numGo xs 5 0 0

theorem numGo_short {xs : List UInt8} {f k x : Nat} (h : ¬ k < xs.length) : numGo xs (f + 1) k x = (0, 0, 10) := by simp only [numGo]; rw [if_neg h]
theorem numGo_bad {xs : List UInt8} {f k x : Nat} (h : k < xs.length) (h1 : (xs.getD k 0).toNat < 128) (h2 : 2147483647 < x + (xs.getD k 0).toNat * 2 ^ (7 * k) ∨ (0 < k ∧ (xs.getD k 0).toNat = 0)) : numGo xs (f + 1) k x = (0, 0, 11) := by
  simp only [numGo]; rw [if_pos h, if_pos h1, if_pos h2]
theorem numGo_good {xs : List UInt8} {f k x : Nat} (h : k < xs.length) (h1 : (xs.getD k 0).toNat < 128) (h2 : ¬ (2147483647 < x + (xs.getD k 0).toNat * 2 ^ (7 * k) ∨ (0 < k ∧ (xs.getD k 0).toNat = 0))) : numGo xs (f + 1) k x = (x + (xs.getD k 0).toNat * 2 ^ (7 * k), k + 1, 0) := by
  simp only [numGo]; rw [if_pos h, if_pos h1, if_neg h2]
theorem numGo_more {xs : List UInt8} {f k x : Nat} (h : k < xs.length) (h1 : ¬ (xs.getD k 0).toNat < 128) : numGo xs (f + 1) k x = numGo xs f (k + 1) (x + ((xs.getD k 0).toNat - 128) * 2 ^ (7 * k)) := by
  simp only [numGo]; rw [if_pos h, if_neg h1]

theorem pow_le4 {k : Nat} (h : k ≤ 4) : 2 ^ (7 * k) ≤ 268435456 := by
  obtain rfl | rfl | rfl | rfl | rfl : k = 0 ∨ k = 1 ∨ k = 2 ∨ k = 3 ∨ k = 4 := by omega
  all_goals decide

/-- What is read is a number, its bytes lie there; an error is told alone. -/
theorem numGo_facts (xs : List UInt8) : ∀ f k x, let r := numGo xs f k x; (r.2.2 = 0 ∧ r.1 ≤ 2147483647 ∧ r.2.1 ≤ xs.length ∧ k < r.2.1 ∧ r.2.1 ≤ k + f) ∨ (r.1 = 0 ∧ r.2.1 = 0 ∧ (r.2.2 = 10 ∨ r.2.2 = 11))
  | 0, k, x => by simp [numGo]
  | f + 1, k, x => by
    simp only [numGo]
    split
    · rename_i h
      split
      · split
        · simp
        · left; dsimp only; omega
      · have := numGo_facts xs f (k + 1) (x + ((xs.getD k 0).toNat - 128) * 2 ^ (7 * k))
        simp only at this ⊢
        omega
    · simp
theorem num_facts (xs : List UInt8) : ((num xs).2.2 = 0 ∧ (num xs).1 ≤ 2147483647 ∧ (num xs).2.1 ≤ xs.length ∧ 0 < (num xs).2.1 ∧ (num xs).2.1 ≤ 5) ∨ ((num xs).1 = 0 ∧ (num xs).2.1 = 0 ∧ ((num xs).2.2 = 10 ∨ (num xs).2.2 = 11)) := by
  have := numGo_facts xs 5 0 0
  simpa [num] using this

/-- A number of bytes, the highest first. -/
def be (l : List UInt8) : Nat := l.foldl (fun v c => 256 * v + c.toNat) 0
theorem be_snoc (l : List UInt8) (c : UInt8) : be (l ++ [c]) = 256 * be l + c.toNat := by simp [be]
theorem be_lt (l : List UInt8) : be l < 256 ^ l.length := by
  have : ∀ (l : List UInt8) (v : Nat) (m : Nat), v < m → l.foldl (fun v c => 256 * v + c.toNat) v < m * 256 ^ l.length := by
    intro l
    induction l with
    | nil => intro v m h; simpa using h
    | cons c l ih =>
      intro v m h
      have hc := UInt8.toNat_lt c
      have := ih (256 * v + c.toNat) (m * 256) (by omega)
      simp only [List.foldl_cons, List.length_cons, Nat.pow_succ]
      rw [show m * (256 ^ l.length * 256) = m * 256 * 256 ^ l.length by rw [Nat.mul_assoc, Nat.mul_comm (256 ^ l.length)]]
      exact this
  simpa [be] using this l 0 1 (by omega)
theorem i64_or_join (v c : Nat) (hv : v < 4294967296) (hc : c < 256) : bits .or .i64 ((v : Int) * 256) (c : Int) = ((256 * v + c : Nat) : Int) := by
  rw [show ((v : Int) * 256) = ((256 * v : Nat) : Int) by omega]
  show IntKind.i64.wrap ((BitVec.ofInt 64 ((256 * v : Nat) : Int) ||| BitVec.ofInt 64 (c : Int)).toNat : Int) = _
  rw [BitVec.toNat_or, ofInt_u64 _ (by omega), ofInt_u64 _ (by omega), nat_join 8 (256 * v) c (by omega) (by omega)]
  simp [IntKind.wrap, IntKind.bits, IntKind.signed]
  split <;> omega

/-- The shortest form of a number. -/
def enc (v : Nat) : List UInt8 := if h : v < 128 then [UInt8.ofNat v] else UInt8.ofNat (v % 128 + 128) :: enc (v / 128)
termination_by v
decreasing_by omega
theorem enc_small {v : Nat} (h : v < 128) : enc v = [UInt8.ofNat v] := by rw [enc, dif_pos h]
theorem enc_more {v : Nat} (h : ¬ v < 128) : enc v = UInt8.ofNat (v % 128 + 128) :: enc (v / 128) := by rw [enc, dif_neg h]
theorem enc_len (v : Nat) : ∀ k, v < 128 ^ (k + 1) → (enc v).length ≤ k + 1 := by
  intro k
  induction k generalizing v with
  | zero => intro h; rw [enc_small (by simpa using h)]; simp
  | succ k ih =>
    intro h
    by_cases h1 : v < 128
    · rw [enc_small h1]; simp
    · rw [enc_more h1]
      have := ih (v / 128) (by rw [Nat.div_lt_iff_lt_mul (by omega)]; rw [Nat.pow_succ] at h; exact h)
      simp; omega
theorem enc_len5 {v : Nat} (h : v ≤ 2147483647) : (enc v).length ≤ 5 := enc_len v 4 (by omega)
theorem toNat_ofNat_small {n : Nat} (h : n < 256) : (UInt8.ofNat n).toNat = n := by
  simp [UInt8.toNat_ofNat', Nat.mod_eq_of_lt h]

/-- A number of so many bytes, the highest first. -/
def fix (v : Nat) : Nat → List UInt8
  | 0 => []
  | k + 1 => UInt8.ofNat (v / 256 ^ k % 256) :: fix v k
theorem fix_len (v k : Nat) : (fix v k).length = k := by induction k with | zero => rfl | succ k ih => simp [fix, ih]

end Go.Proofs.Ytdnbpklnkmgmkaa.Pure
