/-
  One byte turned: another sum, and what Open says of it.
-/
import Derived.Test.YtdnbpklnkmgmkaaBa
import Derived.Test.YtdnbpklnkmgmkaaPure3
namespace Go.Proofs.Ytdnbpklnkmgmkaa
open Go.RowKit
set_option linter.unusedVariables false
set_option linter.unusedSimpArgs false

namespace Pure
theorem N_byte (l : List UInt8) (i : Nat) (d : UInt8) (hi : i < l.length) : N (l.set i ((l.getD i 0) ^^^ d)) = N l ^^^ 2 ^ (8 * i) * d.toNat := by
  induction l generalizing i with
  | nil => simp at hi
  | cons c l ih =>
    cases i with
    | zero =>
      simp only [List.set_cons_zero, N, List.getD_cons_zero, Nat.mul_zero, Nat.pow_zero, Nat.one_mul]
      rw [UInt8.toNat_xor, Nat.xor_assoc, Nat.xor_comm d.toNat, ← Nat.xor_assoc]
    | succ i =>
      simp only [List.set_cons_succ, N, List.getD_cons_succ]
      rw [ih i (by simpa using hi), Nat.xor_assoc]
      congr 1
      apply Nat.eq_of_testBit_eq
      intro k
      rw [Nat.testBit_xor, show (256 : Nat) = 2 ^ 8 from rfl, Nat.testBit_two_pow_mul, Nat.testBit_two_pow_mul, Nat.testBit_xor, Nat.testBit_two_pow_mul, Nat.testBit_two_pow_mul]
      by_cases h : 8 ≤ k
      · have e1 : (8 * (i + 1) ≤ k) = (8 * i ≤ k - 8) := by apply propext; omega
        have e2 : k - 8 * (i + 1) = k - 8 - 8 * i := by omega
        simp [h, e1, e2]
      · have e3 : ¬ 8 * (i + 1) ≤ k := by omega
        simp [h, e3]
theorem sum_byte (l : List UInt8) (i : Nat) (d : UInt8) (hi : i < l.length) (hd : d ≠ 0) : sum (l.set i ((l.getD i 0) ^^^ d)) ≠ sum l := by
  refine sum_ne (at_ := 8 * i) (m := d.toNat) (by simp) ?_ (by have := UInt8.toNat_lt d; omega) (by intro h; exact hd (UInt8.toNat_inj.1 h)) (by simp; omega)
  rw [N_byte l i d hi, Nat.xor_comm (N l), Nat.xor_assoc, Nat.xor_self, Nat.xor_zero]
end Pure

namespace Blk
theorem opn_byte (ys : List UInt8) (b : Bk) (i : Nat) (d : UInt8) (hi : i < ys.length) (hd : d ≠ 0) (hb : ((Pure.sum ys : Nat) : Int) = b.sum) : opn (ys.set i ((ys.getD i 0) ^^^ d)) b = ([], 110) := by
  unfold opn
  rw [if_pos]
  unfold bad
  have := Pure.sum_byte ys i d hi hd
  omega
theorem opn_len (ys : List UInt8) (b : Bk) (h : (ys.length : Int) ≠ b.pk) : opn ys b = ([], 110) := by
  unfold opn
  rw [if_pos]
  unfold bad
  omega
theorem opn_sum (ys : List UInt8) (b : Bk) (h : ((Pure.sum ys : Nat) : Int) ≠ b.sum) : opn ys b = ([], 110) := by
  unfold opn
  rw [if_pos]
  unfold bad
  omega
end Blk
theorem set_back (ys : List UInt8) (i : Nat) (d : UInt8) (hi : i < ys.length) : (ys.set i ((ys.getD i 0) ^^^ d)).set i (((ys.set i ((ys.getD i 0) ^^^ d)).getD i 0) ^^^ d) = ys := by
  have e : (ys.set i ((ys.getD i 0) ^^^ d)).getD i 0 = (ys.getD i 0) ^^^ d := by simp [List.getD, hi]
  rw [e, List.set_set, UInt8.xor_assoc, UInt8.xor_self, UInt8.xor_zero]
  apply List.ext_getElem?
  intro k
  rw [List.getElem?_set]
  split
  · next h =>
    subst h
    simp [hi, List.getD]
  · rfl

end Go.Proofs.Ytdnbpklnkmgmkaa
