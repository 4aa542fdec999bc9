/-
  Plain mathematics of chapter 1 (code): the sum of 32 bits tells rows apart. Nothing of the program.
-/
import Derived.Test.YtdnbpklnkmgmkaaPure
namespace Go.Proofs.Ytdnbpklnkmgmkaa.Pure

/-- One turn of the register, of a number of any size. -/
def T (y : Nat) : Nat := y / 2 ^^^ (if y % 2 = 1 then 3988292384 else 0)

theorem xor_half (a b : Nat) : (a ^^^ b) / 2 = a / 2 ^^^ b / 2 := by
  apply Nat.eq_of_testBit_eq
  intro i
  simp only [Nat.testBit_xor, ← Nat.testBit_succ]
theorem xor_odd (a b : Nat) : (a ^^^ b) % 2 = 1 ↔ ¬ (a % 2 = 1 ↔ b % 2 = 1) := by
  have h : (a ^^^ b).testBit 0 = ((a.testBit 0) ^^ (b.testBit 0)) := Nat.testBit_xor ..
  simp only [Nat.testBit_zero] at h
  by_cases h1 : a % 2 = 1 <;> by_cases h2 : b % 2 = 1 <;> simp_all

theorem xor4 (a b c d : Nat) : (a ^^^ b) ^^^ (c ^^^ d) = (a ^^^ c) ^^^ (b ^^^ d) := by
  rw [Nat.xor_assoc, Nat.xor_assoc, ← Nat.xor_assoc b, Nat.xor_comm b c, Nat.xor_assoc c]

theorem T_xor (a b : Nat) : T (a ^^^ b) = T a ^^^ T b := by
  unfold T
  rw [xor_half, xor4]
  congr 1
  have := xor_odd a b
  by_cases h1 : a % 2 = 1 <;> by_cases h2 : b % 2 = 1 <;> simp_all
theorem T_zero : T 0 = 0 := rfl
theorem T_even (y : Nat) : T (2 * y) = y := by
  unfold T
  rw [if_neg (by omega), Nat.xor_zero]
  omega

/-- So many turns. -/
def Ts : Nat → Nat → Nat
  | 0, y => y
  | k + 1, y => Ts k (T y)
theorem Ts_xor (k a b : Nat) : Ts k (a ^^^ b) = Ts k a ^^^ Ts k b := by
  induction k generalizing a b with
  | zero => rfl
  | succ k ih => simp only [Ts]; rw [T_xor, ih]
theorem Ts_pow (k y : Nat) : Ts k (2 ^ k * y) = y := by
  induction k generalizing y with
  | zero => simp [Ts]
  | succ k ih =>
    simp only [Ts]
    rw [show 2 ^ (k + 1) * y = 2 * (2 ^ k * y) by rw [Nat.pow_succ, Nat.mul_comm (2 ^ k) 2, Nat.mul_assoc], T_even, ih]
theorem Ts_add (j k y : Nat) : Ts (j + k) y = Ts k (Ts j y) := by
  induction j generalizing y with
  | zero => simp [Ts]
  | succ j ih => rw [Nat.succ_add]; simp only [Ts]; exact ih (T y)
theorem T_lt {y : Nat} (h : y < 4294967296) : T y < 4294967296 := by
  unfold T
  refine xor_lt32 (by omega) ?_
  split <;> omega
theorem T_ne {y : Nat} (h : y < 4294967296) (h0 : y ≠ 0) : T y ≠ 0 := by
  unfold T
  intro he
  by_cases ho : y % 2 = 1
  · rw [if_pos ho] at he
    have h2 : y / 2 = 3988292384 := by
      have := congrArg (· ^^^ 3988292384) he
      simpa [Nat.xor_assoc] using this
    omega
  · rw [if_neg ho, Nat.xor_zero] at he
    omega
theorem Ts_ne (k : Nat) {y : Nat} (h : y < 4294967296) (h0 : y ≠ 0) : Ts k y ≠ 0 := by
  induction k generalizing y with
  | zero => exact h0
  | succ k ih => simp only [Ts]; exact ih (T_lt h) (T_ne h h0)

/-- Four turns by the table. -/
theorem T_bit (y : Nat) : T y = y / 2 ^^^ (y % 2 * 3988292384) := by
  unfold T
  congr 1
  by_cases h : y % 2 = 1
  · rw [if_pos h, h]
  · rw [if_neg h, show y % 2 = 0 by omega, Nat.zero_mul]
theorem tb_bits : ∀ i, i < 16 → tb i = Ts 4 i := by decide
theorem join16 (y : Nat) : y = (16 * (y / 16)) ^^^ (y % 16) := by
  apply Nat.eq_of_testBit_eq
  intro i
  rw [Nat.testBit_xor, show 16 * (y / 16) = 2 ^ 4 * (y / 16) from rfl, Nat.testBit_two_pow_mul, show 16 = 2 ^ 4 from rfl, Nat.testBit_mod_two_pow, Nat.testBit_div_two_pow]
  by_cases h : 4 ≤ i
  · simp [h, show ¬ i < 4 by omega]
  · simp [h, show i < 4 by omega]
theorem nib_turns (y : Nat) : nib y = Ts 4 y := by
  conv => rhs; rw [join16 y, Ts_xor]
  rw [← tb_bits (y % 16) (by omega), show (16 : Nat) * (y / 16) = 2 ^ 4 * (y / 16) from rfl, Ts_pow]
  rfl
theorem crcStep_turns (x c : Nat) : crcStep x c = Ts 8 (x ^^^ c) := by
  unfold crcStep
  rw [nib_turns, nib_turns, ← Ts_add]

/-- Bytes as one number, the first byte the lowest. -/
def N : List UInt8 → Nat
  | [] => 0
  | c :: l => c.toNat ^^^ (256 * N l)
theorem crc_turns (x : Nat) (l : List UInt8) : crc x l = Ts (8 * l.length) (x ^^^ N l) := by
  induction l generalizing x with
  | nil => simp [crc, N, Ts]
  | cons c l ih =>
    show crc (crcStep x c.toNat) l = _
    rw [ih, crcStep_turns, List.length_cons, show 8 * (l.length + 1) = 8 + 8 * l.length by omega, Ts_add]
    congr 1
    simp only [N]
    rw [← Nat.xor_assoc, Ts_xor 8 (x ^^^ c.toNat), show (256 : Nat) * N l = 2 ^ 8 * N l from rfl, Ts_pow]

/-- Two rows of one length whose difference is 32 bits side by side. -/
theorem sum_ne {a b : List UInt8} {at_ m : Nat} (hl : a.length = b.length) (hd : N a ^^^ N b = 2 ^ at_ * m) (hm : m < 4294967296) (h0 : m ≠ 0) (hat : at_ ≤ 8 * a.length) : sum a ≠ sum b := by
  have h1 : crc 4294967295 a ^^^ crc 4294967295 b = Ts (8 * a.length) (2 ^ at_ * m) := by
    rw [crc_turns, crc_turns, ← hl, ← Ts_xor, xor4, Nat.xor_self, Nat.zero_xor, hd]
  have h2 : Ts (8 * a.length) (2 ^ at_ * m) ≠ 0 := by
    rw [show 8 * a.length = at_ + (8 * a.length - at_) by omega, Ts_add, Ts_pow]
    exact Ts_ne _ hm h0
  intro he
  unfold sum at he
  have ha := crc_lt (x := 4294967295) (by omega) a
  have hb := crc_lt (x := 4294967295) (by omega) b
  have : crc 4294967295 a = crc 4294967295 b := by omega
  rw [this, Nat.xor_self] at h1
  exact h2 h1.symm

/-- A bit of a byte turned. -/
theorem N_turn (l : List UInt8) (i j : Nat) (hi : i < l.length) (hj : j < 8) : N (l.set i ((l.getD i 0) ^^^ UInt8.ofNat (2 ^ j))) = N l ^^^ 2 ^ (8 * i + j) := by
  induction l generalizing i with
  | nil => simp at hi
  | cons c l ih =>
    cases i with
    | zero =>
      simp only [List.set_cons_zero, N, List.getD_cons_zero, Nat.mul_zero, Nat.zero_add]
      rw [UInt8.toNat_xor, UInt8.toNat_ofNat', Nat.mod_eq_of_lt (show 2 ^ j < 2 ^ 8 from Nat.pow_lt_pow_right (by omega) hj), Nat.xor_assoc, Nat.xor_comm (2 ^ j), ← Nat.xor_assoc]
    | succ i =>
      simp only [List.set_cons_succ, N, List.getD_cons_succ]
      rw [ih i (by simpa using hi), Nat.xor_assoc]
      congr 1
      apply Nat.eq_of_testBit_eq
      intro k
      rw [Nat.testBit_xor, show (256 : Nat) = 2 ^ 8 from rfl, Nat.testBit_two_pow_mul, Nat.testBit_two_pow_mul, Nat.testBit_xor, Nat.testBit_two_pow, Nat.testBit_two_pow]
      by_cases h : 8 ≤ k
      · simp [h, show (8 * i + j = k - 8) = (8 * (i + 1) + j = k) by apply propext; omega]
      · simp [h, show ¬ (8 * (i + 1) + j = k) by omega]

end Go.Proofs.Ytdnbpklnkmgmkaa.Pure
