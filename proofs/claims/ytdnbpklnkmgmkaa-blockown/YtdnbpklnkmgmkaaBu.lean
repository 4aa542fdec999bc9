/-
  Contract: freightref1.Sum (as in Sums).
-/
import Derived.Test.YtdnbpklnkmgmkaaSum
import Derived.Test.YtdnbpklnkmgmkaaPure3
import Derived.Deep.QuietTactic
import Derived.BigQuiet
namespace Go.Proofs.Ytdnbpklnkmgmkaa
open Go.RowKit
set_option linter.unusedVariables false
set_option linter.unusedSimpArgs false

theorem ret_int {k : IntKind} {a b : Int} (h : a = b) : Ending.returned (.int k a) = .returned (.int k b) := by rw [h]
theorem i64_xor_nat (a b : Nat) (ha : a < 9223372036854775808) (hb : b < 9223372036854775808) : bits .xor .i64 (a : Int) (b : Int) = ((a ^^^ b : Nat) : Int) := by
  show IntKind.i64.wrap ((BitVec.ofInt 64 (a : Int) ^^^ BitVec.ofInt 64 (b : Int)).toNat : Int) = _
  have h : a ^^^ b < 9223372036854775808 := Nat.xor_lt_two_pow (n := 63) ha hb
  rw [BitVec.toNat_xor, ofInt_u64 a (by omega), ofInt_u64 b (by omega)]
  simp [IntKind.wrap, IntKind.bits, IntKind.signed]
  split <;> omega

theorem Ts_succ' (k y : Nat) : Pure.Ts (k + 1) y = Pure.T (Pure.Ts k y) := by
  rw [Pure.Ts_add k 1]; rfl
theorem Ts_lt (k : Nat) {y : Nat} (h : y < 4294967296) : Pure.Ts k y < 4294967296 := by
  induction k with
  | zero => exact h
  | succ k ih => rw [Ts_succ']; exact Pure.T_lt ih

set_option maxHeartbeats 2000000 in
set_option maxRecDepth 100000 in
theorem refsum_some (b off n cap : Nat) (xs : List UInt8) (w : World) (hn : xs.length = n) (hm : n ≤ 9223372036854775807) (hc : ∀ i, i < xs.length → w.cell? ⟨b, off + i, none⟩ = some (.int .u8 (xs.getD i 0).toNat)) :
    Calls Try.prog 28 #[.slice (some ⟨b, off, none⟩) n cap] w fun e w' => e = .returned (.int .i64 (Pure.sum xs)) ∧ w' = w := by
  go_enter Try.func28, Try.ntmps28
  go_wp2
  go_loop [3, 4] (fun r i => ∃ k : Nat, k ≤ n ∧ i = .int .i64 k ∧ r = .int .i64 (Pure.crc 4294967295 (xs.take k))) (fun r i => n - (intOf i).toNat)
  case atStart => exact ⟨0, Nat.zero_le _, rfl, rfl⟩
  case round =>
    obtain ⟨k, hk, rfl, rfl⟩ := hrel
    have hx1 : Pure.crc 4294967295 (xs.take k) < 4294967296 := Pure.crc_lt (by omega) _
    by_cases hlt : k < n
    · have hcell := hc k (by omega)
      have hcb : (xs.getD k 0).toNat < 256 := UInt8.toNat_lt _
      have HS : Hid (Pure.crc 4294967295 (xs.take (k + 1)) = Pure.Ts 8 (Pure.crc 4294967295 (xs.take k) ^^^ (xs.getD k 0).toNat)) := by
        show _ = _
        rw [Pure.take_snoc xs 0 k (by omega), Pure.crc_snoc, Pure.crcStep_turns]
      generalize Pure.crc 4294967295 (xs.take k) = x at hx1 HS ⊢
      generalize (xs.getD k 0).toNat = c at hcell hcb HS
      have e1 := i64_xor_nat x c (by omega) (by omega)
      have b1 := Pure.xor_lt32 hx1 (show c < 4294967296 by omega)
      generalize x ^^^ c = y at e1 b1 HS
      clear hc
      go_wp2
      go_loop [3, 5] (fun r j => ∃ m : Nat, m ≤ 8 ∧ j = .int .i64 m ∧ r = .int .i64 (Pure.Ts m y)) (fun r j => 8 - (intOf j).toNat)
      case atStart => exact ⟨0, Nat.zero_le _, rfl, rfl⟩
      case round =>
        obtain ⟨m, hm8, rfl, rfl⟩ := hrel
        have hz := Ts_lt m b1
        by_cases hm : m < 8
        · have HT : Hid (Pure.Ts (m + 1) y = Pure.T (Pure.Ts m y)) := Ts_succ' m y
          generalize Pure.Ts m y = z at hz HT ⊢
          by_cases ho : z % 2 = 1
          · have g1 : ((z : Int) % 2 == 1) = true := by simp; omega
            have e2 : bits .xor .i64 ((z : Int) / 2) 3988292384 = ((z / 2 ^^^ 3988292384 : Nat) : Int) := by
              rw [show ((z : Int) / 2) = ((z / 2 : Nat) : Int) by omega]
              exact i64_xor_nat (z / 2) 3988292384 (by omega) (by omega)
            have HT2 : Hid (Pure.Ts (m + 1) y = z / 2 ^^^ 3988292384) := by
              have := HT.out
              unfold Pure.T at this
              rw [if_pos ho] at this
              exact this
            generalize z / 2 ^^^ 3988292384 = z2 at e2 HT2
            go_wp2
            go_round
            case rel => exact ⟨m + 1, by omega, by go_num, by rw [HT2.out]⟩
            case measure => simp [intOf]; omega
          · have g1 : ((z : Int) % 2 == 1) = false := by simp; omega
            have HT2 : Hid (Pure.Ts (m + 1) y = z / 2) := by
              have := HT.out
              unfold Pure.T at this
              rw [if_neg ho, Nat.xor_zero] at this
              exact this
            go_wp2
            go_round
            case rel => exact ⟨m + 1, by omega, by go_num, by rw [HT2.out]; go_num⟩
            case measure => simp [intOf]; omega
        · obtain rfl : m = 8 := by omega
          go_wp2
          go_round
          case rel => exact ⟨k + 1, by omega, by go_num, by rw [HS.out]⟩
          case measure => simp [intOf]; omega
    · have HT : Hid (xs.take k = xs) := List.take_of_length_le (by omega)
      clear hc
      go_wp2
      go_ret
      exact ⟨ret_int (by have h8 := hx1; have h9 := HT.out; unfold Pure.sum; rw [h9] at h8 ⊢; omega), rfl⟩

set_option maxHeartbeats 2000000 in
set_option maxRecDepth 100000 in
theorem refsum_none (ao : Option Addr) (cap : Nat) (w : World) :
    Calls Try.prog 28 #[.slice ao 0 cap] w fun e w' => e = .returned (.int .i64 (Pure.sum [])) ∧ w' = w := by
  go_enter Try.func28, Try.ntmps28
  go_wp2
  go_loop [3, 4] (fun r i => i = .int .i64 0 ∧ r = .int .i64 4294967295) (fun r i => 0)
  case atStart => exact ⟨rfl, rfl⟩
  case round =>
    obtain ⟨rfl, rfl⟩ := hrel
    go_wp2
    go_ret
    exact ⟨rfl, rfl⟩

/-- freightref1.Sum: the sum of the bytes. -/
theorem refsum_n (ao : Option Addr) (n cap : Nat) (xs : List UInt8) (w : World) (hn : xs.length = n) (hm : n ≤ 9223372036854775807) (h : Sl w ao xs) :
    Calls Try.prog 28 #[.slice ao n cap] w fun e w' => e = .returned (.int .i64 (Pure.sum xs)) ∧ w' = w := by
  by_cases h0 : xs = []
  · subst h0
    obtain rfl : n = 0 := by simpa using hn.symm
    exact refsum_none ao cap w
  · obtain ⟨b, off, rfl, hb, hc⟩ := h.open h0
    exact refsum_some b off n cap xs w hn hm hc

end Go.Proofs.Ytdnbpklnkmgmkaa
