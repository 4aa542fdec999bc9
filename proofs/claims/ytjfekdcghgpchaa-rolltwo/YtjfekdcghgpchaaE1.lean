/-
  Contracts: roll.partsOf, parts.moved, parts.sum, roll.Sum; freightref3.Sum.
-/
import Derived.Test.YtjfekdcghgpchaaProg
import Derived.Test.YtjfekdcghgpchaaEp
import Derived.Test.YtjfekdcghgpchaaMem
namespace Go.Proofs.Ytjfekdcghgpchaa
open Go.RowKit
set_option linter.unusedVariables false
set_option linter.unusedSimpArgs false

theorem getD_take_snoc (xs : List UInt8) (k : Nat) (hk : k < xs.length) : xs.take (k + 1) = xs.take k ++ [xs.getD k 0] := by
  rw [List.take_succ_eq_append_getElem hk]
  simp [List.getElem?_eq_getElem hk]

set_option maxHeartbeats 1000000 in
set_option maxRecDepth 100000 in
theorem refsum_some (b off n cap : Nat) (xs : List UInt8) (w : World) (hn : xs.length = n) (hm : n ≤ 9223372036854775806) (hc : ∀ i, i < xs.length → w.cell? ⟨b, off + i, none⟩ = some (.int .u8 (xs.getD i 0).toNat)) :
    Calls Try.prog 11 #[.slice (some ⟨b, off, none⟩) n cap] w fun e w' => e = .returned (.int .i64 (Rol.sum xs)) ∧ w' = w := by
  go_enter Try.func11, Try.ntmps11
  go_wp2
  go_loop [3, 4, 5] (fun x y i => ∃ k : Nat, k ≤ n ∧ i = .int .i64 k ∧ x = .int .i64 (Rol.pa (xs.take k)) ∧ y = .int .i64 (Rol.pb (xs.take k))) (fun x y i => n - (intOf i).toNat)
  case atStart => exact ⟨0, Nat.zero_le _, rfl, rfl, rfl⟩
  case round =>
    obtain ⟨k, hk, rfl, rfl, rfl⟩ := hrel
    have ha := Rol.pa_lt (xs.take k)
    have hb := Rol.pb_lt (xs.take k)
    by_cases hlt : k < n
    · have hcell := hc k (by omega)
      have hcb : (xs.getD k 0).toNat < 256 := UInt8.toNat_lt _
      have HA : Hid (Rol.pa (xs.take (k + 1)) = (Rol.pa (xs.take k) + (xs.getD k 0).toNat) % 65536) := by
        show _ = _
        rw [getD_take_snoc xs k (by omega), Rol.pa_snoc]
      have HB : Hid (Rol.pb (xs.take (k + 1)) = (Rol.pb (xs.take k) + Rol.pa (xs.take (k + 1))) % 65536) := by
        show _ = _
        rw [getD_take_snoc xs k (by omega), Rol.pb_snoc]
      generalize Rol.pa (xs.take k) = a at ha HA ⊢
      generalize Rol.pb (xs.take k) = b' at hb HB ⊢
      generalize (xs.getD k 0).toNat = c at hcell hcb HA
      clear hc
      go_wp2
      go_round
      case rel => exact ⟨k + 1, by omega, by go_num, by rw [HA.out]; go_num, by rw [HB.out, HA.out]; go_num⟩
      case measure => simp [intOf]; omega
    · have HT : Hid (xs.take k = xs) := List.take_of_length_le (by omega)
      have HS : Hid (Rol.sum xs = Rol.pa (xs.take k) + 65536 * Rol.pb (xs.take k)) := by show _ = _; rw [HT.out]; rfl
      generalize Rol.pa (xs.take k) = a at ha HS ⊢
      generalize Rol.pb (xs.take k) = b' at hb HS ⊢
      clear hc
      go_wp2
      go_ret
      exact ⟨by rw [HS.out]; go_num, rfl⟩

set_option maxHeartbeats 1000000 in
set_option maxRecDepth 100000 in
theorem refsum_none (ao : Option Addr) (cap : Nat) (w : World) :
    Calls Try.prog 11 #[.slice ao 0 cap] w fun e w' => e = .returned (.int .i64 (Rol.sum [])) ∧ w' = w := by
  go_enter Try.func11, Try.ntmps11
  go_wp2
  go_loop [3, 4, 5] (fun x y i => i = .int .i64 0 ∧ x = .int .i64 0 ∧ y = .int .i64 0) (fun x y i => 0)
  case atStart => exact ⟨rfl, rfl, rfl⟩
  case round =>
    obtain ⟨rfl, rfl, rfl⟩ := hrel
    go_wp2
    go_ret
    exact ⟨rfl, rfl⟩

/-- freightref3.Sum. -/
theorem refsum_n (ao : Option Addr) (n cap : Nat) (xs : List UInt8) (w : World) (hn : xs.length = n) (hm : n ≤ 9223372036854775806) (h : Sl w ao xs) :
    Calls Try.prog 11 #[.slice ao n cap] w fun e w' => e = .returned (.int .i64 (Rol.sum xs)) ∧ w' = w := by
  by_cases h0 : xs = []
  · subst h0
    obtain rfl : n = 0 := by simpa using hn.symm
    exact refsum_none ao cap w
  · obtain ⟨b, off, rfl, hb, hc⟩ := h.open h0
    exact refsum_some b off n cap xs w hn hm hc

end Go.Proofs.Ytjfekdcghgpchaa
