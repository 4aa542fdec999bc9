/-
  Contract: total.
-/
import Derived.Test.YtcmiehfahdbffabId1
namespace Go.Proofs.Ytcmiehfahdbffab
open Go.RowKit Dsk
set_option linter.unusedVariables false
set_option linter.unusedSimpArgs false
set_option maxHeartbeats 800000 in
set_option maxRecDepth 100000 in
theorem total_ok (a1 : Option Addr) (n c1 : Nat) (L : List (By × By)) (w : World) (hx : L.length = n) (hm : n ≤ 4611686018427387904) (hT : totalOf L ≤ 4611686018427387904) (h1 : Fis w a1 L) :
    Calls Try.prog 16 #[.slice a1 n c1] w fun e w' => e = .returned (.int .i64 (totalOf L)) ∧ w' = w := by
  have HX := hide hx
  have HT := hide hT
  clear hx hT
  go_enter Try.func16, Try.ntmps16
  go_wp2
  go_loop [3, 4] (fun t i => ∃ k v : Nat, k ≤ n ∧ i = .int .i64 k ∧ t = .int .i64 v ∧ v ≤ 4611686018427387904 ∧ Hid (v = totalOf (L.take k))) (fun t i => n - (intOf i).toNat)
  case atStart => exact ⟨0, 0, Nat.zero_le _, rfl, rfl, by omega, by simp [Hid, totalOf]⟩
  case round =>
    obtain ⟨k, v, hk, rfl, rfl, hv, HV⟩ := hrel
    by_cases hlt : k < n
    · obtain ⟨b1, rfl, s, hs, e1, bo1, bc1, e2, s1⟩ := h1 k (by rw [HX.out]; exact hlt)
      have HV2 : Hid (v + s.2.length = totalOf (L.take (k + 1))) := by
        show _ = _
        rw [totalOf_take L k s hs, ← HV.out]
      have hle : v + s.2.length ≤ 4611686018427387904 := by have := totalOf_le L (k + 1); have := HT.out; have := HV2.out; omega
      generalize s.2.length = z at e2 HV2 hle
      clear h1 hs e1 s1 s
      go_wp2
      go_round
      case rel => exact ⟨k + 1, v + z, by omega, by go_num, by go_num, hle, HV2⟩
      case measure => simp [intOf]; omega
    · have hfin : Hid (v = totalOf L) := by
        have := HV.out
        rw [List.take_of_length_le (by rw [HX.out]; omega)] at this
        exact this
      clear h1
      go_wp2
      go_ret
      exact ⟨by rw [hfin.out]; rfl, rfl⟩
end Go.Proofs.Ytcmiehfahdbffab
