/-
  Contracts: freightlaw7.rowIs, digits. (Seat ..ab.)
-/
import Derived.Test.YtjogfpogdjhglaaDoorNm
namespace Go.Proofs.YtjogfpogdjhglaaDoor
open Go.RowKit
set_option linter.unusedVariables false
set_option linter.unusedSimpArgs false

set_option maxHeartbeats 1600000 in
set_option maxRecDepth 100000 in
/-- rowIs: the first n bytes are i, those behind them 100 + i. -/
theorem rowIs_ok (ao : Option Addr) (N cap i n : Nat) (xs : List UInt8) (w : World) (hN : xs.length = N) (hm : N ≤ 140737488355328) (hi : i < 100) (hn : n ≤ N) (hS : Sl w ao xs) (h1 : ∀ k, k < n → (xs.getD k 0).toNat = i) (h2 : ∀ k, n ≤ k → k < N → (xs.getD k 0).toNat = 100 + i) :
    Calls Tryd.prog 12 #[.slice ao N cap, .int .i64 i, .int .i64 n] w fun r w' => r = .returned (.bool true) ∧ Kept [] w w' := by
  have HS := hide hS
  have H1 := hide h1
  have H2 := hide h2
  have HN := hide hN
  have w1 : IntKind.u8.wrap (i : Int) = i := by rw [IntKind.wrap_u8]; omega
  have w2 : IntKind.u8.wrap (100 + (i : Int)) = 100 + (i : Int) := by rw [IntKind.wrap_u8]; omega
  clear hS h1 h2 hN
  go_enter Tryd.func12, Tryd.ntmps12
  go_wp2
  go_loopw [7] (fun x wr => ∃ k : Nat, k ≤ N ∧ x = .int .i64 k ∧ Hid (Kept [] w wr)) (fun x wr => N - (intOf x).toNat)
  case atStart => exact ⟨0, Nat.zero_le _, rfl, Kept.refl _ _⟩
  case round =>
    obtain ⟨k, hk, rfl, HK⟩ := hrel
    by_cases hlt : k < N
    · obtain ⟨b, off, rfl, hb, hc⟩ := HS.out.open (by rintro rfl; have := HN.out; simp at this; omega)
      have ck : wr.cell? ⟨b, off + k, none⟩ = some (.int .u8 (xs.getD k 0).toNat) := HK.out.cellOf (hc k (by rw [HN.out]; exact hlt)) (by simp)
      clear hc hb
      by_cases hkn : k < n
      · rw [H1.out k hkn] at ck
        have q1 : ((i : Int) != (i : Int)) = false := by simp
        have q2 : ¬ ((n : Int) ≤ (k : Int)) := by omega
        go_wp2
        go_roundw
        case rel => exact ⟨k + 1, by omega, by go_num, HK.out⟩
        case measure => simp [intOf]; omega
      · have e2 := H2.out k (by omega) hlt
        rw [e2] at ck
        have e3 : ((100 + i : Nat) : Int) = 100 + (i : Int) := by omega
        rw [e3] at ck
        clear e2 e3
        have q1 : ((100 + (i : Int)) != (100 + (i : Int))) = false := by simp
        have q2 : ((n : Int) ≤ (k : Int)) := by omega
        have q3 : ¬ ((k : Int) < (n : Int)) := by omega
        go_wp2
        go_roundw
        case rel => exact ⟨k + 1, by omega, by go_num, HK.out⟩
        case measure => simp [intOf]; omega
    · go_wp2
      go_ret
      exact ⟨rfl, HK.out⟩
end Go.Proofs.YtjogfpogdjhglaaDoor
