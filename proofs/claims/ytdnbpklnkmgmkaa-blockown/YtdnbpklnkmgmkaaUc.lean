/-
  Contracts: press.decoded.
-/
import Derived.Test.YtdnbpklnkmgmkaaUa
import Derived.Test.YtdnbpklnkmgmkaaQp3
import Derived.Test.YtdnbpklnkmgmkaaPure2
namespace Go.Proofs.Ytdnbpklnkmgmkaa
open Go.RowKit
set_option linter.unusedVariables false
set_option linter.unusedSimpArgs false

/-- A match as a value. -/
def mv (d l : Int) : Value := .agg #[.int .i64 d, .int .i64 l]

set_option maxHeartbeats 1000000 in
set_option maxRecDepth 100000 in
theorem decoded_ok (h l : UInt8) (w : World) :
    Calls Try.prog 48 #[.int .u8 h.toNat, .int .u8 l.toNat] w fun e w' => e = .returned (mv (((256 * h.toNat + l.toNat) / 64 + 1 : Nat) : Int) (((256 * h.toNat + l.toNat) % 64 + 3 : Nat) : Int)) ∧ Kept [] w w' := by
  have hh := UInt8.toNat_lt h
  have hl := UInt8.toNat_lt l
  generalize h.toNat = a at hh ⊢
  generalize l.toNat = b at hl ⊢
  have e1 := Pure.i64_or_join a b (by omega) (by omega)
  have hv : 256 * a + b < 65536 := by omega
  generalize 256 * a + b = v at e1 hv ⊢
  have e2 : Int.tdiv (v : Int) 64 = ((v / 64 : Nat) : Int) := by rw [Int.tdiv_eq_ediv_of_nonneg (by omega)]; omega
  have e3 : Int.tmod (v : Int) 64 = ((v % 64 : Nat) : Int) := by rw [Int.tmod_eq_emod_of_nonneg (by omega)]; omega
  have e4 : v / 64 < 1024 := by omega
  have e5 : v % 64 < 64 := by omega
  generalize v / 64 = q at e2 e4 ⊢
  generalize v % 64 = r at e3 e5 ⊢
  go_enter Try.func48, Try.ntmps48
  go_wp2
  refine bodyPost_ret (v := mv ((q + 1 : Nat) : Int) ((r + 3 : Nat) : Int)) ?_ rfl ⟨rfl, (Kept.refl _ _).alloc _⟩
  simp [results, Try.results48, go_sem, mv]
end Go.Proofs.Ytdnbpklnkmgmkaa
