/-
  Contract: Room.
-/
import Derived.Test.YtcmiehfahdbffacId1
namespace Go.Proofs.Ytcmiehfahdbffac
open Go.RowKit Dsk
set_option linter.unusedVariables false
set_option linter.unusedSimpArgs false
set_option maxHeartbeats 800000 in
set_option maxRecDepth 100000 in
theorem room_ok {w : World} {p : Nat} {S : Ds} {A : Nat → Nat} {o : Lab} (h : PD w p S A o) : Calls Try.prog 33 #[.pointer (some ⟨p, 0, none⟩)] w fun e w' => e = .returned (.int .i64 S.room) ∧ w' = w := by
  obtain ⟨ms, mh, rv, sv, h⟩ := h
  have c0 := h.c0
  clear h
  go_enter Try.func33, Try.ntmps33
  go_wp2
  go_ret
  exact ⟨rfl, rfl⟩
theorem room_at {w0 w : World} {p : Nat} {S : Ds} {N : Nat} (h : At w0 w p S N) : Calls Try.prog 33 #[.pointer (some ⟨p, 0, none⟩)] w fun e w' => e = .returned (.int .i64 S.room) ∧ w' = w := by
  obtain ⟨A, o, hP, _⟩ := h
  exact room_ok hP
end Go.Proofs.Ytcmiehfahdbffac
