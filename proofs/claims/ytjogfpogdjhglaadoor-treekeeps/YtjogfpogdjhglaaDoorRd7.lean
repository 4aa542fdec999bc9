/-
  Contracts: code.Reader, spoilt or none at all.
-/
import Derived.Test.YtjogfpogdjhglaaDoorRd5
import Derived.Test.YtjogfpogdjhglaaDoorRd6
namespace Go.Proofs.YtjogfpogdjhglaaDoor
open Go.RowKit
set_option linter.unusedVariables false

set_option maxHeartbeats 400000 in
theorem rfixed_bad {w : World} {b : Nat} {e : Int} (h0 : w.cell? ⟨b, 0, none⟩ = some (.int .i64 e)) (he : (e != 0) = true) (n : Int) :
    Calls Tryd.prog 31 #[.pointer (some ⟨b, 0, none⟩), .int .i64 n] w fun e' w' => e' = .returned (.int .i64 0) ∧ w' = w := by
  go_enter Tryd.func31, Tryd.ntmps31
  go_wp2
  go_ret
  exact ⟨rfl, rfl⟩

set_option maxHeartbeats 400000 in
theorem raw_bad {w : World} {b : Nat} {e : Int} (h0 : w.cell? ⟨b, 0, none⟩ = some (.int .i64 e)) (he : (e != 0) = true) (n : Int) :
    Calls Tryd.prog 47 #[.pointer (some ⟨b, 0, none⟩), .int .i64 n] w fun e' w' => e' = .returned (.slice none 0 0) ∧ w' = w := by
  go_enter Tryd.func47, Tryd.ntmps47
  go_wp2
  go_ret
  exact ⟨rfl, rfl⟩

set_option maxHeartbeats 400000 in
theorem text_bad {w : World} {b : Nat} {e : Int} (h0 : w.cell? ⟨b, 0, none⟩ = some (.int .i64 e)) (he : (e != 0) = true) (n : Int) :
    Calls Tryd.prog 46 #[.pointer (some ⟨b, 0, none⟩), .int .i64 n] w fun e' w' => e' = .returned (.slice none 0 0) ∧ w' = w := by
  go_enter Tryd.func46, Tryd.ntmps46
  go_wp2
  go_ret
  exact ⟨rfl, rfl⟩

set_option maxHeartbeats 400000 in
theorem rfixed_nil (w : World) (n : Int) :
    Calls Tryd.prog 31 #[.pointer none, .int .i64 n] w fun e' w' => e' = .returned (.int .i64 0) ∧ w' = w := by
  go_enter Tryd.func31, Tryd.ntmps31
  go_wp2
  go_ret
  exact ⟨rfl, rfl⟩

set_option maxHeartbeats 400000 in
theorem raw_nil (w : World) (n : Int) :
    Calls Tryd.prog 47 #[.pointer none, .int .i64 n] w fun e' w' => e' = .returned (.slice none 0 0) ∧ w' = w := by
  go_enter Tryd.func47, Tryd.ntmps47
  go_wp2
  go_ret
  exact ⟨rfl, rfl⟩

set_option maxHeartbeats 400000 in
theorem text_nil (w : World) (n : Int) :
    Calls Tryd.prog 46 #[.pointer none, .int .i64 n] w fun e' w' => e' = .returned (.slice none 0 0) ∧ w' = w := by
  go_enter Tryd.func46, Tryd.ntmps46
  go_wp2
  go_ret
  exact ⟨rfl, rfl⟩

end Go.Proofs.YtjogfpogdjhglaaDoor
