/-
  Contracts: code.Reader, spoilt or none at all.
-/
import Derived.Test.YthjknkkjjpjhmaaDoorRd5
import Derived.Test.YthjknkkjjpjhmaaDoorRd6
namespace Go.Proofs.YthjknkkjjpjhmaaDoor
open Go.RowKit
set_option linter.unusedVariables false

set_option maxHeartbeats 400000 in
theorem rfixed_bad {w : World} {b : Nat} {e : Int} (h0 : w.cell? ⟨b, 0, none⟩ = some (.int .i64 e)) (he : (e != 0) = true) (n : Int) :
    Calls Tryd.prog 43 #[.pointer (some ⟨b, 0, none⟩), .int .i64 n] w fun e' w' => e' = .returned (.int .i64 0) ∧ w' = w := by
  go_enter Tryd.func43, Tryd.ntmps43
  go_wp2
  go_ret
  exact ⟨rfl, rfl⟩

set_option maxHeartbeats 400000 in
theorem raw_bad {w : World} {b : Nat} {e : Int} (h0 : w.cell? ⟨b, 0, none⟩ = some (.int .i64 e)) (he : (e != 0) = true) (n : Int) :
    Calls Tryd.prog 57 #[.pointer (some ⟨b, 0, none⟩), .int .i64 n] w fun e' w' => e' = .returned (.slice none 0 0) ∧ w' = w := by
  go_enter Tryd.func57, Tryd.ntmps57
  go_wp2
  go_ret
  exact ⟨rfl, rfl⟩

set_option maxHeartbeats 400000 in
theorem text_bad {w : World} {b : Nat} {e : Int} (h0 : w.cell? ⟨b, 0, none⟩ = some (.int .i64 e)) (he : (e != 0) = true) (n : Int) :
    Calls Tryd.prog 56 #[.pointer (some ⟨b, 0, none⟩), .int .i64 n] w fun e' w' => e' = .returned (.slice none 0 0) ∧ w' = w := by
  go_enter Tryd.func56, Tryd.ntmps56
  go_wp2
  go_ret
  exact ⟨rfl, rfl⟩

set_option maxHeartbeats 400000 in
theorem rfixed_nil (w : World) (n : Int) :
    Calls Tryd.prog 43 #[.pointer none, .int .i64 n] w fun e' w' => e' = .returned (.int .i64 0) ∧ w' = w := by
  go_enter Tryd.func43, Tryd.ntmps43
  go_wp2
  go_ret
  exact ⟨rfl, rfl⟩

set_option maxHeartbeats 400000 in
theorem raw_nil (w : World) (n : Int) :
    Calls Tryd.prog 57 #[.pointer none, .int .i64 n] w fun e' w' => e' = .returned (.slice none 0 0) ∧ w' = w := by
  go_enter Tryd.func57, Tryd.ntmps57
  go_wp2
  go_ret
  exact ⟨rfl, rfl⟩

set_option maxHeartbeats 400000 in
theorem text_nil (w : World) (n : Int) :
    Calls Tryd.prog 56 #[.pointer none, .int .i64 n] w fun e' w' => e' = .returned (.slice none 0 0) ∧ w' = w := by
  go_enter Tryd.func56, Tryd.ntmps56
  go_wp2
  go_ret
  exact ⟨rfl, rfl⟩

end Go.Proofs.YthjknkkjjpjhmaaDoor
