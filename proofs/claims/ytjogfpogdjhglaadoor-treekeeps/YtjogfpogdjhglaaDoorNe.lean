/-
  Contracts: tree.must, tree.isKind.
-/
import Derived.Test.YtjogfpogdjhglaaDoorNd
import Derived.Defers
import Derived.Recover
namespace Go.Proofs.YtjogfpogdjhglaaDoor
open Go.RowKit
set_option linter.unusedVariables false
set_option linter.unusedSimpArgs false

/-- How the reader gives up. -/
abbrev gaveUp : Ending := .panicked [{ v := .iface 82 (.agg #[]), recovered := false }]
set_option maxRecDepth 100000 in
theorem must_true (w : World) : Calls Tryd.prog 30 #[.bool true] w fun e w' => e = .returned (.tuple #[]) ∧ w' = w := by
  go_enter Tryd.func30, Tryd.ntmps30
  go_wp2
  go_end0
  exact ⟨rfl, rfl⟩
set_option maxRecDepth 100000 in
theorem must_false (w : World) : Calls Tryd.prog 30 #[.bool false] w fun e w' => e = gaveUp ∧ w' = w := by
  go_enter Tryd.func30, Tryd.ntmps30
  go_wp2
  exact ⟨rfl, rfl, rfl⟩
namespace Tn
def isK (k : Int) : Bool := decide (1 ≤ k) && decide (k ≤ 3)
end Tn
set_option maxRecDepth 100000 in
theorem isKind_ok (k : Int) (w : World) : Calls Tryd.prog 40 #[.int .i64 k] w fun e w' => e = .returned (.bool (Tn.isK k)) ∧ w' = w := by
  have hk : Hid (Tn.isK k = (decide (k = 1) || decide (k = 2) || decide (k = 3))) := by
    show _ = _
    rw [Bool.eq_iff_iff]; simp [Tn.isK]; omega
  by_cases h1 : k = 1
  · subst h1
    go_enter Tryd.func40, Tryd.ntmps40
    go_wp2
    go_ret
    exact ⟨by rw [hk.out]; rfl, rfl⟩
  · by_cases h2 : k = 2
    · subst h2
      go_enter Tryd.func40, Tryd.ntmps40
      go_wp2
      go_ret
      exact ⟨by rw [hk.out]; rfl, rfl⟩
    · by_cases h3 : k = 3
      · subst h3
        go_enter Tryd.func40, Tryd.ntmps40
        go_wp2
        go_ret
        exact ⟨by rw [hk.out]; rfl, rfl⟩
      · have b1 : (k == 1) = false := by simpa using h1
        have b2 : (k == 2) = false := by simpa using h2
        have b3 : (k == 3) = false := by simpa using h3
        go_enter Tryd.func40, Tryd.ntmps40
        go_wp2
        go_ret
        exact ⟨by rw [hk.out]; simp [h1, h2, h3, Act.eval], rfl⟩
end Go.Proofs.YtjogfpogdjhglaaDoor
