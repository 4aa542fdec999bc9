/-
  Contracts: freightref4.alike, match.
-/
import Derived.Test.YtieklkbclkokeabVh
namespace Go.Proofs.Ytieklkbclkokeab
open Go.RowKit
set_option linter.unusedVariables false
set_option linter.unusedSimpArgs false

end Go.Proofs.Ytieklkbclkokeab
