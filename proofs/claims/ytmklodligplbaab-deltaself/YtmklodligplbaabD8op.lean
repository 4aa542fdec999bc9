/-
  Contract: delta.readSignature. (Written by tools/d8l.py.)
-/
import Derived.Test.YtmklodligplbaabD8kp
namespace Go.Proofs.Ytmklodligplbaab
open Go.RowKit
open Dlt
set_option linter.unusedVariables false
set_option linter.unusedSimpArgs false

end Go.Proofs.Ytmklodligplbaab
