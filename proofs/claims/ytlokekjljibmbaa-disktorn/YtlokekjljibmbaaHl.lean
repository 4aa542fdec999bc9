/-
  Contract: Safe. (Written by tools/hk.py.)
-/
import Derived.Test.YtlokekjljibmbaaHk
namespace Go.Proofs.Ytlokekjljibmbaa
open Go.RowKit Dsk
set_option linter.unusedVariables false
set_option linter.unusedSimpArgs false