import Derived.Test.YtmklodligplbaaaGreatDh4d
import Derived.Laws.AppendOwnNone
import Derived.OwnWalk
import Derived.Test.YtmklodligplbaaaGreatDr1d
namespace Go.Proofs.YtmklodligplbaaaGreat
section
open Go.RowKit
set_option linter.unusedVariables false
set_option linter.unusedSimpArgs false
end

section
open Go.RowKit
set_option linter.unusedVariables false
set_option linter.unusedSimpArgs false
end

section
open Go.RowKit
set_option linter.unusedVariables false
set_option linter.unusedSimpArgs false
end

section
open Go.RowKit
set_option linter.unusedVariables false
set_option linter.unusedSimpArgs false
def idl (F : List UInt8) : Nat → List UInt8
 | 0 => List.replicate 32 0
 | i + 1 => (idl F i).set i (F.getD i 0)
end

end Go.Proofs.YtmklodligplbaaaGreat
