import Derived.Test.YtmklodligplbaaaGreatDt3d
namespace Go.Proofs.YtmklodligplbaaaGreat
open Go.RowKit
set_option linter.unusedVariables false
set_option linter.unusedSimpArgs false
end Go.Proofs.YtmklodligplbaaaGreat
