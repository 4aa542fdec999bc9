import Derived.Test.YtmklodligplbaaaGreatD8kp
namespace Go.Proofs.YtmklodligplbaaaGreat
open Go.RowKit
open Dlt
set_option linter.unusedVariables false
set_option linter.unusedSimpArgs false
end Go.Proofs.YtmklodligplbaaaGreat
