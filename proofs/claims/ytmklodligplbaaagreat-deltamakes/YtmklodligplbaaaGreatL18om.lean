import Derived.Test.YtmklodligplbaaaGreatRf3m
open Go.RowKit
set_option linter.unusedVariables false
set_option linter.unusedSimpArgs false
set_option maxRecDepth 100000
set_option maxHeartbeats 51200000
namespace Go.Proofs.YtmklodligplbaaaGreat
open Dlt
end Go.Proofs.YtmklodligplbaaaGreat
