import Derived.Test.YtmklodligplbaaaGreatL18om
open Go.RowKit
set_option linter.unusedVariables false
set_option linter.unusedSimpArgs false
set_option maxRecDepth 100000
set_option maxHeartbeats 51200000
namespace Go.Proofs.YtmklodligplbaaaGreat
open Dlt
def stp3 (f c : Int) (v : Value) : List Value := [.int .i64 f, .int .i64 c, v]
end Go.Proofs.YtmklodligplbaaaGreat
