import Derived.Test.YtmklodligplbaabGreatD9wo
open Go.RowKit
set_option linter.unusedVariables false
set_option linter.unusedSimpArgs false
set_option maxRecDepth 100000
set_option maxHeartbeats 0
namespace Go.Proofs.YtmklodligplbaabGreat
open Dlt
end Go.Proofs.YtmklodligplbaabGreat
