import Derived.Test.YtmklodligplbaabGreatD8jo
open Go.RowKit
set_option linter.unusedVariables false
set_option linter.unusedSimpArgs false
set_option maxRecDepth 100000
set_option maxHeartbeats 0
namespace Go.Proofs.YtmklodligplbaabGreat
section
open Dlt
end

section
open Dlt
end

end Go.Proofs.YtmklodligplbaabGreat
