import Derived.Test.YtmklodligplbaaaGreatL18km
import Derived.Test.YtmklodligplbaaaGreatWr2m
import Derived.Test.YtmklodligplbaaaGreatNim
import Derived.Test.YtmklodligplbaaaGreatL18dm
import Derived.Test.YtmklodligplbaaaGreatDr2m
open Go.RowKit
set_option linter.unusedVariables false
set_option linter.unusedSimpArgs false
set_option maxRecDepth 100000
set_option maxHeartbeats 51200000
namespace Go.Proofs.YtmklodligplbaaaGreat
section

end

section

end

section

end

section
open Dlt
end

end Go.Proofs.YtmklodligplbaaaGreat
