import Derived.Test.YtmklodligplbaabGreatD8kl
namespace Go.Proofs.YtmklodligplbaabGreat
open Go.RowKit
open Dlt
set_option linter.unusedVariables false
set_option linter.unusedSimpArgs false
end Go.Proofs.YtmklodligplbaabGreat
