import Derived.Test.YtmklodligplbaaaGreatD8cm
import Derived.Test.YtmklodligplbaaaGreatClonem
open Go.RowKit
set_option linter.unusedVariables false
set_option linter.unusedSimpArgs false
set_option maxRecDepth 100000
set_option maxHeartbeats 51200000
namespace Go.Proofs.YtmklodligplbaaaGreat
section
namespace Dlt
theorem At.stop {xs : List UInt8} {s : Rs} {ys zs : List UInt8} (h : At xs s ys zs) (h0 : stLeft xs s = 0) : xs = ys := by
 unfold stLeft at h0
 rw [if_pos h.e, h.len] at h0
 have : zs = [] := List.length_eq_zero_iff.1 (by omega)
 rw [h.x, this, List.append_nil]
end Dlt
end

section

end

section

end

end Go.Proofs.YtmklodligplbaaaGreat
