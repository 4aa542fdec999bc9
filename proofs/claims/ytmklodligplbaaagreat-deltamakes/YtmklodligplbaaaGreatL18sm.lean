import Derived.Test.YtmklodligplbaaaGreatL18rm
import Derived.Test.YtmklodligplbaaaGreatD9rm
import Derived.Test.YtmklodligplbaaaGreatL18am
open Go.RowKit
set_option linter.unusedVariables false
set_option linter.unusedSimpArgs false
set_option maxRecDepth 100000
set_option maxHeartbeats 51200000
namespace Go.Proofs.YtmklodligplbaaaGreat
section
open Dlt
theorem inB8_nil (w : World) : InB8 w none 0 0 [] := ⟨rfl, Nat.le_refl _, by omega, Sl.nil _ _, fun _ => ⟨rfl, rfl⟩⟩
theorem Tryz.infoStp3 : (Tryz.prog.info? 82).map (fun i => (i.zero, i.size, i.bytes)) = some (some (.agg (stp3 0 0 (.slice none 0 0)).toArray), 3, 40) := by kernel_rfl
end

section
open Dlt
def z32 : List UInt8 := List.replicate 32 0
theorem z32_len : z32.length = 32 := by simp [z32]
end

section
open Dlt
end

end Go.Proofs.YtmklodligplbaaaGreat
