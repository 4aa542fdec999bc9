import Derived.Test.YtodihkdmneihiaaGreatDoorGcp
import Derived.Test.YtodihkdmneihiaaGreatDoorKap
import Derived.Test.YtodihkdmneihiaaGreatDoorFndp
import Derived.Test.YtodihkdmneihiaaGreatDoorJpp
namespace Go.Proofs.YtodihkdmneihiaaGreatDoor
section
open Go.RowKit Dsk
set_option linter.unusedVariables false
set_option linter.unusedSimpArgs false
namespace Dsk
open _root_.Go.Proofs.YtodihkdmneihiaaGreatDoor.Dsk.Ds
theorem get_put_same {l : Nm} (h : l.Up) (n : By) (k : Nat) : (l.put n k).get n = some k := (Nm.get_some (h.put n k)).2 (Nm.mem_put.2 (.inl rfl))
end Dsk
end

section
open Go.RowKit Dsk
set_option linter.unusedVariables false
set_option linter.unusedSimpArgs false
namespace Dsk
open _root_.Go.Proofs.YtodihkdmneihiaaGreatDoor.Dsk.Ds
end Dsk
end

section
open Go.RowKit Dsk
set_option linter.unusedVariables false
set_option linter.unusedSimpArgs false
namespace Dsk
def Ds.drop (S : Ds) (n : By) : Int × Ds := if isNm n then (if (S.remove n).1 = 0 then (S.remove n).2.syncNames else S.remove n) else (51, S)
end Dsk
namespace Dsk
end Dsk
end

end Go.Proofs.YtodihkdmneihiaaGreatDoor
