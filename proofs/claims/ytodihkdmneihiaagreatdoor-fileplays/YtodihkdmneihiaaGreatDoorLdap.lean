import Derived.Test.YtodihkdmneihiaaGreatDoorId1p
import Derived.Test.YtodihkdmneihiaaGreatDoorFqap
namespace Go.Proofs.YtodihkdmneihiaaGreatDoor
section
open Go.RowKit Dsk
set_option linter.unusedVariables false
set_option linter.unusedSimpArgs false
namespace Dsk
end Dsk
end

section
open Go.RowKit Dsk
set_option linter.unusedVariables false
set_option linter.unusedSimpArgs false
namespace Dsk
open _root_.Go.Proofs.YtodihkdmneihiaaGreatDoor.Dsk.Ds
def fls (l : Nm) (g : Nat → By) : List (By × By) := l.map (fun p => (p.1, g p.2))
theorem get_del {l : Nm} (h : l.Up) (n m : By) : (l.del n).get m = if m = n then none else l.get m := by
 by_cases e : m = n
 ·rw [if_pos e]
  exact Nm.get_none.2 (fun p hp => by rw [e]; exact (Nm.mem_del.1 hp).2)
 ·rw [if_neg e]
  cases hg : l.get m with
  | none => exact Nm.get_none.2 (fun p hp => (Nm.get_none.1 hg) p (Nm.mem_del.1 hp).1)
  | some k => exact (Nm.get_some (h.del n)).2 (Nm.mem_del.2 ⟨(Nm.get_some h).1 hg, e⟩)
section
variable {S D : Ds} {r : List Nc} {t : Option Th} {n : Nat}
end
theorem runN_app (l : Nm) (a b : List Nc) : runN l (a ++ b) = runN (runN l a) b := by
 induction a generalizing l with
 | nil => rfl
 | cons c a ih => exact ih _
section
variable {l : Nm} {q n : By} {k : Nat} {pre : List Nc}
end
end Dsk
end

end Go.Proofs.YtodihkdmneihiaaGreatDoor
