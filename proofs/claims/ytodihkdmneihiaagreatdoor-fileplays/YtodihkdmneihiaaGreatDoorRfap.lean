import Derived.Test.YtodihkdmneihiaaGreatDoorHop
import Derived.Laws.CopyRow
import Derived.Laws.IdiomCopy
import Derived.Laws.Tables
import Derived.WalkArith
import Derived.OwnWalk
import Derived.Test.YtodihkdmneihiaaGreatDoorRel3p
import Derived.LaidEql
import Derived.Test.YtodihkdmneihiaaGreatDoorRet2p
import Derived.Test.YtodihkdmneihiaaGreatDoorIep
namespace Go.Proofs.YtodihkdmneihiaaGreatDoor
section
open Go.RowKit
set_option linter.unusedVariables false
set_option linter.unusedSimpArgs false
def laid (xs : List UInt8) (m : Nat) : List UInt8 := xs ++ List.replicate (m - xs.length) 171
end

section
open Go.RowKit Dsk
set_option linter.unusedVariables false
set_option linter.unusedSimpArgs false
theorem ins_length (l : List Int) : (ins l).length = l.length := by simp [ins]
end

section
open Go.RowKit Dsk
set_option linter.unusedVariables false
set_option linter.unusedSimpArgs false
section
variable {w w' w1 : World} {q : Nat} {S : Ds} {A : Nat → Nat} {o : Lab} {nv bv tv sv : Value}
end
theorem RDx.any {w : World} {X : Nat} {S : Ds} {B B' : Nat → Nat} {o : Lab} {a b c d : Value} (h : RDx w X { S with shown := [], safe := [], row := [] } B o a b c d) : RDx w X { S with shown := [], safe := [], row := [] } B' o a b c d :=
 ⟨h.cells, h.now, h.before, h.turns, h.told, fun k hk => by simp [Ds.lives, Nm.ids, madeN] at hk, h.lq, h.ln, h.lb, h.lt, h.ls, h.lim, h.pl⟩
end

section
open Go.RowKit Dsk
set_option linter.unusedVariables false
set_option linter.unusedSimpArgs false
section
variable {w wb : World} {X : Nat} {S : Ds} {A B : Nat → Nat} {K : List Nat} {oN : Lab} {n : Nat} {oo mo : Option Addr} {oc mc : Nat} {sv : Value}
end
end

section
open Go.RowKit Dsk
set_option linter.unusedVariables false
set_option linter.unusedSimpArgs false
section
variable {w : World} {q : Nat} {S : Ds} {A : Nat → Nat} {o : Lab} {nv bv tv sv : Value}
theorem RDx.inj (h : RDx w q S A o nv bv tv sv) {j k : Nat} (hj : j ∈ S.lives) (hk : k ∈ S.lives) (e : A j = A k) : j = k := by
 obtain ⟨_, _, _, _, h1⟩ := h.th j hj
 obtain ⟨_, _, _, _, h2⟩ := h.th k hk
 have a := h1.lb
 have b := h2.lb
 rw [e, b] at a
 omega
end
end

section
open Go.RowKit Dsk
set_option linter.unusedVariables false
set_option linter.unusedSimpArgs false
section
variable {w : World} {q : Nat} {S : Ds} {A : Nat → Nat} {o : Lab} {nv bv tv sv : Value}
end
end

end Go.Proofs.YtodihkdmneihiaaGreatDoor
