/-
  No cell of these rows narrows 'for every input' (looked for: loops, veiled, ifaces, maps, wideKeys, modest, calm, conditions, laid).
  DERIVED. THE GIVEN ROWS OF THIS SEAT. 4 by the template 'for every input the law returns true; each argument reads behind the call as it read before'; 0 by the template 'total and deterministic' (their statements: YtdeneflgldagpabTotals.lean).
  GIVEN WITH THE SEED: the statements are not yours to turn. If you find one false, say at which input.
  Laid BY PROGRAM, IN A SANDBOX (cutbox-rows.mjs): the forced cells as the released guide's own fill.sh prints them over the translation e09a8cffe8423b79… (all of the seat's roots in one cut). By AI agents, Wed Nov 11 2026. No macro, syntax, notation, axiom, sorry.
-/
import Derived.Test.YtdeneflgldagpabChecked
import GoSem.Claim
import GoSem.ClaimJoined
import GoSem.ClaimMapViews
import Derived.JoinedTies
import Derived.KernelRfl
namespace Go.Proofs.Ytdeneflgldagpab
/- THE CELL 'sum', in the pinned program and in every row, IS THE sha256 OF THE DUMP (.gsa) THAT YtdeneflgldagpabProg.lean LOADS. Nothing in Lean hashes anything: it is a label: what it is worth is what the hold of that sum in a sandbox is worth. -/
noncomputable def Try.pinned : Pinned := { name := "ytdeneflgldagpab", sum := "e09a8cffe8423b79efc261a7bc1dbcd3ea2680c4b3265255a549da20d829ed4a", checked := Try.checked }
namespace Rows
def none {H : Type} : Left H := { results := [], args := [] }

/-- 'freightlaw8.TableOneForm': WHATEVER THE INPUT: true; the input reads as it did. -/
def tableOneFormSpec : ChangeSpec := { name := "tableOneForm", fn := fun _ => fun
  | [d] => { results := [.lit (.bool true)], args := [d] }
  | _ => none }
def tableOneFormRow : OpenClaim := { program := "ytdeneflgldagpab", sum := "e09a8cffe8423b79efc261a7bc1dbcd3ea2680c4b3265255a549da20d829ed4a", func := "freight/freightlaw8.TableOneForm", spec := "tableOneForm", inPlace := ["internal/bytealg.Compare"], unfollowed := true, recurses := true, apart := false }
def TableOneFormSaid : Prop := tableOneFormRow.holds Try.pinned (OpenSpec.ofChange tableOneFormSpec)

/-- ITS FALSE NEIGHBOUR: 'it returns false'. Refute it at one input. -/
def tableOneFormWrong : ChangeSpec := { name := "tableOneForm", fn := fun _ => fun
  | [d] => { results := [.lit (.bool false)], args := [d] }
  | _ => none }
def TableOneFormWrongFalsely : Prop := tableOneFormRow.holds Try.pinned (OpenSpec.ofChange tableOneFormWrong)

/-- 'freightlaw8.TableSets': WHATEVER THE INPUT: true; the input reads as it did. -/
def tableSetsSpec : ChangeSpec := { name := "tableSets", fn := fun _ => fun
  | [d1, d2] => { results := [.lit (.bool true)], args := [d1, d2] }
  | _ => none }
def tableSetsRow : OpenClaim := { program := "ytdeneflgldagpab", sum := "e09a8cffe8423b79efc261a7bc1dbcd3ea2680c4b3265255a549da20d829ed4a", func := "freight/freightlaw8.TableSets", spec := "tableSets", inPlace := ["internal/bytealg.Compare"], unfollowed := true, recurses := true, apart := false }
def TableSetsSaid : Prop := tableSetsRow.holds Try.pinned (OpenSpec.ofChange tableSetsSpec)

/-- ITS FALSE NEIGHBOUR: 'it returns false'. Refute it at one input. -/
def tableSetsWrong : ChangeSpec := { name := "tableSets", fn := fun _ => fun
  | [d1, d2] => { results := [.lit (.bool false)], args := [d1, d2] }
  | _ => none }
def TableSetsWrongFalsely : Prop := tableSetsRow.holds Try.pinned (OpenSpec.ofChange tableSetsWrong)

/-- 'freightlaw8.TableUnion': WHATEVER THE INPUT: true; the input reads as it did. -/
def tableUnionSpec : ChangeSpec := { name := "tableUnion", fn := fun _ => fun
  | [d1, d2] => { results := [.lit (.bool true)], args := [d1, d2] }
  | _ => none }
def tableUnionRow : OpenClaim := { program := "ytdeneflgldagpab", sum := "e09a8cffe8423b79efc261a7bc1dbcd3ea2680c4b3265255a549da20d829ed4a", func := "freight/freightlaw8.TableUnion", spec := "tableUnion", inPlace := ["internal/bytealg.Compare"], unfollowed := true, recurses := true, apart := false }
def TableUnionSaid : Prop := tableUnionRow.holds Try.pinned (OpenSpec.ofChange tableUnionSpec)

/-- ITS FALSE NEIGHBOUR: 'it returns false'. Refute it at one input. -/
def tableUnionWrong : ChangeSpec := { name := "tableUnion", fn := fun _ => fun
  | [d1, d2] => { results := [.lit (.bool false)], args := [d1, d2] }
  | _ => none }
def TableUnionWrongFalsely : Prop := tableUnionRow.holds Try.pinned (OpenSpec.ofChange tableUnionWrong)

/-- 'freightlaw8.TableIsNew': WHATEVER THE INPUT: true; the input reads as it did. -/
def tableIsNewSpec : ChangeSpec := { name := "tableIsNew", fn := fun _ => fun
  | [d1, d2, d3] => { results := [.lit (.bool true)], args := [d1, d2, d3] }
  | _ => none }
def tableIsNewRow : OpenClaim := { program := "ytdeneflgldagpab", sum := "e09a8cffe8423b79efc261a7bc1dbcd3ea2680c4b3265255a549da20d829ed4a", func := "freight/freightlaw8.TableIsNew", spec := "tableIsNew", inPlace := ["internal/bytealg.Compare"], unfollowed := true, recurses := true, apart := false }
def TableIsNewSaid : Prop := tableIsNewRow.holds Try.pinned (OpenSpec.ofChange tableIsNewSpec)

/-- ITS FALSE NEIGHBOUR: 'it returns false'. Refute it at one input. -/
def tableIsNewWrong : ChangeSpec := { name := "tableIsNew", fn := fun _ => fun
  | [d1, d2, d3] => { results := [.lit (.bool false)], args := [d1, d2, d3] }
  | _ => none }
def TableIsNewWrongFalsely : Prop := tableIsNewRow.holds Try.pinned (OpenSpec.ofChange tableIsNewWrong)

/- THE SECOND FORM. 'bulk': how many values and letters a reading holds, each counted each time it is reached (what is shared counts as often as it is met; a slice's spare places count too). A statement '..UptoSaid' is the law's where the arguments, and the package variables that the reading takes, are together of bulk at most 1048576: NARROWER than '..Said'. Prove '..Said' where nothing that the law and all that it calls make is longer than what came in: it says more and counts as full. Else prove '..UptoSaid'. A law counts once. -/
mutual
def uptoBulk {H : Type} : DataW H → Nat
  | .lit (.string bytes) => bytes.length + 1
  | .lit _ => 1
  | .nil => 1
  | .ptr d => uptoBulk d + 1
  | .slice elems spare => uptoBulkAll elems + uptoBulkAll spare + 1
  | .agg parts => uptoBulkAll parts + 1
  | .iface _ d => uptoBulk d + 1
  | .map entries => uptoBulkEntries entries + 1
  | .held _ => 1
def uptoBulkAll {H : Type} : List (DataW H) → Nat
  | [] => 0
  | d :: r => uptoBulk d + uptoBulkAll r
def uptoBulkEntries {H : Type} : List (Lit × DataW H) → Nat
  | [] => 0
  | x :: r => uptoBulkEntry x + uptoBulkEntries r
def uptoBulkEntry {H : Type} : Lit × DataW H → Nat
  | (.string bytes, d) => bytes.length + uptoBulk d + 1
  | (_, d) => uptoBulk d + 1
 end
def uptoSmall : (H : Type) → List (DataW H) → Bool := fun _ ds => decide (uptoBulkAll ds ≤ 1048576)
def OpenSpec.upto (s : _root_.Go.ChangeSpec) : _root_.Go.OpenSpec := { _root_.Go.OpenSpec.ofChange s with cond := some uptoSmall }

/-- 'freightlaw8.TableOneForm', WHERE WHAT IT READS IS OF BULK AT MOST 1048576: true; the input reads as it did. -/
def tableOneFormUptoRow : OpenClaim := { program := "ytdeneflgldagpab", sum := "e09a8cffe8423b79efc261a7bc1dbcd3ea2680c4b3265255a549da20d829ed4a", func := "freight/freightlaw8.TableOneForm", spec := "tableOneForm", inPlace := ["internal/bytealg.Compare"], unfollowed := true, recurses := true, apart := false, narrowed := true }
def TableOneFormUptoSaid : Prop := tableOneFormUptoRow.holds Try.pinned (OpenSpec.upto tableOneFormSpec)

/-- 'freightlaw8.TableSets', WHERE WHAT IT READS IS OF BULK AT MOST 1048576: true; the input reads as it did. -/
def tableSetsUptoRow : OpenClaim := { program := "ytdeneflgldagpab", sum := "e09a8cffe8423b79efc261a7bc1dbcd3ea2680c4b3265255a549da20d829ed4a", func := "freight/freightlaw8.TableSets", spec := "tableSets", inPlace := ["internal/bytealg.Compare"], unfollowed := true, recurses := true, apart := false, narrowed := true }
def TableSetsUptoSaid : Prop := tableSetsUptoRow.holds Try.pinned (OpenSpec.upto tableSetsSpec)

/-- 'freightlaw8.TableUnion', WHERE WHAT IT READS IS OF BULK AT MOST 1048576: true; the input reads as it did. -/
def tableUnionUptoRow : OpenClaim := { program := "ytdeneflgldagpab", sum := "e09a8cffe8423b79efc261a7bc1dbcd3ea2680c4b3265255a549da20d829ed4a", func := "freight/freightlaw8.TableUnion", spec := "tableUnion", inPlace := ["internal/bytealg.Compare"], unfollowed := true, recurses := true, apart := false, narrowed := true }
def TableUnionUptoSaid : Prop := tableUnionUptoRow.holds Try.pinned (OpenSpec.upto tableUnionSpec)

/-- 'freightlaw8.TableIsNew', WHERE WHAT IT READS IS OF BULK AT MOST 1048576: true; the input reads as it did. -/
def tableIsNewUptoRow : OpenClaim := { program := "ytdeneflgldagpab", sum := "e09a8cffe8423b79efc261a7bc1dbcd3ea2680c4b3265255a549da20d829ed4a", func := "freight/freightlaw8.TableIsNew", spec := "tableIsNew", inPlace := ["internal/bytealg.Compare"], unfollowed := true, recurses := true, apart := false, narrowed := true }
def TableIsNewUptoSaid : Prop := tableIsNewUptoRow.holds Try.pinned (OpenSpec.upto tableIsNewSpec)

end Rows
end Go.Proofs.Ytdeneflgldagpab
