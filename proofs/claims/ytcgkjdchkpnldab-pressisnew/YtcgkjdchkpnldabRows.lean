/-
  No cell of these rows narrows 'for every input' (looked for: loops, veiled, ifaces, maps, wideKeys, modest, calm, conditions, laid).
  DERIVED. THE GIVEN ROWS OF THIS SEAT. 2 by the template 'for every input the law returns true; each argument reads behind the call as it read before'; 0 by the template 'total and deterministic' (their statements: YtcgkjdchkpnldabTotals.lean).
  GIVEN WITH THE SEED: the statements are not yours to turn. If you find one false, say at which input.
  Laid BY PROGRAM, IN A SANDBOX (cutbox-rows.mjs): the forced cells as the released guide's own fill.sh prints them over the translation ddf88fb2b12bb2ad… (all of the seat's roots in one cut). By AI agents, Wed Nov 11 2026. No macro, syntax, notation, axiom, sorry.
-/
import Derived.Test.YtcgkjdchkpnldabChecked
import GoSem.Claim
import GoSem.ClaimJoined
import GoSem.ClaimMapViews
import Derived.JoinedTies
import Derived.KernelRfl
namespace Go.Proofs.Ytcgkjdchkpnldab
/- THE CELL 'sum', in the pinned program and in every row, IS THE sha256 OF THE DUMP (.gsa) THAT YtcgkjdchkpnldabProg.lean LOADS. Nothing in Lean hashes anything: it is a label: what it is worth is what the hold of that sum in a sandbox is worth. -/
noncomputable def Try.pinned : Pinned := { name := "ytcgkjdchkpnldab", sum := "ddf88fb2b12bb2adb1636e31e74ad4b4c51a6bbad3b0e4a10b419b5b413ca4be", checked := Try.checked }
namespace Rows
def none {H : Type} : Left H := { results := [], args := [] }

/-- 'freightlaw4.PressTwice': WHATEVER THE INPUT: true; the input reads as it did. -/
def pressTwiceSpec : ChangeSpec := { name := "pressTwice", fn := fun _ => fun
  | [d1, d2] => { results := [.lit (.bool true)], args := [d1, d2] }
  | _ => none }
def pressTwiceRow : OpenClaim := { program := "ytcgkjdchkpnldab", sum := "ddf88fb2b12bb2adb1636e31e74ad4b4c51a6bbad3b0e4a10b419b5b413ca4be", func := "freight/freightlaw4.PressTwice", spec := "pressTwice", plainKeys := false, apart := false }
def PressTwiceSaid : Prop := pressTwiceRow.holds Try.pinned (OpenSpec.ofChange pressTwiceSpec)

/-- ITS FALSE NEIGHBOUR: 'it returns false'. Refute it at one input. -/
def pressTwiceWrong : ChangeSpec := { name := "pressTwice", fn := fun _ => fun
  | [d1, d2] => { results := [.lit (.bool false)], args := [d1, d2] }
  | _ => none }
def PressTwiceWrongFalsely : Prop := pressTwiceRow.holds Try.pinned (OpenSpec.ofChange pressTwiceWrong)

/-- 'freightlaw4.PressIsNew': WHATEVER THE INPUT: true; the input reads as it did. -/
def pressIsNewSpec : ChangeSpec := { name := "pressIsNew", fn := fun _ => fun
  | [d] => { results := [.lit (.bool true)], args := [d] }
  | _ => none }
def pressIsNewRow : OpenClaim := { program := "ytcgkjdchkpnldab", sum := "ddf88fb2b12bb2adb1636e31e74ad4b4c51a6bbad3b0e4a10b419b5b413ca4be", func := "freight/freightlaw4.PressIsNew", spec := "pressIsNew", plainKeys := false, apart := false }
def PressIsNewSaid : Prop := pressIsNewRow.holds Try.pinned (OpenSpec.ofChange pressIsNewSpec)

/-- ITS FALSE NEIGHBOUR: 'it returns false'. Refute it at one input. -/
def pressIsNewWrong : ChangeSpec := { name := "pressIsNew", fn := fun _ => fun
  | [d] => { results := [.lit (.bool false)], args := [d] }
  | _ => none }
def PressIsNewWrongFalsely : Prop := pressIsNewRow.holds Try.pinned (OpenSpec.ofChange pressIsNewWrong)

/- THE SECOND FORM. 'bulk': how many values and letters a reading holds, each counted each time it is reached (what is shared counts as often as it is met; a slice's spare places count too). A statement '..UptoSaid' is the law's where the arguments, and the package variables that the reading takes, are together of bulk at most 1048576: NARROWER than '..Said'. Prove '..Said' where nothing that the law and all that it calls make is longer than what came in: it says more and counts as full. Else prove '..UptoSaid'. A law counts once. -/
mutual
def uptoBulk {H : Type} : DataW H → Nat
  | .lit (.string bytes) => bytes.length + 1
  | .lit _ => 1
  | .nil => 1
  | .ptr d => uptoBulk d + 1
  | .slice elems spare => uptoBulkAll elems + uptoBulkAll spare + 1
  | .agg parts => uptoBulkAll parts + 1
  | .iface _ d => uptoBulk d + 1
  | .map entries => uptoBulkEntries entries + 1
  | .held _ => 1
def uptoBulkAll {H : Type} : List (DataW H) → Nat
  | [] => 0
  | d :: r => uptoBulk d + uptoBulkAll r
def uptoBulkEntries {H : Type} : List (Lit × DataW H) → Nat
  | [] => 0
  | x :: r => uptoBulkEntry x + uptoBulkEntries r
def uptoBulkEntry {H : Type} : Lit × DataW H → Nat
  | (.string bytes, d) => bytes.length + uptoBulk d + 1
  | (_, d) => uptoBulk d + 1
 end
def uptoSmall : (H : Type) → List (DataW H) → Bool := fun _ ds => decide (uptoBulkAll ds ≤ 1048576)
def OpenSpec.upto (s : _root_.Go.ChangeSpec) : _root_.Go.OpenSpec := { _root_.Go.OpenSpec.ofChange s with cond := some uptoSmall }

/-- 'freightlaw4.PressTwice', WHERE WHAT IT READS IS OF BULK AT MOST 1048576: true; the input reads as it did. -/
def pressTwiceUptoRow : OpenClaim := { program := "ytcgkjdchkpnldab", sum := "ddf88fb2b12bb2adb1636e31e74ad4b4c51a6bbad3b0e4a10b419b5b413ca4be", func := "freight/freightlaw4.PressTwice", spec := "pressTwice", plainKeys := false, apart := false, narrowed := true }
def PressTwiceUptoSaid : Prop := pressTwiceUptoRow.holds Try.pinned (OpenSpec.upto pressTwiceSpec)

/-- 'freightlaw4.PressIsNew', WHERE WHAT IT READS IS OF BULK AT MOST 1048576: true; the input reads as it did. -/
def pressIsNewUptoRow : OpenClaim := { program := "ytcgkjdchkpnldab", sum := "ddf88fb2b12bb2adb1636e31e74ad4b4c51a6bbad3b0e4a10b419b5b413ca4be", func := "freight/freightlaw4.PressIsNew", spec := "pressIsNew", plainKeys := false, apart := false, narrowed := true }
def PressIsNewUptoSaid : Prop := pressIsNewUptoRow.holds Try.pinned (OpenSpec.upto pressIsNewSpec)

end Rows
end Go.Proofs.Ytcgkjdchkpnldab
