/-
  No cell of these rows narrows 'for every input' (looked for: loops, veiled, ifaces, maps, wideKeys, modest, calm, conditions, laid).
  DERIVED. THE GIVEN ROWS OF THIS SEAT. 4 by the template 'for every input the law returns true; each argument reads behind the call as it read before'; 0 by the template 'total and deterministic' (their statements: YtmklodligplbaabGreatTotals.lean).
  GIVEN WITH THE SEED: the statements are not yours to turn. If you find one false, say at which input.
  Laid BY PROGRAM, IN A SANDBOX (cutbox-rows.mjs): the forced cells as the released guide's own fill.sh prints them over the translation de6e74c7bfa68ca5… (all of the seat's roots in one cut). By AI agents, Wed Nov 11 2026. No macro, syntax, notation, axiom, sorry.
-/
import Derived.Test.YtmklodligplbaabGreatChecked
import GoSem.Claim
import GoSem.ClaimJoined
import GoSem.ClaimMapViews
import Derived.JoinedTies
import Derived.KernelRfl
namespace Go.Proofs.YtmklodligplbaabGreat
/- THE CELL 'sum', in the pinned program and in every row, IS THE sha256 OF THE DUMP (.gsa) THAT YtmklodligplbaabGreatProg.lean LOADS. Nothing in Lean hashes anything: it is a label: what it is worth is what the hold of that sum in a sandbox is worth. -/
noncomputable def Tryz.pinned : Pinned := { name := "ytmklodligplbaabgreat", sum := "de6e74c7bfa68ca51b8b05d55326b223c5c3eadae7d89d5474e44dff58b63754", checked := Tryz.checked }
namespace Rows
def none {H : Type} : Left H := { results := [], args := [] }

/-- 'freightlaw18.DeltaLeast': WHATEVER THE INPUT: true; the input reads as it did. -/
def deltaLeastSpec : ChangeSpec := { name := "deltaLeast", fn := fun _ => fun
  | [d1, d2] => { results := [.lit (.bool true)], args := [d1, d2] }
  | _ => none }
def deltaLeastRow : OpenClaim := { program := "ytmklodligplbaabgreat", sum := "de6e74c7bfa68ca51b8b05d55326b223c5c3eadae7d89d5474e44dff58b63754", func := "freight/freightlaw18.DeltaLeast", spec := "deltaLeast", unfollowed := true, recurses := true, apart := false }
def DeltaLeastSaid : Prop := deltaLeastRow.holds Tryz.pinned (OpenSpec.ofChange deltaLeastSpec)

/-- ITS FALSE NEIGHBOUR: 'it returns false'. Refute it at one input. -/
def deltaLeastWrong : ChangeSpec := { name := "deltaLeast", fn := fun _ => fun
  | [d1, d2] => { results := [.lit (.bool false)], args := [d1, d2] }
  | _ => none }
def DeltaLeastWrongFalsely : Prop := deltaLeastRow.holds Tryz.pinned (OpenSpec.ofChange deltaLeastWrong)

/-- 'freightlaw18.DeltaTurned': WHATEVER THE INPUT: true; the input reads as it did. -/
def deltaTurnedSpec : ChangeSpec := { name := "deltaTurned", fn := fun _ => fun
  | [d1, d2, d3, d4, d5, d6] => { results := [.lit (.bool true)], args := [d1, d2, d3, d4, d5, d6] }
  | _ => none }
def deltaTurnedRow : OpenClaim := { program := "ytmklodligplbaabgreat", sum := "de6e74c7bfa68ca51b8b05d55326b223c5c3eadae7d89d5474e44dff58b63754", func := "freight/freightlaw18.DeltaTurned", spec := "deltaTurned", unfollowed := true, recurses := true, apart := false }
def DeltaTurnedSaid : Prop := deltaTurnedRow.holds Tryz.pinned (OpenSpec.ofChange deltaTurnedSpec)

/-- ITS FALSE NEIGHBOUR: 'it returns false'. Refute it at one input. -/
def deltaTurnedWrong : ChangeSpec := { name := "deltaTurned", fn := fun _ => fun
  | [d1, d2, d3, d4, d5, d6] => { results := [.lit (.bool false)], args := [d1, d2, d3, d4, d5, d6] }
  | _ => none }
def DeltaTurnedWrongFalsely : Prop := deltaTurnedRow.holds Tryz.pinned (OpenSpec.ofChange deltaTurnedWrong)

/-- 'freightlaw18.DeltaOwn': WHATEVER THE INPUT: true; the input reads as it did. -/
def deltaOwnSpec : ChangeSpec := { name := "deltaOwn", fn := fun _ => fun
  | [d1, d2, d3, d4, d5, d6, d7] => { results := [.lit (.bool true)], args := [d1, d2, d3, d4, d5, d6, d7] }
  | _ => none }
def deltaOwnRow : OpenClaim := { program := "ytmklodligplbaabgreat", sum := "de6e74c7bfa68ca51b8b05d55326b223c5c3eadae7d89d5474e44dff58b63754", func := "freight/freightlaw18.DeltaOwn", spec := "deltaOwn", unfollowed := true, recurses := true, apart := false }
def DeltaOwnSaid : Prop := deltaOwnRow.holds Tryz.pinned (OpenSpec.ofChange deltaOwnSpec)

/-- ITS FALSE NEIGHBOUR: 'it returns false'. Refute it at one input. -/
def deltaOwnWrong : ChangeSpec := { name := "deltaOwn", fn := fun _ => fun
  | [d1, d2, d3, d4, d5, d6, d7] => { results := [.lit (.bool false)], args := [d1, d2, d3, d4, d5, d6, d7] }
  | _ => none }
def DeltaOwnWrongFalsely : Prop := deltaOwnRow.holds Tryz.pinned (OpenSpec.ofChange deltaOwnWrong)

/-- 'freightlaw18.DeltaKeeps': WHATEVER THE INPUT: true; the input reads as it did. -/
def deltaKeepsSpec : ChangeSpec := { name := "deltaKeeps", fn := fun _ => fun
  | [d1, d2, d3, d4] => { results := [.lit (.bool true)], args := [d1, d2, d3, d4] }
  | _ => none }
def deltaKeepsRow : OpenClaim := { program := "ytmklodligplbaabgreat", sum := "de6e74c7bfa68ca51b8b05d55326b223c5c3eadae7d89d5474e44dff58b63754", func := "freight/freightlaw18.DeltaKeeps", spec := "deltaKeeps", unfollowed := true, recurses := true, apart := false }
def DeltaKeepsSaid : Prop := deltaKeepsRow.holds Tryz.pinned (OpenSpec.ofChange deltaKeepsSpec)

/-- ITS FALSE NEIGHBOUR: 'it returns false'. Refute it at one input. -/
def deltaKeepsWrong : ChangeSpec := { name := "deltaKeeps", fn := fun _ => fun
  | [d1, d2, d3, d4] => { results := [.lit (.bool false)], args := [d1, d2, d3, d4] }
  | _ => none }
def DeltaKeepsWrongFalsely : Prop := deltaKeepsRow.holds Tryz.pinned (OpenSpec.ofChange deltaKeepsWrong)

/- THE SECOND FORM. 'bulk': how many values and letters a reading holds, each counted each time it is reached (what is shared counts as often as it is met; a slice's spare places count too). A statement '..UptoSaid' is the law's where the arguments, and the package variables that the reading takes, are together of bulk at most 1048576: NARROWER than '..Said'. Prove '..Said' where nothing that the law and all that it calls make is longer than what came in: it says more and counts as full. Else prove '..UptoSaid'. A law counts once. -/
mutual
def uptoBulk {H : Type} : DataW H → Nat
  | .lit (.string bytes) => bytes.length + 1
  | .lit _ => 1
  | .nil => 1
  | .ptr d => uptoBulk d + 1
  | .slice elems spare => uptoBulkAll elems + uptoBulkAll spare + 1
  | .agg parts => uptoBulkAll parts + 1
  | .iface _ d => uptoBulk d + 1
  | .map entries => uptoBulkEntries entries + 1
  | .held _ => 1
def uptoBulkAll {H : Type} : List (DataW H) → Nat
  | [] => 0
  | d :: r => uptoBulk d + uptoBulkAll r
def uptoBulkEntries {H : Type} : List (Lit × DataW H) → Nat
  | [] => 0
  | x :: r => uptoBulkEntry x + uptoBulkEntries r
def uptoBulkEntry {H : Type} : Lit × DataW H → Nat
  | (.string bytes, d) => bytes.length + uptoBulk d + 1
  | (_, d) => uptoBulk d + 1
 end
def uptoSmall : (H : Type) → List (DataW H) → Bool := fun _ ds => decide (uptoBulkAll ds ≤ 1048576)
def OpenSpec.upto (s : _root_.Go.ChangeSpec) : _root_.Go.OpenSpec := { _root_.Go.OpenSpec.ofChange s with cond := some uptoSmall }

/-- 'freightlaw18.DeltaLeast', WHERE WHAT IT READS IS OF BULK AT MOST 1048576: true; the input reads as it did. -/
def deltaLeastUptoRow : OpenClaim := { program := "ytmklodligplbaabgreat", sum := "de6e74c7bfa68ca51b8b05d55326b223c5c3eadae7d89d5474e44dff58b63754", func := "freight/freightlaw18.DeltaLeast", spec := "deltaLeast", unfollowed := true, recurses := true, apart := false, narrowed := true }
def DeltaLeastUptoSaid : Prop := deltaLeastUptoRow.holds Tryz.pinned (OpenSpec.upto deltaLeastSpec)

/-- 'freightlaw18.DeltaTurned', WHERE WHAT IT READS IS OF BULK AT MOST 1048576: true; the input reads as it did. -/
def deltaTurnedUptoRow : OpenClaim := { program := "ytmklodligplbaabgreat", sum := "de6e74c7bfa68ca51b8b05d55326b223c5c3eadae7d89d5474e44dff58b63754", func := "freight/freightlaw18.DeltaTurned", spec := "deltaTurned", unfollowed := true, recurses := true, apart := false, narrowed := true }
def DeltaTurnedUptoSaid : Prop := deltaTurnedUptoRow.holds Tryz.pinned (OpenSpec.upto deltaTurnedSpec)

/-- 'freightlaw18.DeltaOwn', WHERE WHAT IT READS IS OF BULK AT MOST 1048576: true; the input reads as it did. -/
def deltaOwnUptoRow : OpenClaim := { program := "ytmklodligplbaabgreat", sum := "de6e74c7bfa68ca51b8b05d55326b223c5c3eadae7d89d5474e44dff58b63754", func := "freight/freightlaw18.DeltaOwn", spec := "deltaOwn", unfollowed := true, recurses := true, apart := false, narrowed := true }
def DeltaOwnUptoSaid : Prop := deltaOwnUptoRow.holds Tryz.pinned (OpenSpec.upto deltaOwnSpec)

/-- 'freightlaw18.DeltaKeeps', WHERE WHAT IT READS IS OF BULK AT MOST 1048576: true; the input reads as it did. -/
def deltaKeepsUptoRow : OpenClaim := { program := "ytmklodligplbaabgreat", sum := "de6e74c7bfa68ca51b8b05d55326b223c5c3eadae7d89d5474e44dff58b63754", func := "freight/freightlaw18.DeltaKeeps", spec := "deltaKeeps", unfollowed := true, recurses := true, apart := false, narrowed := true }
def DeltaKeepsUptoSaid : Prop := deltaKeepsUptoRow.holds Tryz.pinned (OpenSpec.upto deltaKeepsSpec)

end Rows
end Go.Proofs.YtmklodligplbaabGreat
