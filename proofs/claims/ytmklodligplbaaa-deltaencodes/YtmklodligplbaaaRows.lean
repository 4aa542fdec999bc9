/-
  No cell of these rows narrows 'for every input' (looked for: loops, veiled, ifaces, maps, wideKeys, modest, calm, conditions, laid).
  DERIVED. THE GIVEN ROWS OF THIS SEAT. 3 by the template 'for every input the law returns true; each argument reads behind the call as it read before'; 0 by the template 'total and deterministic' (their statements: YtmklodligplbaaaTotals.lean).
  GIVEN WITH THE SEED: the statements are not yours to turn. If you find one false, say at which input.
  Laid BY PROGRAM, IN A SANDBOX (cutbox-rows.mjs): the forced cells as the released guide's own fill.sh prints them over the translation 27661738495ea91e… (all of the seat's roots in one cut). By AI agents, Wed Nov 11 2026. No macro, syntax, notation, axiom, sorry.
-/
import Derived.Test.YtmklodligplbaaaChecked
import GoSem.Claim
import GoSem.ClaimJoined
import GoSem.ClaimMapViews
import Derived.JoinedTies
import Derived.KernelRfl
namespace Go.Proofs.Ytmklodligplbaaa
/- THE CELL 'sum', in the pinned program and in every row, IS THE sha256 OF THE DUMP (.gsa) THAT YtmklodligplbaaaProg.lean LOADS. Nothing in Lean hashes anything: it is a label: what it is worth is what the hold of that sum in a sandbox is worth. -/
noncomputable def Try.pinned : Pinned := { name := "ytmklodligplbaaa", sum := "27661738495ea91ec04b30a5e3d733b6f27f04fcebd84764a9b4e644b5022886", checked := Try.checked }
namespace Rows
def none {H : Type} : Left H := { results := [], args := [] }

/-- 'freightlaw18.DeltaSigns': WHATEVER THE INPUT: true; the input reads as it did. -/
def deltaSignsSpec : ChangeSpec := { name := "deltaSigns", fn := fun _ => fun
  | [d1, d2, d3, d4] => { results := [.lit (.bool true)], args := [d1, d2, d3, d4] }
  | _ => none }
def deltaSignsRow : OpenClaim := { program := "ytmklodligplbaaa", sum := "27661738495ea91ec04b30a5e3d733b6f27f04fcebd84764a9b4e644b5022886", func := "freight/freightlaw18.DeltaSigns", spec := "deltaSigns", unfollowed := true, recurses := true, apart := false }
def DeltaSignsSaid : Prop := deltaSignsRow.holds Try.pinned (OpenSpec.ofChange deltaSignsSpec)

/-- ITS FALSE NEIGHBOUR: 'it returns false'. Refute it at one input. -/
def deltaSignsWrong : ChangeSpec := { name := "deltaSigns", fn := fun _ => fun
  | [d1, d2, d3, d4] => { results := [.lit (.bool false)], args := [d1, d2, d3, d4] }
  | _ => none }
def DeltaSignsWrongFalsely : Prop := deltaSignsRow.holds Try.pinned (OpenSpec.ofChange deltaSignsWrong)

/-- 'freightlaw18.DeltaEncodes': WHATEVER THE INPUT: true; the input reads as it did. -/
def deltaEncodesSpec : ChangeSpec := { name := "deltaEncodes", fn := fun _ => fun
  | [d] => { results := [.lit (.bool true)], args := [d] }
  | _ => none }
def deltaEncodesRow : OpenClaim := { program := "ytmklodligplbaaa", sum := "27661738495ea91ec04b30a5e3d733b6f27f04fcebd84764a9b4e644b5022886", func := "freight/freightlaw18.DeltaEncodes", spec := "deltaEncodes", unfollowed := true, recurses := true, apart := false }
def DeltaEncodesSaid : Prop := deltaEncodesRow.holds Try.pinned (OpenSpec.ofChange deltaEncodesSpec)

/-- ITS FALSE NEIGHBOUR: 'it returns false'. Refute it at one input. -/
def deltaEncodesWrong : ChangeSpec := { name := "deltaEncodes", fn := fun _ => fun
  | [d] => { results := [.lit (.bool false)], args := [d] }
  | _ => none }
def DeltaEncodesWrongFalsely : Prop := deltaEncodesRow.holds Try.pinned (OpenSpec.ofChange deltaEncodesWrong)

/-- 'freightlaw18.DeltaReturns': WHATEVER THE INPUT: true; the input reads as it did. -/
def deltaReturnsSpec : ChangeSpec := { name := "deltaReturns", fn := fun _ => fun
  | [d1, d2, d3, d4] => { results := [.lit (.bool true)], args := [d1, d2, d3, d4] }
  | _ => none }
def deltaReturnsRow : OpenClaim := { program := "ytmklodligplbaaa", sum := "27661738495ea91ec04b30a5e3d733b6f27f04fcebd84764a9b4e644b5022886", func := "freight/freightlaw18.DeltaReturns", spec := "deltaReturns", unfollowed := true, recurses := true, apart := false }
def DeltaReturnsSaid : Prop := deltaReturnsRow.holds Try.pinned (OpenSpec.ofChange deltaReturnsSpec)

/-- ITS FALSE NEIGHBOUR: 'it returns false'. Refute it at one input. -/
def deltaReturnsWrong : ChangeSpec := { name := "deltaReturns", fn := fun _ => fun
  | [d1, d2, d3, d4] => { results := [.lit (.bool false)], args := [d1, d2, d3, d4] }
  | _ => none }
def DeltaReturnsWrongFalsely : Prop := deltaReturnsRow.holds Try.pinned (OpenSpec.ofChange deltaReturnsWrong)

/- THE SECOND FORM. 'bulk': how many values and letters a reading holds, each counted each time it is reached (what is shared counts as often as it is met; a slice's spare places count too). A statement '..UptoSaid' is the law's where the arguments, and the package variables that the reading takes, are together of bulk at most 1048576: NARROWER than '..Said'. Prove '..Said' where nothing that the law and all that it calls make is longer than what came in: it says more and counts as full. Else prove '..UptoSaid'. A law counts once. -/
mutual
def uptoBulk {H : Type} : DataW H → Nat
  | .lit (.string bytes) => bytes.length + 1
  | .lit _ => 1
  | .nil => 1
  | .ptr d => uptoBulk d + 1
  | .slice elems spare => uptoBulkAll elems + uptoBulkAll spare + 1
  | .agg parts => uptoBulkAll parts + 1
  | .iface _ d => uptoBulk d + 1
  | .map entries => uptoBulkEntries entries + 1
  | .held _ => 1
def uptoBulkAll {H : Type} : List (DataW H) → Nat
  | [] => 0
  | d :: r => uptoBulk d + uptoBulkAll r
def uptoBulkEntries {H : Type} : List (Lit × DataW H) → Nat
  | [] => 0
  | x :: r => uptoBulkEntry x + uptoBulkEntries r
def uptoBulkEntry {H : Type} : Lit × DataW H → Nat
  | (.string bytes, d) => bytes.length + uptoBulk d + 1
  | (_, d) => uptoBulk d + 1
 end
def uptoSmall : (H : Type) → List (DataW H) → Bool := fun _ ds => decide (uptoBulkAll ds ≤ 1048576)
def OpenSpec.upto (s : _root_.Go.ChangeSpec) : _root_.Go.OpenSpec := { _root_.Go.OpenSpec.ofChange s with cond := some uptoSmall }

/-- 'freightlaw18.DeltaSigns', WHERE WHAT IT READS IS OF BULK AT MOST 1048576: true; the input reads as it did. -/
def deltaSignsUptoRow : OpenClaim := { program := "ytmklodligplbaaa", sum := "27661738495ea91ec04b30a5e3d733b6f27f04fcebd84764a9b4e644b5022886", func := "freight/freightlaw18.DeltaSigns", spec := "deltaSigns", unfollowed := true, recurses := true, apart := false, narrowed := true }
def DeltaSignsUptoSaid : Prop := deltaSignsUptoRow.holds Try.pinned (OpenSpec.upto deltaSignsSpec)

/-- 'freightlaw18.DeltaEncodes', WHERE WHAT IT READS IS OF BULK AT MOST 1048576: true; the input reads as it did. -/
def deltaEncodesUptoRow : OpenClaim := { program := "ytmklodligplbaaa", sum := "27661738495ea91ec04b30a5e3d733b6f27f04fcebd84764a9b4e644b5022886", func := "freight/freightlaw18.DeltaEncodes", spec := "deltaEncodes", unfollowed := true, recurses := true, apart := false, narrowed := true }
def DeltaEncodesUptoSaid : Prop := deltaEncodesUptoRow.holds Try.pinned (OpenSpec.upto deltaEncodesSpec)

/-- 'freightlaw18.DeltaReturns', WHERE WHAT IT READS IS OF BULK AT MOST 1048576: true; the input reads as it did. -/
def deltaReturnsUptoRow : OpenClaim := { program := "ytmklodligplbaaa", sum := "27661738495ea91ec04b30a5e3d733b6f27f04fcebd84764a9b4e644b5022886", func := "freight/freightlaw18.DeltaReturns", spec := "deltaReturns", unfollowed := true, recurses := true, apart := false, narrowed := true }
def DeltaReturnsUptoSaid : Prop := deltaReturnsUptoRow.holds Try.pinned (OpenSpec.upto deltaReturnsSpec)

end Rows
end Go.Proofs.Ytmklodligplbaaa
