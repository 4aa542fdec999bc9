/-
  No cell of these rows narrows 'for every input' (looked for: loops, veiled, ifaces, maps, wideKeys, modest, calm, conditions, laid).
  DERIVED. THE GIVEN ROWS OF THIS SEAT. 6 by the template 'for every input the law returns true; each argument reads behind the call as it read before'; 0 by the template 'total and deterministic' (their statements: YtcgkjdchkpnldaaTotals.lean).
  GIVEN WITH THE SEED: the statements are not yours to turn. If you find one false, say at which input.
  Laid BY PROGRAM, IN A SANDBOX (cutbox-rows.mjs): the forced cells as the released guide's own fill.sh prints them over the translation d14f7226b91e74fd… (all of the seat's roots in one cut). By AI agents, Wed Nov 11 2026. No macro, syntax, notation, axiom, sorry.
-/
import Derived.Test.YtcgkjdchkpnldaaChecked
import GoSem.Claim
import GoSem.ClaimJoined
import GoSem.ClaimMapViews
import Derived.JoinedTies
import Derived.KernelRfl
namespace Go.Proofs.Ytcgkjdchkpnldaa
/- THE CELL 'sum', in the pinned program and in every row, IS THE sha256 OF THE DUMP (.gsa) THAT YtcgkjdchkpnldaaProg.lean LOADS. Nothing in Lean hashes anything: it is a label: what it is worth is what the hold of that sum in a sandbox is worth. -/
noncomputable def Try.pinned : Pinned := { name := "ytcgkjdchkpnldaa", sum := "d14f7226b91e74fddf85e3c50688192b47ea50b359dc2595f5eb6637a4da75ce", checked := Try.checked }
namespace Rows
def none {H : Type} : Left H := { results := [], args := [] }

/-- 'freightlaw4.PressPacks': WHATEVER THE INPUT: true; the input reads as it did. -/
def pressPacksSpec : ChangeSpec := { name := "pressPacks", fn := fun _ => fun
  | [d] => { results := [.lit (.bool true)], args := [d] }
  | _ => none }
def pressPacksRow : OpenClaim := { program := "ytcgkjdchkpnldaa", sum := "d14f7226b91e74fddf85e3c50688192b47ea50b359dc2595f5eb6637a4da75ce", func := "freight/freightlaw4.PressPacks", spec := "pressPacks", plainKeys := false, apart := false }
def PressPacksSaid : Prop := pressPacksRow.holds Try.pinned (OpenSpec.ofChange pressPacksSpec)

/-- ITS FALSE NEIGHBOUR: 'it returns false'. Refute it at one input. -/
def pressPacksWrong : ChangeSpec := { name := "pressPacks", fn := fun _ => fun
  | [d] => { results := [.lit (.bool false)], args := [d] }
  | _ => none }
def PressPacksWrongFalsely : Prop := pressPacksRow.holds Try.pinned (OpenSpec.ofChange pressPacksWrong)

/-- 'freightlaw4.PressUnpacks': WHATEVER THE INPUT: true; the input reads as it did. -/
def pressUnpacksSpec : ChangeSpec := { name := "pressUnpacks", fn := fun _ => fun
  | [d1, d2] => { results := [.lit (.bool true)], args := [d1, d2] }
  | _ => none }
def pressUnpacksRow : OpenClaim := { program := "ytcgkjdchkpnldaa", sum := "d14f7226b91e74fddf85e3c50688192b47ea50b359dc2595f5eb6637a4da75ce", func := "freight/freightlaw4.PressUnpacks", spec := "pressUnpacks", plainKeys := false, apart := false }
def PressUnpacksSaid : Prop := pressUnpacksRow.holds Try.pinned (OpenSpec.ofChange pressUnpacksSpec)

/-- ITS FALSE NEIGHBOUR: 'it returns false'. Refute it at one input. -/
def pressUnpacksWrong : ChangeSpec := { name := "pressUnpacks", fn := fun _ => fun
  | [d1, d2] => { results := [.lit (.bool false)], args := [d1, d2] }
  | _ => none }
def PressUnpacksWrongFalsely : Prop := pressUnpacksRow.holds Try.pinned (OpenSpec.ofChange pressUnpacksWrong)

/-- 'freightlaw4.PressSpoilt': WHATEVER THE INPUT: true; the input reads as it did. -/
def pressSpoiltSpec : ChangeSpec := { name := "pressSpoilt", fn := fun _ => fun
  | [d1, d2, d3, d4, d5] => { results := [.lit (.bool true)], args := [d1, d2, d3, d4, d5] }
  | _ => none }
def pressSpoiltRow : OpenClaim := { program := "ytcgkjdchkpnldaa", sum := "d14f7226b91e74fddf85e3c50688192b47ea50b359dc2595f5eb6637a4da75ce", func := "freight/freightlaw4.PressSpoilt", spec := "pressSpoilt", plainKeys := false, apart := false }
def PressSpoiltSaid : Prop := pressSpoiltRow.holds Try.pinned (OpenSpec.ofChange pressSpoiltSpec)

/-- ITS FALSE NEIGHBOUR: 'it returns false'. Refute it at one input. -/
def pressSpoiltWrong : ChangeSpec := { name := "pressSpoilt", fn := fun _ => fun
  | [d1, d2, d3, d4, d5] => { results := [.lit (.bool false)], args := [d1, d2, d3, d4, d5] }
  | _ => none }
def PressSpoiltWrongFalsely : Prop := pressSpoiltRow.holds Try.pinned (OpenSpec.ofChange pressSpoiltWrong)

/-- 'freightlaw4.PressBack': WHATEVER THE INPUT: true; the input reads as it did. -/
def pressBackSpec : ChangeSpec := { name := "pressBack", fn := fun _ => fun
  | [d] => { results := [.lit (.bool true)], args := [d] }
  | _ => none }
def pressBackRow : OpenClaim := { program := "ytcgkjdchkpnldaa", sum := "d14f7226b91e74fddf85e3c50688192b47ea50b359dc2595f5eb6637a4da75ce", func := "freight/freightlaw4.PressBack", spec := "pressBack", plainKeys := false, apart := false }
def PressBackSaid : Prop := pressBackRow.holds Try.pinned (OpenSpec.ofChange pressBackSpec)

/-- ITS FALSE NEIGHBOUR: 'it returns false'. Refute it at one input. -/
def pressBackWrong : ChangeSpec := { name := "pressBack", fn := fun _ => fun
  | [d] => { results := [.lit (.bool false)], args := [d] }
  | _ => none }
def PressBackWrongFalsely : Prop := pressBackRow.holds Try.pinned (OpenSpec.ofChange pressBackWrong)

/-- 'freightlaw4.PressGreedy': WHATEVER THE INPUT: true; the input reads as it did. -/
def pressGreedySpec : ChangeSpec := { name := "pressGreedy", fn := fun _ => fun
  | [d] => { results := [.lit (.bool true)], args := [d] }
  | _ => none }
def pressGreedyRow : OpenClaim := { program := "ytcgkjdchkpnldaa", sum := "d14f7226b91e74fddf85e3c50688192b47ea50b359dc2595f5eb6637a4da75ce", func := "freight/freightlaw4.PressGreedy", spec := "pressGreedy", plainKeys := false, apart := false }
def PressGreedySaid : Prop := pressGreedyRow.holds Try.pinned (OpenSpec.ofChange pressGreedySpec)

/-- ITS FALSE NEIGHBOUR: 'it returns false'. Refute it at one input. -/
def pressGreedyWrong : ChangeSpec := { name := "pressGreedy", fn := fun _ => fun
  | [d] => { results := [.lit (.bool false)], args := [d] }
  | _ => none }
def PressGreedyWrongFalsely : Prop := pressGreedyRow.holds Try.pinned (OpenSpec.ofChange pressGreedyWrong)

/-- 'freightlaw4.PressBounded': WHATEVER THE INPUT: true; the input reads as it did. -/
def pressBoundedSpec : ChangeSpec := { name := "pressBounded", fn := fun _ => fun
  | [d1, d2] => { results := [.lit (.bool true)], args := [d1, d2] }
  | _ => none }
def pressBoundedRow : OpenClaim := { program := "ytcgkjdchkpnldaa", sum := "d14f7226b91e74fddf85e3c50688192b47ea50b359dc2595f5eb6637a4da75ce", func := "freight/freightlaw4.PressBounded", spec := "pressBounded", plainKeys := false, apart := false }
def PressBoundedSaid : Prop := pressBoundedRow.holds Try.pinned (OpenSpec.ofChange pressBoundedSpec)

/-- ITS FALSE NEIGHBOUR: 'it returns false'. Refute it at one input. -/
def pressBoundedWrong : ChangeSpec := { name := "pressBounded", fn := fun _ => fun
  | [d1, d2] => { results := [.lit (.bool false)], args := [d1, d2] }
  | _ => none }
def PressBoundedWrongFalsely : Prop := pressBoundedRow.holds Try.pinned (OpenSpec.ofChange pressBoundedWrong)

/- THE SECOND FORM. 'bulk': how many values and letters a reading holds, each counted each time it is reached (what is shared counts as often as it is met; a slice's spare places count too). A statement '..UptoSaid' is the law's where the arguments, and the package variables that the reading takes, are together of bulk at most 1048576: NARROWER than '..Said'. Prove '..Said' where nothing that the law and all that it calls make is longer than what came in: it says more and counts as full. Else prove '..UptoSaid'. A law counts once. -/
mutual
def uptoBulk {H : Type} : DataW H → Nat
  | .lit (.string bytes) => bytes.length + 1
  | .lit _ => 1
  | .nil => 1
  | .ptr d => uptoBulk d + 1
  | .slice elems spare => uptoBulkAll elems + uptoBulkAll spare + 1
  | .agg parts => uptoBulkAll parts + 1
  | .iface _ d => uptoBulk d + 1
  | .map entries => uptoBulkEntries entries + 1
  | .held _ => 1
def uptoBulkAll {H : Type} : List (DataW H) → Nat
  | [] => 0
  | d :: r => uptoBulk d + uptoBulkAll r
def uptoBulkEntries {H : Type} : List (Lit × DataW H) → Nat
  | [] => 0
  | x :: r => uptoBulkEntry x + uptoBulkEntries r
def uptoBulkEntry {H : Type} : Lit × DataW H → Nat
  | (.string bytes, d) => bytes.length + uptoBulk d + 1
  | (_, d) => uptoBulk d + 1
 end
def uptoSmall : (H : Type) → List (DataW H) → Bool := fun _ ds => decide (uptoBulkAll ds ≤ 1048576)
def OpenSpec.upto (s : _root_.Go.ChangeSpec) : _root_.Go.OpenSpec := { _root_.Go.OpenSpec.ofChange s with cond := some uptoSmall }

/-- 'freightlaw4.PressPacks', WHERE WHAT IT READS IS OF BULK AT MOST 1048576: true; the input reads as it did. -/
def pressPacksUptoRow : OpenClaim := { program := "ytcgkjdchkpnldaa", sum := "d14f7226b91e74fddf85e3c50688192b47ea50b359dc2595f5eb6637a4da75ce", func := "freight/freightlaw4.PressPacks", spec := "pressPacks", plainKeys := false, apart := false, narrowed := true }
def PressPacksUptoSaid : Prop := pressPacksUptoRow.holds Try.pinned (OpenSpec.upto pressPacksSpec)

/-- 'freightlaw4.PressUnpacks', WHERE WHAT IT READS IS OF BULK AT MOST 1048576: true; the input reads as it did. -/
def pressUnpacksUptoRow : OpenClaim := { program := "ytcgkjdchkpnldaa", sum := "d14f7226b91e74fddf85e3c50688192b47ea50b359dc2595f5eb6637a4da75ce", func := "freight/freightlaw4.PressUnpacks", spec := "pressUnpacks", plainKeys := false, apart := false, narrowed := true }
def PressUnpacksUptoSaid : Prop := pressUnpacksUptoRow.holds Try.pinned (OpenSpec.upto pressUnpacksSpec)

/-- 'freightlaw4.PressSpoilt', WHERE WHAT IT READS IS OF BULK AT MOST 1048576: true; the input reads as it did. -/
def pressSpoiltUptoRow : OpenClaim := { program := "ytcgkjdchkpnldaa", sum := "d14f7226b91e74fddf85e3c50688192b47ea50b359dc2595f5eb6637a4da75ce", func := "freight/freightlaw4.PressSpoilt", spec := "pressSpoilt", plainKeys := false, apart := false, narrowed := true }
def PressSpoiltUptoSaid : Prop := pressSpoiltUptoRow.holds Try.pinned (OpenSpec.upto pressSpoiltSpec)

/-- 'freightlaw4.PressBack', WHERE WHAT IT READS IS OF BULK AT MOST 1048576: true; the input reads as it did. -/
def pressBackUptoRow : OpenClaim := { program := "ytcgkjdchkpnldaa", sum := "d14f7226b91e74fddf85e3c50688192b47ea50b359dc2595f5eb6637a4da75ce", func := "freight/freightlaw4.PressBack", spec := "pressBack", plainKeys := false, apart := false, narrowed := true }
def PressBackUptoSaid : Prop := pressBackUptoRow.holds Try.pinned (OpenSpec.upto pressBackSpec)

/-- 'freightlaw4.PressGreedy', WHERE WHAT IT READS IS OF BULK AT MOST 1048576: true; the input reads as it did. -/
def pressGreedyUptoRow : OpenClaim := { program := "ytcgkjdchkpnldaa", sum := "d14f7226b91e74fddf85e3c50688192b47ea50b359dc2595f5eb6637a4da75ce", func := "freight/freightlaw4.PressGreedy", spec := "pressGreedy", plainKeys := false, apart := false, narrowed := true }
def PressGreedyUptoSaid : Prop := pressGreedyUptoRow.holds Try.pinned (OpenSpec.upto pressGreedySpec)

/-- 'freightlaw4.PressBounded', WHERE WHAT IT READS IS OF BULK AT MOST 1048576: true; the input reads as it did. -/
def pressBoundedUptoRow : OpenClaim := { program := "ytcgkjdchkpnldaa", sum := "d14f7226b91e74fddf85e3c50688192b47ea50b359dc2595f5eb6637a4da75ce", func := "freight/freightlaw4.PressBounded", spec := "pressBounded", plainKeys := false, apart := false, narrowed := true }
def PressBoundedUptoSaid : Prop := pressBoundedUptoRow.holds Try.pinned (OpenSpec.upto pressBoundedSpec)

end Rows
end Go.Proofs.Ytcgkjdchkpnldaa
