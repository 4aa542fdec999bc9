/-
  DiskTwin.
-/
import Derived.Test.YtmoaaimjgdbelaaGreatRgcp
import Derived.Test.YtmoaaimjgdbelaaGreatRfsp
namespace Go.Proofs.YtmoaaimjgdbelaaGreat
open Go.RowKit Dsk
set_option linter.unusedVariables false
theorem standsOk2 : StandsOk := fun X w P p q D bo R S N h hN => stands_ok h hN
theorem twin_law (r : Int) (ao : Option Addr) (n cap : Nat) (t : Int) (ao' : Option Addr) (n' cap' : Nat) (L L' : List Stp) (w : World) (hl : L.length = n) (hs : Scr w ao L) (hn : n ≤ 9223372036854775807) (hl' : L'.length = n') (hs' : Scr w ao' L') (hn' : n' ≤ 9223372036854775807) (hrw : (Lit.int .i64 r).wf = true) (htw : (Lit.int .i64 t).wf = true) :
    Calls Tryz.prog 5 #[.int .i64 r, .slice ao n cap, .int .i64 t, .slice ao' n' cap'] w fun e w' => e = .returned (.bool true) ∧ Below w.heap.size w w' := (twin_walk standsOk2 r ao n cap L t ao' n' cap' L' w hl hs hn hrw htw hl' hs' hn').mono fun e w' h => ⟨h.1, h.2.below (Nat.le_refl _) (by simp)⟩
end Go.Proofs.YtmoaaimjgdbelaaGreat
