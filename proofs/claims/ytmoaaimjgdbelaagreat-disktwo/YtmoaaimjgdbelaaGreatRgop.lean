/-
  DiskTwo.
-/
import Derived.Test.YtmoaaimjgdbelaaGreatRgbp
import Derived.Test.YtmoaaimjgdbelaaGreatRfsp
namespace Go.Proofs.YtmoaaimjgdbelaaGreat
open Go.RowKit Dsk
set_option linter.unusedVariables false
theorem standsOk2 : StandsOk := fun X w P p q D bo R S N h hN => stands_ok h hN
theorem two_law (r r' : Int) (ao : Option Addr) (n cap : Nat) (L : List Stp) (w : World) (hl : L.length = n) (hs : Scr w ao L) (hn : n ≤ 9223372036854775807) (hrw : (Lit.int .i64 r).wf = true) (hrw' : (Lit.int .i64 r').wf = true) :
    Calls Tryz.prog 4 #[.int .i64 r, .int .i64 r', .slice ao n cap] w fun e w' => e = .returned (.bool true) ∧ Below w.heap.size w w' := (two_walk standsOk2 r r' ao n cap L w hl hs hn hrw hrw').mono fun e w' h => ⟨h.1, h.2.below (Nat.le_refl _) (by simp)⟩
end Go.Proofs.YtmoaaimjgdbelaaGreat
