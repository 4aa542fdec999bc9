/-
  CodeBack's walk, as its frame asks it.
-/
import Derived.Test.YtjmameknbnflaabBack
namespace Go.Proofs.Ytjmameknbnflaab
open Go.RowKit
set_option linter.unusedVariables false

theorem back_all (so : Option Addr) (sn scap : Nat) (more : Int) (L : List Cl) (w : World) (hL : L.length = sn) (hsm : sn ≤ 9223372036854775807) (hs : Scr w so L) (hw : (Lit.int .i64 more).wf = true) :
    Calls Try.prog 3 #[.slice so sn scap, .int .i64 more] w fun e w' => e = .returned (.bool true) ∧ Below w.heap.size w w' := back_any so sn scap more L w hL hsm hs

end Go.Proofs.Ytjmameknbnflaab
