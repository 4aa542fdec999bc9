/-
  The walk: freightlaw8.TableUnion: the whole. (Written by tools/t8y.py.)
-/
import Derived.Test.YtdeneflgldagpabT8y1
import Derived.Test.YtdeneflgldagpabT8y2
namespace Go.Proofs.Ytdeneflgldagpab
open Go.RowKit Go.Sort
set_option linter.unusedVariables false
set_option linter.unusedSimpArgs false

theorem union_walk (ao : Option Addr) (n cap : Nat) (ao2 : Option Addr) (n2 cap2 : Nat) (L L2 : List Res) (w : World) (hi : InR w ao n cap L) (hi2 : InR w ao2 n2 cap2 L2) :
    Calls Try.prog 5 #[.slice ao n cap, .slice ao2 n2 cap2] w fun e w' => e = .returned (.bool true) ∧ Below w.heap.size w w' := by
  by_cases hv : Tb.valid L = false ∨ Tb.valid L2 = false
  · exact union_bad ao n cap ao2 n2 cap2 L L2 w hi hi2 hv
  · have h1 : Tb.valid L = true := by
      cases h : Tb.valid L with
      | true => rfl
      | false => exact absurd (.inl h) hv
    have h2 : Tb.valid L2 = true := by
      cases h : Tb.valid L2 with
      | true => rfl
      | false => exact absurd (.inr h) hv
    by_cases hU : Tb.unl L L2 = []
    · exact union_same ao n cap ao2 n2 cap2 L L2 w hi hi2 h1 h2 hU
    · exact union_unlike ao n cap ao2 n2 cap2 L L2 w hi hi2 h1 h2 hU
end Go.Proofs.Ytdeneflgldagpab
