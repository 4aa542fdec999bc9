/-
  Contract: freightref4.Unpack.
-/
import Derived.Test.YtieklkbclkokeabUg
namespace Go.Proofs.Ytieklkbclkokeab
open Go.RowKit
set_option linter.unusedVariables false
set_option linter.unusedSimpArgs false

theorem drop_cons (xs : List UInt8) (j : Nat) (h : j < xs.length) : xs.drop j = xs.getD j 0 :: xs.drop (j + 1) := by
  rw [List.drop_eq_getElem_cons h]
  simp [List.getElem?_eq_getElem h]
theorem unp_head (n : Nat) (xs out : List UInt8) (j : Nat) (h : j + 1 < xs.length) : Prs.unp n 0 0 (xs.drop j) out = Prs.unp n 8 (xs.getD j 0).toNat (xs.drop (j + 1)) out := by
  rw [drop_cons xs j (by omega), drop_cons xs (j + 1) h, Prs.unp_flag]

/-- How far it has come. -/
def Rv (w wr : World) (n N j : Nat) (bo : Option Addr) (bc : Nat) (out : List UInt8) : Prop := j ≤ N ∧ out.length ≤ n ∧ Ow w wr (.slice bo out.length bc) out

end Go.Proofs.Ytieklkbclkokeab
