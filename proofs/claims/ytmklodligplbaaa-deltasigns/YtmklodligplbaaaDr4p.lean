/-
  Contract: freightref2.Full.
-/
import Derived.Test.YtmklodligplbaaaDr3p
namespace Go.Proofs.Ytmklodligplbaaa
open Go.RowKit
set_option linter.unusedVariables false
set_option linter.unusedSimpArgs false

theorem rfull_any (ao : Option Addr) (cap : Nat) (m : List UInt8) (w : World) (n : Nat) (hn : m.length = n) (hlen : n ≤ 140737488351232) (hs : Sl w ao m) (hnl : ao = none → m = [] ∧ cap = 0) :
    Calls Try.prog 48 #[.slice ao n cap] w fun e w' => e = .returned (.agg (bys (Sha.full m)).toArray) ∧ Below w.heap.size w w' :=
  rfull_of ao cap m w n hn hlen fun w1 hb => row_any ao cap m w1 (hs.kept (Kept.of_below hb) (by simp)) hnl (by omega) n hn
theorem rfull_ok (ad : Addr) (cap : Nat) (m : List UInt8) (w : World) (n : Nat) (hn : m.length = n) (hlen : n ≤ 140737488351232) (hs : Sl w (some ad) m) :
    Calls Try.prog 48 #[.slice (some ad) n cap] w fun e w' => e = .returned (.agg (bys (Sha.full m)).toArray) ∧ Below w.heap.size w w' :=
  rfull_any (some ad) cap m w n hn hlen hs (by simp)

/-- The id, i bytes laid. -/
def idl (F : List UInt8) : Nat → List UInt8
  | 0 => List.replicate 32 0
  | i + 1 => (idl F i).set i (F.getD i 0)
theorem idl_eq (F : List UInt8) (hF : F.length = 32) : ∀ i, i ≤ 32 → idl F i = F.take i ++ List.replicate (32 - i) 0
  | 0, _ => by simp [idl]
  | i + 1, h => by
    rw [idl, idl_eq F hF i (by omega), List.set_append_right _ _ (by simp; omega), List.length_take, Nat.min_eq_left (by omega), Nat.sub_self]
    obtain ⟨j, hj⟩ : ∃ j, 32 - i = j + 1 := ⟨31 - i, by omega⟩
    rw [hj, List.replicate_succ, List.set_cons_zero, show 32 - (i + 1) = j by omega, List.take_succ_eq_append_getElem (by omega), List.append_assoc]
    simp [List.getElem?_eq_getElem (show i < F.length by omega)]

end Go.Proofs.Ytmklodligplbaaa
