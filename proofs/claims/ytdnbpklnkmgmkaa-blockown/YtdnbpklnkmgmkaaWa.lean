/-
  Contract: freightlaw4.same.
-/
import Derived.Test.YtdnbpklnkmgmkaaUa
import Derived.Deep.QuietTactic
import Derived.BigQuiet
import Derived.WalkArith
import Derived.Deep.OwnRows
namespace Go.Proofs.Ytdnbpklnkmgmkaa
open Go.RowKit
set_option linter.unusedVariables false
set_option linter.unusedSimpArgs false

theorem take_snoc' (l : List UInt8) (d : UInt8) (k : Nat) (h : k < l.length) : l.take (k + 1) = l.take k ++ [l.getD k d] := by
  rw [List.take_succ_eq_append_getElem h]
  simp [List.getElem?_eq_getElem h]


theorem row_sl {w : World} {g : Nat} {L : List UInt8} {t : TypeId} (h : w.heap[g]? = some (.cells (bys L).toArray t (0, 0))) : Sl w (some ⟨g, 0, none⟩) L :=
  Sl.of fun i hi => by rw [Nat.zero_add, cell_of_row _ _ _ _ _ _ h, List.getElem?_toArray, bys_at hi]
theorem row_cell {w : World} {g : Nat} {L : List UInt8} {t : TypeId} (h : w.heap[g]? = some (.cells (bys L).toArray t (0, 0))) (i : Nat) (hi : i < L.length) : w.cell? ⟨g, i, none⟩ = some (.int .u8 (L.getD i 0).toNat) := by
  rw [cell_of_row _ _ _ _ _ _ h, List.getElem?_toArray, bys_at hi]
theorem row_set {w : World} {g : Nat} {L : List UInt8} {t : TypeId} (h : w.heap[g]? = some (.cells (bys L).toArray t (0, 0))) (i : Nat) (x : UInt8) : (w.setCell ⟨g, i, none⟩ (.int .u8 x.toNat)).heap[g]? = some (.cells (bys (L.set i x)).toArray t (0, 0)) := by
  rw [heap_setCell_same w g i _ _ _ h, ← bys_set]; simp
theorem made_bys (m : Nat) : madeCells #[.int .u8 0] m = (bys (List.replicate m 0)).toArray := by
  apply Array.ext'
  rw [toList_madeCells_one]
  simp [bys]

/-- Nine marks. -/
def nine : List UInt8 := List.replicate 9 167
/-- A row with its room. -/
def Room (w : World) (g : Nat) (ds : List UInt8) : Prop := w.heap[g]? = some (.cells (bys (ds ++ nine)).toArray 5 (0, 0))
theorem Room.lt {w : World} {g : Nat} {ds : List UInt8} (h : Room w g ds) : g < w.heap.size := (Array.getElem?_eq_some_iff.1 h).1
theorem Room.kept {l : List Nat} {w w' : World} {g : Nat} {ds : List UInt8} (h : Room w g ds) (hk : Kept l w w') (hn : g ∉ l) : Room w' g ds := (hk.block g h.lt hn).trans h
theorem Room.below {B : Nat} {w w' : World} {g : Nat} {ds : List UInt8} (h : Room w g ds) (hk : Below B w w') (hn : g < B) : Room w' g ds := (hk.block g hn).trans h
theorem Room.sl {w : World} {g : Nat} {ds : List UInt8} (h : Room w g ds) : Sl w (some ⟨g, 0, none⟩) ds := by
  have := (row_sl h).take ds.length
  rwa [List.take_left] at this

def fillTo (L : List UInt8) (i : Nat) : List UInt8 := L.take i ++ List.replicate (L.length - i) 0
theorem fillTo_len (L : List UInt8) (i : Nat) (h : i ≤ L.length) : (fillTo L i).length = L.length := by simp [fillTo]; omega
theorem fillTo_step (L : List UInt8) (i : Nat) (h : i < L.length) : (fillTo L i).set i (L.getD i 0) = fillTo L (i + 1) := by
  unfold fillTo
  rw [show L.length - i = (L.length - (i + 1)) + 1 by omega, List.replicate_succ, List.set_append_right _ _ (by simp; omega)]
  rw [show i - (L.take i).length = 0 by simp; omega, List.set_cons_zero, take_snoc' L 0 i h]
  simp
theorem fillTo_full (L : List UInt8) : fillTo L L.length = L := by simp [fillTo]

end Go.Proofs.Ytdnbpklnkmgmkaa
