/-
  Contract: freightlaw5.known.
-/
import Derived.Test.YtnfelplafpiaoaaGreatDoorHp
import Derived.Lib.SlBytesConst
namespace Go.Proofs.YtnfelplafpiaoaaGreatDoor
open Go.RowKit Dsk
set_option linter.unusedVariables false
set_option linter.unusedSimpArgs false

theorem new_sl (W : World) (d : By) (fr : Nat × Nat) : Sl (W.alloc (.cells (bys d).toArray 5 fr)) (some ⟨W.heap.size, 0, none⟩) d := by
  intro i hi
  have hh : (W.alloc (.cells (bys d).toArray 5 fr)).heap[W.heap.size]? = some (.cells (bys d).toArray 5 fr) := (MapKept.heap_alloc W _).1
  refine ⟨W.heap.size, 0, rfl, ?_⟩
  rw [Nat.zero_add, cell_of_row _ _ i _ _ _ hh]
  have := bys_at hi
  simpa using this

def K0 : Ds := Ds.fresh 20

def K1 : Ds := (K0.create [97]).2

def K2 : Ds := (K1.append [97] [120, 121, 122]).2

def K3 : Ds := (K2.sync [97]).2

def K4 : Ds := K3.syncNames.2

def K5 : Ds := (K4.append [97] [49, 50]).2

def K6 : Ds := (K5.rename [97] [98]).2

def K7 : Ds := K6.read [98] 2 2

def K8 : Ds := K7.crash [1, 1]

def K9 : Ds := (K8.remove [97]).2

theorem k1 : (K0.create [97]).1 = 0 := by decide

theorem k2 : (K1.append [97] [120, 121, 122]).1 = 0 := by decide

theorem k3 : (K2.sync [97]).1 = 0 := by decide

theorem k4 : K3.syncNames.1 = 0 := by decide

theorem k5 : (K4.append [97] [49, 50]).1 = 0 := by decide

theorem k6 : (K5.rename [97] [98]).1 = 0 := by decide

theorem k7 : K6.readOk [98] 2 2 = 0 := by decide

theorem k7b : K6.readBytes [98] 2 2 = [122, 49] := by decide

theorem k7s : K7.strokes = 6 := by decide

theorem k7r : K7.reads.length = 1 := by decide

theorem k8 : K8.files = [([98], [120, 121, 122, 49])] := by decide

theorem k9 : (K8.remove [97]).1 = 53 := by decide

theorem k9u : K9.used = 4 := by decide

/-- Two picks in a new row. -/
theorem new_ints (W : World) : Ints (W.alloc (.cells #[.int .i64 1, .int .i64 1] 3)) (some ⟨W.heap.size, 0, none⟩) [1, 1] := by
  intro i hi
  have hh : (W.alloc (.cells #[.int .i64 1, .int .i64 1] 3)).heap[W.heap.size]? = some (.cells #[.int .i64 1, .int .i64 1] 3 (0, 0)) := (MapKept.heap_alloc W _).1
  refine ⟨W.heap.size, 0, rfl, ?_⟩
  rw [Nat.zero_add, cell_of_row _ _ i _ _ _ hh]
  match i, hi with
  | 0, _ => rfl
  | 1, _ => rfl

end Go.Proofs.YtnfelplafpiaoaaGreatDoor
