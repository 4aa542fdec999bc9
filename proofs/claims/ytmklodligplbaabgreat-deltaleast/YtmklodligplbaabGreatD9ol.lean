import Derived.Test.YtmklodligplbaabGreatD9jl
import Derived.Laws.StructEq
import Derived.ChangeKeysEq
namespace Go.Proofs.YtmklodligplbaabGreat
section
open Go.RowKit
open Dlt
set_option linter.unusedVariables false
set_option linter.unusedSimpArgs false
theorem Tryz.zeroOrd (W : World) : (zeroValue 74).run Tryz.prog W = .ok (.agg (ordC 0 0 wk0 wk0 (.slice none 0 0)).toArray) W := by kernel_rfl
theorem Tryz.infoOrdS : (Tryz.prog.info? 74).map (·.size) = some 69 := by kernel_rfl
theorem ordC_size (W Z : Int) (bk tk : Wk) (v : Value) : (ordC W Z bk tk v).toArray.size = 69 := by rw [List.size_toArray, ordC_len]
theorem OrdAt.fr {w : World} {G : Nat} {W Z : Int} {bk tk : Wk} {v : Value} (h : OrdAt w G W Z bk tk v) (i : Nat) : w.frozen? ⟨G, i, none⟩ = false := frozen_of_row _ _ _ _ _ h.row
theorem OrdAt.lt {w : World} {G : Nat} {W Z : Int} {bk tk : Wk} {v : Value} (h : OrdAt w G W Z bk tk v) : G < w.heap.size := (Array.getElem?_eq_some_iff.1 h.row).1
theorem OrdAt.setW {w : World} {G : Nat} {W Z : Int} {bk tk : Wk} {v : Value} (h : OrdAt w G W Z bk tk v) (x : Int) : OrdAt (w.setCell ⟨G, 0, none⟩ (.int .i64 x)) G x Z bk tk v := ⟨by rw [heap_setCell_same w _ 0 _ _ _ h.row]; rfl⟩
theorem OrdAt.setZ {w : World} {G : Nat} {W Z : Int} {bk tk : Wk} {v : Value} (h : OrdAt w G W Z bk tk v) (x : Int) : OrdAt (w.setCell ⟨G, 1, none⟩ (.int .i64 x)) G W x bk tk v := ⟨by rw [heap_setCell_same w _ 1 _ _ _ h.row]; rfl⟩
theorem OrdAt.setV {w : World} {G : Nat} {W Z : Int} {bk tk : Wk} {v : Value} (h : OrdAt w G W Z bk tk v) (u : Value) : OrdAt (w.setCell ⟨G, 68, none⟩ u) G W Z bk tk u := by
 refine ⟨?_⟩
 rw [heap_setCell_same w _ 68 _ _ _ h.row]
 congr 2
 apply Array.ext'
 simp only [Array.toList_setIfInBounds, List.toList_toArray]
 unfold ordC
 rw [List.set_cons_succ, List.set_cons_succ, List.set_append_right _ _ (by rw [bk.len]; omega), bk.len, List.set_append_right _ _ (by rw [tk.len]; omega), tk.len]
 rfl
theorem OrdAt.there_b {w : World} {G : Nat} {W Z : Int} {bk tk : Wk} {v : Value} (h : OrdAt w G W Z bk tk v) : w.there G 2 33 := there_row h.row _ _ (by rw [ordC_size]; omega)
theorem OrdAt.there_t {w : World} {G : Nat} {W Z : Int} {bk tk : Wk} {v : Value} (h : OrdAt w G W Z bk tk v) : w.there G 35 33 := there_row h.row _ _ (by rw [ordC_size]; omega)
theorem OrdAt.setB {w : World} {G : Nat} {W Z : Int} {bk tk : Wk} {v : Value} (h : OrdAt w G W Z bk tk v) (e : Wk) : OrdAt (w.setCells G 2 e.cells) G W Z e tk v := by
 refine ⟨?_⟩
 rw [setCells_row _ _ _ _ _ _ h.row (by rw [e.len, ordC_len]; omega), setRow_heap _ _ _ _ _ _ h.row, e.len]
 congr 3
 unfold ordC
 show [.int .i64 W, .int .i64 Z] ++ (e.cells ++ (bk.cells ++ (tk.cells ++ [v])).drop 33) = _
 rw [List.drop_append, List.drop_of_length_le (by rw [bk.len]; exact Nat.le_refl _), bk.len]
 rfl
theorem OrdAt.setT {w : World} {G : Nat} {W Z : Int} {bk tk : Wk} {v : Value} (h : OrdAt w G W Z bk tk v) (e : Wk) : OrdAt (w.setCells G 35 e.cells) G W Z bk e v := by
 refine ⟨?_⟩
 rw [setCells_row _ _ _ _ _ _ h.row (by rw [e.len, ordC_len]; omega), setRow_heap _ _ _ _ _ _ h.row, e.len]
 congr 3
 have l1 : ([Value.int .i64 W, Value.int .i64 Z] ++ bk.cells).length = 35 := by rw [List.length_append, bk.len]; rfl
 have e1 : ordC W Z bk tk v = ([.int .i64 W, .int .i64 Z] ++ bk.cells) ++ (tk.cells ++ [v]) := by simp [ordC]
 have e2 : ordC W Z bk e v = ([.int .i64 W, .int .i64 Z] ++ bk.cells) ++ (e.cells ++ [v]) := by simp [ordC]
 rw [e1, e2, List.take_append_of_le_length (by omega), List.take_of_length_le (by omega), List.drop_append, List.drop_of_length_le (by omega), List.nil_append, l1, show 35 + 33 - 35 = 33 by omega, List.drop_append, List.drop_of_length_le (by rw [tk.len]; omega), List.nil_append, tk.len]
 simp
structure Lst (wr : World) (gL c : Nat) (vals : List Value) : Prop where
 row : wr.heap[gL]? = some (.cells (vals ++ List.replicate (c - vals.length) Value.nilIface).toArray 129 (0, 0))
 le : vals.length ≤ c
theorem Lst.kept {l : List Nat} {w1 w2 : World} {gL c : Nat} {vals : List Value} (h : Lst w1 gL c vals) (hk : Kept l w1 w2) (hn : gL ∉ l) : Lst w2 gL c vals := ⟨(hk.block gL (Array.getElem?_eq_some_iff.1 h.row).1 hn).trans h.row, h.le⟩
theorem Lst.cell {w : World} {gL c : Nat} {vals : List Value} (h : Lst w gL c vals) {i : Nat} {u : Value} (hu : vals[i]? = some u) : w.cell? ⟨gL, i, none⟩ = some u := by
 rw [cell_of_row _ _ _ _ _ _ h.row, List.getElem?_toArray, List.getElem?_append_left (List.getElem?_eq_some_iff.1 hu).1]
 exact hu
theorem Lst.next {w : World} {gL c : Nat} {vals : List Value} (h : Lst w gL c vals) (hl : vals.length < c) : w.cell? ⟨gL, vals.length, none⟩ = some .nilIface ∧ w.frozen? ⟨gL, vals.length, none⟩ = false := by
 refine ⟨?_, frozen_of_row _ _ _ _ _ h.row⟩
 rw [cell_of_row _ _ _ _ _ _ h.row, List.getElem?_toArray, List.getElem?_append_right (Nat.le_refl _), Nat.sub_self, List.getElem?_replicate, if_pos (by omega)]
theorem Lst.put {w : World} {gL c : Nat} {vals : List Value} (h : Lst w gL c vals) (hl : vals.length < c) (u : Value) : Lst (w.setCell ⟨gL, vals.length, none⟩ u) gL c (vals ++ [u]) := by
 refine ⟨?_, by rw [List.length_append, List.length_singleton]; omega⟩
 rw [heap_setCell_same w _ _ _ _ _ h.row]
 congr 2
 apply Array.ext'
 simp only [Array.toList_setIfInBounds, List.toList_toArray]
 rw [List.set_append_right _ _ (Nat.le_refl _), Nat.sub_self, List.length_append, List.length_singleton, show c - vals.length = (c - (vals.length + 1)) + 1 by omega, List.replicate_succ, List.set_cons_zero]
 simp
theorem run_makeI9 (w : World) (c : Nat) (h : c ≤ 1000000) : (Instr.makeSlice 67 (.int .i64 c) (.int .i64 c)).run Tryz.prog w = .ok (.slice (some ⟨w.heap.size, 0, none⟩) c c) (w.alloc (.cells (List.replicate c Value.nilIface).toArray 129)) := by
 obtain ⟨i0, hi, hz0, hz1, hz2⟩ := info_parts Tryz.infoIns8
 have hmk := run_make (P := Tryz.prog) w 67 129 i0 .nilIface Tryz.underlying67 hi hz0 .i64 .i64 c c (by omega) (by omega) (by rw [hz2]; omega) (by omega)
 rw [hz1] at hmk
 have e : madeCells (Value.nilIface).cells (c * 1) = (List.replicate c Value.nilIface).toArray := by
  apply Array.ext
  ·simp [size_madeCells]
  ·intro i h1 h2
   simp [madeCells, Value.cells, Nat.mod_one]
 simp only [Int.toNat_natCast, e] at hmk
 exact hmk
theorem Lst.new (w : World) (c : Nat) : Lst (w.alloc (.cells (List.replicate c Value.nilIface).toArray 129)) w.heap.size c [] := ⟨heap_new w _, Nat.zero_le _⟩
end

section
open Go.RowKit
open Dlt
set_option linter.unusedVariables false
set_option linter.unusedSimpArgs false
theorem Tryz.underSeal : Tryz.prog.underlying 71 = some (.struct (Tryz.prog.fieldsOf 71)) := by kernel_rfl
theorem Tryz.eqlSeal (A B : Wk) (W : World) : (Op.equalIn 10000 71 (.agg A.cells.toArray) (.agg B.cells.toArray)).run Tryz.prog W = .ok (wkEq A B) W := by
 rw [run_equalIn_struct (P := Tryz.prog) W 9999 71 _ _ Tryz.underSeal (by kernel_rfl)]
 simp (config := { decide := true }) only [Program.fieldsOf, Tryz.underlying71, Op.eqFields, Sem.run_bind, Sem.run_ite, ne_eq, not_false_eq_true, if_true, Tryz.partSum, Tryz.partWid, Result.andThen_ok, run_equalIn_int W 9998 3 .i64 .i64 _ _ Tryz.underlying3, Tryz.equalID 9997 A.id B.id A.hid B.hid]
 have e2 : (A.sum == B.sum) = decide (A.sum = B.sum) := by rw [Bool.eq_iff_iff]; simp
 rw [e2]
 unfold wkEq
 cases decide (A.sum = B.sum) <;> cases decide (A.id = B.id) <;> simp
end

end Go.Proofs.YtmklodligplbaabGreat
