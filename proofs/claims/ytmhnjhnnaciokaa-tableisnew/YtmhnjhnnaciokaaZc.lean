/-
  Ids and results by value: whether two are one. Contract: table.inOrder's closure.
-/
import Derived.Test.YtmhnjhnnaciokaaZb
import Derived.Laws.StructEq
import Derived.ChangeKeysEq
import Derived.Shelf.SlicesE.Kit
namespace Go.Proofs.Ytmhnjhnnaciokaa
open Go.RowKit Go.Sort
set_option linter.unusedVariables false
set_option linter.unusedSimpArgs false

theorem Try.aggByte (W : World) : (isAgg 5).run Try.prog W = .ok false W := by kernel_rfl
theorem Try.aggInt (W : World) : (isAgg 3).run Try.prog W = .ok false W := by kernel_rfl
theorem Try.aggID (W : World) : (isAgg 24).run Try.prog W = .ok true W := by kernel_rfl
theorem Try.sizeID (W : World) : (sizeOf 24).run Try.prog W = .ok 32 W := by kernel_rfl
theorem Try.cellsByte : Try.prog.cellsOf 5 = 1 := by kernel_rfl
theorem Try.partByte (L : List UInt8) (i : Nat) (hi : i < L.length) (W : World) : (part 5 (bys L).toArray i).run Try.prog W = .ok (.int .u8 (L.getD i 0).toNat) W := by
  simp only [part, Sem.run_bind, Try.aggByte, Result.andThen_ok, Bool.false_eq_true, if_false, List.getElem?_toArray, bys_at hi, Sem.run_pure]
theorem eqItems_bytes (d : Nat) (A B : List UInt8) (hA : A.length = 32) (hB : B.length = 32) (W : World) : ∀ (is : List Nat), (∀ i ∈ is, i < 32) →
    (Op.eqItems (d + 1) 5 1 (bys A).toArray (bys B).toArray is).run Try.prog W = .ok (is.all fun i => A.getD i 0 == B.getD i 0) W
  | [], _ => by simp [Op.eqItems]
  | i :: is, h => by
    have hi := h i (by simp)
    have ih := eqItems_bytes d A B hA hB W is (fun j hj => h j (by simp [hj]))
    have e : (((A.getD i 0).toNat : Int) == ((B.getD i 0).toNat : Int)) = (A.getD i 0 == B.getD i 0) := by
      rw [Bool.eq_iff_iff]
      simp only [beq_iff_eq]
      constructor
      · intro h
        exact UInt8.toNat_inj.1 (by omega)
      · intro h
        rw [h]
    simp only [Op.eqItems, Sem.run_bind, Nat.mul_one, Try.partByte A i (by omega), Try.partByte B i (by omega), Result.andThen_ok, run_equalIn_int _ d 5 .u8 .u8 _ _ Try.underlying5, e]
    cases hab : (A.getD i 0 == B.getD i 0)
    · simp only [Bool.not_false, if_true, Sem.run_pure, List.all_cons, hab, Bool.false_and]
    · simp only [Bool.not_true, Bool.false_eq_true, if_false, List.all_cons, hab, Bool.true_and]
      exact ih
theorem all_eq {A B : List UInt8} (hA : A.length = 32) (hB : B.length = 32) : ((List.range 32).all fun i => A.getD i 0 == B.getD i 0) = decide (A = B) := by
  rw [Bool.eq_iff_iff]
  simp only [List.all_eq_true, List.mem_range, beq_iff_eq, decide_eq_true_eq]
  constructor
  · intro h
    apply List.ext_getElem (by omega)
    intro i h1 h2
    have := h i (by omega)
    simpa [List.getElem?_eq_getElem h1, List.getElem?_eq_getElem h2] using this
  · intro h i _
    rw [h]
theorem Try.infoByte : (Try.prog.info? 5).map (fun i => (i.zero, i.size, i.bytes)) = some (some (.int .u8 0), 1, 1) := by kernel_rfl
theorem Try.equalID (d : Nat) (A B : List UInt8) (hA : A.length = 32) (hB : B.length = 32) (W : World) :
    (Op.equalIn (d + 2) 24 (.agg (bys A).toArray) (.agg (bys B).toArray)).run Try.prog W = .ok (decide (A = B)) W := by
  obtain ⟨i0, hi, _⟩ := info_parts Try.infoByte
  rw [run_equalIn_array (P := Try.prog) W (d + 1) (bys A).toArray (bys B).toArray Try.underlying24 hi, Try.cellsByte, eqItems_bytes d A B hA hB W _ (fun i hi => List.mem_range.1 hi), all_eq hA hB]
theorem res_parts (e : Res) : e.cells.toArray.extract 0 32 = (bys e.action).toArray ∧ e.cells.toArray.extract 32 (32 + 32) = (bys e.root).toArray := by
  constructor
  · apply Array.ext'
    simp [Res.cells, bys_length, e.ha]
  · apply Array.ext'
    simp only [Res.cells, Array.toList_extract, List.extract_eq_drop_take']
    rw [← List.append_assoc, List.take_append_of_le_length (by simp [bys_length, e.ha, e.hr]), List.take_of_length_le (by simp [bys_length, e.ha, e.hr]), List.drop_append_of_le_length (by simp [bys_length, e.ha]), List.drop_of_length_le (by simp [bys_length, e.ha])]
    simp
theorem Try.partAct (e : Res) (W : World) : (part 24 e.cells.toArray 0).run Try.prog W = .ok (.agg (bys e.action).toArray) W := by
  have hx := (res_parts e).1
  simp only [part, Sem.run_bind, Try.aggID, Result.andThen_ok, if_true, Try.sizeID, Sem.run_pure]
  first | rw [hx] | (simp [e.len, hx])
theorem Try.partRoot (e : Res) (W : World) : (part 24 e.cells.toArray 32).run Try.prog W = .ok (.agg (bys e.root).toArray) W := by
  have hx := (res_parts e).2
  simp only [part, Sem.run_bind, Try.aggID, Result.andThen_ok, if_true, Try.sizeID, Sem.run_pure]
  first | rw [hx] | (simp [e.len, hx])
theorem Try.partCode (e : Res) (W : World) : (part 3 e.cells.toArray 64).run Try.prog W = .ok (.int .i64 e.code) W := by
  simp only [part, Sem.run_bind, Try.aggInt, Result.andThen_ok, Bool.false_eq_true, if_false, List.getElem?_toArray, e.cod, Sem.run_pure]
theorem Try.underRes : Try.prog.underlying 26 = some (.struct (Try.prog.fieldsOf 26)) := by kernel_rfl
theorem Try.eqlID (A B : List UInt8) (hA : A.length = 32) (hB : B.length = 32) (W : World) : (Op.equalIn 10000 24 (.agg (bys A).toArray) (.agg (bys B).toArray)).run Try.prog W = .ok (decide (A = B)) W :=
  Try.equalID 9998 A B hA hB W
theorem Try.eqlRes (A B : Res) (W : World) : (Op.equalIn 10000 26 (.agg A.cells.toArray) (.agg B.cells.toArray)).run Try.prog W = .ok (decide (A = B)) W := by
  rw [run_equalIn_struct (P := Try.prog) W 9999 26 _ _ Try.underRes (by kernel_rfl)]
  simp (config := { decide := true }) only [Program.fieldsOf, Try.underlying26, Op.eqFields, Sem.run_bind, Sem.run_ite, ne_eq, not_false_eq_true, if_true, Try.partAct, Try.partRoot, Try.partCode, Result.andThen_ok, run_equalIn_int W 9998 3 .i64 .i64 _ _ Try.underlying3, Try.equalID 9997 A.action B.action A.ha B.ha W, Try.equalID 9997 A.root B.root A.hr B.hr W]
  have e2 : (A.code == B.code) = decide (A.code = B.code) := by rw [Bool.eq_iff_iff]; simp
  rw [e2]
  have e3 : decide (A = B) = (decide (A.action = B.action) && (decide (A.root = B.root) && decide (A.code = B.code))) := by
    rw [Bool.eq_iff_iff]; simp [Res.iff]
  rw [e3]
  cases decide (A.action = B.action) <;> cases decide (A.root = B.root) <;> cases decide (A.code = B.code) <;> simp
theorem eqlAt : EqlAt Try.prog 26 (fun x : Res => .agg x.cells.toArray) (fun x y => decide (x = y)) := by
  refine ⟨fun x y w => ?_, GuardAt.agg _ (by kernel_rfl)⟩
  rw [run_eql_struct, Try.eqlRes]
  rfl

set_option maxHeartbeats 1600000 in
set_option maxRecDepth 100000 in
theorem twice_ok (x y : Res) (w : World) : Calls Try.prog 49 #[.agg x.cells.toArray, .agg y.cells.toArray] w fun e w' => e = .returned (.bool (decide (x.action = y.action))) ∧ w' = (w.alloc (.cells x.cells.toArray 26)).alloc (.cells y.cells.toArray 26) := by
  obtain ⟨W1, hW1⟩ : ∃ W1, (w.alloc (.cells x.cells.toArray 26)).alloc (.cells y.cells.toArray 26) = W1 := ⟨_, rfl⟩
  have lx : W1.rangeAt w.heap.size 0 (bys x.action) := by
    intro j v hj
    have h1 : W1.heap[w.heap.size]? = some (.cells x.cells.toArray 26) := by
      rw [← hW1, heap_old (by simp)]
      exact heap_new w _
    rw [Nat.zero_add, cell_of_row _ _ _ _ _ _ h1]
    obtain ⟨hj1, rfl⟩ := bys_get hj
    rw [List.getElem?_toArray, Res.act (by rw [← x.ha]; exact hj1)]
  have ly : W1.rangeAt (w.heap.size + 1) 0 (bys y.action) := by
    intro j v hj
    have h0 := heap_new (w.alloc (.cells x.cells.toArray 26)) (.cells y.cells.toArray 26)
    rw [hW1, show (w.alloc (.cells x.cells.toArray 26)).heap.size = w.heap.size + 1 by simp] at h0
    rw [Nat.zero_add, cell_of_row _ _ _ _ _ _ h0]
    obtain ⟨hj1, rfl⟩ := bys_get hj
    rw [List.getElem?_toArray, Res.act (by rw [← y.ha]; exact hj1)]
  have ix : (Try.prog.info? 24).map (·.size) = some (bys x.action).length := by rw [bys_length, x.ha]; kernel_rfl
  have iy : (Try.prog.info? 24).map (·.size) = some (bys y.action).length := by rw [bys_length, y.ha]; kernel_rfl
  have he : Sem.run Try.prog (Op.equalIn 10000 24 (.agg (bys x.action).toArray) (.agg (bys y.action).toArray)) W1 = .ok (decide (x.action = y.action)) W1 := Try.eqlID _ _ x.ha y.ha W1
  generalize decide (x.action = y.action) = R at he ⊢
  rw [hW1]
  go_enter Try.func49, Try.ntmps49
  go_wp2_with (first | refine wpList_load_mid rfl 24 (.tmp 5) rfl w.heap.size 0 rfl _ _ lx Try.underlying24 rfl ix ?_ | refine wpList_load_mid rfl 24 (.tmp 7) rfl (w.heap.size + 1) 0 rfl _ _ ly Try.underlying24 rfl iy ?_)
  go_ret
  exact ⟨rfl, rfl⟩
end Go.Proofs.Ytmhnjhnnaciokaa
