/-
  Contracts: the three policies of Join.
-/
import Derived.Test.YtmhnjhnnaciokaaZq
import Derived.Laws.ResultCell
namespace Go.Proofs.Ytmhnjhnnaciokaa
open Go.RowKit Go.Sort
set_option linter.unusedVariables false
set_option linter.unusedSimpArgs false

theorem ret_row2 {P : Program} {fn : Func} {p u : Tmp} {ty : TypeId} {R : Ending → World → Prop} {a : Act} {w : World} (h : fn.results = #[.cell p ty, .tmp u]) (hd : a.defers = []) (g : Nat) (cs : List Value) (d : TypeDesc)
    (hp : a.tmps.getD p undef = .pointer (some ⟨g, 0, none⟩)) (hg : w.rangeAt g 0 cs) (hu : P.underlying ty = some d) (hx : d.isRow = true) (hi : (P.info? ty).map (·.size) = some cs.length) (hR : R (.returned (.tuple #[.agg cs.toArray, a.tmps.getD u undef])) w) : bodyPost P fn R .ret a w :=
  bodyPost_ret (by rw [results_cell_tmp h, hp]; simp only [asAddr, Sem.run_pure, Result.andThen_ok, run_loadVar_mid w g 0 ty cs d hg hu hx hi]) hd hR
theorem three_blocks (W : World) (x y : Res) : ∃ W3, ((W.alloc (.cells x.cells.toArray 26)).alloc (.cells y.cells.toArray 26)).alloc (.cells zeroR 26) = W3 ∧ Kept [] W W3 ∧ W3.rangeAt W.heap.size 0 x.cells ∧ W3.rangeAt (W.heap.size + 1) 0 y.cells ∧ W3.heap[W.heap.size + 2]? = some (.cells zeroR 26 (0, 0)) := by
  refine ⟨_, rfl, (((Kept.refl [] W).alloc _).alloc _).alloc _, ?_, ?_, ?_⟩
  · exact res_range (by rw [heap_old (by simp; omega), heap_old (by simp)]; exact heap_new W _)
  · have := heap_new (W.alloc (.cells x.cells.toArray 26)) (.cells y.cells.toArray 26)
    rw [show (W.alloc (.cells x.cells.toArray 26)).heap.size = W.heap.size + 1 by simp] at this
    exact res_range (by rw [heap_old (by simp)]; exact this)
  · have := heap_new ((W.alloc (.cells x.cells.toArray 26)).alloc (.cells y.cells.toArray 26)) (.cells zeroR 26)
    rw [show ((W.alloc (.cells x.cells.toArray 26)).alloc (.cells y.cells.toArray 26)).heap.size = W.heap.size + 2 by simp] at this
    exact this

set_option maxHeartbeats 1600000 in
set_option maxRecDepth 100000 in
theorem settle_keep : Settles 17 (fun x _ => x) 0 := by
  refine ⟨fun x y W => ?_, enters_of Try.func17 (by kernel_rfl) rfl⟩
  obtain ⟨W3, hW3, hk, hr1, hr2, hrow⟩ := three_blocks W x y
  have hz := Try.zeroRes
  have i1 : (Try.prog.info? 26).map (·.size) = some x.cells.length := by rw [x.len]; exact Try.infoResS
  have ia : (Try.prog.info? 26).map (·.size) = some x.cells.toArray.size := by rw [res_size]; exact Try.infoResS
  have HK := hide hk
  clear hk hr2
  go_enter Try.func17, Try.ntmps17
  go_wp2_with (first
    | refine wpList_load_mid rfl 26 (.tmp 2) rfl W.heap.size 0 rfl x.cells _ hr1 Try.underlying26 rfl i1 ?_
    | refine wpList_store_rowTo rfl 26 (.tmp 4) (.tmp 6) rfl rfl (W.heap.size + 2) x.cells.toArray rfl rfl 26 zeroR hrow ia (zero_size x) (res_all x) ?_)
  refine ret_row2 rfl rfl (W.heap.size + 2) x.cells _ rfl (res_range (setRow_heap _ _ _ _ _ _ hrow)) Try.underlying26 rfl i1 ⟨rfl, HK.out.trans (kept_row W3 _ _) (by simp)⟩

set_option maxHeartbeats 1600000 in
set_option maxRecDepth 100000 in
theorem settle_take : Settles 18 (fun _ y => y) 0 := by
  refine ⟨fun y x W => ?_, enters_of Try.func18 (by kernel_rfl) rfl⟩
  obtain ⟨W3, hW3, hk, hr1, hr2, hrow⟩ := three_blocks W y x
  have hz := Try.zeroRes
  have i1 : (Try.prog.info? 26).map (·.size) = some x.cells.length := by rw [x.len]; exact Try.infoResS
  have ia : (Try.prog.info? 26).map (·.size) = some x.cells.toArray.size := by rw [res_size]; exact Try.infoResS
  have HK := hide hk
  clear hk hr1
  go_enter Try.func18, Try.ntmps18
  go_wp2_with (first
    | refine wpList_load_mid rfl 26 (.tmp 3) rfl (W.heap.size + 1) 0 rfl x.cells _ hr2 Try.underlying26 rfl i1 ?_
    | refine wpList_store_rowTo rfl 26 (.tmp 4) (.tmp 6) rfl rfl (W.heap.size + 2) x.cells.toArray rfl rfl 26 zeroR hrow ia (zero_size x) (res_all x) ?_)
  refine ret_row2 rfl rfl (W.heap.size + 2) x.cells _ rfl (res_range (setRow_heap _ _ _ _ _ _ hrow)) Try.underlying26 rfl i1 ⟨rfl, HK.out.trans (kept_row W3 _ _) (by simp)⟩

set_option maxHeartbeats 1600000 in
set_option maxRecDepth 100000 in
theorem settle_fail : Settles 19 (fun _ _ => res0) 150 := by
  refine ⟨fun x y W => ?_, enters_of Try.func19 (by kernel_rfl) rfl⟩
  obtain ⟨W3, hW3, hk, hr1, hr2, hrow⟩ := three_blocks W x y
  have hz := Try.zeroRes
  have i1 : (Try.prog.info? 26).map (·.size) = some res0.cells.length := by rw [res0.len]; exact Try.infoResS
  have ia : (Try.prog.info? 26).map (·.size) = some res0.cells.toArray.size := by rw [res_size]; exact Try.infoResS
  have HK := hide hk
  clear hk hr1 hr2
  have hbu : ∀ W, (Instr.build 26 #[]).run Try.prog W = .ok (.agg res0.cells.toArray) W := fun W => by kernel_rfl
  go_enter Try.func19, Try.ntmps19
  go_wp2_with (refine wpList_store_rowTo rfl 26 (.tmp 4) (.tmp 6) rfl rfl (W.heap.size + 2) res0.cells.toArray rfl rfl 26 zeroR hrow ia (zero_size res0) (res_all res0) ?_)
  refine ret_row2 rfl rfl (W.heap.size + 2) res0.cells _ rfl (res_range (setRow_heap _ _ _ _ _ _ hrow)) Try.underlying26 rfl i1 ⟨rfl, HK.out.trans (kept_row W3 _ _) (by simp)⟩
end Go.Proofs.Ytmhnjhnnaciokaa
