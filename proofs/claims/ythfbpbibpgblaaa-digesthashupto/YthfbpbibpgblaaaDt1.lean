/-
  Contracts: digest.turned, freightref2.turned.
-/
import Derived.Test.YthfbpbibpgblaaaProg
import Derived.Test.YthfbpbibpgblaaaSha
import Derived.Test.YthfbpbibpgblaaaMem
import Derived.Deep.QuietTactic
import Derived.BigQuiet
import Derived.Great.BuildSlice
namespace Go.Proofs.Ythfbpbibpgblaaa
open Go.RowKit
set_option linter.unusedVariables false
set_option linter.unusedSimpArgs false

theorem rot_bits (x n : Nat) (hx : x < 4294967296) : bits .or .u32 ((x : Int) / 2 ^ n) ((x : Int) * 2 ^ (32 - n) % 4294967296) = (Sha.rot x n : Nat) := by
  have h := u32_or_nat (x / 2 ^ n) (x * 2 ^ (32 - n) % 4294967296) (Sha.div_lt _ hx) (Nat.mod_lt _ (by omega))
  unfold Sha.rot
  rw [← h]
  simp

set_option maxHeartbeats 400000 in
theorem turned_ok (x n : Nat) (w : World) (hx : x < 4294967296) (hn : n < 32) (hn0 : 0 < n) :
    Calls Try.prog 28 #[.int .u32 x, .int .u64 n] w fun e w' => e = .returned (.int .u32 (Sha.rot x n)) ∧ w' = w := by
  have hr := rot_bits x n hx
  go_enter Try.func28, Try.ntmps28
  go_wp2
  go_ret
  exact ⟨rfl, rfl⟩

set_option maxHeartbeats 400000 in
theorem rturned_ok (x n : Nat) (w : World) (hx : x < 4294967296) (hn : n < 32) (hn0 : 0 < n) :
    Calls Try.prog 29 #[.int .u32 x, .int .i64 n] w fun e w' => e = .returned (.int .u32 (Sha.rot x n)) ∧ ∃ m, w' = w.drewN m := by
  have hr := rot_bits x n hx
  have h1 : (0 : Int) ≤ 32 - (n : Int) := by omega
  go_enter Try.func29, Try.ntmps29
  go_wp2
  go_quiet (fail)
  go_wp2
  go_ret
  exact ⟨rfl, _, rfl⟩

/-- Words as cells. -/
def wds (l : List Nat) : List Value := l.map fun (n : Nat) => Value.int .u32 (n : Int)
def zero64 : Array Value := (wds (List.replicate 64 0)).toArray
def zero8 : Array Value := (wds (List.replicate 8 0)).toArray
theorem Try.zeroW64 (W : World) : (zeroValue 57).run Try.prog W = .ok (.agg zero64) W := by kernel_rfl
theorem Try.zeroW8 (W : World) : (zeroValue 25).run Try.prog W = .ok (.agg zero8) W := by kernel_rfl

theorem wds_len (l : List Nat) : (wds l).length = l.length := by simp [wds]
theorem wds_at {l : List Nat} {i : Nat} (h : i < l.length) : (wds l)[i]? = some (.int .u32 (l.getD i 0 : Nat)) := by simp [wds, List.getElem?_eq_getElem h]
theorem wds_set (l : List Nat) (i v : Nat) : (wds l).set i (.int .u32 v) = wds (l.set i v) := by simp [wds, List.map_set]
theorem wds_oneCell (l : List Nat) : ∀ u ∈ wds l, u.oneCell' = true := by
  intro u hu
  simp only [wds, List.mem_map] at hu
  obtain ⟨x, _, rfl⟩ := hu
  rfl
theorem Try.info64 : (Try.prog.info? 57).map (·.size) = some 64 := by kernel_rfl
theorem Try.info8 : (Try.prog.info? 25).map (·.size) = some 8 := by kernel_rfl
theorem Try.follows : Try.prog.follows .mixedOrders = true := by kernel_rfl

/-- A result that lies in a block of its own. -/
theorem ret_row {P : Program} {fn : Func} {p : Tmp} {ty : TypeId} {R : Ending → World → Prop} {a : Act} {w : World} (h : fn.results = #[.cell p ty]) (hd : a.defers = []) (g : Nat) (t : TypeId) (cs : Array Value) (fr : Nat × Nat) (d : TypeDesc)
    (hp : a.tmps.getD p undef = .pointer (some ⟨g, 0, none⟩)) (hg : w.heap[g]? = some (.cells cs t fr)) (hu : P.underlying ty = some d) (hx : (match d with | .struct _ | .array _ _ => true | _ => false) = true) (hi : (P.info? ty).map (·.size) = some cs.size)
    (hR : R (.returned (.agg cs)) w) : bodyPost P fn R .ret a w :=
  bodyPost_ret (results_cell_row h a.tmps w g t cs fr d hp hg hu hx hi) hd hR

theorem below_row {B : Nat} {w w1 : World} {g : Nat} (h : Below B w w1) (hg : B ≤ g) (cs : Array Value) : Below B w (w1.setRow g cs) :=
  ⟨h.os, h.tape, h.output, by rw [size_setRow]; exact h.size, fun k hk => (setRow_other w1 g k cs (by omega)).trans (h.block k hk)⟩

set_option maxHeartbeats 400000 in
set_option maxRecDepth 100000 in
theorem table_ok (w : World) :
    Calls Try.prog 26 #[] w fun e w' => e = .returned (.agg (wds Sha.table).toArray) ∧ Below w.heap.size w w' := by
  have hz := Try.zeroW64
  have hrow : (w.alloc (.cells zero64 57)).heap[w.heap.size]? = some (.cells zero64 57 (0, 0)) := heap_alloc_new _ _
  go_enter Try.func26, Try.ntmps26
  go_wp2_with (first | refine wpList_buildTo rfl 57 _ rfl (some 1) rfl (wds Sha.table).toArray (by kernel_rfl) ?_ | refine wpList_store_row rfl 57 (.tmp 0) (.tmp 1) rfl w.heap.size (wds Sha.table).toArray rfl rfl 57 zero64 hrow Try.info64 (by kernel_rfl) (by kernel_rfl) ?_)
  exact ret_row rfl rfl w.heap.size 57 (wds Sha.table).toArray (0, 0) _ rfl (setRow_heap _ _ _ _ _ _ hrow) Try.underlying57 rfl Try.info64 ⟨rfl, below_row ((Below.refl _ _).alloc (Nat.le_refl _) _) (Nat.le_refl _) _⟩

set_option maxHeartbeats 400000 in
set_option maxRecDepth 100000 in
theorem rtable_ok (w : World) :
    Calls Try.prog 20 #[] w fun e w' => e = .returned (.agg (wds Sha.table).toArray) ∧ Below w.heap.size w w' := by
  have hz := Try.zeroW64
  have hrow : (w.alloc (.cells zero64 57)).heap[w.heap.size]? = some (.cells zero64 57 (0, 0)) := heap_alloc_new _ _
  go_enter Try.func20, Try.ntmps20
  go_wp2_with (first | refine wpList_buildTo rfl 57 _ rfl (some 1) rfl (wds Sha.table).toArray (by kernel_rfl) ?_ | refine wpList_store_row rfl 57 (.tmp 0) (.tmp 1) rfl w.heap.size (wds Sha.table).toArray rfl rfl 57 zero64 hrow Try.info64 (by kernel_rfl) (by kernel_rfl) ?_)
  exact ret_row rfl rfl w.heap.size 57 (wds Sha.table).toArray (0, 0) _ rfl (setRow_heap _ _ _ _ _ _ hrow) Try.underlying57 rfl Try.info64 ⟨rfl, below_row ((Below.refl _ _).alloc (Nat.le_refl _) _) (Nat.le_refl _) _⟩

set_option maxHeartbeats 400000 in
set_option maxRecDepth 100000 in
theorem first_ok (w : World) :
    Calls Try.prog 16 #[] w fun e w' => e = .returned (.agg (wds Sha.first.words).toArray) ∧ Below w.heap.size w w' := by
  have hz := Try.zeroW8
  have hrow : (w.alloc (.cells zero8 25)).heap[w.heap.size]? = some (.cells zero8 25 (0, 0)) := heap_alloc_new _ _
  go_enter Try.func16, Try.ntmps16
  go_wp2_with (first | refine wpList_buildTo rfl 25 _ rfl (some 1) rfl (wds Sha.first.words).toArray (by kernel_rfl) ?_ | refine wpList_store_row rfl 25 (.tmp 0) (.tmp 1) rfl w.heap.size (wds Sha.first.words).toArray rfl rfl 25 zero8 hrow Try.info8 (by kernel_rfl) (by kernel_rfl) ?_)
  exact ret_row rfl rfl w.heap.size 25 (wds Sha.first.words).toArray (0, 0) _ rfl (setRow_heap _ _ _ _ _ _ hrow) Try.underlying25 rfl Try.info8 ⟨rfl, below_row ((Below.refl _ _).alloc (Nat.le_refl _) _) (Nat.le_refl _) _⟩

set_option maxHeartbeats 400000 in
set_option maxRecDepth 100000 in
theorem rfirst_ok (w : World) :
    Calls Try.prog 19 #[] w fun e w' => e = .returned (.agg (wds Sha.first.words).toArray) ∧ Below w.heap.size w w' := by
  have hz := Try.zeroW8
  have hrow : (w.alloc (.cells zero8 25)).heap[w.heap.size]? = some (.cells zero8 25 (0, 0)) := heap_alloc_new _ _
  go_enter Try.func19, Try.ntmps19
  go_wp2_with (first | refine wpList_buildTo rfl 25 _ rfl (some 1) rfl (wds Sha.first.words).toArray (by kernel_rfl) ?_ | refine wpList_store_row rfl 25 (.tmp 0) (.tmp 1) rfl w.heap.size (wds Sha.first.words).toArray rfl rfl 25 zero8 hrow Try.info8 (by kernel_rfl) (by kernel_rfl) ?_)
  exact ret_row rfl rfl w.heap.size 25 (wds Sha.first.words).toArray (0, 0) _ rfl (setRow_heap _ _ _ _ _ _ hrow) Try.underlying25 rfl Try.info8 ⟨rfl, below_row ((Below.refl _ _).alloc (Nat.le_refl _) _) (Nat.le_refl _) _⟩

end Go.Proofs.Ythfbpbibpgblaaa
