import Derived.Test.YtmklodligplbaabGreatProg
import Derived.Test.YtmklodligplbaabGreatPurel
import Derived.Test.YtmklodligplbaabGreatMeml
import Derived.Deep.QuietTactic
import Derived.BigQuiet
import Derived.Great.BuildSlice
import Derived.StillTailTactics
import Derived.Deep.RegionHeld3
namespace Go.Proofs.YtmklodligplbaabGreat
section
open Go.RowKit
set_option linter.unusedVariables false
set_option linter.unusedSimpArgs false
theorem rot_bits (x n : Nat) (hx : x < 4294967296) : bits .or .u32 ((x : Int) / 2 ^ n) ((x : Int) * 2 ^ (32 - n) % 4294967296) = (Sha.rot x n : Nat) := by
 have h := u32_or_nat (x / 2 ^ n) (x * 2 ^ (32 - n) % 4294967296) (Sha.div_lt _ hx) (Nat.mod_lt _ (by omega))
 unfold Sha.rot
 rw [← h]
 simp
set_option maxHeartbeats 400000 in
theorem turned_ok (x n : Nat) (w : World) (hx : x < 4294967296) (hn : n < 32) (hn0 : 0 < n) :
  Calls Tryz.prog 136 #[.int .u32 x, .int .u64 n] w fun e w' => e = .returned (.int .u32 (Sha.rot x n)) ∧ w' = w := by
 have hr := rot_bits x n hx
 go_enter Tryz.func136, Tryz.ntmps136
 go_wp2
 go_ret
 exact ⟨rfl, rfl⟩
set_option maxHeartbeats 400000 in
theorem rturned_ok (x n : Nat) (w : World) (hx : x < 4294967296) (hn : n < 32) (hn0 : 0 < n) :
  Calls Tryz.prog 108 #[.int .u32 x, .int .i64 n] w fun e w' => e = .returned (.int .u32 (Sha.rot x n)) ∧ ∃ m, w' = w.drewN m := by
 have hr := rot_bits x n hx
 have h1 : (0 : Int) ≤ 32 - (n : Int) := by omega
 go_enter Tryz.func108, Tryz.ntmps108
 go_wp2
 go_quiet (fail)
 go_wp2
 go_ret
 exact ⟨rfl, _, rfl⟩
def wds (l : List Nat) : List Value := l.map fun (n : Nat) => Value.int .u32 (n : Int)
def zero64 : Array Value := (wds (List.replicate 64 0)).toArray
def zero8 : Array Value := (wds (List.replicate 8 0)).toArray
theorem Tryz.zeroW64 (W : World) : (zeroValue 139).run Tryz.prog W = .ok (.agg zero64) W := by kernel_rfl
theorem Tryz.zeroW8 (W : World) : (zeroValue 137).run Tryz.prog W = .ok (.agg zero8) W := by kernel_rfl
theorem wds_len (l : List Nat) : (wds l).length = l.length := by simp [wds]
theorem wds_at {l : List Nat} {i : Nat} (h : i < l.length) : (wds l)[i]? = some (.int .u32 (l.getD i 0 : Nat)) := by simp [wds, List.getElem?_eq_getElem h]
theorem wds_set (l : List Nat) (i v : Nat) : (wds l).set i (.int .u32 v) = wds (l.set i v) := by simp [wds, List.map_set]
theorem wds_oneCell (l : List Nat) : ∀ u ∈ wds l, u.oneCell' = true := by
 intro u hu
 simp only [wds, List.mem_map] at hu
 obtain ⟨x, _, rfl⟩ := hu
 rfl
theorem Tryz.info64 : (Tryz.prog.info? 139).map (·.size) = some 64 := by kernel_rfl
theorem Tryz.info8 : (Tryz.prog.info? 137).map (·.size) = some 8 := by kernel_rfl
theorem Tryz.followsD : Tryz.prog.follows .mixedOrders = true := by kernel_rfl
theorem ret_row {P : Program} {fn : Func} {p : Tmp} {ty : TypeId} {R : Ending → World → Prop} {a : Act} {w : World} (h : fn.results = #[.cell p ty]) (hd : a.defers = []) (g : Nat) (t : TypeId) (cs : Array Value) (fr : Nat × Nat) (d : TypeDesc)
  (hp : a.tmps.getD p undef = .pointer (some ⟨g, 0, none⟩)) (hg : w.heap[g]? = some (.cells cs t fr)) (hu : P.underlying ty = some d) (hx : (match d with | .struct _ | .array _ _ => true | _ => false) = true) (hi : (P.info? ty).map (·.size) = some cs.size)
  (hR : R (.returned (.agg cs)) w) : bodyPost P fn R .ret a w :=
 bodyPost_ret (results_cell_row h a.tmps w g t cs fr d hp hg hu hx hi) hd hR
theorem below_row {B : Nat} {w w1 : World} {g : Nat} (h : Below B w w1) (hg : B ≤ g) (cs : Array Value) : Below B w (w1.setRow g cs) :=
 ⟨h.os, h.tape, h.output, by rw [size_setRow]; exact h.size, fun k hk => (setRow_other w1 g k cs (by omega)).trans (h.block k hk)⟩
set_option maxHeartbeats 400000 in
set_option maxRecDepth 100000 in
theorem table_ok (w : World) :
  Calls Tryz.prog 134 #[] w fun e w' => e = .returned (.agg (wds Sha.table).toArray) ∧ Below w.heap.size w w' := by
 have hz := Tryz.zeroW64
 have hrow : (w.alloc (.cells zero64 139)).heap[w.heap.size]? = some (.cells zero64 139 (0, 0)) := heap_alloc_new _ _
 go_enter Tryz.func134, Tryz.ntmps134
 go_wp2_with (first | refine wpList_buildTo rfl 139 _ rfl (some 1) rfl (wds Sha.table).toArray (by kernel_rfl) ?_ | refine wpList_store_row rfl 139 (.tmp 0) (.tmp 1) rfl w.heap.size (wds Sha.table).toArray rfl rfl 139 zero64 hrow Tryz.info64 (by kernel_rfl) (by kernel_rfl) ?_)
 exact ret_row rfl rfl w.heap.size 139 (wds Sha.table).toArray (0, 0) _ rfl (setRow_heap _ _ _ _ _ _ hrow) Tryz.underlying139 rfl Tryz.info64 ⟨rfl, below_row ((Below.refl _ _).alloc (Nat.le_refl _) _) (Nat.le_refl _) _⟩
set_option maxHeartbeats 400000 in
set_option maxRecDepth 100000 in
theorem rtable_ok (w : World) :
  Calls Tryz.prog 81 #[] w fun e w' => e = .returned (.agg (wds Sha.table).toArray) ∧ Below w.heap.size w w' := by
 have hz := Tryz.zeroW64
 have hrow : (w.alloc (.cells zero64 139)).heap[w.heap.size]? = some (.cells zero64 139 (0, 0)) := heap_alloc_new _ _
 go_enter Tryz.func81, Tryz.ntmps81
 go_wp2_with (first | refine wpList_buildTo rfl 139 _ rfl (some 1) rfl (wds Sha.table).toArray (by kernel_rfl) ?_ | refine wpList_store_row rfl 139 (.tmp 0) (.tmp 1) rfl w.heap.size (wds Sha.table).toArray rfl rfl 139 zero64 hrow Tryz.info64 (by kernel_rfl) (by kernel_rfl) ?_)
 exact ret_row rfl rfl w.heap.size 139 (wds Sha.table).toArray (0, 0) _ rfl (setRow_heap _ _ _ _ _ _ hrow) Tryz.underlying139 rfl Tryz.info64 ⟨rfl, below_row ((Below.refl _ _).alloc (Nat.le_refl _) _) (Nat.le_refl _) _⟩
set_option maxHeartbeats 400000 in
set_option maxRecDepth 100000 in
theorem first_ok (w : World) :
  Calls Tryz.prog 127 #[] w fun e w' => e = .returned (.agg (wds Sha.first.words).toArray) ∧ Below w.heap.size w w' := by
 have hz := Tryz.zeroW8
 have hrow : (w.alloc (.cells zero8 137)).heap[w.heap.size]? = some (.cells zero8 137 (0, 0)) := heap_alloc_new _ _
 go_enter Tryz.func127, Tryz.ntmps127
 go_wp2_with (first | refine wpList_buildTo rfl 137 _ rfl (some 1) rfl (wds Sha.first.words).toArray (by kernel_rfl) ?_ | refine wpList_store_row rfl 137 (.tmp 0) (.tmp 1) rfl w.heap.size (wds Sha.first.words).toArray rfl rfl 137 zero8 hrow Tryz.info8 (by kernel_rfl) (by kernel_rfl) ?_)
 exact ret_row rfl rfl w.heap.size 137 (wds Sha.first.words).toArray (0, 0) _ rfl (setRow_heap _ _ _ _ _ _ hrow) Tryz.underlying137 rfl Tryz.info8 ⟨rfl, below_row ((Below.refl _ _).alloc (Nat.le_refl _) _) (Nat.le_refl _) _⟩
set_option maxHeartbeats 400000 in
set_option maxRecDepth 100000 in
theorem rfirst_ok (w : World) :
  Calls Tryz.prog 80 #[] w fun e w' => e = .returned (.agg (wds Sha.first.words).toArray) ∧ Below w.heap.size w w' := by
 have hz := Tryz.zeroW8
 have hrow : (w.alloc (.cells zero8 137)).heap[w.heap.size]? = some (.cells zero8 137 (0, 0)) := heap_alloc_new _ _
 go_enter Tryz.func80, Tryz.ntmps80
 go_wp2_with (first | refine wpList_buildTo rfl 137 _ rfl (some 1) rfl (wds Sha.first.words).toArray (by kernel_rfl) ?_ | refine wpList_store_row rfl 137 (.tmp 0) (.tmp 1) rfl w.heap.size (wds Sha.first.words).toArray rfl rfl 137 zero8 hrow Tryz.info8 (by kernel_rfl) (by kernel_rfl) ?_)
 exact ret_row rfl rfl w.heap.size 137 (wds Sha.first.words).toArray (0, 0) _ rfl (setRow_heap _ _ _ _ _ _ hrow) Tryz.underlying137 rfl Tryz.info8 ⟨rfl, below_row ((Below.refl _ _).alloc (Nat.le_refl _) _) (Nat.le_refl _) _⟩
end

section
open Go.RowKit
set_option linter.unusedVariables false
set_option linter.unusedSimpArgs false
theorem u32_in (n : Nat) (h : n < 4294967296) : IntKind.u32.wrap (n : Int) = n := by rw [IntKind.wrap_u32']; omega
theorem or_join (i q c : Nat) (hc : c < 2 ^ i) (hq : 2 ^ i * q + c < 4294967296) : bits .or .u32 ((2 ^ i * q : Nat) : Int) (c : Int) = ((2 ^ i * q + c : Nat) : Int) := by
 rw [u32_or_nat _ _ (by omega) (by omega), ← Nat.two_pow_add_eq_or_of_lt hc]
theorem u32_add (a b : Nat) : IntKind.u32.wrap ((a : Int) + (b : Int)) = (Sha.add a b : Nat) := by
 rw [IntKind.wrap_u32', Sha.add]; omega
theorem late_bits {p : Nat} (h : p < 4294967296) : bits .xor .u32 (bits .xor .u32 (Sha.rot p 17 : Nat) (Sha.rot p 19 : Nat)) ((p : Int) / 1024) = (Sha.late p : Nat) := by
 rw [u32_xor_nat _ _ (Sha.rot_lt _ h) (Sha.rot_lt _ h), show ((p : Int) / 1024) = ((p / 1024 : Nat) : Int) by omega, u32_xor_nat _ _ (Sha.xor_lt (Sha.rot_lt _ h) (Sha.rot_lt _ h)) (Sha.div_lt _ h)]
 rfl
theorem early_bits {p : Nat} (h : p < 4294967296) : bits .xor .u32 (bits .xor .u32 (Sha.rot p 7 : Nat) (Sha.rot p 18 : Nat)) ((p : Int) / 8) = (Sha.early p : Nat) := by
 rw [u32_xor_nat _ _ (Sha.rot_lt _ h) (Sha.rot_lt _ h), show ((p : Int) / 8) = ((p / 8 : Nat) : Int) by omega, u32_xor_nat _ _ (Sha.xor_lt (Sha.rot_lt _ h) (Sha.rot_lt _ h)) (Sha.div_lt _ h)]
 rfl
structure Fill (w wr : World) (r B : Nat) (A : List Nat) : Prop where
 res : wr.heap[r]? = some (.cells zero64 139 (0, 0))
 arr : wr.heap[B]? = some (.cells (wds A).toArray 139 (0, 0))
 len : A.length = 64
 wds : Sha.Words A
 below : Below w.heap.size w wr
theorem Fill.cell {w wr : World} {r B : Nat} {A : List Nat} (h : Fill w wr r B A) (i : Nat) (hi : i < 64) : wr.cell? ⟨B, i, none⟩ = some (.int .u32 (A.getD i 0 : Nat)) := by
 rw [cell_of_row _ _ _ _ _ _ h.arr, List.getElem?_toArray, wds_at (by rw [h.len]; exact hi)]
theorem Fill.frozen {w wr : World} {r B : Nat} {A : List Nat} (h : Fill w wr r B A) (i : Nat) : wr.frozen? ⟨B, i, none⟩ = false := frozen_of_row _ _ _ _ _ h.arr
theorem Fill.drew {w wr : World} {r B : Nat} {A : List Nat} (h : Fill w wr r B A) : Fill w wr.drew r B A := ⟨h.res, h.arr, h.len, h.wds, ⟨h.below.os, h.below.tape, h.below.output, h.below.size, h.below.block⟩⟩
theorem Fill.drewN {w wr : World} {r B : Nat} {A : List Nat} (h : Fill w wr r B A) (n : Nat) : Fill w (wr.drewN n) r B A := ⟨h.res, h.arr, h.len, h.wds, ⟨h.below.os, h.below.tape, h.below.output, h.below.size, h.below.block⟩⟩
theorem Fill.set {w wr : World} {r B : Nat} {A : List Nat} (h : Fill w wr r B A) (hr : r ≠ B) (hB : w.heap.size ≤ B) (i v : Nat) (hv : v < 4294967296) : Fill w (wr.setCell ⟨B, i, none⟩ (.int .u32 v)) r B (A.set i v) := by
 refine ⟨by rw [heap_setCell_other _ _ _ _ hr]; exact h.res, ?_, by simp [h.len], h.wds.set i hv, ?_⟩
 ·rw [heap_setCell_same _ _ _ _ _ _ h.arr, List.setIfInBounds_toArray, wds_set]
 ·exact ⟨h.below.os, h.below.tape, h.below.output, by rw [World.size_setCell]; exact h.below.size, fun k hk => (heap_setCell_other _ _ _ _ (by show k ≠ B; omega)).trans (h.below.block k hk)⟩
set_option maxHeartbeats 1600000 in
set_option maxRecDepth 100000 in
theorem spread_ok (b o : Nat) (bs : List UInt8) (w : World) (hl : bs.length = 64) (hb : b < w.heap.size) (hc : ∀ i, i < 64 → w.cell? ⟨b, o + i, none⟩ = some (.int .u8 (bs.getD i 0).toNat)) :
  Calls Tryz.prog 135 #[.pointer (some ⟨b, o, none⟩)] w fun e w' => e = .returned (.agg (wds (Sha.spread bs)).toArray) ∧ Below w.heap.size w w' := by
 have hz := Tryz.zeroW64
 have HF : Hid (Fill w ((w.alloc (.cells zero64 139)).alloc (.cells zero64 139)) w.heap.size (w.heap.size + 1) (Sha.lay bs 0)) :=
  ⟨heap_alloc2_old _ _ _, heap_alloc2_new _ _ _, by simp [Sha.lay], Sha.lay_words bs 0, ((Below.refl _ _).alloc (Nat.le_refl _) _).alloc (by simp) _⟩
 have HC : Hid (∀ i, i < 64 → w.cell? ⟨b, o + i, none⟩ = some (.int .u8 (bs.getD i 0).toNat)) := hc
 clear hc
 go_enter Tryz.func135, Tryz.ntmps135
 go_wp2
 obtain ⟨r, hr⟩ : ∃ r, r = w.heap.size := ⟨_, rfl⟩
 obtain ⟨B, hB⟩ : ∃ B, B = w.heap.size + 1 := ⟨_, rfl⟩
 rw [← hB, ← hr] at HF ⊢
 have hrB : Hid (r ≠ B ∧ w.heap.size ≤ B ∧ b ≠ B ∧ w.heap.size ≤ r) := ⟨by omega, by omega, by omega, by omega⟩
 clear hr hB
 generalize (w.alloc _).alloc _ = w1 at HF ⊢
 go_loopw [8, 4] (fun x y wr => ∃ k : Nat, k ≤ 16 ∧ x = .int .i64 k ∧ Hid (Fill w wr r B (Sha.lay bs k))) (fun x y wr => 16 - (intOf x).toNat)
 case atStart => exact ⟨0, by omega, rfl, HF⟩
 case round =>
  clear HF
  obtain ⟨k, hk, rfl, HR⟩ := hrel
  by_cases hlt : k < 16
  ·have hcell : ∀ i, i < 64 → wr.cell? ⟨b, o + i, none⟩ = some (.int .u8 (bs.getD i 0).toNat) := fun i hi => by
    have := HR.out.below.cell (p := ⟨b, o + i, none⟩) hb
    rw [this]; exact HC.out i hi
   obtain ⟨j0, hj0⟩ : ∃ j, j = 4 * k := ⟨_, rfl⟩
   obtain ⟨j1, hj1⟩ : ∃ j, j = 4 * k + 1 := ⟨_, rfl⟩
   obtain ⟨j2, hj2⟩ : ∃ j, j = 4 * k + 2 := ⟨_, rfl⟩
   obtain ⟨j3, hj3⟩ : ∃ j, j = 4 * k + 3 := ⟨_, rfl⟩
   have HJ : Hid (j0 = 4 * k ∧ j1 = 4 * k + 1 ∧ j2 = 4 * k + 2 ∧ j3 = 4 * k + 3) := ⟨hj0, hj1, hj2, hj3⟩
   have l0 : (j0 : Int) < 64 := by omega
   have l1 : (j1 : Int) < 64 := by omega
   have l2 : (j2 : Int) < 64 := by omega
   have l3 : (j3 : Int) < 64 := by omega
   have w0 : IntKind.i64.wrap (4 * (k : Int)) = j0 := by rw [IntWalk.i64_in _ (by omega)]; omega
   have w1' : IntKind.i64.wrap ((j0 : Int) + 1) = j1 := by rw [IntWalk.i64_in _ (by omega)]; omega
   have w2 : IntKind.i64.wrap ((j0 : Int) + 2) = j2 := by rw [IntWalk.i64_in _ (by omega)]; omega
   have w3 : IntKind.i64.wrap ((j0 : Int) + 3) = j3 := by rw [IntWalk.i64_in _ (by omega)]; omega
   have c0 := hcell j0 (by omega)
   have c1 := hcell j1 (by omega)
   have c2 := hcell j2 (by omega)
   have c3 := hcell j3 (by omega)
   have HW : Hid (Sha.wordAt bs k = Sha.word (bs.getD j0 0) (bs.getD j1 0) (bs.getD j2 0) (bs.getD j3 0)) := by
    show _ = _
    rw [hj0, hj1, hj2, hj3]; rfl
   clear hj0 hj1 hj2 hj3
   generalize bs.getD j0 0 = x0 at c0 HW
   generalize bs.getD j1 0 = x1 at c1 HW
   generalize bs.getD j2 0 = x2 at c2 HW
   generalize bs.getD j3 0 = x3 at c3 HW
   have b0 := x0.toNat_lt
   have b1 := x1.toNat_lt
   have b2 := x2.toNat_lt
   have b3 := x3.toNat_lt
   have HW : Hid (Sha.wordAt bs k = x0.toNat * 16777216 + x1.toNat * 65536 + x2.toNat * 256 + x3.toNat) := HW.out
   generalize x0.toNat = y0 at c0 b0 HW
   generalize x1.toNat = y1 at c1 b1 HW
   generalize x2.toNat = y2 at c2 b2 HW
   generalize x3.toNat = y3 at c3 b3 HW
   have v0 := u32_in y0 (by omega)
   have v1 := u32_in y1 (by omega)
   have v2 := u32_in y2 (by omega)
   have v3 := u32_in y3 (by omega)
   obtain ⟨m0, hm0⟩ : ∃ m, m = y0 * 16777216 := ⟨_, rfl⟩
   obtain ⟨m1, hm1⟩ : ∃ m, m = y1 * 65536 := ⟨_, rfl⟩
   obtain ⟨m2, hm2⟩ : ∃ m, m = y2 * 256 := ⟨_, rfl⟩
   obtain ⟨n1, hn1⟩ : ∃ m, m = y0 * 16777216 + y1 * 65536 := ⟨_, rfl⟩
   obtain ⟨n2, hn2⟩ : ∃ m, m = y0 * 16777216 + y1 * 65536 + y2 * 256 := ⟨_, rfl⟩
   obtain ⟨n3, hn3⟩ : ∃ m, m = y0 * 16777216 + y1 * 65536 + y2 * 256 + y3 := ⟨_, rfl⟩
   have s0 : IntKind.u32.wrap ((y0 : Int) * 16777216) = m0 := by rw [IntKind.wrap_u32']; omega
   have s1 : IntKind.u32.wrap ((y1 : Int) * 65536) = m1 := by rw [IntKind.wrap_u32']; omega
   have s2 : IntKind.u32.wrap ((y2 : Int) * 256) = m2 := by rw [IntKind.wrap_u32']; omega
   have o1 : bits .or .u32 (m0 : Int) (m1 : Int) = n1 := by
    have := or_join 24 y0 m1 (by omega) (by omega)
    rw [show 2 ^ 24 * y0 = m0 by omega] at this
    rw [this]; omega
   have o2 : bits .or .u32 (n1 : Int) (m2 : Int) = n2 := by
    have := or_join 16 (y0 * 256 + y1) m2 (by omega) (by omega)
    rw [show 2 ^ 16 * (y0 * 256 + y1) = n1 by omega] at this
    rw [this]; omega
   have o3 : bits .or .u32 (n2 : Int) (y3 : Int) = n3 := by
    have := or_join 8 (y0 * 65536 + y1 * 256 + y2) y3 (by omega) (by omega)
    rw [show 2 ^ 8 * (y0 * 65536 + y1 * 256 + y2) = n2 by omega] at this
    rw [this]; omega
   have HN : Hid (Sha.wordAt bs k = n3) := HW.out.trans hn3.symm
   have hn3b : n3 < 4294967296 := by omega
   clear hm0 hm1 hm2 hn1 hn2 hn3 HW b0 b1 b2 b3
   have ct := HR.out.cell k (by omega)
   have lk : (k : Int) < 64 := by omega
   have ft := HR.out.frozen k
   clear hcell
   go_wp2
   go_still_tail 39, Tryz.followsD
   rw [World.drew_eq]
   have HS : Hid (Fill w (wr.drew.setCell ⟨B, k, none⟩ (.int .u32 n3)) r B (Sha.lay bs (k + 1))) := by
    have := HR.out.drew.set hrB.out.1 hrB.out.2.1 k n3 hn3b
    show Fill _ _ _ _ _
    rw [Sha.lay, HN.out]; exact this
   go_wp2
   go_roundw
   case rel => exact ⟨k + 1, by omega, by go_num, HS⟩
   case measure => simp [intOf]; omega
  ·obtain rfl : k = 16 := by omega
   clear hlt hk HC hl
   go_wp2
   go_loopw [5, 6, 7] (fun x y z wr => ∃ t : Nat, 16 ≤ t ∧ t ≤ 64 ∧ x = .int .i64 t ∧ Hid (Fill w wr r B (Sha.more (Sha.lay bs 16) (t - 16)))) (fun x y z wr => 64 - (intOf x).toNat)
   case atStart => exact ⟨16, by omega, by omega, rfl, HR⟩
   case round =>
    clear HR
    obtain ⟨t, ht0, ht, rfl, HR⟩ := hrel
    by_cases hlt : t < 64
    ·obtain ⟨t2, h2⟩ : ∃ j, j = t - 2 := ⟨_, rfl⟩
     obtain ⟨t15, h15⟩ : ∃ j, j = t - 15 := ⟨_, rfl⟩
     obtain ⟨t7, h7⟩ : ∃ j, j = t - 7 := ⟨_, rfl⟩
     obtain ⟨t16, h16⟩ : ∃ j, j = t - 16 := ⟨_, rfl⟩
     have e2 : IntKind.i64.wrap ((t : Int) - 2) = t2 := by rw [IntWalk.i64_in _ (by omega)]; omega
     have e15 : IntKind.i64.wrap ((t : Int) - 15) = t15 := by rw [IntWalk.i64_in _ (by omega)]; omega
     have e7 : IntKind.i64.wrap ((t : Int) - 7) = t7 := by rw [IntWalk.i64_in _ (by omega)]; omega
     have e16 : IntKind.i64.wrap ((t : Int) - 16) = t16 := by rw [IntWalk.i64_in _ (by omega)]; omega
     have l2 : (t2 : Int) < 64 := by omega
     have l15 : (t15 : Int) < 64 := by omega
     have l7 : (t7 : Int) < 64 := by omega
     have l16 : (t16 : Int) < 64 := by omega
     have lt : (t : Int) < 64 := by omega
     have c2 := HR.out.cell t2 (by omega)
     have c15 := HR.out.cell t15 (by omega)
     have c7 := HR.out.cell t7 (by omega)
     have c16 := HR.out.cell t16 (by omega)
     have ct := HR.out.cell t (by omega)
     have ft := HR.out.frozen t
     have hW := HR.out.wds
     have b2 := hW t2
     have b15 := hW t15
     have b7 := hW t7
     have b16 := hW t16
     have HM : Hid (Sha.more (Sha.lay bs 16) (t + 1 - 16) = (Sha.more (Sha.lay bs 16) (t - 16)).set t (Sha.grow ((Sha.more (Sha.lay bs 16) (t - 16)).getD t2 0) ((Sha.more (Sha.lay bs 16) (t - 16)).getD t7 0) ((Sha.more (Sha.lay bs 16) (t - 16)).getD t15 0) ((Sha.more (Sha.lay bs 16) (t - 16)).getD t16 0))) := by
      show _ = _
      rw [show t + 1 - 16 = (t - 16) + 1 by omega]
      simp only [Sha.more]
      rw [show 16 + (t - 16) = t by omega, show 14 + (t - 16) = t2 by omega, show 9 + (t - 16) = t7 by omega, show 1 + (t - 16) = t15 by omega, show t - 16 = t16 by omega]
     clear h2 h15 h7 h16 hW
     generalize (Sha.more (Sha.lay bs 16) (t - 16)).getD t2 0 = p at c2 b2 HM
     generalize (Sha.more (Sha.lay bs 16) (t - 16)).getD t15 0 = q at c15 b15 HM
     generalize (Sha.more (Sha.lay bs 16) (t - 16)).getD t7 0 = g at c7 b7 HM
     generalize (Sha.more (Sha.lay bs 16) (t - 16)).getD t16 0 = v at c16 b16 HM
     generalize (Sha.more (Sha.lay bs 16) (t - 16)).getD t 0 = old at ct
     have q1 := late_bits b2
     have q2 := early_bits b15
     have q3 := u32_add
     go_wp2
     go_quiet (fail)
     have HR2 : Hid (Fill w (wr.drewN nq) r B (Sha.more (Sha.lay bs 16) (t - 16))) := HR.out.drewN nq
     have d7 : (wr.drewN nq).cell? ⟨B, t7, none⟩ = _ := c7
     have d16 : (wr.drewN nq).cell? ⟨B, t16, none⟩ = _ := c16
     have dt : (wr.drewN nq).cell? ⟨B, t, none⟩ = _ := ct
     have gt : (wr.drewN nq).frozen? ⟨B, t, none⟩ = _ := ft
     clear HR c2 c15 c7 c16 ct ft
     generalize wr.drewN nq = wq at HR2 d7 d16 dt gt ⊢
     go_wp2
     refine wp_region_still_tail 29 Tryz.followsD (by kernel_rfl) ?_
     simp only [List.take_succ_cons, List.take_zero, List.drop_succ_cons, List.drop_zero]
     repeat still_step
     still_call (turned_ok p 17 _ b2 (by omega) (by omega))
     repeat still_step
     still_call (turned_ok p 19 _ b2 (by omega) (by omega))
     repeat still_step
     still_call (turned_ok q 7 _ b15 (by omega) (by omega))
     repeat still_step
     still_call (turned_ok q 18 _ b15 (by omega) (by omega))
     repeat still_step
     refine wpStill_nil ?_
     rw [World.drew_eq]
     have HS : Hid (Fill w (wq.drew.setCell ⟨B, t, none⟩ (.int .u32 (Sha.add (Sha.add (Sha.add (Sha.late p) g) (Sha.early q)) v : Nat))) r B (Sha.more (Sha.lay bs 16) (t + 1 - 16))) := by
      have := HR2.out.drew.set hrB.out.1 hrB.out.2.1 t (Sha.grow p g q v) (Sha.grow_lt _ _ _ _)
      show Fill _ _ _ _ _
      rw [HM.out]; exact this
     go_wp2
     go_roundw
     case rel => first | exact ⟨t + 1, by omega, by omega, by go_num, HS⟩ | ((repeat apply Exists.intro); exact ⟨⟨t + 1, by omega, by omega, by go_num, HS⟩, rfl⟩)
     case measure => simp [intOf]; omega
    ·obtain rfl : t = 64 := by omega
     have h1 := HR.out.arr
     have h2 := HR.out.res
     have hlen : (wds (Sha.more (Sha.lay bs 16) (64 - 16))).toArray.size = 64 := by simp [wds_len, HR.out.len]
     have hinf : (Tryz.prog.info? 139).map (·.size) = some (wds (Sha.more (Sha.lay bs 16) (64 - 16))).toArray.size := by rw [hlen]; exact Tryz.info64
     have hone : (wds (Sha.more (Sha.lay bs 16) (64 - 16))).toArray.all (·.oneCell') = true := Array.all_eq_true_iff_forall_mem.2 fun v hv => wds_oneCell _ v (by simpa using hv)
     have hz0 : zero64.size = (wds (Sha.more (Sha.lay bs 16) (64 - 16))).toArray.size := by rw [hlen]; rfl
     go_wp2_with (first | refine wpList_load_row rfl 139 (.tmp 3) rfl B rfl 139 _ (0, 0) _ h1 Tryz.underlying139 rfl hinf ?_ | refine wpList_store_row rfl 139 (.tmp 2) (.tmp 92) rfl r (wds (Sha.more (Sha.lay bs 16) (64 - 16))).toArray rfl rfl 139 zero64 h2 hinf hz0 hone ?_)
     exact ret_row rfl rfl r 139 _ (0, 0) _ rfl (setRow_heap _ _ _ _ _ _ h2) Tryz.underlying139 rfl hinf ⟨rfl, below_row HR.out.below hrB.out.2.2.2 _⟩
end

end Go.Proofs.YtmklodligplbaabGreat
