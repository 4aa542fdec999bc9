import Derived.Test.YtmklodligplbaabGreatRd6o
import Derived.Great.BuildSlice
import Derived.StillTailTactics
import Derived.Deep.RegionHeld3
import Derived.Laws.CopyOwn
import Derived.Deep.MidRow
open Go.RowKit
set_option linter.unusedVariables false
set_option linter.unusedSimpArgs false
set_option maxRecDepth 100000
set_option maxHeartbeats 0
namespace Go.Proofs.YtmklodligplbaabGreat
section
theorem rot_bits (x n : Nat) (hx : x < 4294967296) : bits .or .u32 ((x : Int) / 2 ^ n) ((x : Int) * 2 ^ (32 - n) % 4294967296) = (Sha.rot x n : Nat) := by
 have h := u32_or_nat (x / 2 ^ n) (x * 2 ^ (32 - n) % 4294967296) (Sha.div_lt _ hx) (Nat.mod_lt _ (by omega))
 unfold Sha.rot
 rw [<-h]
 simp
theorem turned_ok (x n : Nat) (w : World) (hx : x < 4294967296) (hn : n < 32) (hn0 : 0 < n) :
  Calls Tryz.prog 136 #[.int .u32 x, .int .u64 n] w fun e w' => e = .returned (.int .u32 (Sha.rot x n)) ∧ w' = w := by
 have hr := rot_bits x n hx
 go_enter Tryz.func136, Tryz.ntmps136
 go_wp2
 go_ret
 exact ⟨rfl, rfl⟩
theorem rturned_ok (x n : Nat) (w : World) (hx : x < 4294967296) (hn : n < 32) (hn0 : 0 < n) :
  Calls Tryz.prog 108 #[.int .u32 x, .int .i64 n] w fun e w' => e = .returned (.int .u32 (Sha.rot x n)) ∧ ∃ m, w' = w.drewN m := by
 have hr := rot_bits x n hx
 have h1 : (0 : Int) <= 32 - (n : Int) := by omega
 go_enter Tryz.func108, Tryz.ntmps108
 go_wp2
 go_quiet (fail)
 go_wp2
 go_ret
 exact ⟨rfl, _, rfl⟩
def wds (l : List Nat) : List Value := l.map fun (n : Nat) => Value.int .u32 (n : Int)
def zero64 : Array Value := (wds (List.replicate 64 0)).toArray
def zero8 : Array Value := (wds (List.replicate 8 0)).toArray
theorem Tryz.zeroW64 (W : World) : (zeroValue 139).run Tryz.prog W = .ok (.agg zero64) W := by kernel_rfl
theorem Tryz.zeroW8 (W : World) : (zeroValue 137).run Tryz.prog W = .ok (.agg zero8) W := by kernel_rfl
theorem wds_len (l : List Nat) : (wds l).length = l.length := by simp [wds]
theorem wds_at {l : List Nat} {i : Nat} (h : i < l.length) : (wds l)[i]? = some (.int .u32 (l.getD i 0 : Nat)) := by simp [wds, List.getElem?_eq_getElem h]
theorem wds_set (l : List Nat) (i v : Nat) : (wds l).set i (.int .u32 v) = wds (l.set i v) := by simp [wds, List.map_set]
theorem wds_oneCell (l : List Nat) : ∀ u ∈ wds l, u.oneCell' = true := by
 intro u hu
 simp only [wds, List.mem_map] at hu
 obtain ⟨x, _, rfl⟩ := hu
 rfl
theorem Tryz.info64 : (Tryz.prog.info? 139).map (·.size) = some 64 := by kernel_rfl
theorem Tryz.info8 : (Tryz.prog.info? 137).map (·.size) = some 8 := by kernel_rfl
theorem Tryz.followsD : Tryz.prog.follows .mixedOrders = true := by kernel_rfl
theorem ret_row {P : Program} {fn : Func} {p : Tmp} {ty : TypeId} {R : Ending -> World -> Prop} {a : Act} {w : World} (h : fn.results = #[.cell p ty]) (hd : a.defers = []) (g : Nat) (t : TypeId) (cs : Array Value) (fr : Nat × Nat) (d : TypeDesc)
  (hp : a.tmps.getD p undef = .pointer (some ⟨g, 0, none⟩)) (hg : w.heap[g]? = some (.cells cs t fr)) (hu : P.underlying ty = some d) (hx : (match d with | .struct _ | .array _ _ => true | _ => false) = true) (hi : (P.info? ty).map (·.size) = some cs.size)
  (hR : R (.returned (.agg cs)) w) : bodyPost P fn R .ret a w :=
 bodyPost_ret (results_cell_row h a.tmps w g t cs fr d hp hg hu hx hi) hd hR
theorem below_row {B : Nat} {w w1 : World} {g : Nat} (h : Below B w w1) (hg : B <= g) (cs : Array Value) : Below B w (w1.setRow g cs) :=
 ⟨h.os, h.tape, h.output, by rw [size_setRow]; exact h.size, fun k hk => (setRow_other w1 g k cs (by omega)).trans (h.block k hk)⟩
theorem table_ok (w : World) :
  Calls Tryz.prog 134 #[] w fun e w' => e = .returned (.agg (wds Sha.table).toArray) ∧ Below w.heap.size w w' := by
 have hz := Tryz.zeroW64
 have hrow : (w.alloc (.cells zero64 139)).heap[w.heap.size]? = some (.cells zero64 139 (0, 0)) := heap_alloc_new _ _
 go_enter Tryz.func134, Tryz.ntmps134
 go_wp2_with (first | refine wpList_buildTo rfl 139 _ rfl (some 1) rfl (wds Sha.table).toArray (by kernel_rfl) ?_ | refine wpList_store_row rfl 139 (.tmp 0) (.tmp 1) rfl w.heap.size (wds Sha.table).toArray rfl rfl 139 zero64 hrow Tryz.info64 (by kernel_rfl) (by kernel_rfl) ?_)
 exact ret_row rfl rfl w.heap.size 139 (wds Sha.table).toArray (0, 0) _ rfl (setRow_heap _ _ _ _ _ _ hrow) Tryz.underlying139 rfl Tryz.info64 ⟨rfl, below_row ((Below.refl _ _).alloc (Nat.le_refl _) _) (Nat.le_refl _) _⟩
theorem rtable_ok (w : World) :
  Calls Tryz.prog 81 #[] w fun e w' => e = .returned (.agg (wds Sha.table).toArray) ∧ Below w.heap.size w w' := by
 have hz := Tryz.zeroW64
 have hrow : (w.alloc (.cells zero64 139)).heap[w.heap.size]? = some (.cells zero64 139 (0, 0)) := heap_alloc_new _ _
 go_enter Tryz.func81, Tryz.ntmps81
 go_wp2_with (first | refine wpList_buildTo rfl 139 _ rfl (some 1) rfl (wds Sha.table).toArray (by kernel_rfl) ?_ | refine wpList_store_row rfl 139 (.tmp 0) (.tmp 1) rfl w.heap.size (wds Sha.table).toArray rfl rfl 139 zero64 hrow Tryz.info64 (by kernel_rfl) (by kernel_rfl) ?_)
 exact ret_row rfl rfl w.heap.size 139 (wds Sha.table).toArray (0, 0) _ rfl (setRow_heap _ _ _ _ _ _ hrow) Tryz.underlying139 rfl Tryz.info64 ⟨rfl, below_row ((Below.refl _ _).alloc (Nat.le_refl _) _) (Nat.le_refl _) _⟩
theorem first_ok (w : World) :
  Calls Tryz.prog 127 #[] w fun e w' => e = .returned (.agg (wds Sha.first.words).toArray) ∧ Below w.heap.size w w' := by
 have hz := Tryz.zeroW8
 have hrow : (w.alloc (.cells zero8 137)).heap[w.heap.size]? = some (.cells zero8 137 (0, 0)) := heap_alloc_new _ _
 go_enter Tryz.func127, Tryz.ntmps127
 go_wp2_with (first | refine wpList_buildTo rfl 137 _ rfl (some 1) rfl (wds Sha.first.words).toArray (by kernel_rfl) ?_ | refine wpList_store_row rfl 137 (.tmp 0) (.tmp 1) rfl w.heap.size (wds Sha.first.words).toArray rfl rfl 137 zero8 hrow Tryz.info8 (by kernel_rfl) (by kernel_rfl) ?_)
 exact ret_row rfl rfl w.heap.size 137 (wds Sha.first.words).toArray (0, 0) _ rfl (setRow_heap _ _ _ _ _ _ hrow) Tryz.underlying137 rfl Tryz.info8 ⟨rfl, below_row ((Below.refl _ _).alloc (Nat.le_refl _) _) (Nat.le_refl _) _⟩
theorem rfirst_ok (w : World) :
  Calls Tryz.prog 80 #[] w fun e w' => e = .returned (.agg (wds Sha.first.words).toArray) ∧ Below w.heap.size w w' := by
 have hz := Tryz.zeroW8
 have hrow : (w.alloc (.cells zero8 137)).heap[w.heap.size]? = some (.cells zero8 137 (0, 0)) := heap_alloc_new _ _
 go_enter Tryz.func80, Tryz.ntmps80
 go_wp2_with (first | refine wpList_buildTo rfl 137 _ rfl (some 1) rfl (wds Sha.first.words).toArray (by kernel_rfl) ?_ | refine wpList_store_row rfl 137 (.tmp 0) (.tmp 1) rfl w.heap.size (wds Sha.first.words).toArray rfl rfl 137 zero8 hrow Tryz.info8 (by kernel_rfl) (by kernel_rfl) ?_)
 exact ret_row rfl rfl w.heap.size 137 (wds Sha.first.words).toArray (0, 0) _ rfl (setRow_heap _ _ _ _ _ _ hrow) Tryz.underlying137 rfl Tryz.info8 ⟨rfl, below_row ((Below.refl _ _).alloc (Nat.le_refl _) _) (Nat.le_refl _) _⟩
end

section
theorem u32_in (n : Nat) (h : n < 4294967296) : IntKind.u32.wrap (n : Int) = n := by rw [IntKind.wrap_u32']; omega
theorem or_join (i q c : Nat) (hc : c < 2 ^ i) (hq : 2 ^ i * q + c < 4294967296) : bits .or .u32 ((2 ^ i * q : Nat) : Int) (c : Int) = ((2 ^ i * q + c : Nat) : Int) := by
 rw [u32_or_nat _ _ (by omega) (by omega), <-Nat.two_pow_add_eq_or_of_lt hc]
theorem u32_add (a b : Nat) : IntKind.u32.wrap ((a : Int) + (b : Int)) = (Sha.add a b : Nat) := by
 rw [IntKind.wrap_u32', Sha.add]; omega
theorem late_bits {p : Nat} (h : p < 4294967296) : bits .xor .u32 (bits .xor .u32 (Sha.rot p 17 : Nat) (Sha.rot p 19 : Nat)) ((p : Int) / 1024) = (Sha.late p : Nat) := by
 rw [u32_xor_nat _ _ (Sha.rot_lt _ h) (Sha.rot_lt _ h), show ((p : Int) / 1024) = ((p / 1024 : Nat) : Int) by omega, u32_xor_nat _ _ (Sha.xor_lt (Sha.rot_lt _ h) (Sha.rot_lt _ h)) (Sha.div_lt _ h)]
 rfl
theorem early_bits {p : Nat} (h : p < 4294967296) : bits .xor .u32 (bits .xor .u32 (Sha.rot p 7 : Nat) (Sha.rot p 18 : Nat)) ((p : Int) / 8) = (Sha.early p : Nat) := by
 rw [u32_xor_nat _ _ (Sha.rot_lt _ h) (Sha.rot_lt _ h), show ((p : Int) / 8) = ((p / 8 : Nat) : Int) by omega, u32_xor_nat _ _ (Sha.xor_lt (Sha.rot_lt _ h) (Sha.rot_lt _ h)) (Sha.div_lt _ h)]
 rfl
structure Fill (w wr : World) (r B : Nat) (A : List Nat) : Prop where
 res : wr.heap[r]? = some (.cells zero64 139 (0, 0))
 arr : wr.heap[B]? = some (.cells (wds A).toArray 139 (0, 0))
 len : A.length = 64
 wds : Sha.Words A
 below : Below w.heap.size w wr
theorem Fill.cell {w wr : World} {r B : Nat} {A : List Nat} (h : Fill w wr r B A) (i : Nat) (hi : i < 64) : wr.cell? ⟨B, i, none⟩ = some (.int .u32 (A.getD i 0 : Nat)) := by
 rw [cell_of_row _ _ _ _ _ _ h.arr, List.getElem?_toArray, wds_at (by rw [h.len]; exact hi)]
theorem Fill.frozen {w wr : World} {r B : Nat} {A : List Nat} (h : Fill w wr r B A) (i : Nat) : wr.frozen? ⟨B, i, none⟩ = false := frozen_of_row _ _ _ _ _ h.arr
theorem Fill.drew {w wr : World} {r B : Nat} {A : List Nat} (h : Fill w wr r B A) : Fill w wr.drew r B A := ⟨h.res, h.arr, h.len, h.wds, ⟨h.below.os, h.below.tape, h.below.output, h.below.size, h.below.block⟩⟩
theorem Fill.drewN {w wr : World} {r B : Nat} {A : List Nat} (h : Fill w wr r B A) (n : Nat) : Fill w (wr.drewN n) r B A := ⟨h.res, h.arr, h.len, h.wds, ⟨h.below.os, h.below.tape, h.below.output, h.below.size, h.below.block⟩⟩
theorem Fill.set {w wr : World} {r B : Nat} {A : List Nat} (h : Fill w wr r B A) (hr : r ≠ B) (hB : w.heap.size <= B) (i v : Nat) (hv : v < 4294967296) : Fill w (wr.setCell ⟨B, i, none⟩ (.int .u32 v)) r B (A.set i v) := by
 refine ⟨by rw [heap_setCell_other _ _ _ _ hr]; exact h.res, ?_, by simp [h.len], h.wds.set i hv, ?_⟩
 ·rw [heap_setCell_same _ _ _ _ _ _ h.arr, List.setIfInBounds_toArray, wds_set]
 ·exact ⟨h.below.os, h.below.tape, h.below.output, by rw [World.size_setCell]; exact h.below.size, fun k hk => (heap_setCell_other _ _ _ _ (by show k ≠ B; omega)).trans (h.below.block k hk)⟩
theorem spread_ok (b o : Nat) (bs : List UInt8) (w : World) (hl : bs.length = 64) (hb : b < w.heap.size) (hc : ∀ i, i < 64 -> w.cell? ⟨b, o + i, none⟩ = some (.int .u8 (bs.getD i 0).toNat)) :
  Calls Tryz.prog 135 #[.pointer (some ⟨b, o, none⟩)] w fun e w' => e = .returned (.agg (wds (Sha.spread bs)).toArray) ∧ Below w.heap.size w w' := by
 have hz := Tryz.zeroW64
 have HF : Hid (Fill w ((w.alloc (.cells zero64 139)).alloc (.cells zero64 139)) w.heap.size (w.heap.size + 1) (Sha.lay bs 0)) :=
  ⟨heap_alloc2_old _ _ _, heap_alloc2_new _ _ _, by simp [Sha.lay], Sha.lay_words bs 0, ((Below.refl _ _).alloc (Nat.le_refl _) _).alloc (by simp) _⟩
 have HC : Hid (∀ i, i < 64 -> w.cell? ⟨b, o + i, none⟩ = some (.int .u8 (bs.getD i 0).toNat)) := hc
 clear hc
 go_enter Tryz.func135, Tryz.ntmps135
 go_wp2
 obtain ⟨r, hr⟩ : ∃ r, r = w.heap.size := ⟨_, rfl⟩
 obtain ⟨B, hB⟩ : ∃ B, B = w.heap.size + 1 := ⟨_, rfl⟩
 rw [<-hB, <-hr] at HF ⊢
 have hrB : Hid (r ≠ B ∧ w.heap.size <= B ∧ b ≠ B ∧ w.heap.size <= r) := ⟨by omega, by omega, by omega, by omega⟩
 clear hr hB
 generalize (w.alloc _).alloc _ = w1 at HF ⊢
 go_loopw [8, 4] (fun x y wr => ∃ k : Nat, k <= 16 ∧ x = .int .i64 k ∧ Hid (Fill w wr r B (Sha.lay bs k))) (fun x y wr => 16 - (intOf x).toNat)
 case atStart => exact ⟨0, by omega, rfl, HF⟩
 case round =>
  clear HF
  obtain ⟨k, hk, rfl, HR⟩ := hrel
  by_cases hlt : k < 16
  ·have hcell : ∀ i, i < 64 -> wr.cell? ⟨b, o + i, none⟩ = some (.int .u8 (bs.getD i 0).toNat) := fun i hi => by
    have := HR.out.below.cell (p := ⟨b, o + i, none⟩) hb
    rw [this]; exact HC.out i hi
   obtain ⟨j0, hj0⟩ : ∃ j, j = 4 * k := ⟨_, rfl⟩
   obtain ⟨j1, hj1⟩ : ∃ j, j = 4 * k + 1 := ⟨_, rfl⟩
   obtain ⟨j2, hj2⟩ : ∃ j, j = 4 * k + 2 := ⟨_, rfl⟩
   obtain ⟨j3, hj3⟩ : ∃ j, j = 4 * k + 3 := ⟨_, rfl⟩
   have HJ : Hid (j0 = 4 * k ∧ j1 = 4 * k + 1 ∧ j2 = 4 * k + 2 ∧ j3 = 4 * k + 3) := ⟨hj0, hj1, hj2, hj3⟩
   have l0 : (j0 : Int) < 64 := by omega
   have l1 : (j1 : Int) < 64 := by omega
   have l2 : (j2 : Int) < 64 := by omega
   have l3 : (j3 : Int) < 64 := by omega
   have w0 : IntKind.i64.wrap (4 * (k : Int)) = j0 := by rw [IntWalk.i64_in _ (by omega)]; omega
   have w1' : IntKind.i64.wrap ((j0 : Int) + 1) = j1 := by rw [IntWalk.i64_in _ (by omega)]; omega
   have w2 : IntKind.i64.wrap ((j0 : Int) + 2) = j2 := by rw [IntWalk.i64_in _ (by omega)]; omega
   have w3 : IntKind.i64.wrap ((j0 : Int) + 3) = j3 := by rw [IntWalk.i64_in _ (by omega)]; omega
   have c0 := hcell j0 (by omega)
   have c1 := hcell j1 (by omega)
   have c2 := hcell j2 (by omega)
   have c3 := hcell j3 (by omega)
   have HW : Hid (Sha.wordAt bs k = Sha.word (bs.getD j0 0) (bs.getD j1 0) (bs.getD j2 0) (bs.getD j3 0)) := by
    show _ = _
    rw [hj0, hj1, hj2, hj3]; rfl
   clear hj0 hj1 hj2 hj3
   generalize bs.getD j0 0 = x0 at c0 HW
   generalize bs.getD j1 0 = x1 at c1 HW
   generalize bs.getD j2 0 = x2 at c2 HW
   generalize bs.getD j3 0 = x3 at c3 HW
   have b0 := x0.toNat_lt
   have b1 := x1.toNat_lt
   have b2 := x2.toNat_lt
   have b3 := x3.toNat_lt
   have HW : Hid (Sha.wordAt bs k = x0.toNat * 16777216 + x1.toNat * 65536 + x2.toNat * 256 + x3.toNat) := HW.out
   generalize x0.toNat = y0 at c0 b0 HW
   generalize x1.toNat = y1 at c1 b1 HW
   generalize x2.toNat = y2 at c2 b2 HW
   generalize x3.toNat = y3 at c3 b3 HW
   have v0 := u32_in y0 (by omega)
   have v1 := u32_in y1 (by omega)
   have v2 := u32_in y2 (by omega)
   have v3 := u32_in y3 (by omega)
   obtain ⟨m0, hm0⟩ : ∃ m, m = y0 * 16777216 := ⟨_, rfl⟩
   obtain ⟨m1, hm1⟩ : ∃ m, m = y1 * 65536 := ⟨_, rfl⟩
   obtain ⟨m2, hm2⟩ : ∃ m, m = y2 * 256 := ⟨_, rfl⟩
   obtain ⟨n1, hn1⟩ : ∃ m, m = y0 * 16777216 + y1 * 65536 := ⟨_, rfl⟩
   obtain ⟨n2, hn2⟩ : ∃ m, m = y0 * 16777216 + y1 * 65536 + y2 * 256 := ⟨_, rfl⟩
   obtain ⟨n3, hn3⟩ : ∃ m, m = y0 * 16777216 + y1 * 65536 + y2 * 256 + y3 := ⟨_, rfl⟩
   have s0 : IntKind.u32.wrap ((y0 : Int) * 16777216) = m0 := by rw [IntKind.wrap_u32']; omega
   have s1 : IntKind.u32.wrap ((y1 : Int) * 65536) = m1 := by rw [IntKind.wrap_u32']; omega
   have s2 : IntKind.u32.wrap ((y2 : Int) * 256) = m2 := by rw [IntKind.wrap_u32']; omega
   have o1 : bits .or .u32 (m0 : Int) (m1 : Int) = n1 := by
    have := or_join 24 y0 m1 (by omega) (by omega)
    rw [show 2 ^ 24 * y0 = m0 by omega] at this
    rw [this]; omega
   have o2 : bits .or .u32 (n1 : Int) (m2 : Int) = n2 := by
    have := or_join 16 (y0 * 256 + y1) m2 (by omega) (by omega)
    rw [show 2 ^ 16 * (y0 * 256 + y1) = n1 by omega] at this
    rw [this]; omega
   have o3 : bits .or .u32 (n2 : Int) (y3 : Int) = n3 := by
    have := or_join 8 (y0 * 65536 + y1 * 256 + y2) y3 (by omega) (by omega)
    rw [show 2 ^ 8 * (y0 * 65536 + y1 * 256 + y2) = n2 by omega] at this
    rw [this]; omega
   have HN : Hid (Sha.wordAt bs k = n3) := HW.out.trans hn3.symm
   have hn3b : n3 < 4294967296 := by omega
   clear hm0 hm1 hm2 hn1 hn2 hn3 HW b0 b1 b2 b3
   have ct := HR.out.cell k (by omega)
   have lk : (k : Int) < 64 := by omega
   have ft := HR.out.frozen k
   clear hcell
   go_wp2
   go_still_tail 39, Tryz.followsD
   rw [World.drew_eq]
   have HS : Hid (Fill w (wr.drew.setCell ⟨B, k, none⟩ (.int .u32 n3)) r B (Sha.lay bs (k + 1))) := by
    have := HR.out.drew.set hrB.out.1 hrB.out.2.1 k n3 hn3b
    show Fill _ _ _ _ _
    rw [Sha.lay, HN.out]; exact this
   go_wp2
   go_roundw
   case rel => exact ⟨k + 1, by omega, by go_num, HS⟩
   case measure => simp [intOf]; omega
  ·obtain rfl : k = 16 := by omega
   clear hlt hk HC hl
   go_wp2
   go_loopw [5, 6, 7] (fun x y z wr => ∃ t : Nat, 16 <= t ∧ t <= 64 ∧ x = .int .i64 t ∧ Hid (Fill w wr r B (Sha.more (Sha.lay bs 16) (t - 16)))) (fun x y z wr => 64 - (intOf x).toNat)
   case atStart => exact ⟨16, by omega, by omega, rfl, HR⟩
   case round =>
    clear HR
    obtain ⟨t, ht0, ht, rfl, HR⟩ := hrel
    by_cases hlt : t < 64
    ·obtain ⟨t2, h2⟩ : ∃ j, j = t - 2 := ⟨_, rfl⟩
     obtain ⟨t15, h15⟩ : ∃ j, j = t - 15 := ⟨_, rfl⟩
     obtain ⟨t7, h7⟩ : ∃ j, j = t - 7 := ⟨_, rfl⟩
     obtain ⟨t16, h16⟩ : ∃ j, j = t - 16 := ⟨_, rfl⟩
     have e2 : IntKind.i64.wrap ((t : Int) - 2) = t2 := by rw [IntWalk.i64_in _ (by omega)]; omega
     have e15 : IntKind.i64.wrap ((t : Int) - 15) = t15 := by rw [IntWalk.i64_in _ (by omega)]; omega
     have e7 : IntKind.i64.wrap ((t : Int) - 7) = t7 := by rw [IntWalk.i64_in _ (by omega)]; omega
     have e16 : IntKind.i64.wrap ((t : Int) - 16) = t16 := by rw [IntWalk.i64_in _ (by omega)]; omega
     have l2 : (t2 : Int) < 64 := by omega
     have l15 : (t15 : Int) < 64 := by omega
     have l7 : (t7 : Int) < 64 := by omega
     have l16 : (t16 : Int) < 64 := by omega
     have lt : (t : Int) < 64 := by omega
     have c2 := HR.out.cell t2 (by omega)
     have c15 := HR.out.cell t15 (by omega)
     have c7 := HR.out.cell t7 (by omega)
     have c16 := HR.out.cell t16 (by omega)
     have ct := HR.out.cell t (by omega)
     have ft := HR.out.frozen t
     have hW := HR.out.wds
     have b2 := hW t2
     have b15 := hW t15
     have b7 := hW t7
     have b16 := hW t16
     have HM : Hid (Sha.more (Sha.lay bs 16) (t + 1 - 16) = (Sha.more (Sha.lay bs 16) (t - 16)).set t (Sha.grow ((Sha.more (Sha.lay bs 16) (t - 16)).getD t2 0) ((Sha.more (Sha.lay bs 16) (t - 16)).getD t7 0) ((Sha.more (Sha.lay bs 16) (t - 16)).getD t15 0) ((Sha.more (Sha.lay bs 16) (t - 16)).getD t16 0))) := by
      show _ = _
      rw [show t + 1 - 16 = (t - 16) + 1 by omega]
      simp only [Sha.more]
      rw [show 16 + (t - 16) = t by omega, show 14 + (t - 16) = t2 by omega, show 9 + (t - 16) = t7 by omega, show 1 + (t - 16) = t15 by omega, show t - 16 = t16 by omega]
     clear h2 h15 h7 h16 hW
     generalize (Sha.more (Sha.lay bs 16) (t - 16)).getD t2 0 = p at c2 b2 HM
     generalize (Sha.more (Sha.lay bs 16) (t - 16)).getD t15 0 = q at c15 b15 HM
     generalize (Sha.more (Sha.lay bs 16) (t - 16)).getD t7 0 = g at c7 b7 HM
     generalize (Sha.more (Sha.lay bs 16) (t - 16)).getD t16 0 = v at c16 b16 HM
     generalize (Sha.more (Sha.lay bs 16) (t - 16)).getD t 0 = old at ct
     have q1 := late_bits b2
     have q2 := early_bits b15
     have q3 := u32_add
     go_wp2
     go_quiet (fail)
     have HR2 : Hid (Fill w (wr.drewN nq) r B (Sha.more (Sha.lay bs 16) (t - 16))) := HR.out.drewN nq
     have d7 : (wr.drewN nq).cell? ⟨B, t7, none⟩ = _ := c7
     have d16 : (wr.drewN nq).cell? ⟨B, t16, none⟩ = _ := c16
     have dt : (wr.drewN nq).cell? ⟨B, t, none⟩ = _ := ct
     have gt : (wr.drewN nq).frozen? ⟨B, t, none⟩ = _ := ft
     clear HR c2 c15 c7 c16 ct ft
     generalize wr.drewN nq = wq at HR2 d7 d16 dt gt ⊢
     go_wp2
     refine wp_region_still_tail 29 Tryz.followsD (by kernel_rfl) ?_
     simp only [List.take_succ_cons, List.take_zero, List.drop_succ_cons, List.drop_zero]
     repeat still_step
     still_call (turned_ok p 17 _ b2 (by omega) (by omega))
     repeat still_step
     still_call (turned_ok p 19 _ b2 (by omega) (by omega))
     repeat still_step
     still_call (turned_ok q 7 _ b15 (by omega) (by omega))
     repeat still_step
     still_call (turned_ok q 18 _ b15 (by omega) (by omega))
     repeat still_step
     refine wpStill_nil ?_
     rw [World.drew_eq]
     have HS : Hid (Fill w (wq.drew.setCell ⟨B, t, none⟩ (.int .u32 (Sha.add (Sha.add (Sha.add (Sha.late p) g) (Sha.early q)) v : Nat))) r B (Sha.more (Sha.lay bs 16) (t + 1 - 16))) := by
      have := HR2.out.drew.set hrB.out.1 hrB.out.2.1 t (Sha.grow p g q v) (Sha.grow_lt _ _ _ _)
      show Fill _ _ _ _ _
      rw [HM.out]; exact this
     go_wp2
     go_roundw
     case rel => first | exact ⟨t + 1, by omega, by omega, by go_num, HS⟩ | ((repeat apply Exists.intro); exact ⟨⟨t + 1, by omega, by omega, by go_num, HS⟩, rfl⟩)
     case measure => simp [intOf]; omega
    ·obtain rfl : t = 64 := by omega
     have h1 := HR.out.arr
     have h2 := HR.out.res
     have hlen : (wds (Sha.more (Sha.lay bs 16) (64 - 16))).toArray.size = 64 := by simp [wds_len, HR.out.len]
     have hinf : (Tryz.prog.info? 139).map (·.size) = some (wds (Sha.more (Sha.lay bs 16) (64 - 16))).toArray.size := by rw [hlen]; exact Tryz.info64
     have hone : (wds (Sha.more (Sha.lay bs 16) (64 - 16))).toArray.all (·.oneCell') = true := Array.all_eq_true_iff_forall_mem.2 fun v hv => wds_oneCell _ v (by simpa using hv)
     have hz0 : zero64.size = (wds (Sha.more (Sha.lay bs 16) (64 - 16))).toArray.size := by rw [hlen]; rfl
     go_wp2_with (first | refine wpList_load_row rfl 139 (.tmp 3) rfl B rfl 139 _ (0, 0) _ h1 Tryz.underlying139 rfl hinf ?_ | refine wpList_store_row rfl 139 (.tmp 2) (.tmp 92) rfl r (wds (Sha.more (Sha.lay bs 16) (64 - 16))).toArray rfl rfl 139 zero64 h2 hinf hz0 hone ?_)
     exact ret_row rfl rfl r 139 _ (0, 0) _ rfl (setRow_heap _ _ _ _ _ _ h2) Tryz.underlying139 rfl hinf ⟨rfl, below_row HR.out.below hrB.out.2.2.2 _⟩
end

section
theorem u32_add_mod (a b : Nat) : ((a : Int) + (b : Int)) % 4294967296 = (Sha.add a b : Nat) := by
 rw [Sha.add]; omega
theorem big1_bits {p : Nat} (h : p < 4294967296) : bits .xor .u32 (bits .xor .u32 (Sha.rot p 6 : Nat) (Sha.rot p 11 : Nat)) (Sha.rot p 25 : Nat) = (Sha.big1 p : Nat) := by
 rw [u32_xor_nat _ _ (Sha.rot_lt _ h) (Sha.rot_lt _ h), u32_xor_nat _ _ (Sha.xor_lt (Sha.rot_lt _ h) (Sha.rot_lt _ h)) (Sha.rot_lt _ h)]
 rfl
theorem big0_bits {p : Nat} (h : p < 4294967296) : bits .xor .u32 (bits .xor .u32 (Sha.rot p 2 : Nat) (Sha.rot p 13 : Nat)) (Sha.rot p 22 : Nat) = (Sha.big0 p : Nat) := by
 rw [u32_xor_nat _ _ (Sha.rot_lt _ h) (Sha.rot_lt _ h), u32_xor_nat _ _ (Sha.xor_lt (Sha.rot_lt _ h) (Sha.rot_lt _ h)) (Sha.rot_lt _ h)]
 rfl
theorem ones_xor {x : Nat} (h : x < 4294967296) : 4294967295 ^^^ x = 4294967295 - x := by
 have h1 : (BitVec.allOnes 32 ^^^ BitVec.ofNat 32 x).toNat = (~~~ (BitVec.ofNat 32 x)).toNat := by rw [BitVec.allOnes_xor]
 rw [BitVec.toNat_xor, BitVec.toNat_not, BitVec.toNat_allOnes, BitVec.toNat_ofNat, Nat.mod_eq_of_lt (by omega)] at h1
 simpa using h1
theorem not_bits {e : Nat} (h : e < 4294967296) : bits .xor .u32 IntKind.u32.max (e : Int) = (4294967295 - e : Nat) := by
 have := u32_xor_nat 4294967295 e (by omega) h
 rw [ones_xor h] at this
 exact this
theorem ch_bits {e f g : Nat} (he : e < 4294967296) (hf : f < 4294967296) (hg : g < 4294967296) :
  bits .xor .u32 (bits .and .u32 (e : Int) (f : Int)) (bits .and .u32 (bits .xor .u32 IntKind.u32.max (e : Int)) (g : Int)) = (Sha.ch e f g : Nat) := by
 rw [not_bits he, u32_and_nat _ _ he hf, u32_and_nat _ _ (by omega) hg, u32_xor_nat _ _ (Sha.and_lt _ he) (Sha.and_lt _ (by omega))]
 rfl
theorem maj_bits {a b c : Nat} (ha : a < 4294967296) (hb : b < 4294967296) (hc : c < 4294967296) :
  bits .xor .u32 (bits .xor .u32 (bits .and .u32 (a : Int) (b : Int)) (bits .and .u32 (a : Int) (c : Int))) (bits .and .u32 (b : Int) (c : Int)) = (Sha.maj a b c : Nat) := by
 rw [u32_and_nat _ _ ha hb, u32_and_nat _ _ ha hc, u32_and_nat _ _ hb hc, u32_xor_nat _ _ (Sha.and_lt _ ha) (Sha.and_lt _ ha), u32_xor_nat _ _ (Sha.xor_lt (Sha.and_lt _ ha) (Sha.and_lt _ ha)) (Sha.and_lt _ hb)]
 rfl
def summed (L R : List Nat) : Nat -> List Nat
 | 0 => L
 | i + 1 => (summed L R i).set i (Sha.add ((summed L R i).getD i 0) (R.getD i 0))
theorem summed_all (s r : Sha.S8) : summed s.words r.words 8 = (Sha.plus s r).words := rfl
theorem words_ok {s : Sha.S8} (h : s.Ok) : Sha.Words s.words := by
 intro i
 have h1 := h.a; have h2 := h.b; have h3 := h.c; have h4 := h.d; have h5 := h.e; have h6 := h.f; have h7 := h.g; have h8 := h.h
 unfold Sha.S8.words
 rcases i with _ | _ | _ | _ | _ | _ | _ | _ | i <;> simp [*]
structure Fill8 (w wr : World) (r B : Nat) (A : List Nat) : Prop where
 res : wr.heap[r]? = some (.cells zero8 137 (0, 0))
 arr : wr.heap[B]? = some (.cells (wds A).toArray 137 (0, 0))
 len : A.length = 8
 wds : Sha.Words A
 below : Below w.heap.size w wr
theorem Fill8.cell {w wr : World} {r B : Nat} {A : List Nat} (h : Fill8 w wr r B A) (i : Nat) (hi : i < 8) : wr.cell? ⟨B, i, none⟩ = some (.int .u32 (A.getD i 0 : Nat)) := by
 rw [cell_of_row _ _ _ _ _ _ h.arr, List.getElem?_toArray, wds_at (by rw [h.len]; exact hi)]
theorem Fill8.frozen {w wr : World} {r B : Nat} {A : List Nat} (h : Fill8 w wr r B A) (i : Nat) : wr.frozen? ⟨B, i, none⟩ = false := frozen_of_row _ _ _ _ _ h.arr
theorem Fill8.drew {w wr : World} {r B : Nat} {A : List Nat} (h : Fill8 w wr r B A) : Fill8 w wr.drew r B A := ⟨h.res, h.arr, h.len, h.wds, ⟨h.below.os, h.below.tape, h.below.output, h.below.size, h.below.block⟩⟩
theorem Fill8.drewN {w wr : World} {r B : Nat} {A : List Nat} (h : Fill8 w wr r B A) (n : Nat) : Fill8 w (wr.drewN n) r B A := ⟨h.res, h.arr, h.len, h.wds, ⟨h.below.os, h.below.tape, h.below.output, h.below.size, h.below.block⟩⟩
theorem Fill8.set {w wr : World} {r B : Nat} {A : List Nat} (h : Fill8 w wr r B A) (hr : r ≠ B) (hB : w.heap.size <= B) (i v : Nat) (hv : v < 4294967296) : Fill8 w (wr.setCell ⟨B, i, none⟩ (.int .u32 v)) r B (A.set i v) := by
 refine ⟨by rw [heap_setCell_other _ _ _ _ hr]; exact h.res, ?_, by simp [h.len], h.wds.set i hv, ?_⟩
 ·rw [heap_setCell_same _ _ _ _ _ _ h.arr, List.setIfInBounds_toArray, wds_set]
 ·exact ⟨h.below.os, h.below.tape, h.below.output, by rw [World.size_setCell]; exact h.below.size, fun k hk => (heap_setCell_other _ _ _ _ (by show k ≠ B; omega)).trans (h.below.block k hk)⟩
theorem Fill8.later {w wr w2 : World} {r B : Nat} {A : List Nat} (h : Fill8 w wr r B A) (hb : Below wr.heap.size wr w2) (hr : r < wr.heap.size) (hB : B < wr.heap.size) : Fill8 w w2 r B A :=
 ⟨(hb.block r hr).trans h.res, (hb.block B hB).trans h.arr, h.len, h.wds, h.below.trans (hb.mono h.below.size)⟩
theorem Tryz.index8 (s : Sha.S8) (i : Nat) (hi : i < 8) (W : World) : (Instr.index 137 (.agg (wds s.words).toArray) (.int .i64 i)).run Tryz.prog W = .ok (.int .u32 (s.words.getD i 0 : Nat)) W := by
 rcases i with _ | _ | _ | _ | _ | _ | _ | _ | i
 all_goals first | omega | kernel_rfl
theorem turn_ok (s : Sha.S8) (hs : s.Ok) (b o : Nat) (bs : List UInt8) (w : World) (hl : bs.length = 64) (hb : b < w.heap.size) (hc : ∀ i, i < 64 -> w.cell? ⟨b, o + i, none⟩ = some (.int .u8 (bs.getD i 0).toNat)) :
  Calls Tryz.prog 128 #[.agg (wds s.words).toArray, .pointer (some ⟨b, o, none⟩)] w fun e w' => e = .returned (.agg (wds (Sha.turn s bs).words).toArray) ∧ Below w.heap.size w w' := by
 have hz64 := Tryz.zeroW64
 have hz := Tryz.zeroW8
 obtain ⟨r, hr⟩ : ∃ r, r = w.heap.size + 1 := ⟨_, rfl⟩
 obtain ⟨S, hS⟩ : ∃ S, S = w.heap.size := ⟨_, rfl⟩
 have HF : Hid (Fill8 w ((w.alloc (.cells (wds s.words).toArray 137)).alloc (.cells zero8 137)) r S s.words) := by
  subst hr; subst hS
  exact ⟨heap_alloc2_new _ _ _, heap_alloc2_old _ _ _, rfl, words_ok hs, ((Below.refl _ _).alloc (Nat.le_refl _) _).alloc (by simp) _⟩
 have HC : Hid (∀ i, i < 64 -> w.cell? ⟨b, o + i, none⟩ = some (.int .u8 (bs.getD i 0).toNat)) := hc
 have HRS : Hid (r = w.heap.size + 1 ∧ S = w.heap.size) := ⟨hr, hS⟩
 clear hc
 go_enter Tryz.func128, Tryz.ntmps128
 go_wp2_with (fail)
 rw [<-hr, <-hS]
 have hS1 : Hid (w.heap.size < ((w.alloc (.cells (wds s.words).toArray 137)).alloc (.cells zero8 137)).heap.size ∧ r < ((w.alloc (.cells (wds s.words).toArray 137)).alloc (.cells zero8 137)).heap.size) := ⟨by simp; omega, by simp; omega⟩
 clear hr hS
 generalize (w.alloc _).alloc _ = w1 at HF hS1 ⊢
 refine (table_ok _).mono ?_
 rintro e w2 ⟨rfl, hb2⟩
 have HF2 : Hid (Fill8 w w2 r S s.words) := HF.out.later hb2 hS1.out.2 (by have := HRS.out; have := hS1.out; omega)
 have hS2 : Hid (r < w2.heap.size ∧ S < w2.heap.size) := ⟨Nat.lt_of_lt_of_le hS1.out.2 hb2.size, Nat.lt_of_lt_of_le (by have := HRS.out; have := hS1.out; omega) hb2.size⟩
 clear HF hb2 hS1
 go_wp2_with (fail)
 refine (spread_ok b o bs w2 hl (Nat.lt_of_lt_of_le hb HF2.out.below.size) (fun i hi => (HF2.out.below.cell (p := ⟨b, o + i, none⟩) hb).trans (HC.out i hi))).mono ?_
 rintro e w3 ⟨rfl, hb3⟩
 have HF3 : Hid (Fill8 w w3 r S s.words) := HF2.out.later hb3 hS2.out.1 hS2.out.2
 have hS3 : Hid (r < w3.heap.size ∧ S < w3.heap.size) := ⟨Nat.lt_of_lt_of_le hS2.out.1 hb3.size, Nat.lt_of_lt_of_le hS2.out.2 hb3.size⟩
 clear HF2 hb3 hS2 HC
 have hsp := Sha.spread_words bs
 have hspl := Sha.spread_len bs
 have HW : Hid (Sha.turn s bs = Sha.plus s (Sha.rounds (Sha.spread bs) s 64)) := rfl
 generalize Sha.spread bs = W at hsp hspl HW ⊢
 obtain ⟨K, hK⟩ : ∃ K, K = w3.heap.size := ⟨_, rfl⟩
 obtain ⟨V, hV⟩ : ∃ V, V = w3.heap.size + 1 := ⟨_, rfl⟩
 have hK1 : ((w3.alloc (.cells zero64 139)).alloc (.cells zero64 139)).heap[w3.heap.size]? = some (.cells zero64 139 (0, 0)) := heap_alloc2_old _ _ _
 have hV1 : ((w3.alloc (.cells zero64 139)).alloc (.cells zero64 139)).heap[w3.heap.size + 1]? = some (.cells zero64 139 (0, 0)) := heap_alloc2_new _ _ _
 have hV2 : (((w3.alloc (.cells zero64 139)).alloc (.cells zero64 139)).setRow w3.heap.size (wds Sha.table).toArray).heap[w3.heap.size + 1]? = some (.cells zero64 139 (0, 0)) := by rw [setRow_other _ _ _ _ (by omega)]; exact hV1
 have hWs : (wds W).toArray.size = 64 := by simp [wds_len, hspl]
 have hWi : (Tryz.prog.info? 139).map (·.size) = some (wds W).toArray.size := by rw [hWs]; exact Tryz.info64
 have hWo : (wds W).toArray.all (·.oneCell') = true := Array.all_eq_true_iff_forall_mem.2 fun v hv => wds_oneCell _ v (by simpa using hv)
 have hWz : zero64.size = (wds W).toArray.size := by rw [hWs]; rfl
 have HF4 : Hid (Fill8 w ((((w3.alloc (.cells zero64 139)).alloc (.cells zero64 139)).setRow w3.heap.size (wds Sha.table).toArray).setRow (w3.heap.size + 1) (wds W).toArray) r S s.words) := by
  refine HF3.out.later (below_row (below_row (((Below.refl _ _).alloc (Nat.le_refl _) _).alloc (by simp) _) (Nat.le_refl _) _) (by omega) _) hS3.out.1 hS3.out.2
 have ck : ∀ t, t < 64 -> ((((w3.alloc (.cells zero64 139)).alloc (.cells zero64 139)).setRow w3.heap.size (wds Sha.table).toArray).setRow (w3.heap.size + 1) (wds W).toArray).cell? ⟨w3.heap.size, t, none⟩ = some (.int .u32 (Sha.tb t : Nat)) := fun t ht => by
  rw [cell_setRow_other _ _ _ _ (by simp), cell_setRow_same _ _ _ _ _ _ _ hK1, List.getElem?_toArray, wds_at (by exact ht)]; rfl
 have cv : ∀ t, t < 64 -> ((((w3.alloc (.cells zero64 139)).alloc (.cells zero64 139)).setRow w3.heap.size (wds Sha.table).toArray).setRow (w3.heap.size + 1) (wds W).toArray).cell? ⟨w3.heap.size + 1, t, none⟩ = some (.int .u32 (W.getD t 0 : Nat)) := fun t ht => by
  rw [cell_setRow_same _ _ _ _ _ _ _ hV2, List.getElem?_toArray, wds_at (by rw [hspl]; exact ht)]
 have CK := (show Hid (_ ∧ _) from ⟨ck, cv⟩)
 clear ck cv HF3
 go_wp2_with (first | refine wpList_store_rowTo rfl 139 (.tmp 5) (.tmp 20) rfl rfl w3.heap.size (wds Sha.table).toArray rfl rfl 139 zero64 hK1 Tryz.info64 (by kernel_rfl) (by kernel_rfl) ?_ | refine wpList_store_rowTo rfl 139 (.tmp 6) (.tmp 22) rfl rfl (w3.heap.size + 1) (wds W).toArray rfl rfl 139 zero64 hV2 hWi hWz hWo ?_)
 clear hK1 hV1 hV2 hWs hWi hWo hWz hz64 hz
 rw [<-hV, <-hK] at CK HF4 ⊢
 clear hV hK
 generalize World.setRow _ _ _ = w4 at CK HF4 ⊢
 have c0 : w4.cell? ⟨S, 0, none⟩ = some (.int .u32 s.a) := HF4.out.cell 0 (by omega)
 have c1 : w4.cell? ⟨S, 1, none⟩ = some (.int .u32 s.b) := HF4.out.cell 1 (by omega)
 have c2 : w4.cell? ⟨S, 2, none⟩ = some (.int .u32 s.c) := HF4.out.cell 2 (by omega)
 have c3 : w4.cell? ⟨S, 3, none⟩ = some (.int .u32 s.d) := HF4.out.cell 3 (by omega)
 have c4 : w4.cell? ⟨S, 4, none⟩ = some (.int .u32 s.e) := HF4.out.cell 4 (by omega)
 have c5 : w4.cell? ⟨S, 5, none⟩ = some (.int .u32 s.f) := HF4.out.cell 5 (by omega)
 have c6 : w4.cell? ⟨S, 6, none⟩ = some (.int .u32 s.g) := HF4.out.cell 6 (by omega)
 have c7 : w4.cell? ⟨S, 7, none⟩ = some (.int .u32 s.h) := HF4.out.cell 7 (by omega)
 go_quiet (fail)
 go_wp2
 go_quiet (fail)
 go_wp2
 rw [World.drewN_drewN]
 clear c0 c1 c2 c3 c4 c5 c6 c7
 go_loopw [7, 8, 9, 10, 11, 12, 13, 14, 15, 16, 17, 39] (fun xa xb xc xd xe xf xg xh _ _ _ i wr => ∃ (t : Nat) (q : Sha.S8), t <= 64 ∧ i = .int .i64 t ∧ xa = .int .u32 q.a ∧ xb = .int .u32 q.b ∧ xc = .int .u32 q.c ∧ xd = .int .u32 q.d ∧ xe = .int .u32 q.e ∧ xf = .int .u32 q.f ∧ xg = .int .u32 q.g ∧ xh = .int .u32 q.h ∧ Hid (q = Sha.rounds W s t) ∧ Hid (∃ n, wr = w4.drewN n)) (fun _ _ _ _ _ _ _ _ _ _ _ i wr => 64 - (intOf i).toNat)
 case atStart => exact ⟨0, s, by omega, rfl, rfl, rfl, rfl, rfl, rfl, rfl, rfl, rfl, rfl, ⟨_, rfl⟩⟩
 case round =>
  obtain ⟨t, q, ht, rfl, rfl, rfl, rfl, rfl, rfl, rfl, rfl, rfl, HQ, HE⟩ := hrel
  by_cases hlt : t < 64
  ·have hq : q.Ok := by rw [HQ.out]; exact Sha.rounds_ok hs W t
   have HN : Hid (Sha.rounds W s (t + 1) = Sha.rnd q (Sha.tb t) (W.getD t 0)) := by
    show _ = _
    rw [HQ.out]; rfl
   have ck : wr.cell? ⟨K, t, none⟩ = some (.int .u32 (Sha.tb t : Nat)) := by obtain ⟨n, hn⟩ := HE.out; rw [hn]; exact CK.out.1 t hlt
   have cv : wr.cell? ⟨V, t, none⟩ = some (.int .u32 (W.getD t 0 : Nat)) := by obtain ⟨n, hn⟩ := HE.out; rw [hn]; exact CK.out.2 t hlt
   have hk := Sha.tb_lt t
   have hv := hsp t
   have lt : (t : Int) < 64 := by omega
   generalize Sha.tb t = kt at ck hk HN
   generalize W.getD t 0 = vt at cv hv HN
   obtain ⟨qa, qb, qc, qd, qe, qf, qg, qh⟩ := q
   obtain ⟨ha, hb', hc, hd, he, hf, hg, hh⟩ := hq
   dsimp only at ha hb' hc hd he hf hg hh
   have q1 := big1_bits he
   have q2 := ch_bits he hf hg
   have q3 := u32_add
   have q4 := big0_bits ha
   have q5 := maj_bits ha hb' hc
   have q6 := u32_add_mod
   have hsg : IntKind.u32.signed = false := rfl
   go_wp2
   go_quiet (first | (go_at_call_of 136 (Value.int IntKind.u64 6); exact Calls.quiet_of_same (turned_ok qe 6 _ he (by omega) (by omega))) | (go_at_call_of 136 (Value.int IntKind.u64 11); exact Calls.quiet_of_same (turned_ok qe 11 _ he (by omega) (by omega))) | (go_at_call_of 136 (Value.int IntKind.u64 25); exact Calls.quiet_of_same (turned_ok qe 25 _ he (by omega) (by omega))))
   have HE2 : Hid (∃ n, wr.drewN nq = w4.drewN n) := by obtain ⟨n, hn⟩ := HE.out; exact ⟨n + nq, by rw [hn, World.drewN_drewN]⟩
   clear HE ck cv
   generalize wr.drewN nq = wq at HE2 ⊢
   go_wp2_with (first | (go_at_call_of 136 (Value.int IntKind.u64 2); refine (turned_ok qa 2 _ ha (by omega) (by omega)).mono ?_; rintro e w' ⟨rfl, hw⟩; obtain rfl := hw.symm) | (go_at_call_of 136 (Value.int IntKind.u64 13); refine (turned_ok qa 13 _ ha (by omega) (by omega)).mono ?_; rintro e w' ⟨rfl, hw⟩; obtain rfl := hw.symm) | (go_at_call_of 136 (Value.int IntKind.u64 22); refine (turned_ok qa 22 _ ha (by omega) (by omega)).mono ?_; rintro e w' ⟨rfl, hw⟩; obtain rfl := hw.symm))
   go_roundw
   case rel => exact ⟨t + 1, _, by omega, by go_num, rfl, rfl, rfl, rfl, rfl, rfl, rfl, rfl, HN.out.symm, HE2⟩
   case measure => simp [intOf]; omega
  ·obtain rfl : t = 64 := by omega
   have hq : q.Ok := by rw [HQ.out]; exact Sha.rounds_ok hs W 64
   have HF5 : Hid (Fill8 w wr r S (summed s.words q.words 0)) := by obtain ⟨n, hn⟩ := HE.out; rw [hn]; exact HF4.out.drewN n
   have HT : Hid (Sha.turn s bs = Sha.plus s q) := by rw [HQ.out]; exact HW.out
   clear HF4 HE HQ CK hsp hspl HW hlt ht
   go_wp2_with (refine wpList_buildTo rfl 137 _ rfl (some 110) rfl (wds q.words).toArray (by kernel_rfl) ?_)
   have hix := Tryz.index8 q
   go_loopw [18, 19, 111] (fun _ _ i wr => ∃ k : Nat, k <= 8 ∧ i = .int .i64 k ∧ Hid (Fill8 w wr r S (summed s.words q.words k))) (fun _ _ i wr => 8 - (intOf i).toNat)
   case atStart => exact ⟨0, by omega, rfl, HF5⟩
   case round =>
    clear HF5
    obtain ⟨k, hk, rfl, HR⟩ := hrel
    by_cases hlt : k < 8
    ·have hx := fun W => Tryz.index8 q k hlt W
     have ck := HR.out.cell k hlt
     have fk := HR.out.frozen k
     have lt : (k : Int) < 8 := by omega
     have HN : Hid (Fill8 w (wr.setCell ⟨S, k, none⟩ (.int .u32 (Sha.add ((summed s.words q.words k).getD k 0) (q.words.getD k 0) : Nat))) r S (summed s.words q.words (k + 1))) :=
      HR.out.set (by have := HRS.out; omega) (by have := HRS.out; omega) k _ (Sha.add_lt _ _)
     generalize (summed s.words q.words k).getD k 0 = x at ck HN
     generalize q.words.getD k 0 = y at hx HN
     clear hix
     have q6 := u32_add_mod
     go_wp2
     go_roundw
     case rel => exact ⟨k + 1, by omega, by go_num, HN⟩
     case measure => simp [intOf]; omega
    ·obtain rfl : k = 8 := by omega
     have h1 := HR.out.arr
     have h2 := HR.out.res
     have hlen : (wds (summed s.words q.words 8)).toArray.size = 8 := by simp [wds_len, HR.out.len]
     have hinf : (Tryz.prog.info? 137).map (·.size) = some (wds (summed s.words q.words 8)).toArray.size := by rw [hlen]; exact Tryz.info8
     have hone : (wds (summed s.words q.words 8)).toArray.all (·.oneCell') = true := Array.all_eq_true_iff_forall_mem.2 fun v hv => wds_oneCell _ v (by simpa using hv)
     have hz0 : zero8.size = (wds (summed s.words q.words 8)).toArray.size := by rw [hlen]; rfl
     have HFIN : Hid (summed s.words q.words 8 = (Sha.turn s bs).words) := by
      show _ = _
      rw [HT.out, summed_all]
     clear hix
     generalize summed s.words q.words 8 = F at h1 hlen hinf hone hz0 HFIN HR
     go_wp2_with (first | refine wpList_load_row rfl 137 (.tmp 2) rfl S rfl 137 _ (0, 0) _ h1 Tryz.underlying137 rfl hinf ?_ | refine wpList_store_rowTo rfl 137 (.tmp 4) (.tmp 122) rfl rfl r (wds F).toArray rfl rfl 137 zero8 h2 hinf hz0 hone ?_)
     exact ret_row rfl rfl r 137 _ (0, 0) _ rfl (setRow_heap _ _ _ _ _ _ h2) Tryz.underlying137 rfl hinf ⟨by rw [HFIN.out], below_row HR.out.below (by have := HRS.out; omega) _⟩
end

section
theorem setCells_row : ∀ (vs : List Value) (w : World) (g o : Nat) (cur : List Value) (t : TypeId), w.heap[g]? = some (.cells cur.toArray t (0, 0)) -> o + vs.length <= cur.length →
  w.setCells g o vs = w.setRow g (cur.take o ++ (vs ++ cur.drop (o + vs.length))).toArray
 | [], w, g, o, cur, t, hg, hl => by
  simp only [World.setCells, List.nil_append, List.length_nil, Nat.add_zero, List.take_append_drop]
  cases w with
  | mk heap tape drawn os output =>
   unfold World.setRow
   congr 1
   apply Array.ext
   ·simp
   ·intro k h1 h2
    simp only [Array.getElem_modify]
    split
    ·rename_i hk
     subst hk
     have := (gs hg).2
     simp at this
     simp [this]
    ·rfl
 | v :: vs, w, g, o, cur, t, hg, hl => by
  simp only [List.length_cons] at hl
  have hs : w.setCell ⟨g, o, none⟩ v = w.setRow g (cur.set o v).toArray := by
   rw [setCell_eq_setRow w g o _ t (0, 0) v hg, List.setIfInBounds_toArray]
  have hg2 : (w.setRow g (cur.set o v).toArray).heap[g]? = some (.cells (cur.set o v).toArray t (0, 0)) := setRow_heap _ _ _ _ _ _ hg
  rw [World.setCells, hs, setCells_row vs _ g (o + 1) _ t hg2 (by simp; omega), setRow_setRow]
  congr 2
  apply List.ext_getElem?
  intro i
  simp only [List.length_cons, List.getElem?_append, List.length_take, List.length_set, List.getElem?_take, List.getElem?_drop, List.getElem?_set, List.getElem?_cons, List.length_append]
  by_cases h1 : i < o
  ·simp [h1, show i < o + 1 by omega, show i < min (o + 1) cur.length by omega, show i < min o cur.length by omega, show o ≠ i by omega]
  ·by_cases h2 : i = o
   ·subst h2
    simp [show i < min (i + 1) cur.length by omega, show ¬ i < min i cur.length by omega, show min i cur.length = i by omega, show i < cur.length by omega]
   ·have e1 : min (o + 1) cur.length = o + 1 := by omega
    have e2 : min o cur.length = o := by omega
    rw [e1, e2]
    simp only [show ¬ i < o + 1 by omega, show ¬ i < o by omega, if_false]
    have e3 : i - o = (i - (o + 1)) + 1 := by omega
    by_cases h3 : i - (o + 1) < vs.length
    ·simp [h3, e3, show (i - (o + 1) + 1) < vs.length + 1 by omega]
    ·simp [h3, e3, show ¬ (i - (o + 1) + 1) < vs.length + 1 by omega, show o ≠ o + 1 + vs.length + (i - (o + 1) - vs.length) by omega, show o + (vs.length + 1) + (i - (o + 1) - vs.length) = o + 1 + vs.length + (i - (o + 1) - vs.length) by omega]
theorem mid_row (A M M' Z : List Value) (h : M.length = M'.length) : (A ++ (M ++ Z)).take A.length ++ (M' ++ (A ++ (M ++ Z)).drop (A.length + M'.length)) = A ++ (M' ++ Z) := by
 rw [List.take_left' rfl, List.drop_append, List.drop_of_length_le (by omega), <-h]
 simp
def hrow (pre post : List Value) (st : List Nat) (blk : List UInt8) (n : Nat) : List Value := pre ++ (wds st ++ (bys blk ++ (Value.int .u64 n :: post)))
structure Hp (w : World) (b : Nat) (ty : TypeId) (pre post : List Value) (st : List Nat) (blk : List UInt8) (n : Nat) : Prop where
 row : w.heap[b]? = some (.cells (hrow pre post st blk n).toArray ty (0, 0))
 sl : st.length = 8
 bl : blk.length = 64
theorem Hp.cell {w : World} {b : Nat} {ty : TypeId} {pre post : List Value} {st : List Nat} {blk : List UInt8} {n : Nat} (h : Hp w b ty pre post st blk n) (j : Nat) : w.cell? ⟨b, j, none⟩ = (hrow pre post st blk n)[j]? := by
 rw [cell_of_row w b j _ _ _ h.row]; simp
theorem Hp.frozen {w : World} {b : Nat} {ty : TypeId} {pre post : List Value} {st : List Nat} {blk : List UInt8} {n : Nat} (h : Hp w b ty pre post st blk n) (j : Nat) : w.frozen? ⟨b, j, none⟩ = false := frozen_of_row w b j _ _ h.row
theorem Hp.taken {w : World} {b : Nat} {ty : TypeId} {pre post : List Value} {st : List Nat} {blk : List UInt8} {n : Nat} (h : Hp w b ty pre post st blk n) : w.cell? ⟨b, pre.length + 72, none⟩ = some (.int .u64 n) := by
 rw [h.cell, hrow, List.getElem?_append_right (by omega), List.getElem?_append_right (by rw [wds_len, h.sl]; omega), List.getElem?_append_right (by rw [wds_len, bys_length, h.sl, h.bl]; omega)]
 rw [wds_len, bys_length, h.sl, h.bl, show pre.length + 72 - pre.length - 8 - 64 = 0 by omega]
 rfl
theorem Hp.byte {w : World} {b : Nat} {ty : TypeId} {pre post : List Value} {st : List Nat} {blk : List UInt8} {n : Nat} (h : Hp w b ty pre post st blk n) (i : Nat) (hi : i < 64) : w.cell? ⟨b, pre.length + 8 + i, none⟩ = some (.int .u8 (blk.getD i 0).toNat) := by
 rw [h.cell, hrow, List.getElem?_append_right (by omega), List.getElem?_append_right (by rw [wds_len, h.sl]; omega), List.getElem?_append_left (by rw [wds_len, bys_length, h.sl, h.bl]; omega)]
 rw [wds_len, h.sl, show pre.length + 8 + i - pre.length - 8 = i by omega]
 exact bys_at (by rw [h.bl]; exact hi)
theorem Hp.range {w : World} {b : Nat} {ty : TypeId} {pre post : List Value} {st : List Nat} {blk : List UInt8} {n : Nat} (h : Hp w b ty pre post st blk n) : w.rangeAt b pre.length (wds st) := fun j v hv => by
 have hj := (List.getElem?_eq_some_iff.1 hv).1
 rw [h.cell, hrow, List.getElem?_append_right (by omega), Nat.add_sub_cancel_left, List.getElem?_append_left hj]
 exact hv
theorem Hp.there {w : World} {b : Nat} {ty : TypeId} {pre post : List Value} {st : List Nat} {blk : List UInt8} {n : Nat} (h : Hp w b ty pre post st blk n) : w.there b pre.length 8 := fun j hj =>
 ⟨h.range.isSome j (by rw [wds_len, h.sl]; exact hj), h.frozen _⟩
theorem Hp.lt {w : World} {b : Nat} {ty : TypeId} {pre post : List Value} {st : List Nat} {blk : List UInt8} {n : Nat} (h : Hp w b ty pre post st blk n) : b < w.heap.size := (gs h.row).1
theorem Hp.kept {l : List Nat} {w w' : World} {b : Nat} {ty : TypeId} {pre post : List Value} {st : List Nat} {blk : List UInt8} {n : Nat} (h : Hp w b ty pre post st blk n) (hk : Kept l w w') (hn : b ∉ l) : Hp w' b ty pre post st blk n :=
 ⟨by rw [hk.block b h.lt hn]; exact h.row, h.sl, h.bl⟩
theorem Hp.setState {w : World} {b : Nat} {ty : TypeId} {pre post : List Value} {st : List Nat} {blk : List UInt8} {n : Nat} (h : Hp w b ty pre post st blk n) (st' : List Nat) (hl : st'.length = 8) : Hp (w.setCells b pre.length (wds st')) b ty pre post st' blk n := by
 refine ⟨?_, hl, h.bl⟩
 rw [setCells_row _ _ _ _ _ _ h.row (by simp [hrow, wds_len, hl, h.sl]), hrow, mid_row _ _ _ _ (by rw [wds_len, wds_len, h.sl, hl])]
 exact setRow_heap _ _ _ _ _ _ h.row
theorem Hp.setN {w : World} {b : Nat} {ty : TypeId} {pre post : List Value} {st : List Nat} {blk : List UInt8} {n : Nat} (h : Hp w b ty pre post st blk n) (m : Nat) : Hp (w.setCell ⟨b, pre.length + 72, none⟩ (.int .u64 m)) b ty pre post st blk m := by
 refine ⟨?_, h.sl, h.bl⟩
 rw [heap_setCell_same _ _ _ _ _ _ h.row, List.setIfInBounds_toArray]
 congr 3
 rw [hrow, List.set_append_right _ _ (by omega), List.set_append_right _ _ (by rw [wds_len, h.sl]; omega), List.set_append_right _ _ (by rw [wds_len, bys_length, h.sl, h.bl]; omega)]
 rw [wds_len, bys_length, h.sl, h.bl, show pre.length + 72 - pre.length - 8 - 64 = 0 by omega]
 rfl
theorem Hp.copied {w : World} {b : Nat} {ty : TypeId} {pre post : List Value} {st : List Nat} {blk : List UInt8} {n : Nat} (h : Hp w b ty pre post st blk n) (s : Nat) (t : List UInt8) (hs : s + t.length <= 64) :
  Hp (w.setRow b ((hrow pre post st blk n).take (pre.length + 8 + s) ++ (bys t ++ (hrow pre post st blk n).drop (pre.length + 8 + s + (bys t).length))).toArray) b ty pre post st (splice blk s t) n := by
 have hl := h.bl
 have e : hrow pre post st blk n = (pre ++ (wds st ++ bys (blk.take s))) ++ (bys ((blk.drop s).take t.length) ++ (bys (blk.drop (s + t.length)) ++ (Value.int .u64 n :: post))) := by
  have : blk = blk.take s ++ ((blk.drop s).take t.length ++ blk.drop (s + t.length)) := by
   rw [<-List.drop_drop, List.take_append_drop, List.take_append_drop]
  conv => lhs; rw [hrow, this]
  simp only [bys_append, List.append_assoc]
 have e1 : (pre ++ (wds st ++ bys (blk.take s))).length = pre.length + 8 + s := by
  simp [wds_len, bys_length, h.sl, hl]; omega
 refine ⟨?_, h.sl, by rw [length_splice _ _ _ (by omega)]; exact hl⟩
 rw [setRow_heap _ _ _ _ _ _ h.row]
 congr 3
 rw [e, <-e1, mid_row _ _ _ _ (by simp [bys_length, hl]; omega)]
 simp only [hrow, splice, bys_append, List.append_assoc]
end

end Go.Proofs.YtmklodligplbaabGreat
