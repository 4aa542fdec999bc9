/-
  Contracts: press.threeAt, press.match.coded. (Written by tools/va.py.)
-/
import Derived.Test.YtdnbpklnkmgmkaaUc
import Derived.Laws.Rows
namespace Go.Proofs.Ytdnbpklnkmgmkaa
open Go.RowKit
set_option linter.unusedVariables false
set_option linter.unusedSimpArgs false

/-- A result that lies in a block of its own. -/
theorem ret_row {P : Program} {fn : Func} {p : Tmp} {ty : TypeId} {R : Ending → World → Prop} {a : Act} {w : World} (h : fn.results = #[.cell p ty]) (hd : a.defers = []) (g : Nat) (t : TypeId) (cs : Array Value) (fr : Nat × Nat) (d : TypeDesc)
    (hp : a.tmps.getD p undef = .pointer (some ⟨g, 0, none⟩)) (hg : w.heap[g]? = some (.cells cs t fr)) (hu : P.underlying ty = some d) (hx : (match d with | .struct _ | .array _ _ => true | _ => false) = true) (hi : (P.info? ty).map (·.size) = some cs.size)
    (hR : R (.returned (.agg cs)) w) : bodyPost P fn R .ret a w :=
  bodyPost_ret (results_cell_row h a.tmps w g t cs fr d hp hg hu hx hi) hd hR

/-- Three bytes as a key. -/
def k3 (a b c : UInt8) : Value := .agg #[.int .u8 a.toNat, .int .u8 b.toNat, .int .u8 c.toNat]

set_option maxHeartbeats 1000000 in
set_option maxRecDepth 100000 in
theorem three_ok (pb po N pc j : Nat) (xs : List UInt8) (w : World) (hN : xs.length = N) (hj : j + 3 ≤ N) (hmax : N ≤ 4096) (hc : ∀ i, i < xs.length → w.cell? ⟨pb, po + i, none⟩ = some (.int .u8 (xs.getD i 0).toNat)) :
    Calls Try.prog 49 #[.slice (some ⟨pb, po, none⟩) N pc, .int .i64 j] w fun e w' => e = .returned (k3 (xs.getD j 0) (xs.getD (j + 1) 0) (xs.getD (j + 2) 0)) ∧ Kept [] w w' := by
  have cx := hc j (by omega)
  have cy := hc (j + 1) (by omega)
  have cz := hc (j + 2) (by omega)
  unfold k3
  generalize (xs.getD j 0).toNat = x at cx ⊢
  generalize (xs.getD (j + 1) 0).toNat = y at cy ⊢
  generalize (xs.getD (j + 2) 0).toNat = z at cz ⊢
  obtain ⟨j1, hj1⟩ : ∃ j1, j1 = j + 1 := ⟨_, rfl⟩
  obtain ⟨j2, hj2⟩ : ∃ j2, j2 = j + 2 := ⟨_, rfl⟩
  rw [← hj1] at cy
  rw [← hj2] at cz
  have hw1 : IntKind.i64.wrap ((j : Int) + 1) = (j1 : Int) := by simp [IntKind.wrap, IntKind.bits, IntKind.signed]; omega
  have hw2 : IntKind.i64.wrap ((j : Int) + 2) = (j2 : Int) := by simp [IntKind.wrap, IntKind.bits, IntKind.signed]; omega
  have i0 : ¬ ((N : Int) ≤ (j : Int)) := by omega
  have i1 : ¬ ((N : Int) ≤ (j1 : Int)) := by omega
  have i2 : ¬ ((N : Int) ≤ (j2 : Int)) := by omega
  clear hc hj hN hj1 hj2
  go_enter Try.func49, Try.ntmps49
  go_wp2
  have hk0 : Kept [] w (w.alloc (.cells #[.int .u8 0, .int .u8 0, .int .u8 0] 100)) := (Kept.refl [] w).alloc _
  have hm : (w.alloc (.cells #[.int .u8 0, .int .u8 0, .int .u8 0] 100)).heap[w.heap.size]? = some (.cells #[.int .u8 0, .int .u8 0, .int .u8 0] 100) := (MapKept.heap_alloc _ _).1
  replace cx := Kept.cellOf hk0 cx (by simp)
  replace cy := Kept.cellOf hk0 cy (by simp)
  replace cz := Kept.cellOf hk0 cz (by simp)
  have hMl : w.heap.size ≤ w.heap.size := Nat.le_refl _
  generalize hT : w.heap.size = T at hm ⊢
  have hTl : w.heap.size ≤ T := by omega
  clear hT hMl
  generalize w.alloc (.cells #[.int .u8 0, .int .u8 0, .int .u8 0] 100) = w1 at hk0 hm cx cy cz ⊢
  refine wp_region_late (fun w' => Kept [] w1 w') (fun i => decide (15 ≤ i)) (by kernel_rfl) ?_
  have h0 : Kept [] w1 w1.drew := (Kept.refl [] w1).drew
  generalize World.drew w1 = v0 at h0 ⊢
  have hm0 : v0.heap[T]? = some (.cells #[.int .u8 0, .int .u8 0, .int .u8 0] 100) := (h0.block T (Array.getElem?_eq_some_iff.1 hm).1 (by simp)).trans hm
  have hk1 := hk0.trans h0 (by simp)
  refine wpAnyL_free (i := 0) (v := .slice (some ⟨pb, po, none⟩) N pc) rfl (by kernel_rfl) (by kernel_rfl) (by kernel_rfl) (fun _ _ _ h => h) (Or.inl ⟨by rfl, fun w _ => by go_simp⟩) ?_
  try simp only [List.getElem_toArray, List.getElem_cons_zero, List.getElem_cons_succ, Act.put, List.setIfInBounds_toArray, List.set_cons_zero, List.set_cons_succ]
  refine wpAnyL_free (i := 1) (v := .int .i64 j) rfl (by kernel_rfl) (by kernel_rfl) (by kernel_rfl) (fun _ _ _ h => h) (Or.inl ⟨by rfl, fun w _ => by go_simp⟩) ?_
  try simp only [List.getElem_toArray, List.getElem_cons_zero, List.getElem_cons_succ, Act.put, List.setIfInBounds_toArray, List.set_cons_zero, List.set_cons_succ]
  refine wpAnyL_free (i := 2) (v := .pointer (some ⟨pb, po + j, none⟩)) rfl (by kernel_rfl) (by kernel_rfl) (by kernel_rfl) (fun _ _ _ h => h) (Or.inl ⟨by rfl, fun w _ => by go_simp⟩) ?_
  try simp only [List.getElem_toArray, List.getElem_cons_zero, List.getElem_cons_succ, Act.put, List.setIfInBounds_toArray, List.set_cons_zero, List.set_cons_succ]
  refine wpAnyL_take (i := 3) (v := .int .u8 x) rfl (by kernel_rfl) (by kernel_rfl) (by kernel_rfl) (by kernel_rfl) (by kernel_rfl) (fun _ _ _ h => h) (Or.inl ⟨by rfl, fun w hSw => by have c := Kept.cellOf hSw cx (by simp); go_simp⟩) h0 ?_
  try simp only [List.getElem_toArray, List.getElem_cons_zero, List.getElem_cons_succ, Act.put, List.setIfInBounds_toArray, List.set_cons_zero, List.set_cons_succ]
  refine wpAnyL_free (i := 4) (v := .slice (some ⟨pb, po, none⟩) N pc) rfl (by kernel_rfl) (by kernel_rfl) (by kernel_rfl) (fun _ _ _ h => h) (Or.inl ⟨by rfl, fun w _ => by go_simp⟩) ?_
  try simp only [List.getElem_toArray, List.getElem_cons_zero, List.getElem_cons_succ, Act.put, List.setIfInBounds_toArray, List.set_cons_zero, List.set_cons_succ]
  refine wpAnyL_free (i := 5) (v := .int .i64 j) rfl (by kernel_rfl) (by kernel_rfl) (by kernel_rfl) (fun _ _ _ h => h) (Or.inl ⟨by rfl, fun w _ => by go_simp⟩) ?_
  try simp only [List.getElem_toArray, List.getElem_cons_zero, List.getElem_cons_succ, Act.put, List.setIfInBounds_toArray, List.set_cons_zero, List.set_cons_succ]
  refine wpAnyL_free (i := 6) (v := .int .i64 j1) rfl (by kernel_rfl) (by kernel_rfl) (by kernel_rfl) (fun _ _ _ h => h) (Or.inl ⟨by rfl, fun w _ => by go_simp⟩) ?_
  try simp only [List.getElem_toArray, List.getElem_cons_zero, List.getElem_cons_succ, Act.put, List.setIfInBounds_toArray, List.set_cons_zero, List.set_cons_succ]
  refine wpAnyL_free (i := 7) (v := .pointer (some ⟨pb, po + j1, none⟩)) rfl (by kernel_rfl) (by kernel_rfl) (by kernel_rfl) (fun _ _ _ h => h) (Or.inl ⟨by rfl, fun w _ => by go_simp⟩) ?_
  try simp only [List.getElem_toArray, List.getElem_cons_zero, List.getElem_cons_succ, Act.put, List.setIfInBounds_toArray, List.set_cons_zero, List.set_cons_succ]
  refine wpAnyL_take (i := 8) (v := .int .u8 y) rfl (by kernel_rfl) (by kernel_rfl) (by kernel_rfl) (by kernel_rfl) (by kernel_rfl) (fun _ _ _ h => h) (Or.inl ⟨by rfl, fun w hSw => by have c := Kept.cellOf hSw cy (by simp); go_simp⟩) h0 ?_
  try simp only [List.getElem_toArray, List.getElem_cons_zero, List.getElem_cons_succ, Act.put, List.setIfInBounds_toArray, List.set_cons_zero, List.set_cons_succ]
  refine wpAnyL_free (i := 9) (v := .slice (some ⟨pb, po, none⟩) N pc) rfl (by kernel_rfl) (by kernel_rfl) (by kernel_rfl) (fun _ _ _ h => h) (Or.inl ⟨by rfl, fun w _ => by go_simp⟩) ?_
  try simp only [List.getElem_toArray, List.getElem_cons_zero, List.getElem_cons_succ, Act.put, List.setIfInBounds_toArray, List.set_cons_zero, List.set_cons_succ]
  refine wpAnyL_free (i := 10) (v := .int .i64 j) rfl (by kernel_rfl) (by kernel_rfl) (by kernel_rfl) (fun _ _ _ h => h) (Or.inl ⟨by rfl, fun w _ => by go_simp⟩) ?_
  try simp only [List.getElem_toArray, List.getElem_cons_zero, List.getElem_cons_succ, Act.put, List.setIfInBounds_toArray, List.set_cons_zero, List.set_cons_succ]
  refine wpAnyL_free (i := 11) (v := .int .i64 j2) rfl (by kernel_rfl) (by kernel_rfl) (by kernel_rfl) (fun _ _ _ h => h) (Or.inl ⟨by rfl, fun w _ => by go_simp⟩) ?_
  try simp only [List.getElem_toArray, List.getElem_cons_zero, List.getElem_cons_succ, Act.put, List.setIfInBounds_toArray, List.set_cons_zero, List.set_cons_succ]
  refine wpAnyL_free (i := 12) (v := .pointer (some ⟨pb, po + j2, none⟩)) rfl (by kernel_rfl) (by kernel_rfl) (by kernel_rfl) (fun _ _ _ h => h) (Or.inl ⟨by rfl, fun w _ => by go_simp⟩) ?_
  try simp only [List.getElem_toArray, List.getElem_cons_zero, List.getElem_cons_succ, Act.put, List.setIfInBounds_toArray, List.set_cons_zero, List.set_cons_succ]
  refine wpAnyL_take (i := 13) (v := .int .u8 z) rfl (by kernel_rfl) (by kernel_rfl) (by kernel_rfl) (by kernel_rfl) (by kernel_rfl) (fun _ _ _ h => h) (Or.inl ⟨by rfl, fun w hSw => by have c := Kept.cellOf hSw cz (by simp); go_simp⟩) h0 ?_
  try simp only [List.getElem_toArray, List.getElem_cons_zero, List.getElem_cons_succ, Act.put, List.setIfInBounds_toArray, List.set_cons_zero, List.set_cons_succ]
  refine wpAnyL_free (i := 14) (v := .agg #[.int .u8 x, .int .u8 y, .int .u8 z]) rfl (by kernel_rfl) (by kernel_rfl) (by kernel_rfl) (fun _ _ _ h => h) (Or.inl ⟨by rfl, fun w _ => by go_simp⟩) ?_
  try simp only [List.getElem_toArray, List.getElem_cons_zero, List.getElem_cons_succ, Act.put, List.setIfInBounds_toArray, List.set_cons_zero, List.set_cons_succ]
  have t0 : v0.cell? ⟨T, 0, none⟩ = some (.int .u8 0) := by rw [cell_of_row v0 T 0 _ _ _ hm0]; rfl
  have t1 : v0.cell? ⟨T, 1, none⟩ = some (.int .u8 0) := by rw [cell_of_row v0 T 1 _ _ _ hm0]; rfl
  have t2 : v0.cell? ⟨T, 2, none⟩ = some (.int .u8 0) := by rw [cell_of_row v0 T 2 _ _ _ hm0]; rfl
  have f0 : v0.frozen? ⟨T, 0, none⟩ = false := frozen_of_row v0 T 0 _ _ hm0
  have f1 : v0.frozen? ⟨T, 1, none⟩ = false := frozen_of_row v0 T 1 _ _ hm0
  have f2 : v0.frozen? ⟨T, 2, none⟩ = false := frozen_of_row v0 T 2 _ _ hm0
  have hs1 : (v0.setCell ⟨T, 0, none⟩ (.int .u8 x)).heap[T]? = some (.cells #[.int .u8 x, .int .u8 0, .int .u8 0] 100 (0, 0)) := heap_setCell_same v0 T 0 _ _ _ hm0
  have hs2 : ((v0.setCell ⟨T, 0, none⟩ (.int .u8 x)).setCell ⟨T, 1, none⟩ (.int .u8 y)).heap[T]? = some (.cells #[.int .u8 x, .int .u8 y, .int .u8 0] 100 (0, 0)) := heap_setCell_same _ T 1 _ _ _ hs1
  have hs3 : (((v0.setCell ⟨T, 0, none⟩ (.int .u8 x)).setCell ⟨T, 1, none⟩ (.int .u8 y)).setCell ⟨T, 2, none⟩ (.int .u8 z)).heap[T]? = some (.cells #[.int .u8 x, .int .u8 y, .int .u8 z] 100 (0, 0)) := heap_setCell_same _ T 2 _ _ _ hs2
  have HK : Hid (Kept [] w (((v0.setCell ⟨T, 0, none⟩ (.int .u8 x)).setCell ⟨T, 1, none⟩ (.int .u8 y)).setCell ⟨T, 2, none⟩ (.int .u8 z))) := ((hk1.setCell (p := ⟨T, 0, none⟩) (by simp; omega) _).setCell (p := ⟨T, 1, none⟩) (by simp; omega) _).setCell (p := ⟨T, 2, none⟩) (by simp; omega) _
  have HS3 := hide hs3
  clear hs1 hs2 hs3 hm hm0 hk1 hk0 cx cy cz
  refine wpAnyL_one (i := 15) (by kernel_rfl) rfl (fun K hK => ?_)
  rw [if_pos (by rfl)]
  go_simp
  refine hK.out _ _ (fun _ h => by cases h) ?_
  clear hK K
  try simp only [List.getElem_toArray, List.getElem_cons_zero, List.getElem_cons_succ, Act.put, List.setIfInBounds_toArray, List.set_cons_zero, List.set_cons_succ]
  refine wpAnyL_done (by kernel_rfl) ?_ _
  go_wp2
  exact ret_row (g := T) (t := 100) (cs := #[.int .u8 x, .int .u8 y, .int .u8 z]) (fr := (0, 0)) rfl rfl (d := _) rfl HS3.out Try.underlying100 rfl (by kernel_rfl) ⟨rfl, HK.out⟩

theorem coded_num (v : Nat) (hv : v < 65536) : (UInt8.ofNat (v / 256)).toNat = v / 256 ∧ (UInt8.ofNat (v % 256)).toNat = v % 256 := by
  rw [UInt8.toNat_ofNat', UInt8.toNat_ofNat']; omega

set_option maxHeartbeats 1000000 in
set_option maxRecDepth 100000 in
theorem coded_ok (d l : Nat) (w : World) (h1 : 1 ≤ d) (h2 : d ≤ 1024) (h3 : 3 ≤ l) (h4 : l ≤ 66) :
    Calls Try.prog 51 #[mv d l] w fun e w' => e = .returned (.tuple #[.int .u8 ((UInt8.ofNat (Prs.code d l / 256)).toNat : Nat), .int .u8 ((UInt8.ofNat (Prs.code d l % 256)).toNat : Nat)]) ∧ Kept [] w w' := by
  have hv := Prs.code_lt h1 h2 h3 h4
  rw [(coded_num _ hv).1, (coded_num _ hv).2]
  have hc : ((d : Int) - 1) * 64 + (l : Int) - 3 = (Prs.code d l : Int) := by unfold Prs.code; omega
  generalize Prs.code d l = v at hv hc ⊢
  have HC := hide hc
  unfold mv
  go_enter Try.func51, Try.ntmps51
  go_wp2
  go_ret2
  exact ⟨by simp, (Kept.refl _ _).alloc _⟩

end Go.Proofs.Ytdnbpklnkmgmkaa
