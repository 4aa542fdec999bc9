/-
  Contracts: bytes.Compare, table.compare, hasNoCode; results and ids as values of == and !=.
-/
import Derived.Test.YtmhnjhnnaciokaaZa
import Derived.Lib.BytesEntry
import Derived.Laws.Externs
import Derived.Laws.StructEq
import Derived.ProofKit
import Derived.Shelf.SlSortCmp.InsertionK
namespace Go.Proofs.Ytmhnjhnnaciokaa
open Go.RowKit Go.Sort
set_option linter.unusedVariables false
set_option linter.unusedSimpArgs false

/-- The model's entry for a comparison, of two rows of bytes. -/
theorem run_cmpRows {P : Program} (w : World) (b1 o1 c1 b2 o2 c2 : Nat) (X Y : List UInt8) (hx : ∀ j x, X[j]? = some x → w.cell? ⟨b1, o1 + j, none⟩ = some (.int .u8 x.toNat)) (hy : ∀ j x, Y[j]? = some x → w.cell? ⟨b2, o2 + j, none⟩ = some (.int .u8 x.toNat)) :
    (Extern.BytealgCompare.compare #[.slice (some ⟨b1, o1, none⟩) X.length c1, .slice (some ⟨b2, o2, none⟩) Y.length c2]).run P w = .ok (.int .i64 (Lib.compareBytes X Y)) w := by
  have key : ∀ (b o : Nat) (L : List UInt8), (∀ j x, L[j]? = some x → w.cell? ⟨b, o + j, none⟩ = some (.int .u8 x.toNat)) → (Extern.Bytes.loadBytes ⟨b, o, none⟩ L.length .empty).run P w = .ok ⟨L.toArray⟩ w := by
    intro b o L h
    have := Lib.run_loadBytesX (P := P) w (L.map fun x => (x.toNat : Int)) ⟨b, o, none⟩ .empty (fun j x hj => by
      rw [List.getElem?_map] at hj
      cases hl : L[j]? with
      | none => rw [hl] at hj; cases hj
      | some y =>
        rw [hl] at hj
        cases hj
        rw [Addr.add_lit]
        exact h j y hl)
    rw [List.length_map] at this
    rw [this]
    congr 1
    apply ByteArray.ext
    have hb : ∀ M : List UInt8, Lib.bytesOf (M.map fun x => (x.toNat : Int)) = M := by
      intro M
      induction M with
      | nil => rfl
      | cons a r ih => simp only [Lib.bytesOf, List.map_cons] at ih ⊢; rw [ih]; congr 1; simp
    rw [hb]
    show (#[] : Array UInt8) ++ L.toArray = L.toArray
    simp
  have k1 := key b1 o1 X hx
  have k2 := key b2 o2 Y hy
  change Sem.run P (do pure (goInt (Extern.BytealgCompare.cmp (← Extern.Bytes.bytesOf (.slice (some ⟨b1, o1, none⟩) X.length c1)) (← Extern.Bytes.bytesOf (.slice (some ⟨b2, o2, none⟩) Y.length c2))))) w = _
  simp only [Extern.Bytes.bytesOf, Sem.run_bind, Sem.run_pure, k1, k2, Result.andThen]
  rw [Lib.cmp_eq]
  rfl

set_option maxHeartbeats 800000 in
set_option maxRecDepth 100000 in
theorem bcompare_ok (w : World) (b1 o1 c1 b2 o2 c2 : Nat) (X Y : List UInt8) (hx : ∀ j x, X[j]? = some x → w.cell? ⟨b1, o1 + j, none⟩ = some (.int .u8 x.toNat)) (hy : ∀ j x, Y[j]? = some x → w.cell? ⟨b2, o2 + j, none⟩ = some (.int .u8 x.toNat)) :
    Calls Try.prog 32 #[.slice (some ⟨b1, o1, none⟩) X.length c1, .slice (some ⟨b2, o2, none⟩) Y.length c2] w fun e w' => e = .returned (.int .i64 (Lib.compareBytes X Y)) ∧ w' = w := by
  have hr := run_cmpRows (P := Try.prog) w b1 o1 c1 b2 o2 c2 X Y hx hy
  clear hx hy
  generalize Lib.compareBytes X Y = R at hr ⊢
  generalize X.length = n1 at hr ⊢
  generalize Y.length = n2 at hr ⊢
  go_enter Try.func32, Try.ntmps32
  go_wp2
  rw [run_callFunc_extern Try.func50 (by kernel_rfl) (by kernel_rfl) (by kernel_rfl) (e := Extern.BytealgCompare.compare) (by kernel_rfl), hr]
  simp only [Result.andThen]
  rw [Oper.upon_value]
  go_wp2
  go_ret
  exact ⟨rfl, rfl⟩

namespace Tb
/-- The order of two results: that of their actions. -/
def cf (a b : Res) : Int := Lib.compareBytes a.action b.action
def noCode (a : Res) : Bool := decide (a.code < 0) || decide (255 < a.code)
end Tb

theorem heap_old {w : World} {o : Obj} {k : Nat} (h : k < w.heap.size) : (w.alloc o).heap[k]? = w.heap[k]? := by
  show (w.heap.push o)[k]? = _
  rw [Array.getElem?_push]
  rw [if_neg (by omega)]
theorem grow_of_alloc2 (w : World) (a b : Obj) (n : Nat) : ∃ q os, ((w.alloc a).alloc b).drewN n = grow (w.drewN q) os := ⟨n, #[a, b], by rw [alloc_eq_grow, alloc_eq_grow, grow_grow]; rfl⟩

set_option maxHeartbeats 1600000 in
set_option maxRecDepth 100000 in
theorem compare_ok (x y : Res) (w : World) : Calls Try.prog 34 #[.agg x.cells.toArray, .agg y.cells.toArray] w fun e w' => e = .returned (.int .i64 (Tb.cf x y)) ∧ ∃ q os, w' = grow (w.drewN q) os := by
  obtain ⟨W1, hW1⟩ : ∃ W1, (w.alloc (.cells x.cells.toArray 26)).alloc (.cells y.cells.toArray 26) = W1 := ⟨_, rfl⟩
  have hx : ∀ j u, x.action[j]? = some u → ∀ n, (W1.drewN n).cell? ⟨w.heap.size, 0 + j, none⟩ = some (.int .u8 u.toNat) := by
    intro j u hj n
    have hjl := (List.getElem?_eq_some_iff.1 hj).1
    have h0 := heap_new w (.cells x.cells.toArray 26)
    have h1 : W1.heap[w.heap.size]? = some (.cells x.cells.toArray 26) := by
      rw [← hW1, heap_old (by simp)]
      exact h0
    rw [World.cell?_drewN, Nat.zero_add, cell_of_row _ _ _ _ _ _ h1]
    have := Res.act (e := x) (j := j) (by rw [← x.ha]; exact hjl)
    simp only [List.getElem?_toArray]
    rw [this, List.getD_eq_getElem?_getD, hj]
    rfl
  have hy : ∀ j u, y.action[j]? = some u → ∀ n, (W1.drewN n).cell? ⟨w.heap.size + 1, 0 + j, none⟩ = some (.int .u8 u.toNat) := by
    intro j u hj n
    have hjl := (List.getElem?_eq_some_iff.1 hj).1
    have h0 := heap_new (w.alloc (.cells x.cells.toArray 26)) (.cells y.cells.toArray 26)
    rw [hW1] at h0
    rw [show (w.alloc (.cells x.cells.toArray 26)).heap.size = w.heap.size + 1 by simp] at h0
    rw [World.cell?_drewN, Nat.zero_add, cell_of_row _ _ _ _ _ _ h0]
    have := Res.act (e := y) (j := j) (by rw [← y.ha]; exact hjl)
    simp only [List.getElem?_toArray]
    rw [this, List.getD_eq_getElem?_getD, hj]
    rfl
  have hcall : ∀ n, Calls Try.prog 32 #[.slice (some ⟨w.heap.size, 0, none⟩) 32 32, .slice (some ⟨w.heap.size + 1, 0, none⟩) 32 32] (W1.drewN n) fun e w' => e = .returned (.int .i64 (Tb.cf x y)) ∧ w' = W1.drewN n := by
    intro n
    have := bcompare_ok (W1.drewN n) w.heap.size 0 32 (w.heap.size + 1) 0 32 x.action y.action (fun j u h => hx j u h n) (fun j u h => hy j u h n)
    rw [x.ha, y.ha] at this
    exact this
  have hd : ∀ n, ∃ q os, W1.drewN n = grow (w.drewN q) os := by rw [← hW1]; exact grow_of_alloc2 w _ _
  generalize Tb.cf x y = R at hcall ⊢
  clear hx hy
  go_enter Try.func34, Try.ntmps34
  go_wp2
  clear hW1
  go_quiet ((go_at_call 32; exact Calls.quiet_of_same (hcall _)))
  go_wp2
  go_ret
  exact ⟨rfl, hd _⟩

set_option maxHeartbeats 800000 in
set_option maxRecDepth 100000 in
theorem hasNoCode_ok (x : Res) (w : World) : Calls Try.prog 14 #[.agg x.cells.toArray] w fun e w' => e = .returned (.bool (Tb.noCode x)) ∧ w' = w.alloc (.cells x.cells.toArray 26) := by
  have hnew := heap_new w (.cells x.cells.toArray 26)
  obtain ⟨W1, hW1⟩ : ∃ W1, w.alloc (.cells x.cells.toArray 26) = W1 := ⟨_, rfl⟩
  rw [hW1] at hnew ⊢
  have c0 : W1.cell? ⟨w.heap.size, 64, none⟩ = some (.int .i64 x.code) := by rw [cell_of_row _ _ _ _ _ _ hnew]; simpa using x.cod
  clear hnew
  unfold Tb.noCode
  generalize x.code = c at c0 ⊢
  go_enter Try.func14, Try.ntmps14
  go_wp2
  all_goals go_ret
  · exact ⟨rfl, rfl⟩
  · exact ⟨by simp [*], rfl⟩
end Go.Proofs.Ytmhnjhnnaciokaa
