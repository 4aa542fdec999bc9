/-
  Entries in memory. Contract: tree.mayFollow.
-/
import Derived.Test.YtjogfpogdjhglaaDoorNe
import Derived.Test.YtjogfpogdjhglaaDoorWr1
import Derived.Great.Ranges
import Derived.Great.BuildSlice
import Derived.Deep.MidRow
import Derived.Deep.QuietTactic
import Derived.BigQuiet
namespace Go.Proofs.YtjogfpogdjhglaaDoor
open Go.RowKit
set_option linter.unusedVariables false
set_option linter.unusedSimpArgs false

structure Ent where
  name : List UInt8
  kind : Int
  id : List UInt8
def ent0 : Ent := ⟨[], 0, List.replicate 32 0⟩
def Ent.cells (e : Ent) : List Value := .string ⟨e.name.toArray⟩ :: .int .i64 e.kind :: bys e.id
structure EntOk (e : Ent) : Prop where
  idl : e.id.length = 32
  nam : e.name.length ≤ 4611686018427387904
  kin : (Lit.int .i64 e.kind).wf = true
theorem EntOk.len {e : Ent} (h : EntOk e) : e.cells.length = 34 := by simp [Ent.cells, bys_length, h.idl]
theorem ent_one (e : Ent) : ∀ u ∈ e.cells, u.oneCell' = true := by
  intro u hu
  simp only [Ent.cells, List.mem_cons] at hu
  rcases hu with h | h | h
  · rw [h]; rfl
  · rw [h]; rfl
  · exact bys_oneCell _ _ h
def Ents (w : World) (ao : Option Addr) (L : List Ent) : Prop :=
  ∀ i, i < L.length → ∃ b off, ao = some ⟨b, off, none⟩ ∧ w.rangeAt b (off + i * 34) (L.getD i ent0).cells ∧ EntOk (L.getD i ent0)
theorem Ents.nil (w : World) (ao : Option Addr) : Ents w ao [] := fun i hi => by simp at hi
theorem Ents.kept {l : List Nat} {w w' : World} {ao : Option Addr} {L : List Ent} (h : Ents w ao L) (hk : Kept l w w') (hn : L ≠ [] → ∀ a, ao = some a → a.block ∉ l) : Ents w' ao L := by
  intro i hi
  obtain ⟨b, off, e, hc, ho⟩ := h i hi
  exact ⟨b, off, e, fun j v hv => hk.cellOf (hc j v hv) (hn (by rintro rfl; simp at hi) ⟨b, off, none⟩ e), ho⟩
theorem Ents.below {w w' : World} {ao : Option Addr} {L : List Ent} (h : Ents w ao L) (hb : Below w.heap.size w w') : Ents w' ao L := h.kept (Kept.of_below hb) (by simp)
theorem getD_take {α : Type} {L : List α} {k i : Nat} (h : i < k) (d : α) : (L.take k).getD i d = L.getD i d := by simp [List.getD, List.getElem?_take, h]
theorem Ents.take {w : World} {ao : Option Addr} {L : List Ent} (h : Ents w ao L) (k : Nat) : Ents w ao (L.take k) := by
  intro i hi
  have hi' : i < k ∧ i < L.length := by simp at hi; omega
  rw [getD_take hi'.1]
  exact h i hi'.2
theorem Ents.open {w : World} {ao : Option Addr} {L : List Ent} (h : Ents w ao L) (hn : L ≠ []) : ∃ b off, ao = some ⟨b, off, none⟩ ∧ b < w.heap.size ∧ ∀ i, i < L.length → w.rangeAt b (off + i * 34) (L.getD i ent0).cells ∧ EntOk (L.getD i ent0) := by
  obtain ⟨b, off, e, hc, _⟩ := h 0 (List.length_pos_iff.2 hn)
  refine ⟨b, off, e, World.block_lt_of_cell? _ _ (hc 0 _ rfl), fun i hi => ?_⟩
  obtain ⟨b', off', e', hc'⟩ := h i hi
  rw [e] at e'
  cases e'
  exact hc'

namespace Tn
def lt (a b : List UInt8) : Bool := Op.bytesLess a b
/-- May this entry stand behind these? -/
def may (L : List Ent) (e : Ent) : Bool := decide (L.length ≠ 32) && isK e.kind && valid e.name && (decide (L.length = 0) || lt (L.getD (L.length - 1) ent0).name e.name)
end Tn

theorem below_drewN {B : Nat} {a w : World} (h : Below B a w) (n : Nat) : Below B a (w.drewN n) := ⟨h.os, h.tape, h.output, h.size, h.block⟩
theorem heap_new (w : World) (o : Obj) : (w.alloc o).heap[w.heap.size]? = some o := by rw [(MapKept.heap_alloc w o).1]

set_option maxHeartbeats 1600000 in
set_option maxRecDepth 100000 in
theorem mayFollow_ok (ao : Option Addr) (n cap : Nat) (L : List Ent) (e : Ent) (w : World) (hn : L.length = n) (hL : Ents w ao L) (he : EntOk e) (hT : Tabs w) (hm : n ≤ 4611686018427387904) :
    Calls Tryd.prog 26 #[.slice ao n cap, .agg e.cells.toArray] w fun r w' => r = .returned (.bool (Tn.may L e)) ∧ Below w.heap.size w w' := by
  have hnew := heap_new w (.cells e.cells.toArray 42)
  obtain ⟨W1, hW1⟩ : ∃ W1, w.alloc (.cells e.cells.toArray 42) = W1 := ⟨_, rfl⟩
  have hb1 : Below w.heap.size w W1 := by rw [← hW1]; exact (Below.refl _ w).alloc (Nat.le_refl _) _
  have hs1 : W1.heap.size = w.heap.size + 1 := by rw [← hW1]; simp
  rw [hW1] at hnew
  have c0 : W1.cell? ⟨w.heap.size, 0, none⟩ = some (.string ⟨e.name.toArray⟩) := by rw [cell_of_row _ _ _ _ _ _ hnew]; rfl
  have c1 : W1.cell? ⟨w.heap.size, 1, none⟩ = some (.int .i64 e.kind) := by rw [cell_of_row _ _ _ _ _ _ hnew]; rfl
  have hk := isKind_ok e.kind W1
  have hv := valid_ok e.name W1 he.nam (hT.below hb1)
  have hL1 := hL.below hb1
  have HM : Hid (Tn.may L e = (decide (n ≠ 32) && Tn.isK e.kind && Tn.valid e.name && (decide (n = 0) || Tn.lt (L.getD (n - 1) ent0).name e.name))) := by show _ = _; unfold Tn.may; rw [hn]
  obtain ⟨K, hK⟩ : ∃ K, Tn.isK e.kind = K := ⟨_, rfl⟩
  obtain ⟨V, hV⟩ : ∃ V, Tn.valid e.name = V := ⟨_, rfl⟩
  rw [hK] at hk HM
  rw [hV] at hv HM
  generalize e.kind = kd at *
  generalize e.name = nm at *
  have HB1 : Hid (Below w.heap.size w W1 ∧ W1.heap.size = w.heap.size + 1) := ⟨hb1, hs1⟩
  clear hnew hb1 hs1 hT hK hV
  by_cases h32 : n = 32
  · subst h32
    clear hk hv
    go_enter Tryd.func26, Tryd.ntmps26
    go_wp2_with (refine wpList_boxTo rfl 42 (.tmp 1) rfl (some 3) rfl w.heap.size rfl e.cells.toArray rfl ?_; rw [hW1])
    go_ret
    exact ⟨by rw [HM.out]; rfl, HB1.out.1⟩
  · have n32 : ((n : Int) == 32) = false := by simp; omega
    have n32' : ¬ ((n : Int) = 32) := by omega
    cases K with
    | false =>
      clear hv
      go_enter Tryd.func26, Tryd.ntmps26
      go_wp2_with (first | (refine wpList_boxTo rfl 42 (.tmp 1) rfl (some 3) rfl w.heap.size rfl e.cells.toArray rfl ?_; rw [hW1]) | (go_at_call 40; refine hk.mono ?_; rintro r w2 ⟨rfl, rfl⟩))
      go_ret
      exact ⟨by rw [HM.out]; simp [Act.eval], HB1.out.1⟩
    | true =>
      cases V with
      | false =>
        go_enter Tryd.func26, Tryd.ntmps26
        go_wp2_with (first | (refine wpList_boxTo rfl 42 (.tmp 1) rfl (some 3) rfl w.heap.size rfl e.cells.toArray rfl ?_; rw [hW1]) | (go_at_call 40; refine hk.mono ?_; rintro r w2 ⟨rfl, rfl⟩) | (go_at_call 14; refine hv.mono ?_; rintro r w3 ⟨rfl, hb3⟩))
        go_ret
        exact ⟨by rw [HM.out]; simp [Act.eval], HB1.out.1.trans (hb3.mono (by have := HB1.out.2; omega))⟩
      | true =>
        by_cases h0 : n = 0
        · subst h0
          go_enter Tryd.func26, Tryd.ntmps26
          go_wp2_with (first | (refine wpList_boxTo rfl 42 (.tmp 1) rfl (some 3) rfl w.heap.size rfl e.cells.toArray rfl ?_; rw [hW1]) | (go_at_call 40; refine hk.mono ?_; rintro r w2 ⟨rfl, rfl⟩) | (go_at_call 14; refine hv.mono ?_; rintro r w3 ⟨rfl, hb3⟩; have HB3 := hide hb3; clear hb3))
          go_quiet (fail)
          go_wp2
          go_ret
          exact ⟨by rw [HM.out]; simp [Act.eval], below_drewN (HB1.out.1.trans (HB3.out.mono (by have := HB1.out.2; omega))) _⟩
        · obtain ⟨m, rfl⟩ : ∃ m, n = m + 1 := ⟨n - 1, by omega⟩
          obtain ⟨b, off, rfl, hbl, hcs⟩ := hL1.open (by rintro rfl; simp at hn)
          have hc := (hcs m (by omega)).1 0 _ rfl
          have n0 : (((m : Int) + 1) == 0) = false := by simp; omega
          have n0' : ¬ (((m : Int) + 1) = 0) := by omega
          simp only [Nat.add_zero, Nat.add_sub_cancel] at hc HM
          generalize (L.getD m ent0).name = pn at hc HM
          clear hcs hL hL1
          go_enter Tryd.func26, Tryd.ntmps26
          go_wp2_with (first | (refine wpList_boxTo rfl 42 (.tmp 1) rfl (some 3) rfl w.heap.size rfl e.cells.toArray rfl ?_; rw [hW1]) | (go_at_call 40; refine hk.mono ?_; rintro r w2 ⟨rfl, rfl⟩) | (go_at_call 14; refine hv.mono ?_; rintro r w3 ⟨rfl, hb3⟩; have HB3 := hide hb3; have hc3 : w3.cell? ⟨b, off + m * 34, none⟩ = some (.string ⟨pn.toArray⟩) := (Kept.of_below hb3).cellOf hc (by simp); have c03 : w3.cell? ⟨w.heap.size, 0, none⟩ = some (.string ⟨nm.toArray⟩) := (Kept.of_below hb3).cellOf c0 (by simp); clear hb3 hc c0 c1))
          go_quiet (fail)
          go_wp2
          go_ret
          exact ⟨by rw [HM.out]; simp [Act.eval, Tn.lt]; omega, below_drewN (HB1.out.1.trans (HB3.out.mono (by have := HB1.out.2; omega))) _⟩
end Go.Proofs.YtjogfpogdjhglaaDoor
