/-
  Contract: table.Find.
-/
import Derived.Test.YtdeneflgldagpabZw
namespace Go.Proofs.Ytdeneflgldagpab
open Go.Shelf Go.RowKit Go.Lib Go.Sort
set_option linter.unusedVariables false
set_option linter.unusedSimpArgs false

namespace Tb
/-- P8.4 -/
def find (L : List Res) (A : List UInt8) : Option Res := L.find? fun e => decide (e.action = A)
theorem idx_from (A : List UInt8) : ∀ (L : List Res) (i : Nat), (find L A = none ∧ Lib.idxByFrom (fun _ y : Res => decide (y.action = A)) default L i = -1) ∨ ∃ k, k < L.length ∧ find L A = some (L.getD k res0) ∧ Lib.idxByFrom (fun _ y : Res => decide (y.action = A)) default L i = ((i + k : Nat) : Int)
  | [], i => .inl ⟨rfl, rfl⟩
  | e :: L, i => by
    by_cases h : e.action = A
    · exact .inr ⟨0, by simp, by simp [find, h], by simp [Lib.idxByFrom, h]⟩
    · rcases idx_from A L (i + 1) with ⟨h1, h2⟩ | ⟨k, hk, h1, h2⟩
      · exact .inl ⟨by simp only [find] at h1 ⊢; rw [List.find?_cons_of_neg (by simpa using h)]; exact h1, by simp only [Lib.idxByFrom, decide_eq_true_eq, h, if_false]; exact h2⟩
      · refine .inr ⟨k + 1, by simpa using hk, ?_, ?_⟩
        · simp only [find] at h1 ⊢
          rw [List.find?_cons_of_neg (by simpa using h), h1]
          rfl
        · simp only [Lib.idxByFrom, decide_eq_true_eq, h, if_false]
          rw [h2]
          congr 1
          omega
theorem find_at {L : List Res} {A : List UInt8} {k : Nat} (hk : k < L.length) (h : (L.getD k res0).action = A) (hne : ∀ j, j < k → (L.getD j res0).action ≠ A) : find L A = some (L.getD k res0) := by
  induction L generalizing k with
  | nil => simp at hk
  | cons e L ih =>
    cases k with
    | zero =>
      have h' : e.action = A := h
      simp [find, h']
    | succ k =>
      have h0 : ¬ e.action = A := hne 0 (by omega)
      have := ih (k := k) (by simpa using hk) h (fun j hj => hne (j + 1) (by omega))
      simp only [find] at this ⊢
      rw [List.find?_cons_of_neg (by simpa using h0), this]
      rfl
theorem isIn_spec (L : List Res) (A : List UInt8) : (isIn L A = false ∧ find L A = none) ∨ ∃ k, k < L.length ∧ isIn L A = true ∧ pos L A = (k : Nat) ∧ find L A = some (L.getD k res0) := by
  unfold isIn pos
  cases hV : valid L with
  | false =>
    simp only [Bool.false_eq_true, if_false]
    rcases idx_from A L 0 with ⟨h1, h2⟩ | ⟨k, hk, h1, h2⟩
    · refine .inl ⟨?_, h1⟩
      rw [show idx L A = -1 from h2]
      rfl
    · have h3 : idx L A = (k : Nat) := by rw [show idx L A = ((0 + k : Nat) : Int) from h2, Nat.zero_add]
      exact .inr ⟨k, hk, by rw [h3]; simp, h3, h1⟩
  | true =>
    have hr := valid_rise hV
    simp only [if_true]
    cases hH : has L A with
    | false =>
      refine .inl ⟨rfl, ?_⟩
      simp only [has, List.any_eq_false, decide_eq_true_eq] at hH
      unfold find
      rw [List.find?_eq_none]
      intro e he
      simpa using hH e he
    | true =>
      have h2 := hH
      rw [has_iff hr] at h2
      simp only [Bool.and_eq_true, decide_eq_true_eq] at h2
      refine .inr ⟨rank L A, h2.1, rfl, rfl, find_at h2.1 h2.2 (fun j hj e => ?_)⟩
      have := (rank_facts hr A).1 j hj
      rw [e, cmp_self] at this
      omega
end Tb

set_option maxHeartbeats 1600000 in
set_option maxRecDepth 100000 in
theorem find_ok (ao : Option Addr) (n cap : Nat) (L : List Res) (A : List UInt8) (w : World) (hn : L.length = n) (hL : Ress w ao L) (hw : Wao ao) (hA : A.length = 32) (hm : n < 4611686018427387904) :
    Calls Try.prog 13 #[.slice ao n cap, .agg (bys A).toArray] w fun e w' => e = .returned (.tuple #[.agg ((Tb.find L A).getD res0).cells.toArray, .bool (Tb.find L A).isSome]) ∧ Kept [] w w' := by
  obtain ⟨W0, hW0⟩ : ∃ W0, (w.alloc (.cells (bys A).toArray 34)).alloc (.cells zeroR 36) = W0 := ⟨_, rfl⟩
  have hk0 : Kept [] w W0 := by rw [← hW0]; exact ((Kept.refl [] w).alloc _).alloc _
  have r0 : W0.rangeAt w.heap.size 0 (bys A) := by
    intro j v hj
    have h1 : W0.heap[w.heap.size]? = some (.cells (bys A).toArray 34) := by rw [← hW0, heap_old (by simp)]; exact heap_new w _
    rw [Nat.zero_add, cell_of_row _ _ _ _ _ _ h1]
    simpa using hj
  have hrow : W0.heap[w.heap.size + 1]? = some (.cells zeroR 36 (0, 0)) := by
    have := heap_new (w.alloc (.cells (bys A).toArray 34)) (.cells zeroR 36)
    rw [hW0, show (w.alloc (.cells (bys A).toArray 34)).heap.size = w.heap.size + 1 by simp] at this
    exact this
  have hlt : w.heap.size + 1 < W0.heap.size := by rw [← hW0]; simp
  have hf := first_ok ao n cap L A W0 hn (hL.kept hk0 (by simp)) hw hA hm
  have iA : (Try.prog.info? 34).map (·.size) = some (bys A).length := by rw [bys_length, hA]; kernel_rfl
  have hz := Try.zeroRes
  have HK0 := hide hk0
  have HLT := hide hlt
  rcases Tb.isIn_spec L A with ⟨h1, h2⟩ | ⟨k, hk, h1, hp, h2⟩
  · rw [h1] at hf
    rw [h2]
    generalize Tb.pos L A = I at hf
    clear hL hn hw hk0 h1 h2 hlt
    have ia : (Try.prog.info? 36).map (·.size) = some res0.cells.toArray.size := by rw [res_size]; exact Try.infoResS
    have i1 : (Try.prog.info? 36).map (·.size) = some res0.cells.length := by rw [res0.len]; exact Try.infoResS
    have hbu : ∀ W, (Instr.build 36 #[]).run Try.prog W = .ok (.agg res0.cells.toArray) W := fun W => by kernel_rfl
    go_enter Try.func13, Try.ntmps13
    go_wp2_with (first
      | refine wpList_load_mid rfl 34 (.tmp 3) rfl w.heap.size 0 rfl (bys A) _ r0 Try.underlying34 rfl iA ?_
      | (go_at_call 33; refine hf.mono ?_; rintro r w1 ⟨rfl, hk1⟩; have HK1 : Hid (Kept [] w w1) := HK0.out.trans hk1 (by simp); have hrow1 : w1.heap[w.heap.size + 1]? = some (.cells zeroR 36 (0, 0)) := (by rw [hk1.block _ HLT.out (by simp)]; exact hrow); clear hk1 hf r0)
      | refine wpList_store_rowTo rfl 36 (.tmp 4) (.tmp 16) rfl rfl (w.heap.size + 1) res0.cells.toArray rfl rfl 36 zeroR hrow1 ia (zero_size res0) (res_all res0) ?_)
    refine ret_row2 rfl rfl (w.heap.size + 1) res0.cells _ rfl (res_range (setRow_heap _ _ _ _ _ _ hrow1)) Try.underlying36 rfl i1 ⟨rfl, HK1.out.trans (kept_row w1 _ _) (by simp)⟩
  · rw [h1, hp] at hf
    rw [h2]
    have hkn : k < n := by omega
    have hknz : (k : Int) < (n : Int) := by omega
    obtain ⟨b, off, rfl, hr⟩ := hL k hk
    generalize L.getD k res0 = x at hr ⊢
    have ia : (Try.prog.info? 36).map (·.size) = some x.cells.toArray.size := by rw [res_size]; exact Try.infoResS
    have i1 : (Try.prog.info? 36).map (·.size) = some x.cells.length := by rw [x.len]; exact Try.infoResS
    clear hL hn hw hk0 h1 h2 hlt hp hk
    go_enter Try.func13, Try.ntmps13
    go_wp2_with (first
      | refine wpList_load_mid rfl 34 (.tmp 3) rfl w.heap.size 0 rfl (bys A) _ r0 Try.underlying34 rfl iA ?_
      | (go_at_call 33; refine hf.mono ?_; rintro r w1 ⟨rfl, hk1⟩; have HK1 : Hid (Kept [] w w1) := HK0.out.trans hk1 (by simp); have hrow1 : w1.heap[w.heap.size + 1]? = some (.cells zeroR 36 (0, 0)) := (by rw [hk1.block _ HLT.out (by simp)]; exact hrow); have hr1 : w1.rangeAt b (off + k * 65) x.cells := (fun j v hv => HK1.out.cellOf (hr j v hv) (by simp)); clear hk1 hf r0)
      | refine wpList_load_mid rfl 36 (.tmp 19) rfl b (off + k * 65) rfl x.cells _ hr1 Try.underlying36 rfl i1 ?_
      | refine wpList_store_rowTo rfl 36 (.tmp 4) (.tmp 20) rfl rfl (w.heap.size + 1) x.cells.toArray rfl rfl 36 zeroR hrow1 ia (zero_size x) (res_all x) ?_)
    refine ret_row2 rfl rfl (w.heap.size + 1) x.cells _ rfl (res_range (setRow_heap _ _ _ _ _ _ hrow1)) Try.underlying36 rfl i1 ⟨rfl, HK1.out.trans (kept_row w1 _ _) (by simp)⟩
end Go.Proofs.Ytdeneflgldagpab
