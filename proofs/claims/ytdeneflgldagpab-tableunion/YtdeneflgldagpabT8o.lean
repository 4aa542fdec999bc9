/-
  Contract: freightlaw8.of (as freightref8.Find).
-/
import Derived.Test.YtdeneflgldagpabZw2
namespace Go.Proofs.Ytdeneflgldagpab
open Go.RowKit Go.Sort
set_option linter.unusedVariables false
set_option linter.unusedSimpArgs false

theorem take_resO (L : List Res) (k : Nat) (h : k < L.length) : L.take (k + 1) = L.take k ++ [L.getD k res0] := by
  rw [List.take_succ_eq_append_getElem h]
  simp [List.getElem?_eq_getElem h]

set_option maxHeartbeats 1600000 in
set_option maxRecDepth 100000 in
theorem of_ok (ao : Option Addr) (n cap : Nat) (L : List Res) (A : List UInt8) (w : World) (hn : L.length = n) (hL : Ress w ao L) (hA : A.length = 32) (hm : n < 4611686018427387904) :
    Calls Try.prog 14 #[.slice ao n cap, .agg (bys A).toArray] w fun e w' => e = .returned (.tuple #[.agg ((Tb.find L A).getD res0).cells.toArray, .bool (Tb.find L A).isSome]) ∧ Kept [] w w' := by
  obtain ⟨W0, hW0⟩ : ∃ W0, (w.alloc (.cells (bys A).toArray 34)).alloc (.cells zeroR 36) = W0 := ⟨_, rfl⟩
  have hk0 : Kept [] w W0 := by rw [← hW0]; exact ((Kept.refl [] w).alloc _).alloc _
  have r00 : W0.rangeAt w.heap.size 0 (bys A) := by
    intro j v hj
    have h1 : W0.heap[w.heap.size]? = some (.cells (bys A).toArray 34) := by rw [← hW0, heap_old (by simp)]; exact heap_new w _
    rw [Nat.zero_add, cell_of_row _ _ _ _ _ _ h1]
    simpa using hj
  have hrow : W0.heap[w.heap.size + 1]? = some (.cells zeroR 36 (0, 0)) := by
    have := heap_new (w.alloc (.cells (bys A).toArray 34)) (.cells zeroR 36)
    rw [hW0, show (w.alloc (.cells (bys A).toArray 34)).heap.size = w.heap.size + 1 by simp] at this
    exact this
  have hlt0 : w.heap.size + 1 < W0.heap.size := by rw [← hW0]; simp
  have HW : Hid (W0.rangeAt w.heap.size 0 (bys A) ∧ W0.heap[w.heap.size + 1]? = some (.cells zeroR 36 (0, 0)) ∧ w.heap.size + 1 < W0.heap.size ∧ Kept [] w W0) := ⟨r00, hrow, hlt0, hk0⟩
  have iA : (Try.prog.info? 34).map (·.size) = some (bys A).length := by rw [bys_length, hA]; kernel_rfl
  have hz := Try.zeroRes
  have HL := hide hL
  have HN := hide hn
  clear hk0 r00 hrow hlt0 hL hn
  go_enter Try.func14, Try.ntmps14
  go_wp2
  go_loopw [6] (fun x wr => ∃ k : Nat, k ≤ n ∧ x = .int .i64 k ∧ Hid (∀ j, j < k → (L.getD j res0).action ≠ A) ∧ Hid (Kept [] W0 wr)) (fun x wr => n - (intOf x).toNat)
  case atStart => exact ⟨0, Nat.zero_le _, rfl, fun j hj => by omega, Kept.refl _ _⟩
  case round =>
    obtain ⟨k, hk, rfl, HF, HK⟩ := hrel
    have r0 : wr.rangeAt w.heap.size 0 (bys A) := fun j v hj => HK.out.cellOf (HW.out.1 j v hj) (by simp)
    have hrow1 : wr.heap[w.heap.size + 1]? = some (.cells zeroR 36 (0, 0)) := by rw [HK.out.block _ HW.out.2.2.1 (by simp)]; exact HW.out.2.1
    by_cases hlt : k < n
    · have hltz : (k : Int) < (n : Int) := by omega
      obtain ⟨b, off, rfl, hr1⟩ := (HL.out.kept (HW.out.2.2.2.trans HK.out (by simp)) (by simp)) k (by rw [HN.out]; exact hlt)
      have HAT : Hid ((L.getD k res0).action = A → Tb.find L A = some (L.getD k res0)) := fun h => Tb.find_at (by rw [HN.out]; exact hlt) h HF.out
      have HNX : Hid ((L.getD k res0).action ≠ A → ∀ j, j < k + 1 → (L.getD j res0).action ≠ A) := fun h j hj => by
        by_cases e : j = k
        · subst e; exact h
        · exact HF.out j (by omega)
      generalize L.getD k res0 = x at hr1 HAT HNX
      have hra : wr.rangeAt b (off + k * 65) (bys x.action) := fun j v hj => by obtain ⟨hj1, rfl⟩ := bys_get hj; exact hr1 j _ (Res.act (by rw [← x.ha]; exact hj1))
      have i1 : (Try.prog.info? 34).map (·.size) = some (bys x.action).length := by rw [bys_length, x.ha]; kernel_rfl
      have heq := Try.eqlID x.action A x.ha hA
      obtain ⟨D, hD⟩ : ∃ D, decide (x.action = A) = D := ⟨_, rfl⟩
      simp only [hD] at heq
      have HD := hide hD
      clear hD
      go_upto_region 4 with (fail)
      refine wp_region_held_drew (S := fun w' => Kept [] wr w') (by kernel_rfl) ((Kept.refl [] wr).drew) (fun h0 => ?_)
      generalize World.drew wr = v0 at h0 ⊢
      refine wpAnyH_take (i := 0) (v := .slice (some ⟨b, off, none⟩) n cap) rfl (by kernel_rfl) (by kernel_rfl) (by kernel_rfl) (fun _ _ _ h => h) (Or.inl ⟨by rfl, fun w hSw => by go_simp⟩) h0 ?_
      try simp only [List.getElem_toArray, List.getElem_cons_zero, List.getElem_cons_succ, Act.put, List.setIfInBounds_toArray, List.set_cons_zero, List.set_cons_succ]
      refine wpAnyH_take (i := 1) (v := .int .i64 k) rfl (by kernel_rfl) (by kernel_rfl) (by kernel_rfl) (fun _ _ _ h => h) (Or.inl ⟨by rfl, fun w hSw => by go_simp⟩) h0 ?_
      try simp only [List.getElem_toArray, List.getElem_cons_zero, List.getElem_cons_succ, Act.put, List.setIfInBounds_toArray, List.set_cons_zero, List.set_cons_succ]
      refine wpAnyH_take (i := 2) (v := .pointer (some ⟨b, off + k * 65, none⟩)) rfl (by kernel_rfl) (by kernel_rfl) (by kernel_rfl) (fun _ _ _ h => h) (Or.inl ⟨by rfl, fun w hSw => by go_simp⟩) h0 ?_
      try simp only [List.getElem_toArray, List.getElem_cons_zero, List.getElem_cons_succ, Act.put, List.setIfInBounds_toArray, List.set_cons_zero, List.set_cons_succ]
      refine wpAnyH_take (i := 3) (v := .pointer (some ⟨b, off + k * 65, none⟩)) rfl (by kernel_rfl) (by kernel_rfl) (by kernel_rfl) (fun _ _ _ h => h) (Or.inl ⟨by rfl, fun w hSw => by go_simp⟩) h0 ?_
      try simp only [List.getElem_toArray, List.getElem_cons_zero, List.getElem_cons_succ, Act.put, List.setIfInBounds_toArray, List.set_cons_zero, List.set_cons_succ]
      refine wpAnyH_take (i := 4) rfl (by kernel_rfl) (by kernel_rfl) (by kernel_rfl) (fun _ _ _ h => h) (yieldsIf_load_mid (by rfl) _ _ rfl _ _ rfl _ _ (fun w h j v hv => Kept.cellOf h (hra j v hv) (by simp)) Try.underlying34 rfl i1) h0 ?_
      try simp only [List.getElem_toArray, List.getElem_cons_zero, List.getElem_cons_succ, Act.put, List.setIfInBounds_toArray, List.set_cons_zero, List.set_cons_succ]
      refine wpAnyH_take (i := 5) rfl (by kernel_rfl) (by kernel_rfl) (by kernel_rfl) (fun _ _ _ h => h) (yieldsIf_load_mid (by rfl) _ _ rfl _ _ rfl _ _ (fun w h j v hv => Kept.cellOf h (r0 j v hv) (by simp)) Try.underlying34 rfl iA) h0 ?_
      try simp only [List.getElem_toArray, List.getElem_cons_zero, List.getElem_cons_succ, Act.put, List.setIfInBounds_toArray, List.set_cons_zero, List.set_cons_succ]
      refine wpAnyH_take (i := 6) (v := .bool D) rfl (by kernel_rfl) (by kernel_rfl) (by kernel_rfl) (fun _ _ _ h => h) (Or.inl ⟨by rfl, fun w hSw => by have c := heq w; go_simp⟩) h0 ?_
      try simp only [List.getElem_toArray, List.getElem_cons_zero, List.getElem_cons_succ, Act.put, List.setIfInBounds_toArray, List.set_cons_zero, List.set_cons_succ]
      refine wpAnyH_done (by kernel_rfl) ?_ _
      clear heq i1 hra
      have H0 := hide h0
      replace hr1 : v0.rangeAt b (off + k * 65) x.cells := fun j v hv => h0.cellOf (hr1 j v hv) (by simp)
      replace hrow1 : v0.heap[w.heap.size + 1]? = some (.cells zeroR 36 (0, 0)) := by rw [h0.block _ (Nat.lt_of_lt_of_le HW.out.2.2.1 HK.out.size) (by simp)]; exact hrow1
      clear h0
      cases D with
      | true =>
        have hfd : Hid (Tb.find L A = some x) := HAT.out (of_decide_eq_true HD.out)
        have ia : (Try.prog.info? 36).map (·.size) = some x.cells.toArray.size := by rw [res_size]; exact Try.infoResS
        have i3 : (Try.prog.info? 36).map (·.size) = some x.cells.length := by rw [x.len]; exact Try.infoResS
        go_wp2_with (first
          | refine wpList_load_mid rfl 36 (.tmp 22) rfl b (off + k * 65) rfl x.cells _ hr1 Try.underlying36 rfl i3 ?_
          | refine wpList_store_rowTo rfl 36 (.tmp 4) (.tmp 23) rfl rfl (w.heap.size + 1) x.cells.toArray rfl rfl 36 zeroR hrow1 ia (zero_size x) (res_all x) ?_)
        refine ret_row2 rfl rfl (w.heap.size + 1) x.cells _ rfl (res_range (setRow_heap _ _ _ _ _ _ hrow1)) Try.underlying36 rfl i3 ⟨by rw [hfd.out]; rfl, ((HW.out.2.2.2.trans HK.out (by simp)).trans H0.out (by simp)).trans (kept_row v0 _ _) (by simp)⟩
      | false =>
        go_wp2
        go_roundw
        case rel => exact ⟨k + 1, by omega, by go_num, HNX.out (of_decide_eq_false HD.out), HK.out.trans H0.out (by simp)⟩
        case measure => simp [intOf]; omega
    · have hltz : ¬ (k : Int) < (n : Int) := by omega
      have hfd : Hid (Tb.find L A = none) := by
        show Tb.find L A = none
        unfold Tb.find
        rw [List.find?_eq_none]
        intro e he
        obtain ⟨j, hj, rfl⟩ := List.getElem_of_mem he
        have := HF.out j (by have := HN.out; omega)
        simpa [List.getElem?_eq_getElem hj] using this
      have ia : (Try.prog.info? 36).map (·.size) = some res0.cells.toArray.size := by rw [res_size]; exact Try.infoResS
      have i1 : (Try.prog.info? 36).map (·.size) = some res0.cells.length := by rw [res0.len]; exact Try.infoResS
      have hbu : ∀ W, (Instr.build 36 #[]).run Try.prog W = .ok (.agg res0.cells.toArray) W := fun W => by kernel_rfl
      clear r0
      go_wp2_with (refine wpList_store_rowTo rfl 36 (.tmp 4) (.tmp 24) rfl rfl (w.heap.size + 1) res0.cells.toArray rfl rfl 36 zeroR hrow1 ia (zero_size res0) (res_all res0) ?_)
      refine ret_row2 rfl rfl (w.heap.size + 1) res0.cells _ rfl (res_range (setRow_heap _ _ _ _ _ _ hrow1)) Try.underlying36 rfl i1 ⟨by rw [hfd.out]; rfl, (HW.out.2.2.2.trans HK.out (by simp)).trans (kept_row wr _ _) (by simp)⟩
end Go.Proofs.Ytdeneflgldagpab
