/-
  Contracts of freightref5: Remove, Rename, Create. (Written by tools/rel.py.)
-/
import Derived.Test.YtmoaaimjgdbelaaGreatRefp
import Derived.StillTailTactics
namespace Go.Proofs.YtmoaaimjgdbelaaGreat
open Go.RowKit Dsk
set_option linter.unusedVariables false
set_option linter.unusedSimpArgs false
section
variable {w : World} {q : Nat} {S : Ds} {A : Nat → Nat} {o : Lab} {nv bv tv sv : Value}

set_option maxHeartbeats 3200000 in
set_option maxRecDepth 100000 in
theorem rremove_ok (h : RDx w q S A o nv bv tv sv) (hwf : S.Wf) {N : Nat} (hB : S.Bd N) (hN : N ≤ 268435456) (n : By) (hn : n.length ≤ 4611686018427387904) :
    Calls Tryz.prog 67 #[.pointer (some ⟨q, 0, none⟩), encStr n] w fun e w' => e = .returned (.int .i64 (S.remove n).1) ∧ RAft w w' q (S.remove n).2 o := by
  have hth := there_ok h hwf.sup (by have := hB.shown hwf; omega) n hn
  by_cases h0 : (S.find n).1 = 0
  · have hst := rstroke_ok h (by have := hB.strokes; omega) (by have := hB.planned; omega)
    rw [h0] at hth
    have hrem : S.remove n = (S.ans 0, S.tick.addName (.tk n)) := by simp [Ds.remove, h0]
    have hwfE : (S.tick.addName (.tk n)).Wf := by have := hwf.remove n; rw [hrem] at this; exact this
    have HC := hide hrem
    obtain ⟨m, hm⟩ : ∃ m, S.shown.length = m := ⟨_, rfl⟩
    obtain ⟨no, nc, hnv⟩ := h.nvs
    rw [hm] at hnv
    subst hnv
    have hml : m ≤ 268435456 := by have := hB.shown hwf; omega
    have hrl : (Ds.cnt S).row.length ≤ 268435456 := by have := hB.nm; show S.row.length ≤ _; omega
    have HOQ : Hid (o q ≠ 0) := hide (by rw [h.lq]; decide)
    have hlq := h.lq
    have HLQ := hide hlq
    clear h hB h0 hrem hlq
    generalize thereI S n = I at hth
    go_enter Tryz.func67, Tryz.ntmps67
    go_upto_region 6 with (first
      | (go_at_call 92; refine hth.mono ?_; rintro e w' ⟨rfl, hw⟩; obtain rfl := hw.symm; clear hth)
      | (go_at_call 89; refine hst.mono ?_; rintro e w2 ⟨rfl, hR2, hK2⟩; have HKW := hide (hK2.mono (G := o.mine) (fun i e _ => by show o i ≠ 0; rw [show i = q from e, HLQ.out]; decide)); clear hst hK2))
    obtain ⟨w3, hw3⟩ : ∃ w3, w3 = w2.alloc (.cells #[.int .i64 3, .string { data := List.toArray n }, .string { data := #[] }, .pointer none] 134) := ⟨_, rfl⟩
    have hk3 : Kept [] w2 w3 := by rw [hw3]; exact (Kept.refl [] w2).alloc _
    have hb3 : w3.heap[w2.heap.size]? = some (.cells #[.int .i64 3, .string { data := List.toArray n }, .string { data := #[] }, .pointer none] 134 (0, 0)) := by rw [hw3]; exact (MapKept.heap_alloc w2 _).1
    have oX : o w2.heap.size = 0 := Classical.byContradiction fun hn => by have := hR2.lim _ hn; omega
    have hXl : w2.heap.size < w3.heap.size := by rw [hw3]; simp
    rw [← hw3]
    clear hw3
    generalize w2.heap.size = X at hb3 oX hXl ⊢
    have HB3 := hide hb3
    have b0 : w3.cell? ⟨X, 0, none⟩ = some (.int .i64 3) := by rw [cell_of_row w3 _ 0 _ _ _ hb3]; rfl
    have b1 : w3.cell? ⟨X, 1, none⟩ = some (encStr n) := by rw [cell_of_row w3 _ 1 _ _ _ hb3]; rfl
    have b2 : w3.cell? ⟨X, 2, none⟩ = some (encStr []) := by rw [cell_of_row w3 _ 2 _ _ _ hb3]; rfl
    have b3 : w3.cell? ⟨X, 3, none⟩ = some (.pointer none) := by rw [cell_of_row w3 _ 3 _ _ _ hb3]; rfl
    have hR3 := (hR2.kept hk3).kept ((Kept.refl [] w3).drew)
    have hK3 : Keep o.mine w w3 := HKW.out.kept hk3
    have c2 : w3.cell? ⟨q, 2, none⟩ = some (.slice no m nc) := hR3.cell 2 _ rfl
    have ht := turnTk_ok no m nc A S.shown n [] (.bool true) w3.drew hm (by omega) (by have := hR3.now; rw [show (Ds.cnt S).shown.length = m from hm] at this; exact this)
    have HR3 := hide hR3
    have HK3 := hide hK3
    
    clear hR2 hR3 hk3 hb3 hK3
    refine wp_region_late (fun w' => Kept [] w3 w') (fun i => i == 6 || i == 9) (by kernel_rfl) ?_
    have h0 : Kept [] w3 w3.drew := (Kept.refl [] w3).drew
    generalize World.drew w3 = v0 at h0 HR3 ht ⊢
    refine wpAnyL_free (i := 0) (v := .pointer (some ⟨q, 0, none⟩)) rfl (by kernel_rfl) (by kernel_rfl) (by kernel_rfl) (fun _ _ _ h => h) (Or.inl ⟨by rfl, fun w _ => by go_simp⟩) ?_
    try simp only [List.getElem_toArray, List.getElem_cons_zero, List.getElem_cons_succ, Act.put, List.setIfInBounds_toArray, List.set_cons_zero, List.set_cons_succ]
    refine wpAnyL_free (i := 1) (v := .pointer (some ⟨q, 0, none⟩)) rfl (by kernel_rfl) (by kernel_rfl) (by kernel_rfl) (fun _ _ _ h => h) (Or.inl ⟨by rfl, fun w _ => by go_simp⟩) ?_
    try simp only [List.getElem_toArray, List.getElem_cons_zero, List.getElem_cons_succ, Act.put, List.setIfInBounds_toArray, List.set_cons_zero, List.set_cons_succ]
    refine wpAnyL_free (i := 2) (v := .pointer (some ⟨q, 0, none⟩)) rfl (by kernel_rfl) (by kernel_rfl) (by kernel_rfl) (fun _ _ _ h => h) (Or.inl ⟨by rfl, fun w _ => by go_simp⟩) ?_
    try simp only [List.getElem_toArray, List.getElem_cons_zero, List.getElem_cons_succ, Act.put, List.setIfInBounds_toArray, List.set_cons_zero, List.set_cons_succ]
    refine wpAnyL_free (i := 3) (v := .pointer (some ⟨q, 2, none⟩)) rfl (by kernel_rfl) (by kernel_rfl) (by kernel_rfl) (fun _ _ _ h => h) (Or.inl ⟨by rfl, fun w _ => by go_simp⟩) ?_
    try simp only [List.getElem_toArray, List.getElem_cons_zero, List.getElem_cons_succ, Act.put, List.setIfInBounds_toArray, List.set_cons_zero, List.set_cons_succ]
    refine wpAnyL_take (i := 4) (v := .slice no m nc) rfl (by kernel_rfl) (by kernel_rfl) (by kernel_rfl) (by kernel_rfl) (by kernel_rfl) (fun _ _ _ h => h) (Or.inl ⟨by rfl, fun w hSw => by have q0 := Kept.cellOf hSw c2 (by simp); go_simp⟩) h0 ?_
    try simp only [List.getElem_toArray, List.getElem_cons_zero, List.getElem_cons_succ, Act.put, List.setIfInBounds_toArray, List.set_cons_zero, List.set_cons_succ]
    refine wpAnyL_take (i := 5) (v := .agg #[.int .i64 3, encStr n, encStr [], .pointer none]) rfl (by kernel_rfl) (by kernel_rfl) (by kernel_rfl) (by kernel_rfl) (by kernel_rfl) (fun _ _ _ h => h) (Or.inl ⟨by rfl, fun w hSw => by have q0 := Kept.cellOf hSw b0 (by simp); have q1 := Kept.cellOf hSw b1 (by simp); have q2 := Kept.cellOf hSw b2 (by simp); have q3 := Kept.cellOf hSw b3 (by simp); go_simp⟩) h0 ?_
    try simp only [List.getElem_toArray, List.getElem_cons_zero, List.getElem_cons_succ, Act.put, List.setIfInBounds_toArray, List.set_cons_zero, List.set_cons_succ]
    refine wpAnyL_one (i := 6) (by kernel_rfl) rfl (fun K hK => ?_)
    rw [if_pos (by rfl)]
    go_simp
    refine ht.mono ?_
    rintro e w4 ⟨v4, rfl, hB4⟩
    obtain ⟨vo4, vc4, rfl⟩ := hB4.shape
    have HB4 := hide hB4
    have c4 := (HR3.out.setNow hB4).2.2.1
    have f4 := (HR3.out.setNow hB4).2.2.2
    clear ht hB4 b0 b1 b2 b3 c2
    refine hK.out _ _ (fun _ h => by cases h) ?_
    clear hK K
    try simp only [List.getElem_toArray, List.getElem_cons_zero, List.getElem_cons_succ, Act.put, List.setIfInBounds_toArray, List.set_cons_zero, List.set_cons_succ]
    refine wpAnyL_free (i := 7) (v := .pointer (some ⟨q, 0, none⟩)) rfl (by kernel_rfl) (by kernel_rfl) (by kernel_rfl) (fun _ _ _ h => h) (Or.inl ⟨by rfl, fun w _ => by go_simp⟩) ?_
    try simp only [List.getElem_toArray, List.getElem_cons_zero, List.getElem_cons_succ, Act.put, List.setIfInBounds_toArray, List.set_cons_zero, List.set_cons_succ]
    refine wpAnyL_free (i := 8) (v := .pointer (some ⟨q, 2, none⟩)) rfl (by kernel_rfl) (by kernel_rfl) (by kernel_rfl) (fun _ _ _ h => h) (Or.inl ⟨by rfl, fun w _ => by go_simp⟩) ?_
    try simp only [List.getElem_toArray, List.getElem_cons_zero, List.getElem_cons_succ, Act.put, List.setIfInBounds_toArray, List.set_cons_zero, List.set_cons_succ]
    refine wpAnyL_one (i := 9) (by kernel_rfl) rfl (fun K hK => ?_)
    rw [if_pos (by rfl)]
    go_simp
    refine hK.out _ _ (fun _ h => by cases h) ?_
    clear hK K
    try simp only [List.getElem_toArray, List.getElem_cons_zero, List.getElem_cons_succ, Act.put, List.setIfInBounds_toArray, List.set_cons_zero, List.set_cons_succ]
    refine wpAnyL_done (by kernel_rfl) ?_ _
    go_upto_region 7 with (fail)
    obtain ⟨hR5, hK5, _, _⟩ := HR3.out.setNow HB4.out
    have hsz5 : X < v0.heap.size := Nat.lt_of_lt_of_le hXl h0.size
    have b5 := hK5.heapOf ((Keep.ofNone (F := fun _ => False) h0).heapOf HB3.out (fun h => h)) (by rw [oX]; decide)
    have oX5 : Lab.ext o v0 w4 1 X = 0 := by rw [Lab.ext_old hsz5]; exact oX
    clear c4 f4
    generalize w4.setCell _ _ = w5 at hR5 hK5 b5 ⊢
    obtain ⟨o5, ho5⟩ : ∃ o5, o5 = Lab.ext o v0 w4 1 := ⟨_, rfl⟩
    have he5 : ∀ b, b < w3.heap.size → o5 b ≠ 0 → o b ≠ 0 := fun b hb hn => ext_le (Nat.lt_of_lt_of_le hb h0.size) (by rw [← ho5]; exact hn)
    have HL1 : Hid (∀ k, k < v0.heap.size → o5 k = o k) := hide (fun k hk => by rw [ho5]; exact Lab.ext_old hk)
    rw [← ho5] at hR5 oX5
    clear ho5
    obtain ⟨to, tc, rfl⟩ := hR5.tvs
    obtain ⟨nr, hnr⟩ : ∃ nr, (Ds.cnt S).row.length = nr := ⟨_, rfl⟩
    rw [show ({ (Ds.cnt S) with shown := (.tk n : Nc).apply (Ds.cnt S).shown } : Ds).row.length = nr from hnr] at hR5
    have hR5d := hR5.kept ((Kept.refl [] w5).drew)
    
    obtain ⟨g7, c7, w7, hap, d4, f7, hR7, hK7⟩ := hR5d.addTurn hnr (by have := hrl; omega) (.tk n) [.int .i64 3, encStr n, encStr [], .pointer none] rfl (fun u hu => by simp only [List.mem_cons, List.not_mem_nil, or_false] at hu; rcases hu with rfl | rfl | rfl | rfl <;> rfl) (by simp [Nc.made])
    have d0 := cell_of_row w5 _ 0 _ _ _ b5
    have d1 := cell_of_row w5 _ 1 _ _ _ b5
    have d2 := cell_of_row w5 _ 2 _ _ _ b5
    have d3 := cell_of_row w5 _ 3 _ _ _ b5
    simp only [List.getElem?_toArray, List.getElem?_cons_zero, List.getElem?_cons_succ] at d0 d1 d2 d3
    have t4 : w5.cell? ⟨q, 4, none⟩ = some (.slice to nr tc) := hR5.cell 4 _ rfl
    have hen := fun b x => rend_ok hR7 b x
    have HFIN : Hid (∀ v a1 a2 a3 a4, RDx v q { ({ ({ (Ds.cnt S) with shown := (.tk n : Nc).apply (Ds.cnt S).shown } : Ds) with row := (Ds.cnt S).row ++ [.tk n] } : Ds) with on := (Ds.cnt S).on && !S.goesOff } A (o5.ext w5.drew w7 1) a1 a2 a3 a4 → Keep (· = q) (w7.setCell ⟨q, 4, none⟩ (.slice (some ⟨g7, 0, none⟩) (nr + 1) c7)) v → RAft w v q (S.tick.addName (.tk n)) o) := hide (fun v a1 a2 a3 a4 hv hkv => by
      refine ⟨A, o5.ext w5.drew w7 1, ⟨hwfE, a1, a2, a3, a4, hv⟩, fun b hb hn => ?_, ?_⟩
      · have hb3 : b < w3.heap.size := Nat.lt_of_lt_of_le hb HK3.out.size
        have hb5 : b < w5.drew.heap.size := Nat.lt_of_lt_of_le (Nat.lt_of_lt_of_le hb3 h0.size) hK5.size
        exact he5 b hb3 (ext_le hb5 hn)
      · have k1 := (HK3.out.kept h0).trans hK5 (fun i e hi => by show o i ≠ 0; rw [show o i = 1 from e]; decide)
        have k2 := k1.drew.trans hK7 (fun i e hi => by
          have hi3 : i < v0.heap.size := Nat.lt_of_lt_of_le (Nat.lt_of_lt_of_le hi HK3.out.size) h0.size
          show o i ≠ 0
          rw [← HL1.out i hi3, show o5 i = 1 from e]; decide)
        have k3 := k2.trans hkv (fun i e hi => by show o i ≠ 0; rw [show i = q from e]; exact HOQ.out)
        exact k3)
    clear hR5 hR5d hR7 hK7 b5 HB3 HR3 HB4
    refine wp_region_late (fun w' => Kept [] w5 w') (fun i => i == 7 || i == 10) (by kernel_rfl) ?_
    have h5 : Kept [] w5 w5.drew := (Kept.refl [] w5).drew
    generalize World.drew w5 = v5 at h5 hap HFIN hen ⊢
    refine wpAnyL_free (i := 0) (v := .pointer (some ⟨q, 0, none⟩)) rfl (by kernel_rfl) (by kernel_rfl) (by kernel_rfl) (fun _ _ _ h => h) (Or.inl ⟨by rfl, fun w _ => by go_simp⟩) ?_
    try simp only [List.getElem_toArray, List.getElem_cons_zero, List.getElem_cons_succ, Act.put, List.setIfInBounds_toArray, List.set_cons_zero, List.set_cons_succ]
    refine wpAnyL_free (i := 1) (v := .pointer (some ⟨q, 0, none⟩)) rfl (by kernel_rfl) (by kernel_rfl) (by kernel_rfl) (fun _ _ _ h => h) (Or.inl ⟨by rfl, fun w _ => by go_simp⟩) ?_
    try simp only [List.getElem_toArray, List.getElem_cons_zero, List.getElem_cons_succ, Act.put, List.setIfInBounds_toArray, List.set_cons_zero, List.set_cons_succ]
    refine wpAnyL_free (i := 2) (v := .pointer (some ⟨q, 0, none⟩)) rfl (by kernel_rfl) (by kernel_rfl) (by kernel_rfl) (fun _ _ _ h => h) (Or.inl ⟨by rfl, fun w _ => by go_simp⟩) ?_
    try simp only [List.getElem_toArray, List.getElem_cons_zero, List.getElem_cons_succ, Act.put, List.setIfInBounds_toArray, List.set_cons_zero, List.set_cons_succ]
    refine wpAnyL_free (i := 3) (v := .pointer (some ⟨q, 4, none⟩)) rfl (by kernel_rfl) (by kernel_rfl) (by kernel_rfl) (fun _ _ _ h => h) (Or.inl ⟨by rfl, fun w _ => by go_simp⟩) ?_
    try simp only [List.getElem_toArray, List.getElem_cons_zero, List.getElem_cons_succ, Act.put, List.setIfInBounds_toArray, List.set_cons_zero, List.set_cons_succ]
    refine wpAnyL_take (i := 4) (v := .slice to nr tc) rfl (by kernel_rfl) (by kernel_rfl) (by kernel_rfl) (by kernel_rfl) (by kernel_rfl) (fun _ _ _ h => h) (Or.inl ⟨by rfl, fun w hSw => by have q0 := Kept.cellOf hSw t4 (by simp); go_simp⟩) h5 ?_
    try simp only [List.getElem_toArray, List.getElem_cons_zero, List.getElem_cons_succ, Act.put, List.setIfInBounds_toArray, List.set_cons_zero, List.set_cons_succ]
    refine wpAnyL_take (i := 5) (v := .agg #[.int .i64 3, encStr n, encStr [], .pointer none]) rfl (by kernel_rfl) (by kernel_rfl) (by kernel_rfl) (by kernel_rfl) (by kernel_rfl) (fun _ _ _ h => h) (Or.inl ⟨by rfl, fun w hSw => by have q0 := Kept.cellOf hSw d0 (by simp); have q1 := Kept.cellOf hSw d1 (by simp); have q2 := Kept.cellOf hSw d2 (by simp); have q3 := Kept.cellOf hSw d3 (by simp); go_simp⟩) h5 ?_
    try simp only [List.getElem_toArray, List.getElem_cons_zero, List.getElem_cons_succ, Act.put, List.setIfInBounds_toArray, List.set_cons_zero, List.set_cons_succ]
    refine wpAnyL_one (i := 6) (by kernel_rfl) rfl (fun K hK => ?_)
    rw [if_pos (by rfl)]
    go_simp
    refine hK.out _ _ (fun _ _ => h5.alloc _) ?_
    clear hK K
    try simp only [List.getElem_toArray, List.getElem_cons_zero, List.getElem_cons_succ, Act.put, List.setIfInBounds_toArray, List.set_cons_zero, List.set_cons_succ]
    refine wpAnyL_one (i := 7) (by kernel_rfl) rfl (fun K hK => ?_)
    rw [if_pos (by rfl)]
    refine wp_append_run (.tmp 39) (.tmp 41) 72 72 rfl (.slice to nr tc) (.slice (some ⟨v5.heap.size, 0, none⟩) 1 1) rfl rfl (.slice (some ⟨g7, 0, none⟩) (nr + 1) c7) w7 hap ?_
    refine hK.out _ _ (fun _ h => by cases h) ?_
    clear hK K
    try simp only [List.getElem_toArray, List.getElem_cons_zero, List.getElem_cons_succ, Act.put, List.setIfInBounds_toArray, List.set_cons_zero, List.set_cons_succ]
    refine wpAnyL_free (i := 8) (v := .pointer (some ⟨q, 0, none⟩)) rfl (by kernel_rfl) (by kernel_rfl) (by kernel_rfl) (fun _ _ _ h => h) (Or.inl ⟨by rfl, fun w _ => by go_simp⟩) ?_
    try simp only [List.getElem_toArray, List.getElem_cons_zero, List.getElem_cons_succ, Act.put, List.setIfInBounds_toArray, List.set_cons_zero, List.set_cons_succ]
    refine wpAnyL_free (i := 9) (v := .pointer (some ⟨q, 4, none⟩)) rfl (by kernel_rfl) (by kernel_rfl) (by kernel_rfl) (fun _ _ _ h => h) (Or.inl ⟨by rfl, fun w _ => by go_simp⟩) ?_
    try simp only [List.getElem_toArray, List.getElem_cons_zero, List.getElem_cons_succ, Act.put, List.setIfInBounds_toArray, List.set_cons_zero, List.set_cons_succ]
    refine wpAnyL_one (i := 10) (by kernel_rfl) rfl (fun K hK => ?_)
    rw [if_pos (by rfl)]
    go_simp
    refine hK.out _ _ (fun _ h => by cases h) ?_
    clear hK K
    try simp only [List.getElem_toArray, List.getElem_cons_zero, List.getElem_cons_succ, Act.put, List.setIfInBounds_toArray, List.set_cons_zero, List.set_cons_succ]
    refine wpAnyL_done (by kernel_rfl) ?_ _
    go_wp2_with (first
      | (go_at_call 90; refine (hen _ _).mono ?_; rintro e w8 ⟨rfl, hR8, hK8⟩; have H8 := hide (HFIN.out w8 _ _ _ _ hR8 hK8); clear hR8 hK8 hen))
    go_ret
    exact ⟨by rw [HC.out]; rfl, by rw [HC.out]; exact H8.out⟩
  · have HC : Hid (S.remove n = ((S.find n).1, S)) := hide (by simp [Ds.remove, h0])
    have HA := hide (RAft.of ⟨hwf, _, _, _, _, h⟩ (Keep.refl _ w))
    generalize (S.find n).1 = E at hth h0 HC
    generalize thereI S n = I at hth
    have e0 : (E == 0) = false := by simpa using h0
    have e1 : (E != 0) = true := by simpa using h0
    clear h hB h0
    go_enter Tryz.func67, Tryz.ntmps67
    go_wp2_with (go_at_call 92; refine hth.mono ?_; rintro e w' ⟨rfl, hw⟩; obtain rfl := hw.symm; clear hth)
    go_ret
    exact ⟨by rw [HC.out]; rfl, by rw [HC.out]; exact HA.out⟩
end
end Go.Proofs.YtmoaaimjgdbelaaGreat
