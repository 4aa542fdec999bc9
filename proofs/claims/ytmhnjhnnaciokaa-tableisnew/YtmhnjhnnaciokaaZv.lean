/-
  Contract: freightlaw8.awake. (Written by tools/zv.py.)
-/
import Derived.Test.YtmhnjhnnaciokaaZu
namespace Go.Proofs.Ytmhnjhnnaciokaa
open Go.RowKit Go.Sort
set_option linter.unusedVariables false
set_option linter.unusedSimpArgs false

theorem awake_enc (W : World) (g : Nat) (hg : W.heap[g]? = some (.cells rA.cells.toArray 26 (0, 0))) : Calls Try.prog 7 #[.slice (some ⟨g, 0, none⟩) 1 1] W fun r w' => ∃ bs cs, r = .returned (.tuple #[.slice (some ⟨bs, 0, none⟩) 66 cs, .int .i64 0]) ∧ w'.cell? ⟨bs, 0, none⟩ = some (.int .u8 1) ∧ w'.cell? ⟨bs, 1, none⟩ = some (.int .u8 1) ∧ w'.cell? ⟨bs, 65, none⟩ = some (.int .u8 7) ∧ Kept [] W w' := by
  have h := encode_ok (some ⟨g, 0, none⟩) 1 1 [rA] W rfl (by omega) (one_ress (res_range hg)) (.inr ⟨_, rfl⟩)
  rw [vA, eA] at h
  refine h.mono ?_
  rintro r w' ⟨⟨v, rfl, ho⟩, hb⟩
  rcases ho.2 with ⟨_, h0⟩ | ⟨bs, cs, cur, rfl, _, hh, _, _, _, ht⟩
  · cases h0
  · have hc : ∀ j u, (bys (1 :: (aA ++ List.replicate 32 0 ++ [7])))[j]? = some u → w'.cell? ⟨bs, j, none⟩ = some u := fun j u hj => by
      rw [← ht, List.getElem?_take] at hj
      rw [cell_of_row _ _ _ _ _ _ hh]
      split at hj
      · simpa using hj
      · cases hj
    exact ⟨bs, cs, rfl, hc 0 _ rfl, hc 1 _ rfl, hc 65 _ rfl, Kept.of_below hb⟩
theorem awake_enc2 (W : World) (g : Nat) (hg : W.heap[g]? = some (.cells (rA.cells ++ rB.cells).toArray 26 (0, 0))) : Calls Try.prog 7 #[.slice (some ⟨g, 0, none⟩) 2 2] W fun r w' => ∃ v, r = .returned (.tuple #[v, .int .i64 80]) ∧ Kept [] W w' := by
  have h := encode_ok (some ⟨g, 0, none⟩) 2 2 [rA, rB] W rfl (by omega) (two_ress hg) (.inr ⟨_, rfl⟩)
  rw [vB] at h
  refine h.mono ?_
  rintro r w' ⟨⟨v, rfl, ho⟩, hb⟩
  exact ⟨v, rfl, Kept.of_below hb⟩
theorem awake_with (W : World) (g : Nat) (hg : W.heap[g]? = some (.cells rA.cells.toArray 26 (0, 0))) : Calls Try.prog 5 #[.slice (some ⟨g, 0, none⟩) 1 1, .agg rC.cells.toArray] W fun r w' => ∃ bl cl, r = .returned (.tuple #[.slice (some ⟨bl, 0, none⟩) 1 cl, .int .i64 0]) ∧ 1 ≤ cl ∧ cl ≤ 9223372036854775807 ∧ w'.rangeAt bl 0 rC.cells ∧ Kept [] W w' := by
  have h := with_ok (some ⟨g, 0, none⟩) 1 1 [rA] rC W rfl (one_ress (res_range hg)) (.inr ⟨_, rfl⟩) (by simp) (by omega) (by omega) (by omega)
  rw [wE, wL] at h
  refine h.mono ?_
  rintro r w' ⟨⟨v, rfl, ho⟩, hk⟩
  obtain ⟨ao, cap, rfl, hn, hR, hao, hcm⟩ := ho.ress
  obtain ⟨b, o, rfl, _, hr⟩ := hR.open (by simp)
  obtain ⟨g', eg, _, _, _⟩ := hao _ rfl
  cases eg
  obtain ⟨cur, _, _, _, hml, _, _, _⟩ := OwnR.row ho
  exact ⟨b, cap, rfl, hn, by unfold maxLen at hml; omega, hr 0 (by simp), hk⟩
theorem awake_join (W : World) (g bl cl : Nat) (hg : W.heap[g]? = some (.cells rA.cells.toArray 26 (0, 0))) (hl : W.rangeAt bl 0 rC.cells) (h1 : 1 ≤ cl) (h2 : cl ≤ 9223372036854775807) : Calls Try.prog 6 #[.slice (some ⟨g, 0, none⟩) 1 1, .slice (some ⟨bl, 0, none⟩) 1 cl, .int .i64 3] W fun r w' => ∃ v bc cc, r = .returned (.tuple #[v, .slice (some ⟨bc, 0, none⟩) 1 cc, .int .i64 150]) ∧ w'.rangeAt bc 0 (bys aA) ∧ Kept [] W w' := by
  have h := join_ok (some ⟨g, 0, none⟩) (some ⟨bl, 0, none⟩) 1 1 1 cl [rA] [rC] 3 W (by omega) (by omega) rfl rfl ⟨one_ress (res_range hg), .inr ⟨_, rfl⟩, by simp⟩ ⟨one_ress hl, .inr ⟨_, rfl⟩, by simp⟩ (by omega) h1 (by omega) h2
  rw [jF] at h
  refine h.mono ?_
  rintro r w' ⟨⟨v, vc, rfl, _, hi⟩, hk⟩
  rcases hi.1.2 with ⟨_, h0⟩ | ⟨bc, cc, cur, rfl, _, hh, _, _, _, ht⟩
  · cases h0
  · refine ⟨v, bc, cc, rfl, fun j u hj => ?_, hk⟩
    have hj' : (idrows [aA])[j]? = some u := by simpa [idrows] using hj
    rw [← ht, List.getElem?_take] at hj'
    rw [Nat.zero_add, cell_of_row _ _ _ _ _ _ hh]
    split at hj'
    · simpa using hj'
    · cases hj'
theorem awake_arg (W : World) (g1 g2 : Nat) : Calls Try.prog 6 #[.slice (some ⟨g1, 0, none⟩) 1 1, .slice (some ⟨g2, 0, none⟩) 1 1, .int .i64 4] W fun r w' => r = .returned (.tuple #[.slice none 0 0, .slice none 0 0, .int .i64 1]) ∧ Kept [] W w' := by
  refine (join_arg_exact (some ⟨g1, 0, none⟩) (some ⟨g2, 0, none⟩) 1 1 1 1 4 W rfl).mono ?_
  rintro r w' ⟨rfl, hk⟩
  exact ⟨rfl, hk⟩

theorem awake_start (w : World) : ∃ W1 W2 W3 W5, w.alloc (.cells zeroR 26) = W1 ∧ W1.setCell ⟨w.heap.size, 0, none⟩ (.int .u8 1) = W2 ∧ W2.setCell ⟨w.heap.size, 64, none⟩ (.int .i64 7) = W3 ∧ (withRes W3 rA).setCell ⟨w.heap.size + 1, 64, none⟩ (.int .i64 256) = W5 ∧
    (W1.cell? ⟨w.heap.size, 0, none⟩ = some (.int .u8 0) ∧ W1.frozen? ⟨w.heap.size, 0, none⟩ = false) ∧ (W2.cell? ⟨w.heap.size, 64, none⟩ = some (.int .i64 0) ∧ W2.frozen? ⟨w.heap.size, 64, none⟩ = false) ∧ (W3.rangeAt w.heap.size 0 rA.cells ∧ W3.heap.size = w.heap.size + 1) ∧ ((withRes W3 rA).cell? ⟨w.heap.size + 1, 64, none⟩ = some (.int .i64 7) ∧ (withRes W3 rA).frozen? ⟨w.heap.size + 1, 64, none⟩ = false) ∧ W5.rangeAt w.heap.size 0 rA.cells ∧ W5.rangeAt (w.heap.size + 1) 0 rB.cells ∧ Kept [] w W5 := by
  have r1 := heap_new w (.cells zeroR 26)
  have k1 : Kept [] w (w.alloc (.cells zeroR 26)) := (Kept.refl [] w).alloc _
  have s1 : (w.alloc (.cells zeroR 26)).heap.size = w.heap.size + 1 := by simp
  generalize w.alloc (.cells zeroR 26) = W1 at r1 k1 s1 ⊢
  have r2 := heap_setCell_same W1 w.heap.size 0 _ _ (.int .u8 1) r1
  have k2 : Kept [] w (W1.setCell ⟨w.heap.size, 0, none⟩ (.int .u8 1)) := k1.setCell (by simp) _
  have s2 : (W1.setCell ⟨w.heap.size, 0, none⟩ (.int .u8 1)).heap.size = w.heap.size + 1 := by simp [World.setCell, s1]
  have c1 : W1.cell? ⟨w.heap.size, 0, none⟩ = some (.int .u8 0) := by rw [cell_of_row _ _ _ _ _ _ r1]; rfl
  have f1 := frozen_of_row _ _ 0 _ _ r1
  obtain ⟨W2, e2⟩ : ∃ W2, W1.setCell ⟨w.heap.size, 0, none⟩ (.int .u8 1) = W2 := ⟨_, rfl⟩
  rw [e2] at r2 k2 s2
  have r3 := heap_setCell_same W2 w.heap.size 64 _ _ (.int .i64 7) r2
  have k3 : Kept [] w (W2.setCell ⟨w.heap.size, 64, none⟩ (.int .i64 7)) := k2.setCell (by simp) _
  have s3 : (W2.setCell ⟨w.heap.size, 64, none⟩ (.int .i64 7)).heap.size = w.heap.size + 1 := by simp [World.setCell, s2]
  have c2 : W2.cell? ⟨w.heap.size, 64, none⟩ = some (.int .i64 0) := by rw [cell_of_row _ _ _ _ _ _ r2]; rfl
  have f2 := frozen_of_row _ _ 64 _ _ r2
  obtain ⟨W3, e3⟩ : ∃ W3, W2.setCell ⟨w.heap.size, 64, none⟩ (.int .i64 7) = W3 := ⟨_, rfl⟩
  rw [e3] at r3 k3 s3
  have r3' : W3.heap[w.heap.size]? = some (.cells rA.cells.toArray 26 (0, 0)) := by rw [r3]; rfl
  have r4 := withRes_row W3 rA
  rw [s3] at r4
  have k4 : Kept [] W3 (withRes W3 rA) := Kept.of_below (withRes_below W3 rA)
  have r5 := heap_setCell_same (withRes W3 rA) (w.heap.size + 1) 64 _ _ (.int .i64 256) r4
  have k5 : Kept [w.heap.size + 1] (withRes W3 rA) ((withRes W3 rA).setCell ⟨w.heap.size + 1, 64, none⟩ (.int .i64 256)) := (Kept.refl [w.heap.size + 1] _).setCell (by simp) _
  have h1 := res_range r3'
  refine ⟨W1, W2, W3, _, rfl, e2, e3, rfl, ⟨c1, f1⟩, ⟨c2, f2⟩, ⟨h1, s3⟩, ⟨by rw [cell_of_row _ _ _ _ _ _ r4]; rfl, frozen_of_row _ _ 64 _ _ r4⟩, fun j v hv => k5.cellOf (k4.cellOf (h1 j v hv) (by simp)) (by simp), res_range (e := rB) (t := 26) (f := (0, 0)) (by rw [r5]; rfl), (k3.trans k4 (by simp)).trans k5 (by simp)⟩

set_option maxHeartbeats 6400000 in
set_option maxRecDepth 100000 in
theorem awake_ok (w : World) : Calls Try.prog 12 #[] w fun r w' => r = .returned (.bool true) ∧ Kept [] w w' := by
  obtain ⟨W1, W2, W3, W5, e1, e2, e3, e5, ⟨c1, f1⟩, ⟨c2, f2⟩, ⟨hP3, hs3⟩, ⟨c4, f4⟩, hP5, hQ5, hk5⟩ := awake_start w
  have hz := Try.zeroRes
  have iR : (Try.prog.info? 26).map (·.size) = some rA.cells.length := by kernel_rfl
  have iR2 : (Try.prog.info? 26).map (·.size) = some rB.cells.length := by kernel_rfl
  have iA : (Try.prog.info? 24).map (·.size) = some (bys aA).length := by kernel_rfl
  have ia : (Try.prog.info? 26).map (·.size) = some rA.cells.toArray.size := by kernel_rfl
  have hnz := new_zero W3
  have HK5 := hide hk5
  have HPQ : Hid (W5.rangeAt w.heap.size 0 rA.cells ∧ W5.rangeAt (w.heap.size + 1) 0 rB.cells) := ⟨hP5, hQ5⟩
  have hWR : (W3.alloc (.cells zeroR 26)).setRow (w.heap.size + 1) rA.cells.toArray = withRes W3 rA := by unfold withRes; rw [hs3]
  rw [hs3] at hnz
  clear hk5 hP5 hQ5
  go_enter Try.func12, Try.ntmps12
  go_upto_region 6 with (first
    | refine wpList_load_mid rfl 26 (.tmp 1) rfl w.heap.size 0 rfl rA.cells _ hP3 Try.underlying26 rfl iR ?_
    | (refine wpList_store_rowTo rfl 26 (.tmp 2) (.tmp 18) rfl rfl (w.heap.size + 1) rA.cells.toArray rfl rfl 26 zeroR hnz ia (zero_size rA) (res_all rA) ?_; rw [hWR]))
  clear e1 e2 e3 e5 c1 f1 c2 f2 hP3 hs3 c4 f4 hnz hWR ia
  generalize w.heap.size + 1 = Q at HPQ ⊢
  generalize w.heap.size = P at HPQ ⊢
  have hP := HPQ.out.1
  have hQ := HPQ.out.2
  clear HPQ
  have hE6 : ∀ (W : World) (g : Nat), W.heap[g]? = some (.cells rA.cells.toArray 26 (0, 0)) → Calls Try.prog 7 #[.slice (some ⟨g, 0, none⟩) 1 1] W fun r w' => ∃ bs cs, r = .returned (.tuple #[.slice (some ⟨bs, 0, none⟩) 66 cs, .int .i64 0]) ∧ w'.cell? ⟨bs, 0, none⟩ = some (.int .u8 1) ∧ w'.cell? ⟨bs, 1, none⟩ = some (.int .u8 1) ∧ w'.cell? ⟨bs, 65, none⟩ = some (.int .u8 7) ∧ Kept [] W w' := fun W g hg => awake_enc W g hg
  have hE7 : ∀ (W : World) (g : Nat), W.heap[g]? = some (.cells (rA.cells ++ rB.cells).toArray 26 (0, 0)) → Calls Try.prog 7 #[.slice (some ⟨g, 0, none⟩) 2 2] W fun r w' => ∃ v, r = .returned (.tuple #[v, .int .i64 80]) ∧ Kept [] W w' := fun W g hg => awake_enc2 W g hg
  have hW8 : ∀ (W : World) (g : Nat), W.heap[g]? = some (.cells rA.cells.toArray 26 (0, 0)) → Calls Try.prog 5 #[.slice (some ⟨g, 0, none⟩) 1 1, .agg rC.cells.toArray] W fun r w' => ∃ bl cl, r = .returned (.tuple #[.slice (some ⟨bl, 0, none⟩) 1 cl, .int .i64 0]) ∧ 1 ≤ cl ∧ cl ≤ 9223372036854775807 ∧ w'.rangeAt bl 0 rC.cells ∧ Kept [] W w' := fun W g hg => awake_with W g hg
  have hJ9 : ∀ (W : World) (g bl cl : Nat), W.heap[g]? = some (.cells rA.cells.toArray 26 (0, 0)) → W.rangeAt bl 0 rC.cells → 1 ≤ cl → cl ≤ 9223372036854775807 → Calls Try.prog 6 #[.slice (some ⟨g, 0, none⟩) 1 1, .slice (some ⟨bl, 0, none⟩) 1 cl, .int .i64 3] W fun r w' => ∃ v bc cc, r = .returned (.tuple #[v, .slice (some ⟨bc, 0, none⟩) 1 cc, .int .i64 150]) ∧ w'.rangeAt bc 0 (bys aA) ∧ Kept [] W w' := fun W g bl cl hg hl h1 h2 => awake_join W g bl cl hg hl h1 h2
  have hJ10 : ∀ (W : World) (g1 g2 : Nat), Calls Try.prog 6 #[.slice (some ⟨g1, 0, none⟩) 1 1, .slice (some ⟨g2, 0, none⟩) 1 1, .int .i64 4] W fun r w' => r = .returned (.tuple #[.slice none 0 0, .slice none 0 0, .int .i64 1]) ∧ Kept [] W w' := fun W g1 g2 => awake_arg W g1 g2
  go_upto_region 7 with (first
    | refine wpList_load_mid rfl 26 (.tmp 1) rfl P 0 rfl rA.cells _ hP Try.underlying26 rfl iR ?_
    | refine wpList_build1 rfl (.tmp 21) rfl rA rfl ?_
    | (go_at_call 7; refine (hE6 _ _ (heap_new W5 _)).mono ?_; rintro r w6 ⟨bs, cs, rfl, s0, s1, s65, hk⟩
       replace hk : Kept [] W5 w6 := ((Kept.refl [] W5).alloc _).trans hk (by simp)
       replace hP : w6.rangeAt P 0 rA.cells := (fun j v hv => hk.cellOf (hP j v hv) (by simp))
       replace hQ : w6.rangeAt Q 0 rB.cells := (fun j v hv => hk.cellOf (hQ j v hv) (by simp))
       have HK6 : Hid (Kept [] w w6) := HK5.out.trans hk (by simp)
       have HS : Hid (w6.cell? ⟨bs, 0, none⟩ = some (.int .u8 1) ∧ w6.cell? ⟨bs, 1, none⟩ = some (.int .u8 1) ∧ w6.cell? ⟨bs, 65, none⟩ = some (.int .u8 7)) := ⟨s0, s1, s65⟩
       clear hk s0 s1 s65 hE6))
  go_upto_region 8 with (first
    | refine wpList_load_mid rfl 26 (.tmp 1) rfl P 0 rfl rA.cells _ hP Try.underlying26 rfl iR ?_
    | refine wpList_load_mid rfl 26 (.tmp 2) rfl Q 0 rfl rB.cells _ hQ Try.underlying26 rfl iR2 ?_
    | refine wpList_build2 rfl (.tmp 27) (.tmp 28) rfl rfl rfl ?_
    | (go_at_call 7; refine (hE7 _ _ (heap_new w6 _)).mono ?_; rintro r w7 ⟨v7, rfl, hk⟩
       replace hk : Kept [] w6 w7 := ((Kept.refl [] w6).alloc _).trans hk (by simp)
       replace hP : w7.rangeAt P 0 rA.cells := (fun j v hv => hk.cellOf (hP j v hv) (by simp))
       replace hQ : w7.rangeAt Q 0 rB.cells := (fun j v hv => hk.cellOf (hQ j v hv) (by simp))
       have HK7 : Hid (Kept [] w w7) := HK6.out.trans hk (by simp)
       have HS7 : Hid (w7.cell? ⟨bs, 0, none⟩ = some (.int .u8 1) ∧ w7.cell? ⟨bs, 1, none⟩ = some (.int .u8 1) ∧ w7.cell? ⟨bs, 65, none⟩ = some (.int .u8 7)) := ⟨hk.cellOf HS.out.1 (by simp), hk.cellOf HS.out.2.1 (by simp), hk.cellOf HS.out.2.2 (by simp)⟩
       clear hk hE7))
  have rPa : ∀ W : World, W.rangeAt P 0 rA.cells → W.rangeAt P 0 (bys aA) := fun W h j v hv => by obtain ⟨hj1, rfl⟩ := bys_get hv; exact h j _ (Res.act (e := rA) (by exact hj1))
  have hPa : (w7.alloc (.cells rA.cells.toArray 26)).rangeAt P 0 (bys aA) := rPa _ (fun j v hv => ((Kept.refl [] w7).alloc _).cellOf (hP j v hv) (by simp))
  have hbC := Try.buildC
  go_upto_region 9 with (first
    | refine wpList_load_mid rfl 26 (.tmp 1) rfl P 0 rfl rA.cells _ hP Try.underlying26 rfl iR ?_
    | refine wpList_build1 rfl (.tmp 34) rfl rA rfl ?_
    | refine wpList_load_mid rfl 24 (.tmp 36) rfl P 0 rfl (bys aA) _ hPa Try.underlying24 rfl iA ?_
    | (go_at_call 5; refine (hW8 _ _ (heap_new w7 _)).mono ?_; rintro r w8 ⟨bl, cl, rfl, hcl, hcl2, hl, hk⟩
       replace hk : Kept [] w7 w8 := ((Kept.refl [] w7).alloc _).trans hk (by simp)
       replace hP : w8.rangeAt P 0 rA.cells := (fun j v hv => hk.cellOf (hP j v hv) (by simp))
       replace hQ : w8.rangeAt Q 0 rB.cells := (fun j v hv => hk.cellOf (hQ j v hv) (by simp))
       have HK8 : Hid (Kept [] w w8) := HK7.out.trans hk (by simp)
       have HS8 : Hid (w8.cell? ⟨bs, 0, none⟩ = some (.int .u8 1) ∧ w8.cell? ⟨bs, 1, none⟩ = some (.int .u8 1) ∧ w8.cell? ⟨bs, 65, none⟩ = some (.int .u8 7)) := ⟨hk.cellOf HS7.out.1 (by simp), hk.cellOf HS7.out.2.1 (by simp), hk.cellOf HS7.out.2.2 (by simp)⟩
       have HL8 := hide hl
       clear hk hW8 hl hPa))
  go_upto_region 10 with (first
    | refine wpList_load_mid rfl 26 (.tmp 1) rfl P 0 rfl rA.cells _ hP Try.underlying26 rfl iR ?_
    | refine wpList_build1 rfl (.tmp 43) rfl rA rfl ?_
    | (go_at_call 6; refine (hJ9 _ _ bl cl (heap_new w8 _) (fun j v hv => ((Kept.refl [] w8).alloc _).cellOf (HL8.out j v hv) (by simp)) hcl hcl2).mono ?_; rintro r w9 ⟨v9, bc, cc, rfl, hc, hk⟩
       replace hk : Kept [] w8 w9 := ((Kept.refl [] w8).alloc _).trans hk (by simp)
       replace hP : w9.rangeAt P 0 rA.cells := (fun j v hv => hk.cellOf (hP j v hv) (by simp))
       replace hQ : w9.rangeAt Q 0 rB.cells := (fun j v hv => hk.cellOf (hQ j v hv) (by simp))
       have HK9 : Hid (Kept [] w w9) := HK8.out.trans hk (by simp)
       have HS9 : Hid (w9.cell? ⟨bs, 0, none⟩ = some (.int .u8 1) ∧ w9.cell? ⟨bs, 1, none⟩ = some (.int .u8 1) ∧ w9.cell? ⟨bs, 65, none⟩ = some (.int .u8 7)) := ⟨hk.cellOf HS8.out.1 (by simp), hk.cellOf HS8.out.2.1 (by simp), hk.cellOf HS8.out.2.2 (by simp)⟩
       have HL9 : Hid (w9.rangeAt bl 0 rC.cells) := (fun j v hv => hk.cellOf (HL8.out j v hv) (by simp))
       have HC9 := hide hc
       clear hk hJ9 hc))
  have hP9 : (w9.alloc (.cells rB.cells.toArray 26)).rangeAt P 0 rA.cells := fun j v hv => ((Kept.refl [] w9).alloc _).cellOf (hP j v hv) (by simp)
  go_upto_region 13 with (first
    | refine wpList_load_mid rfl 26 (.tmp 2) rfl Q 0 rfl rB.cells _ hQ Try.underlying26 rfl iR2 ?_
    | refine wpList_load_mid rfl 26 (.tmp 1) rfl P 0 rfl rA.cells _ hP9 Try.underlying26 rfl iR ?_
    | refine wpList_build1 rfl (.tmp 51) rfl rB rfl ?_
    | refine wpList_build1 rfl (.tmp 53) rfl rA rfl ?_
    | (go_at_call 6; refine (hJ10 _ _ _).mono ?_; rintro r w10 ⟨rfl, hk⟩
       replace hk : Kept [] w9 w10 := (((Kept.refl [] w9).alloc _).alloc _).trans hk (by simp)
       replace hP : w10.rangeAt P 0 rA.cells := (fun j v hv => hk.cellOf (hP j v hv) (by simp))
       have HK10 : Hid (Kept [] w w10) := HK9.out.trans hk (by simp)
       have s0 := hk.cellOf HS9.out.1 (by simp)
       have s1 := hk.cellOf HS9.out.2.1 (by simp)
       have s65 := hk.cellOf HS9.out.2.2 (by simp)
       have l64 : w10.cell? ⟨bl, 64, none⟩ = some (.int .i64 9) := hk.cellOf (HL9.out 64 _ rC.cod) (by simp)
       have rCc : w10.rangeAt bc 0 (bys aA) := (fun j v hv => hk.cellOf (HC9.out j v hv) (by simp))
       clear hk hJ10 hP9))
  have rP := rPa _ hP
  have heq : ∀ W, (Op.equalIn 10000 24 (.agg (bys aA).toArray) (.agg (bys aA).toArray)).run Try.prog W = .ok true W := fun W => by rw [Try.eqlID aA aA rfl rfl W, decide_eq_true rfl]
  have hval : ∀ W, Calls Try.prog 13 #[.slice none 0 0] W fun r w' => r = .returned (.bool true) ∧ Kept [] W w' := fun W => valid_ok none 0 0 [] W rfl (Ress.nil _ _) (.inl rfl) (by omega)
  clear hP rPa hbC
  refine wp_region_held_drew (S := fun w' => Kept [] w10 w') (by kernel_rfl) ((Kept.refl [] w10).drew) (fun h0 => ?_)
  generalize World.drew w10 = v0 at h0 ⊢
  refine wpAnyH_take (i := 0) (v := .slice (some ⟨bs, 0, none⟩) 66 cs) rfl (by kernel_rfl) (by kernel_rfl) (by kernel_rfl) (fun _ _ _ h => h) (Or.inl ⟨by rfl, fun w hSw => by go_simp⟩) h0 ?_
  try simp only [List.getElem_toArray, List.getElem_cons_zero, List.getElem_cons_succ, Act.put, List.setIfInBounds_toArray, List.set_cons_zero, List.set_cons_succ]
  refine wpAnyH_take (i := 1) (v := .int .i64 66) rfl (by kernel_rfl) (by kernel_rfl) (by kernel_rfl) (fun _ _ _ h => h) (Or.inl ⟨by rfl, fun w hSw => by go_simp⟩) h0 ?_
  try simp only [List.getElem_toArray, List.getElem_cons_zero, List.getElem_cons_succ, Act.put, List.setIfInBounds_toArray, List.set_cons_zero, List.set_cons_succ]
  refine wpAnyH_take (i := 2) (v := .bool true) rfl (by kernel_rfl) (by kernel_rfl) (by kernel_rfl) (fun _ _ _ h => h) (Or.inl ⟨by rfl, fun w hSw => by go_simp⟩) h0 ?_
  try simp only [List.getElem_toArray, List.getElem_cons_zero, List.getElem_cons_succ, Act.put, List.setIfInBounds_toArray, List.set_cons_zero, List.set_cons_succ]
  refine wpAnyH_take (i := 3) (v := .bool true) rfl (by kernel_rfl) (by kernel_rfl) (by kernel_rfl) (fun _ _ _ h => h) (Or.inl ⟨by rfl, fun w hSw => by go_simp⟩) h0 ?_
  try simp only [List.getElem_toArray, List.getElem_cons_zero, List.getElem_cons_succ, Act.put, List.setIfInBounds_toArray, List.set_cons_zero, List.set_cons_succ]
  refine wpAnyH_take (i := 4) (v := .slice (some ⟨bs, 0, none⟩) 66 cs) rfl (by kernel_rfl) (by kernel_rfl) (by kernel_rfl) (fun _ _ _ h => h) (Or.inl ⟨by rfl, fun w hSw => by go_simp⟩) h0 ?_
  try simp only [List.getElem_toArray, List.getElem_cons_zero, List.getElem_cons_succ, Act.put, List.setIfInBounds_toArray, List.set_cons_zero, List.set_cons_succ]
  refine wpAnyH_take (i := 5) (v := .pointer (some ⟨bs, 0, none⟩)) rfl (by kernel_rfl) (by kernel_rfl) (by kernel_rfl) (fun _ _ _ h => h) (Or.inl ⟨by rfl, fun w hSw => by go_simp⟩) h0 ?_
  try simp only [List.getElem_toArray, List.getElem_cons_zero, List.getElem_cons_succ, Act.put, List.setIfInBounds_toArray, List.set_cons_zero, List.set_cons_succ]
  refine wpAnyH_take (i := 6) (v := .int .u8 1) rfl (by kernel_rfl) (by kernel_rfl) (by kernel_rfl) (fun _ _ _ h => h) (Or.inl ⟨by rfl, fun w hSw => by have c := Kept.cellOf hSw s0 (by simp); go_simp⟩) h0 ?_
  try simp only [List.getElem_toArray, List.getElem_cons_zero, List.getElem_cons_succ, Act.put, List.setIfInBounds_toArray, List.set_cons_zero, List.set_cons_succ]
  refine wpAnyH_take (i := 7) (v := .bool true) rfl (by kernel_rfl) (by kernel_rfl) (by kernel_rfl) (fun _ _ _ h => h) (Or.inl ⟨by rfl, fun w hSw => by go_simp⟩) h0 ?_
  try simp only [List.getElem_toArray, List.getElem_cons_zero, List.getElem_cons_succ, Act.put, List.setIfInBounds_toArray, List.set_cons_zero, List.set_cons_succ]
  refine wpAnyH_take (i := 8) (v := .bool true) rfl (by kernel_rfl) (by kernel_rfl) (by kernel_rfl) (fun _ _ _ h => h) (Or.inl ⟨by rfl, fun w hSw => by go_simp⟩) h0 ?_
  try simp only [List.getElem_toArray, List.getElem_cons_zero, List.getElem_cons_succ, Act.put, List.setIfInBounds_toArray, List.set_cons_zero, List.set_cons_succ]
  refine wpAnyH_take (i := 9) (v := .bool true) rfl (by kernel_rfl) (by kernel_rfl) (by kernel_rfl) (fun _ _ _ h => h) (Or.inl ⟨by rfl, fun w hSw => by go_simp⟩) h0 ?_
  try simp only [List.getElem_toArray, List.getElem_cons_zero, List.getElem_cons_succ, Act.put, List.setIfInBounds_toArray, List.set_cons_zero, List.set_cons_succ]
  refine wpAnyH_take (i := 10) (v := .slice (some ⟨bs, 0, none⟩) 66 cs) rfl (by kernel_rfl) (by kernel_rfl) (by kernel_rfl) (fun _ _ _ h => h) (Or.inl ⟨by rfl, fun w hSw => by go_simp⟩) h0 ?_
  try simp only [List.getElem_toArray, List.getElem_cons_zero, List.getElem_cons_succ, Act.put, List.setIfInBounds_toArray, List.set_cons_zero, List.set_cons_succ]
  refine wpAnyH_take (i := 11) (v := .pointer (some ⟨bs, 1, none⟩)) rfl (by kernel_rfl) (by kernel_rfl) (by kernel_rfl) (fun _ _ _ h => h) (Or.inl ⟨by rfl, fun w hSw => by go_simp⟩) h0 ?_
  try simp only [List.getElem_toArray, List.getElem_cons_zero, List.getElem_cons_succ, Act.put, List.setIfInBounds_toArray, List.set_cons_zero, List.set_cons_succ]
  refine wpAnyH_take (i := 12) (v := .int .u8 1) rfl (by kernel_rfl) (by kernel_rfl) (by kernel_rfl) (fun _ _ _ h => h) (Or.inl ⟨by rfl, fun w hSw => by have c := Kept.cellOf hSw s1 (by simp); go_simp⟩) h0 ?_
  try simp only [List.getElem_toArray, List.getElem_cons_zero, List.getElem_cons_succ, Act.put, List.setIfInBounds_toArray, List.set_cons_zero, List.set_cons_succ]
  refine wpAnyH_take (i := 13) (v := .bool true) rfl (by kernel_rfl) (by kernel_rfl) (by kernel_rfl) (fun _ _ _ h => h) (Or.inl ⟨by rfl, fun w hSw => by go_simp⟩) h0 ?_
  try simp only [List.getElem_toArray, List.getElem_cons_zero, List.getElem_cons_succ, Act.put, List.setIfInBounds_toArray, List.set_cons_zero, List.set_cons_succ]
  refine wpAnyH_take (i := 14) (v := .bool true) rfl (by kernel_rfl) (by kernel_rfl) (by kernel_rfl) (fun _ _ _ h => h) (Or.inl ⟨by rfl, fun w hSw => by go_simp⟩) h0 ?_
  try simp only [List.getElem_toArray, List.getElem_cons_zero, List.getElem_cons_succ, Act.put, List.setIfInBounds_toArray, List.set_cons_zero, List.set_cons_succ]
  refine wpAnyH_take (i := 15) (v := .bool true) rfl (by kernel_rfl) (by kernel_rfl) (by kernel_rfl) (fun _ _ _ h => h) (Or.inl ⟨by rfl, fun w hSw => by go_simp⟩) h0 ?_
  try simp only [List.getElem_toArray, List.getElem_cons_zero, List.getElem_cons_succ, Act.put, List.setIfInBounds_toArray, List.set_cons_zero, List.set_cons_succ]
  refine wpAnyH_take (i := 16) (v := .slice (some ⟨bs, 0, none⟩) 66 cs) rfl (by kernel_rfl) (by kernel_rfl) (by kernel_rfl) (fun _ _ _ h => h) (Or.inl ⟨by rfl, fun w hSw => by go_simp⟩) h0 ?_
  try simp only [List.getElem_toArray, List.getElem_cons_zero, List.getElem_cons_succ, Act.put, List.setIfInBounds_toArray, List.set_cons_zero, List.set_cons_succ]
  refine wpAnyH_take (i := 17) (v := .pointer (some ⟨bs, 65, none⟩)) rfl (by kernel_rfl) (by kernel_rfl) (by kernel_rfl) (fun _ _ _ h => h) (Or.inl ⟨by rfl, fun w hSw => by go_simp⟩) h0 ?_
  try simp only [List.getElem_toArray, List.getElem_cons_zero, List.getElem_cons_succ, Act.put, List.setIfInBounds_toArray, List.set_cons_zero, List.set_cons_succ]
  refine wpAnyH_take (i := 18) (v := .int .u8 7) rfl (by kernel_rfl) (by kernel_rfl) (by kernel_rfl) (fun _ _ _ h => h) (Or.inl ⟨by rfl, fun w hSw => by have c := Kept.cellOf hSw s65 (by simp); go_simp⟩) h0 ?_
  try simp only [List.getElem_toArray, List.getElem_cons_zero, List.getElem_cons_succ, Act.put, List.setIfInBounds_toArray, List.set_cons_zero, List.set_cons_succ]
  refine wpAnyH_take (i := 19) (v := .bool true) rfl (by kernel_rfl) (by kernel_rfl) (by kernel_rfl) (fun _ _ _ h => h) (Or.inl ⟨by rfl, fun w hSw => by go_simp⟩) h0 ?_
  try simp only [List.getElem_toArray, List.getElem_cons_zero, List.getElem_cons_succ, Act.put, List.setIfInBounds_toArray, List.set_cons_zero, List.set_cons_succ]
  refine wpAnyH_take (i := 20) (v := .bool true) rfl (by kernel_rfl) (by kernel_rfl) (by kernel_rfl) (fun _ _ _ h => h) (Or.inl ⟨by rfl, fun w hSw => by go_simp⟩) h0 ?_
  try simp only [List.getElem_toArray, List.getElem_cons_zero, List.getElem_cons_succ, Act.put, List.setIfInBounds_toArray, List.set_cons_zero, List.set_cons_succ]
  refine wpAnyH_take (i := 21) (v := .bool true) rfl (by kernel_rfl) (by kernel_rfl) (by kernel_rfl) (fun _ _ _ h => h) (Or.inl ⟨by rfl, fun w hSw => by go_simp⟩) h0 ?_
  try simp only [List.getElem_toArray, List.getElem_cons_zero, List.getElem_cons_succ, Act.put, List.setIfInBounds_toArray, List.set_cons_zero, List.set_cons_succ]
  refine wpAnyH_take (i := 22) (v := .slice (some ⟨bl, 0, none⟩) 1 cl) rfl (by kernel_rfl) (by kernel_rfl) (by kernel_rfl) (fun _ _ _ h => h) (Or.inl ⟨by rfl, fun w hSw => by go_simp⟩) h0 ?_
  try simp only [List.getElem_toArray, List.getElem_cons_zero, List.getElem_cons_succ, Act.put, List.setIfInBounds_toArray, List.set_cons_zero, List.set_cons_succ]
  refine wpAnyH_take (i := 23) (v := .int .i64 1) rfl (by kernel_rfl) (by kernel_rfl) (by kernel_rfl) (fun _ _ _ h => h) (Or.inl ⟨by rfl, fun w hSw => by go_simp⟩) h0 ?_
  try simp only [List.getElem_toArray, List.getElem_cons_zero, List.getElem_cons_succ, Act.put, List.setIfInBounds_toArray, List.set_cons_zero, List.set_cons_succ]
  refine wpAnyH_take (i := 24) (v := .bool true) rfl (by kernel_rfl) (by kernel_rfl) (by kernel_rfl) (fun _ _ _ h => h) (Or.inl ⟨by rfl, fun w hSw => by go_simp⟩) h0 ?_
  try simp only [List.getElem_toArray, List.getElem_cons_zero, List.getElem_cons_succ, Act.put, List.setIfInBounds_toArray, List.set_cons_zero, List.set_cons_succ]
  refine wpAnyH_take (i := 25) (v := .bool true) rfl (by kernel_rfl) (by kernel_rfl) (by kernel_rfl) (fun _ _ _ h => h) (Or.inl ⟨by rfl, fun w hSw => by go_simp⟩) h0 ?_
  try simp only [List.getElem_toArray, List.getElem_cons_zero, List.getElem_cons_succ, Act.put, List.setIfInBounds_toArray, List.set_cons_zero, List.set_cons_succ]
  refine wpAnyH_take (i := 26) (v := .bool true) rfl (by kernel_rfl) (by kernel_rfl) (by kernel_rfl) (fun _ _ _ h => h) (Or.inl ⟨by rfl, fun w hSw => by go_simp⟩) h0 ?_
  try simp only [List.getElem_toArray, List.getElem_cons_zero, List.getElem_cons_succ, Act.put, List.setIfInBounds_toArray, List.set_cons_zero, List.set_cons_succ]
  refine wpAnyH_take (i := 27) (v := .slice (some ⟨bl, 0, none⟩) 1 cl) rfl (by kernel_rfl) (by kernel_rfl) (by kernel_rfl) (fun _ _ _ h => h) (Or.inl ⟨by rfl, fun w hSw => by go_simp⟩) h0 ?_
  try simp only [List.getElem_toArray, List.getElem_cons_zero, List.getElem_cons_succ, Act.put, List.setIfInBounds_toArray, List.set_cons_zero, List.set_cons_succ]
  refine wpAnyH_take (i := 28) (v := .pointer (some ⟨bl, 0, none⟩)) rfl (by kernel_rfl) (by kernel_rfl) (by kernel_rfl) (fun _ _ _ h => h) (Or.inl ⟨by rfl, fun w hSw => by go_simp⟩) h0 ?_
  try simp only [List.getElem_toArray, List.getElem_cons_zero, List.getElem_cons_succ, Act.put, List.setIfInBounds_toArray, List.set_cons_zero, List.set_cons_succ]
  refine wpAnyH_take (i := 29) (v := .pointer (some ⟨bl, 64, none⟩)) rfl (by kernel_rfl) (by kernel_rfl) (by kernel_rfl) (fun _ _ _ h => h) (Or.inl ⟨by rfl, fun w hSw => by go_simp⟩) h0 ?_
  try simp only [List.getElem_toArray, List.getElem_cons_zero, List.getElem_cons_succ, Act.put, List.setIfInBounds_toArray, List.set_cons_zero, List.set_cons_succ]
  refine wpAnyH_take (i := 30) (v := .int .i64 9) rfl (by kernel_rfl) (by kernel_rfl) (by kernel_rfl) (fun _ _ _ h => h) (Or.inl ⟨by rfl, fun w hSw => by have c := Kept.cellOf hSw l64 (by simp); go_simp⟩) h0 ?_
  try simp only [List.getElem_toArray, List.getElem_cons_zero, List.getElem_cons_succ, Act.put, List.setIfInBounds_toArray, List.set_cons_zero, List.set_cons_succ]
  refine wpAnyH_take (i := 31) (v := .bool true) rfl (by kernel_rfl) (by kernel_rfl) (by kernel_rfl) (fun _ _ _ h => h) (Or.inl ⟨by rfl, fun w hSw => by go_simp⟩) h0 ?_
  try simp only [List.getElem_toArray, List.getElem_cons_zero, List.getElem_cons_succ, Act.put, List.setIfInBounds_toArray, List.set_cons_zero, List.set_cons_succ]
  refine wpAnyH_take (i := 32) (v := .bool true) rfl (by kernel_rfl) (by kernel_rfl) (by kernel_rfl) (fun _ _ _ h => h) (Or.inl ⟨by rfl, fun w hSw => by go_simp⟩) h0 ?_
  try simp only [List.getElem_toArray, List.getElem_cons_zero, List.getElem_cons_succ, Act.put, List.setIfInBounds_toArray, List.set_cons_zero, List.set_cons_succ]
  refine wpAnyH_take (i := 33) (v := .bool true) rfl (by kernel_rfl) (by kernel_rfl) (by kernel_rfl) (fun _ _ _ h => h) (Or.inl ⟨by rfl, fun w hSw => by go_simp⟩) h0 ?_
  try simp only [List.getElem_toArray, List.getElem_cons_zero, List.getElem_cons_succ, Act.put, List.setIfInBounds_toArray, List.set_cons_zero, List.set_cons_succ]
  refine wpAnyH_take (i := 34) (v := .slice (some ⟨bc, 0, none⟩) 1 cc) rfl (by kernel_rfl) (by kernel_rfl) (by kernel_rfl) (fun _ _ _ h => h) (Or.inl ⟨by rfl, fun w hSw => by go_simp⟩) h0 ?_
  try simp only [List.getElem_toArray, List.getElem_cons_zero, List.getElem_cons_succ, Act.put, List.setIfInBounds_toArray, List.set_cons_zero, List.set_cons_succ]
  refine wpAnyH_take (i := 35) (v := .int .i64 1) rfl (by kernel_rfl) (by kernel_rfl) (by kernel_rfl) (fun _ _ _ h => h) (Or.inl ⟨by rfl, fun w hSw => by go_simp⟩) h0 ?_
  try simp only [List.getElem_toArray, List.getElem_cons_zero, List.getElem_cons_succ, Act.put, List.setIfInBounds_toArray, List.set_cons_zero, List.set_cons_succ]
  refine wpAnyH_take (i := 36) (v := .bool true) rfl (by kernel_rfl) (by kernel_rfl) (by kernel_rfl) (fun _ _ _ h => h) (Or.inl ⟨by rfl, fun w hSw => by go_simp⟩) h0 ?_
  try simp only [List.getElem_toArray, List.getElem_cons_zero, List.getElem_cons_succ, Act.put, List.setIfInBounds_toArray, List.set_cons_zero, List.set_cons_succ]
  refine wpAnyH_take (i := 37) (v := .bool true) rfl (by kernel_rfl) (by kernel_rfl) (by kernel_rfl) (fun _ _ _ h => h) (Or.inl ⟨by rfl, fun w hSw => by go_simp⟩) h0 ?_
  try simp only [List.getElem_toArray, List.getElem_cons_zero, List.getElem_cons_succ, Act.put, List.setIfInBounds_toArray, List.set_cons_zero, List.set_cons_succ]
  refine wpAnyH_take (i := 38) (v := .bool true) rfl (by kernel_rfl) (by kernel_rfl) (by kernel_rfl) (fun _ _ _ h => h) (Or.inl ⟨by rfl, fun w hSw => by go_simp⟩) h0 ?_
  try simp only [List.getElem_toArray, List.getElem_cons_zero, List.getElem_cons_succ, Act.put, List.setIfInBounds_toArray, List.set_cons_zero, List.set_cons_succ]
  refine wpAnyH_take (i := 39) (v := .slice (some ⟨bc, 0, none⟩) 1 cc) rfl (by kernel_rfl) (by kernel_rfl) (by kernel_rfl) (fun _ _ _ h => h) (Or.inl ⟨by rfl, fun w hSw => by go_simp⟩) h0 ?_
  try simp only [List.getElem_toArray, List.getElem_cons_zero, List.getElem_cons_succ, Act.put, List.setIfInBounds_toArray, List.set_cons_zero, List.set_cons_succ]
  refine wpAnyH_take (i := 40) (v := .pointer (some ⟨bc, 0, none⟩)) rfl (by kernel_rfl) (by kernel_rfl) (by kernel_rfl) (fun _ _ _ h => h) (Or.inl ⟨by rfl, fun w hSw => by go_simp⟩) h0 ?_
  try simp only [List.getElem_toArray, List.getElem_cons_zero, List.getElem_cons_succ, Act.put, List.setIfInBounds_toArray, List.set_cons_zero, List.set_cons_succ]
  refine wpAnyH_take (i := 41) rfl (by kernel_rfl) (by kernel_rfl) (by kernel_rfl) (fun _ _ _ h => h) (yieldsIf_load_mid (by rfl) _ _ rfl _ _ rfl _ _ (fun w h j v hv => Kept.cellOf h (rCc j v hv) (by simp)) Try.underlying24 rfl iA) h0 ?_
  try simp only [List.getElem_toArray, List.getElem_cons_zero, List.getElem_cons_succ, Act.put, List.setIfInBounds_toArray, List.set_cons_zero, List.set_cons_succ]
  refine wpAnyH_take (i := 42) (v := .pointer (some ⟨P, 0, none⟩)) rfl (by kernel_rfl) (by kernel_rfl) (by kernel_rfl) (fun _ _ _ h => h) (Or.inl ⟨by rfl, fun w hSw => by go_simp⟩) h0 ?_
  try simp only [List.getElem_toArray, List.getElem_cons_zero, List.getElem_cons_succ, Act.put, List.setIfInBounds_toArray, List.set_cons_zero, List.set_cons_succ]
  refine wpAnyH_take (i := 43) rfl (by kernel_rfl) (by kernel_rfl) (by kernel_rfl) (fun _ _ _ h => h) (yieldsIf_load_mid (by rfl) _ _ rfl _ _ rfl _ _ (fun w h j v hv => Kept.cellOf h (rP j v hv) (by simp)) Try.underlying24 rfl iA) h0 ?_
  try simp only [List.getElem_toArray, List.getElem_cons_zero, List.getElem_cons_succ, Act.put, List.setIfInBounds_toArray, List.set_cons_zero, List.set_cons_succ]
  refine wpAnyH_take (i := 44) (v := .bool true) rfl (by kernel_rfl) (by kernel_rfl) (by kernel_rfl) (fun _ _ _ h => h) (Or.inl ⟨by rfl, fun w hSw => by have c := heq w; go_simp⟩) h0 ?_
  try simp only [List.getElem_toArray, List.getElem_cons_zero, List.getElem_cons_succ, Act.put, List.setIfInBounds_toArray, List.set_cons_zero, List.set_cons_succ]
  refine wpAnyH_take (i := 45) (v := .bool true) rfl (by kernel_rfl) (by kernel_rfl) (by kernel_rfl) (fun _ _ _ h => h) (Or.inl ⟨by rfl, fun w hSw => by go_simp⟩) h0 ?_
  try simp only [List.getElem_toArray, List.getElem_cons_zero, List.getElem_cons_succ, Act.put, List.setIfInBounds_toArray, List.set_cons_zero, List.set_cons_succ]
  refine wpAnyH_take (i := 46) (v := .bool true) rfl (by kernel_rfl) (by kernel_rfl) (by kernel_rfl) (fun _ _ _ h => h) (Or.inl ⟨by rfl, fun w hSw => by go_simp⟩) h0 ?_
  try simp only [List.getElem_toArray, List.getElem_cons_zero, List.getElem_cons_succ, Act.put, List.setIfInBounds_toArray, List.set_cons_zero, List.set_cons_succ]
  refine wpAnyH_ready (rs := [47]) (by kernel_rfl) (by simp) (AllReadyH.cons (i := 47) rfl (fun K hK => ?_) AllReadyH.nil)
  rw [if_pos (by rfl)]
  go_simp
  refine (hval v0).mono ?_
  rintro e v1 ⟨rfl, hq⟩
  refine hK.out _ _ (h0.trans hq (by simp)) (fun h1 => ?_)
  clear hK K hq h0
  try simp only [List.getElem_toArray, List.getElem_cons_zero, List.getElem_cons_succ, Act.put, List.setIfInBounds_toArray, List.set_cons_zero, List.set_cons_succ]
  refine wpAnyH_take (i := 48) (v := .bool true) rfl (by kernel_rfl) (by kernel_rfl) (by kernel_rfl) (fun _ _ _ h => h) (Or.inl ⟨by rfl, fun w hSw => by go_simp⟩) h1 ?_
  try simp only [List.getElem_toArray, List.getElem_cons_zero, List.getElem_cons_succ, Act.put, List.setIfInBounds_toArray, List.set_cons_zero, List.set_cons_succ]
  refine wpAnyH_take (i := 49) (v := .bool true) rfl (by kernel_rfl) (by kernel_rfl) (by kernel_rfl) (fun _ _ _ h => h) (Or.inl ⟨by rfl, fun w hSw => by go_simp⟩) h1 ?_
  try simp only [List.getElem_toArray, List.getElem_cons_zero, List.getElem_cons_succ, Act.put, List.setIfInBounds_toArray, List.set_cons_zero, List.set_cons_succ]
  refine wpAnyH_done (by kernel_rfl) ?_ _
  go_wp2
  go_ret
  exact ⟨rfl, HK10.out.trans h1 (by simp)⟩
end Go.Proofs.Ytmhnjhnnaciokaa
