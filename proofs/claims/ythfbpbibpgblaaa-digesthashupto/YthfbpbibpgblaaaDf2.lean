/-
  Contract: digest.Of.
-/
import Derived.Test.YthfbpbibpgblaaaDf1
namespace Go.Proofs.Ythfbpbibpgblaaa
open Go.RowKit
set_option linter.unusedVariables false
set_option linter.unusedSimpArgs false

theorem Try.sliceID (W : World) (b : Nat) (n : Nat) (hn : n ≤ 32) :
    (Instr.sliceAt 46 (.pointer (some ⟨b, 0, none⟩)) none (some (.int .i64 n)) none).run Try.prog W = .ok (.slice (some ⟨b, 0, none⟩) n 32) W := by
  have ha : Try.prog.arrayLen 46 = 32 := by kernel_rfl
  have hz : (sizeOf (Try.prog.elem 46)).run Try.prog W = .ok 1 W := by kernel_rfl
  have h := run_sliceAt_array_h (P := Try.prog) W 46 ⟨b, 0, none⟩ (by kernel_rfl) .i64 n (by omega) (by rw [ha]; omega)
  rw [h, hz, ha]
  simp [slicedAt, Addr.add_mid]
theorem Try.slice32all (W : World) (b : Nat) :
    (Instr.sliceAt 39 (.pointer (some ⟨b, 0, none⟩)) none none none).run Try.prog W = .ok (.slice (some ⟨b, 0, none⟩) 32 32) W := by
  have ha : Try.prog.arrayLen 39 = 32 := by kernel_rfl
  have hz : (sizeOf (Try.prog.elem 39)).run Try.prog W = .ok 1 W := by kernel_rfl
  have h := run_sliceAt_array_all (P := Try.prog) W 39 ⟨b, 0, none⟩ (by kernel_rfl)
  rw [h, hz, ha]
  simp [slicedAt, Addr.add_mid]

set_option maxHeartbeats 400000 in
set_option maxRecDepth 100000 in
theorem of_ok (width : Int) (ao : Option Addr) (cap : Nat) (L : List Pc) (w : World) (hm : L.length ≤ 9223372036854775807) (hp : Pcs w ao L) (hsum : (joined L).length < 9223372036854775736) (n : Nat) (hn : L.length = n) :
    Calls Try.prog 13 #[.int .i64 width, .slice ao n cap] w fun e w' => e = .returned (.agg (bys (Sha.ident width (joined L))).toArray) ∧ Below w.heap.size w w' := by
  have hz := Try.zeroB32
  have hz2 := Try.zeroID
  obtain ⟨r, hr⟩ : ∃ r, r = w.heap.size := ⟨_, rfl⟩
  obtain ⟨g, hg⟩ : ∃ r, r = w.heap.size + 1 := ⟨_, rfl⟩
  have hg1 : ((w.alloc (.cells zero32 46)).alloc (.cells zero32 46)).heap[w.heap.size + 1]? = some (.cells zero32 46 (0, 0)) := heap_alloc2_new _ _ _
  have hr1 : ((w.alloc (.cells zero32 46)).alloc (.cells zero32 46)).heap[w.heap.size]? = some (.cells zero32 46 (0, 0)) := heap_alloc2_old _ _ _
  have hB1 : Below w.heap.size w ((w.alloc (.cells zero32 46)).alloc (.cells zero32 46)) := ((Below.refl _ _).alloc (Nat.le_refl _) _).alloc (by simp) _
  have HP : Hid (Pcs w ao L) := hp
  have HG : Hid (r = w.heap.size ∧ g = w.heap.size + 1) := ⟨hr, hg⟩
  clear hp
  go_enter Try.func13, Try.ntmps13
  by_cases hout : width < 1 ∨ 32 < width
  · have HF : Hid (Sha.ident width (joined L) = List.replicate 32 0) := by
      show _ = _
      unfold Sha.ident; rw [if_pos hout]
    have hz0 : zero32.all (·.oneCell') = true := bys_all _
    have FIN : ∀ (a : Act), a.defers = [] → a.tmps.getD 4 undef = .pointer (some ⟨w.heap.size, 0, none⟩) → bodyPost Try.prog Try.f13 (fun e w' => e = .returned (.agg (bys (Sha.ident width (joined L))).toArray) ∧ Below w.heap.size w w') .ret a (((w.alloc (.cells zero32 46)).alloc (.cells zero32 46)).setRow w.heap.size zero32) := fun a hd hp =>
      ret_row rfl hd w.heap.size 46 zero32 (0, 0) _ hp (setRow_heap _ _ _ _ _ _ hr1) Try.underlying46 rfl Try.infoID ⟨by rw [HF.out]; rfl, below_row hB1 (Nat.le_refl _) _⟩
    by_cases h1 : width < 1
    · go_wp2_with (first | refine wpList_load_row rfl 46 (.tmp 5) rfl (w.heap.size + 1) rfl 46 _ (0, 0) _ hg1 Try.underlying46 rfl Try.infoID ?_ | refine wpList_store_rowTo rfl 46 (.tmp 4) (.tmp 13) rfl rfl w.heap.size zero32 rfl rfl 46 zero32 hr1 Try.infoID rfl hz0 ?_)
      all_goals exact FIN _ rfl rfl
    · have h2 : 32 < width := by omega
      go_wp2_with (first | refine wpList_load_row rfl 46 (.tmp 5) rfl (w.heap.size + 1) rfl 46 _ (0, 0) _ hg1 Try.underlying46 rfl Try.infoID ?_ | refine wpList_store_rowTo rfl 46 (.tmp 4) (.tmp 13) rfl rfl w.heap.size zero32 rfl rfl 46 zero32 hr1 Try.infoID rfl hz0 ?_)
      all_goals exact FIN _ rfl rfl
  · obtain ⟨k, rfl⟩ := Int.eq_ofNat_of_zero_le (show 0 ≤ width by omega)
    have h1 : ¬ ((k : Int) < 1) := by omega
    have h2 : ¬ (32 < (k : Int)) := by omega
    have hk32 : k ≤ 32 := by omega
    have HF : Hid (Sha.ident (k : Int) (joined L) = (Sha.full (joined L)).take k ++ List.replicate (32 - k) 0) := by
      show _ = _
      unfold Sha.ident; rw [if_neg hout]; rfl
    have H1 := (show Hid (_ ∧ _ ∧ _) from ⟨hg1, hr1, hB1⟩)
    clear hg1 hr1 hB1
    go_wp2_with (fail)
    generalize (w.alloc _).alloc _ = w1 at H1 ⊢
    rw [← hg, ← hr] at ⊢
    have hp1 : Pcs w1 ao L := fun i hi => by
      obtain ⟨b, off, e, hc, hpc⟩ := HP.out i hi
      exact ⟨b, off, e, (H1.out.2.2.cell (p := ⟨b, off + i, none⟩) (World.block_lt_of_cell? _ _ hc)).trans hc, hpc.below H1.out.2.2⟩
    refine (full_ok ao cap L w1 hm hp1 hsum n hn).mono ?_
    rintro e w2 ⟨rfl, hb2⟩
    have hg2 : w2.heap[g]? = some (.cells zero32 46 (0, 0)) := by rw [hg]; exact (hb2.block _ (Array.getElem?_eq_some_iff.1 H1.out.1).1).trans H1.out.1
    have hr2 : w2.heap[r]? = some (.cells zero32 46 (0, 0)) := by rw [hr]; exact (hb2.block _ (Array.getElem?_eq_some_iff.1 H1.out.2.1).1).trans H1.out.2.1
    have hB2 : Below w.heap.size w w2 := H1.out.2.2.trans (hb2.mono H1.out.2.2.size)
    clear H1 hb2 hp1 HP hr hg hz2
    have hfl : (Sha.full (joined L)).length = 32 := Sha.full_len _
    generalize Sha.full (joined L) = F at hfl HF ⊢
    obtain ⟨f, hf⟩ : ∃ f, f = w2.heap.size := ⟨_, rfl⟩
    have hf1 : (w2.alloc (.cells zero32 39)).heap[w2.heap.size]? = some (.cells zero32 39 (0, 0)) := heap_alloc_new _ _
    have hinf : (Try.prog.info? 39).map (·.size) = some (bys F).toArray.size := by rw [List.size_toArray, bys_length, hfl]; exact Try.info32
    have hz0 : zero32.size = (bys F).toArray.size := by rw [show (bys F).toArray.size = 32 by rw [List.size_toArray, bys_length, hfl]]; rfl
    have hone := bys_all F
    go_wp2_with (refine wpList_store_rowTo rfl 39 (.tmp 6) (.tmp 15) rfl rfl w2.heap.size (bys F).toArray rfl rfl 39 zero32 hf1 hinf hz0 hone ?_)
    have hf3 : ((w2.alloc (.cells zero32 39)).setRow w2.heap.size (bys F).toArray).heap[f]? = some (.cells (bys F).toArray 39 (0, 0)) := by rw [hf]; exact setRow_heap _ _ _ _ _ _ hf1
    have hgl : g < w2.heap.size := (Array.getElem?_eq_some_iff.1 hg2).1
    have hrl : r < w2.heap.size := (Array.getElem?_eq_some_iff.1 hr2).1
    have hg3 : ((w2.alloc (.cells zero32 39)).setRow w2.heap.size (bys F).toArray).heap[g]? = some (.cells zero32 46 (0, 0)) := by rw [setRow_other _ _ _ _ (by omega), heap_alloc_old w2 _ hgl]; exact hg2
    have hr3 : ((w2.alloc (.cells zero32 39)).setRow w2.heap.size (bys F).toArray).heap[r]? = some (.cells zero32 46 (0, 0)) := by rw [setRow_other _ _ _ _ (by omega), heap_alloc_old w2 _ hrl]; exact hr2
    have hB3 : Below w.heap.size w ((w2.alloc (.cells zero32 39)).setRow w2.heap.size (bys F).toArray) := below_row (hB2.alloc hB2.size _) hB2.size _
    clear hf1 hinf hz0 hone hg2 hr2 hB2
    generalize World.setRow _ _ _ = w3 at hf3 hg3 hr3 hB3 ⊢
    rw [← hf]
    have hfg : f ≠ g := by omega
    clear hf hgl hrl
    have hs1 := fun W => Try.sliceID W g k hk32
    have hs2 := fun W => Try.slice32all W f
    go_still_tail 3, Try.follows
    rw [World.drew_eq]
    have hcp : (bys (F.take k)).length = Nat.min 32 k := by rw [bys_length, List.length_take, hfl, Nat.min_comm]
    refine wpList_copy_own rfl (.tmp 17) (.tmp 18) 31 31 rfl 5 Try.underlying31 Try.sizeByte g 0 k 32 ⟨f, 0, none⟩ 32 32 rfl rfl zero32 46 hg3 (bys (F.take k)) hcp ?hsrc ?hfit (bys_oneCell _) ?_
    case hsrc =>
      intro j u hu
      obtain ⟨hj, rfl⟩ := bys_get hu
      have hj2 : j < k := by simp at hj; omega
      rw [Addr.add_mid, Nat.zero_add, World.cell?_drew, cell_of_row _ _ _ _ _ _ hf3, List.getElem?_toArray, bys_at (by omega)]
      simp [hj2]
    case hfit => rw [bys_length, List.length_take]; show _ ≤ 32; omega
    have erow : (List.take 0 zero32.toList ++ (bys (F.take k) ++ List.drop (0 + (bys (F.take k)).length) zero32.toList)) = bys (F.take k ++ List.replicate (32 - k) 0) := by
      rw [List.take_zero, List.nil_append, Nat.zero_add, bys_length, List.length_take, hfl, Nat.min_eq_left hk32, bys_append]
      congr 1
      show (bys (List.replicate 32 0)).drop k = _
      rw [bys, bys, List.map_replicate, List.map_replicate, List.drop_replicate]
    rw [erow]
    have hIl : (F.take k ++ List.replicate (32 - k) 0).length = 32 := by simp [hfl]; omega
    have hg4 : (w3.drew.setRow g (bys (F.take k ++ List.replicate (32 - k) 0)).toArray).heap[g]? = some (.cells (bys (F.take k ++ List.replicate (32 - k) 0)).toArray 46 (0, 0)) := setRow_heap _ _ _ _ _ _ hg3
    have hr4 : (w3.drew.setRow g (bys (F.take k ++ List.replicate (32 - k) 0)).toArray).heap[r]? = some (.cells zero32 46 (0, 0)) := by rw [setRow_other _ _ _ _ (by have := HG.out; omega)]; exact hr3
    have hB4 : Below w.heap.size w (w3.drew.setRow g (bys (F.take k ++ List.replicate (32 - k) 0)).toArray) := below_row (w1 := w3.drew) ⟨hB3.os, hB3.tape, hB3.output, hB3.size, hB3.block⟩ (by have := HG.out; omega) _
    clear erow hcp hs1 hs2 hf3 hg3 hr3 hB3
    have HF2 : Hid (F.take k ++ List.replicate (32 - k) 0 = Sha.ident (k : Int) (joined L)) := HF.out.symm
    generalize F.take k ++ List.replicate (32 - k) 0 = I at hIl hg4 hr4 hB4 HF2 ⊢
    have hinf : (Try.prog.info? 46).map (·.size) = some (bys I).toArray.size := by rw [List.size_toArray, bys_length, hIl]; exact Try.infoID
    have hz0 : zero32.size = (bys I).toArray.size := by rw [show (bys I).toArray.size = 32 by rw [List.size_toArray, bys_length, hIl]]; rfl
    have hone := bys_all I
    generalize World.setRow _ _ _ = w4 at hg4 hr4 hB4 ⊢
    clear HF h1 h2 hout
    simp only [Act.put]
    go_wp2_with (first | refine wpList_load_row rfl 46 (.tmp 5) rfl g rfl 46 _ (0, 0) _ hg4 Try.underlying46 rfl hinf ?_ | refine wpList_store_rowTo rfl 46 (.tmp 4) (.tmp 20) rfl rfl r (bys I).toArray rfl rfl 46 zero32 hr4 hinf hz0 hone ?_)
    exact ret_row rfl rfl r 46 _ (0, 0) _ rfl (setRow_heap _ _ _ _ _ _ hr4) Try.underlying46 rfl hinf ⟨by rw [HF2.out], below_row hB4 (by have := HG.out; omega) _⟩
end Go.Proofs.Ythfbpbibpgblaaa
