import Derived.Test.YtmklodligplbaabGreatDh2o
open Go.RowKit
set_option linter.unusedVariables false
set_option linter.unusedSimpArgs false
set_option maxRecDepth 100000
set_option maxHeartbeats 0
namespace Go.Proofs.YtmklodligplbaabGreat
section
theorem Tryz.sliceID (W : World) (b : Nat) (n : Nat) (hn : n <= 32) :
  (Instr.sliceAt 23 (.pointer (some ⟨b, 0, none⟩)) none (some (.int .i64 n)) none).run Tryz.prog W = .ok (.slice (some ⟨b, 0, none⟩) n 32) W := by
 have ha : Tryz.prog.arrayLen 23 = 32 := by kernel_rfl
 have hz : (sizeOf (Tryz.prog.elem 23)).run Tryz.prog W = .ok 1 W := by kernel_rfl
 have h := run_sliceAt_array_h (P := Tryz.prog) W 23 ⟨b, 0, none⟩ (by kernel_rfl) .i64 n (by omega) (by rw [ha]; omega)
 rw [h, hz, ha]
 simp [slicedAt, Addr.add_mid]
theorem Tryz.slice32all (W : World) (b : Nat) :
  (Instr.sliceAt 22 (.pointer (some ⟨b, 0, none⟩)) none none none).run Tryz.prog W = .ok (.slice (some ⟨b, 0, none⟩) 32 32) W := by
 have ha : Tryz.prog.arrayLen 22 = 32 := by kernel_rfl
 have hz : (sizeOf (Tryz.prog.elem 22)).run Tryz.prog W = .ok 1 W := by kernel_rfl
 have h := run_sliceAt_array_all (P := Tryz.prog) W 22 ⟨b, 0, none⟩ (by kernel_rfl)
 rw [h, hz, ha]
 simp [slicedAt, Addr.add_mid]
theorem of_ok (width : Int) (ao : Option Addr) (cap : Nat) (L : List Pc) (w : World) (hm : L.length <= 9223372036854775807) (hp : Pcs w ao L) (hsum : (joined L).length < 9223372036854775736) (n : Nat) (hn : L.length = n) :
  Calls Tryz.prog 45 #[.int .i64 width, .slice ao n cap] w fun e w' => e = .returned (.agg (bys (Sha.ident width (joined L))).toArray) ∧ Below w.heap.size w w' := by
 have hz := Tryz.zeroB32
 have hz2 := Tryz.zeroID
 obtain ⟨r, hr⟩ : ∃ r, r = w.heap.size := ⟨_, rfl⟩
 obtain ⟨g, hg⟩ : ∃ r, r = w.heap.size + 1 := ⟨_, rfl⟩
 have hg1 : ((w.alloc (.cells zero32 23)).alloc (.cells zero32 23)).heap[w.heap.size + 1]? = some (.cells zero32 23 (0, 0)) := heap_alloc2_new _ _ _
 have hr1 : ((w.alloc (.cells zero32 23)).alloc (.cells zero32 23)).heap[w.heap.size]? = some (.cells zero32 23 (0, 0)) := heap_alloc2_old _ _ _
 have hB1 : Below w.heap.size w ((w.alloc (.cells zero32 23)).alloc (.cells zero32 23)) := ((Below.refl _ _).alloc (Nat.le_refl _) _).alloc (by simp) _
 have HP : Hid (Pcs w ao L) := hp
 have HG : Hid (r = w.heap.size ∧ g = w.heap.size + 1) := ⟨hr, hg⟩
 clear hp
 go_enter Tryz.func45, Tryz.ntmps45
 by_cases hout : width < 1 ∨ 32 < width
 ·have HF : Hid (Sha.ident width (joined L) = List.replicate 32 0) := by
   show _ = _
   unfold Sha.ident; rw [if_pos hout]
  have hz0 : zero32.all (·.oneCell') = true := bys_all _
  have FIN : ∀ (a : Act), a.defers = [] -> a.tmps.getD 4 undef = .pointer (some ⟨w.heap.size, 0, none⟩) -> bodyPost Tryz.prog Tryz.f45 (fun e w' => e = .returned (.agg (bys (Sha.ident width (joined L))).toArray) ∧ Below w.heap.size w w') .ret a (((w.alloc (.cells zero32 23)).alloc (.cells zero32 23)).setRow w.heap.size zero32) := fun a hd hp =>
   ret_row rfl hd w.heap.size 23 zero32 (0, 0) _ hp (setRow_heap _ _ _ _ _ _ hr1) Tryz.underlying23 rfl Tryz.infoID ⟨by rw [HF.out]; rfl, below_row hB1 (Nat.le_refl _) _⟩
  by_cases h1 : width < 1
  ·go_wp2_with (first | refine wpList_load_row rfl 23 (.tmp 5) rfl (w.heap.size + 1) rfl 23 _ (0, 0) _ hg1 Tryz.underlying23 rfl Tryz.infoID ?_ | refine wpList_store_rowTo rfl 23 (.tmp 4) (.tmp 13) rfl rfl w.heap.size zero32 rfl rfl 23 zero32 hr1 Tryz.infoID rfl hz0 ?_)
   all_goals exact FIN _ rfl rfl
  ·have h2 : 32 < width := by omega
   go_wp2_with (first | refine wpList_load_row rfl 23 (.tmp 5) rfl (w.heap.size + 1) rfl 23 _ (0, 0) _ hg1 Tryz.underlying23 rfl Tryz.infoID ?_ | refine wpList_store_rowTo rfl 23 (.tmp 4) (.tmp 13) rfl rfl w.heap.size zero32 rfl rfl 23 zero32 hr1 Tryz.infoID rfl hz0 ?_)
   all_goals exact FIN _ rfl rfl
 ·obtain ⟨k, rfl⟩ := Int.eq_ofNat_of_zero_le (show 0 <= width by omega)
  have h1 : ¬ ((k : Int) < 1) := by omega
  have h2 : ¬ (32 < (k : Int)) := by omega
  have hk32 : k <= 32 := by omega
  have HF : Hid (Sha.ident (k : Int) (joined L) = (Sha.full (joined L)).take k ++ List.replicate (32 - k) 0) := by
   show _ = _
   unfold Sha.ident; rw [if_neg hout]; rfl
  have H1 := (show Hid (_ ∧ _ ∧ _) from ⟨hg1, hr1, hB1⟩)
  clear hg1 hr1 hB1
  go_wp2_with (fail)
  generalize (w.alloc _).alloc _ = w1 at H1 ⊢
  rw [<-hg, <-hr] at ⊢
  have hp1 : Pcs w1 ao L := fun i hi => by
   obtain ⟨b, off, e, hc, hpc⟩ := HP.out i hi
   exact ⟨b, off, e, (H1.out.2.2.cell (p := ⟨b, off + i, none⟩) (World.block_lt_of_cell? _ _ hc)).trans hc, hpc.below H1.out.2.2⟩
  refine (full_ok ao cap L w1 hm hp1 hsum n hn).mono ?_
  rintro e w2 ⟨rfl, hb2⟩
  have hg2 : w2.heap[g]? = some (.cells zero32 23 (0, 0)) := by rw [hg]; exact (hb2.block _ (gs H1.out.1).1).trans H1.out.1
  have hr2 : w2.heap[r]? = some (.cells zero32 23 (0, 0)) := by rw [hr]; exact (hb2.block _ (gs H1.out.2.1).1).trans H1.out.2.1
  have hB2 : Below w.heap.size w w2 := H1.out.2.2.trans (hb2.mono H1.out.2.2.size)
  clear H1 hb2 hp1 HP hr hg hz2
  have hfl : (Sha.full (joined L)).length = 32 := Sha.full_len _
  generalize Sha.full (joined L) = F at hfl HF ⊢
  obtain ⟨f, hf⟩ : ∃ f, f = w2.heap.size := ⟨_, rfl⟩
  have hf1 : (w2.alloc (.cells zero32 22)).heap[w2.heap.size]? = some (.cells zero32 22 (0, 0)) := heap_alloc_new _ _
  have hinf : (Tryz.prog.info? 22).map (·.size) = some (bys F).toArray.size := by rw [List.size_toArray, bys_length, hfl]; exact Tryz.info32
  have hz0 : zero32.size = (bys F).toArray.size := by rw [show (bys F).toArray.size = 32 by rw [List.size_toArray, bys_length, hfl]]; rfl
  have hone := bys_all F
  go_wp2_with (refine wpList_store_rowTo rfl 22 (.tmp 6) (.tmp 15) rfl rfl w2.heap.size (bys F).toArray rfl rfl 22 zero32 hf1 hinf hz0 hone ?_)
  have hf3 : ((w2.alloc (.cells zero32 22)).setRow w2.heap.size (bys F).toArray).heap[f]? = some (.cells (bys F).toArray 22 (0, 0)) := by rw [hf]; exact setRow_heap _ _ _ _ _ _ hf1
  have hgl : g < w2.heap.size := (gs hg2).1
  have hrl : r < w2.heap.size := (gs hr2).1
  have hg3 : ((w2.alloc (.cells zero32 22)).setRow w2.heap.size (bys F).toArray).heap[g]? = some (.cells zero32 23 (0, 0)) := by rw [setRow_other _ _ _ _ (by omega), heap_alloc_old w2 _ hgl]; exact hg2
  have hr3 : ((w2.alloc (.cells zero32 22)).setRow w2.heap.size (bys F).toArray).heap[r]? = some (.cells zero32 23 (0, 0)) := by rw [setRow_other _ _ _ _ (by omega), heap_alloc_old w2 _ hrl]; exact hr2
  have hB3 : Below w.heap.size w ((w2.alloc (.cells zero32 22)).setRow w2.heap.size (bys F).toArray) := below_row (hB2.alloc hB2.size _) hB2.size _
  clear hf1 hinf hz0 hone hg2 hr2 hB2
  generalize World.setRow _ _ _ = w3 at hf3 hg3 hr3 hB3 ⊢
  rw [<-hf]
  have hfg : f ≠ g := by omega
  clear hf hgl hrl
  have hs1 := fun W => Tryz.sliceID W g k hk32
  have hs2 := fun W => Tryz.slice32all W f
  go_still_tail 3, Tryz.followsD
  rw [World.drew_eq]
  have hcp : (bys (F.take k)).length = Nat.min 32 k := by rw [bys_length, List.length_take, hfl, Nat.min_comm]
  refine wpList_copy_own rfl (.tmp 17) (.tmp 18) 27 27 rfl 5 Tryz.underlying27 Tryz.sizeByteD g 0 k 32 ⟨f, 0, none⟩ 32 32 rfl rfl zero32 23 hg3 (bys (F.take k)) hcp ?hsrc ?hfit (bys_oneCell _) ?_
  case hsrc =>
   intro j u hu
   obtain ⟨hj, rfl⟩ := bys_get hu
   have hj2 : j < k := by simp at hj; omega
   rw [Addr.add_mid, Nat.zero_add, World.cell?_drew, cell_of_row _ _ _ _ _ _ hf3, List.getElem?_toArray, bys_at (by omega)]
   simp [hj2]
  case hfit => rw [bys_length, List.length_take]; show _ <= 32; omega
  have erow : (List.take 0 zero32.toList ++ (bys (F.take k) ++ List.drop (0 + (bys (F.take k)).length) zero32.toList)) = bys (F.take k ++ List.replicate (32 - k) 0) := by
   rw [List.take_zero, List.nil_append, Nat.zero_add, bys_length, List.length_take, hfl, Nat.min_eq_left hk32, bys_append]
   congr 1
   show (bys (List.replicate 32 0)).drop k = _
   rw [bys, bys, List.map_replicate, List.map_replicate, List.drop_replicate]
  rw [erow]
  have hIl : (F.take k ++ List.replicate (32 - k) 0).length = 32 := by simp [hfl]; omega
  have hg4 : (w3.drew.setRow g (bys (F.take k ++ List.replicate (32 - k) 0)).toArray).heap[g]? = some (.cells (bys (F.take k ++ List.replicate (32 - k) 0)).toArray 23 (0, 0)) := setRow_heap _ _ _ _ _ _ hg3
  have hr4 : (w3.drew.setRow g (bys (F.take k ++ List.replicate (32 - k) 0)).toArray).heap[r]? = some (.cells zero32 23 (0, 0)) := by rw [setRow_other _ _ _ _ (by have := HG.out; omega)]; exact hr3
  have hB4 : Below w.heap.size w (w3.drew.setRow g (bys (F.take k ++ List.replicate (32 - k) 0)).toArray) := below_row (w1 := w3.drew) ⟨hB3.os, hB3.tape, hB3.output, hB3.size, hB3.block⟩ (by have := HG.out; omega) _
  clear erow hcp hs1 hs2 hf3 hg3 hr3 hB3
  have HF2 : Hid (F.take k ++ List.replicate (32 - k) 0 = Sha.ident (k : Int) (joined L)) := HF.out.symm
  generalize F.take k ++ List.replicate (32 - k) 0 = I at hIl hg4 hr4 hB4 HF2 ⊢
  have hinf : (Tryz.prog.info? 23).map (·.size) = some (bys I).toArray.size := by rw [List.size_toArray, bys_length, hIl]; exact Tryz.infoID
  have hz0 : zero32.size = (bys I).toArray.size := by rw [show (bys I).toArray.size = 32 by rw [List.size_toArray, bys_length, hIl]]; rfl
  have hone := bys_all I
  generalize World.setRow _ _ _ = w4 at hg4 hr4 hB4 ⊢
  clear HF h1 h2 hout
  simp only [Act.put]
  go_wp2_with (first | refine wpList_load_row rfl 23 (.tmp 5) rfl g rfl 23 _ (0, 0) _ hg4 Tryz.underlying23 rfl hinf ?_ | refine wpList_store_rowTo rfl 23 (.tmp 4) (.tmp 20) rfl rfl r (bys I).toArray rfl rfl 23 zero32 hr4 hinf hz0 hone ?_)
  exact ret_row rfl rfl r 23 _ (0, 0) _ rfl (setRow_heap _ _ _ _ _ _ hr4) Tryz.underlying23 rfl hinf ⟨by rw [HF2.out], below_row hB4 (by have := HG.out; omega) _⟩
end

section
theorem getD_take_snoc (xs : List UInt8) (k : Nat) (hk : k < xs.length) : xs.take (k + 1) = xs.take k ++ [xs.getD k 0] := by
 rw [List.take_succ_eq_append_getElem hk]
 simp [List.getElem?_eq_getElem hk]
end

section
abbrev pv (a b : Nat) : Value := .agg #[.int .u16 a, .int .u16 b]
theorem wrap_u16 (n : Nat) : IntKind.u16.wrap (n : Int) = ((n % 65536 : Nat) : Int) := by
 simp [IntKind.wrap, IntKind.bits, IntKind.signed]
structure PRel (w wr : World) (R P : Nat) (a b : Nat) : Prop where
 row : wr.heap[P]? = some (.cells #[.int .u16 a, .int .u16 b] 172 (0, 0))
 res : wr.heap[R]? = some (.cells #[.int .u16 0, .int .u16 0] 172 (0, 0))
 kept : Kept [] w wr
theorem Tryz.zeroParts (W : World) : (zeroValue 172).run Tryz.prog W = .ok (.agg #[.int .u16 0, .int .u16 0]) W := by kernel_rfl
theorem PRel.ca {w wr : World} {R P a b : Nat} (h : PRel w wr R P a b) : wr.cell? ⟨P, 0, none⟩ = some (.int .u16 a) := by rw [cell_of_row _ _ _ _ _ _ h.row]; rfl
theorem PRel.cb {w wr : World} {R P a b : Nat} (h : PRel w wr R P a b) : wr.cell? ⟨P, 1, none⟩ = some (.int .u16 b) := by rw [cell_of_row _ _ _ _ _ _ h.row]; rfl
theorem PRel.fr {w wr : World} {R P a b : Nat} (h : PRel w wr R P a b) (i : Nat) : wr.frozen? ⟨P, i, none⟩ = false := frozen_of_row _ _ _ _ _ h.row
theorem PRel.set0 {w wr : World} {R P a b : Nat} (h : PRel w wr R P a b) (hRP : R ≠ P) (hP : w.heap.size <= P) (a' : Nat) : PRel w (wr.setCell ⟨P, 0, none⟩ (.int .u16 a')) R P a' b := by
 refine ⟨?_, ?_, h.kept.setCell (by simp; omega) _⟩
 ·rw [heap_setCell_same _ _ _ _ _ _ h.row]; rfl
 ·rw [heap_setCell_other _ _ _ _ (by simpa using hRP)]; exact h.res
theorem PRel.set1 {w wr : World} {R P a b : Nat} (h : PRel w wr R P a b) (hRP : R ≠ P) (hP : w.heap.size <= P) (b' : Nat) : PRel w (wr.setCell ⟨P, 1, none⟩ (.int .u16 b')) R P a b' := by
 refine ⟨?_, ?_, h.kept.setCell (by simp; omega) _⟩
 ·rw [heap_setCell_same _ _ _ _ _ _ h.row]; rfl
 ·rw [heap_setCell_other _ _ _ _ (by simpa using hRP)]; exact h.res
theorem partsOf_some (b off n cap : Nat) (xs : List UInt8) (w : World) (hn : xs.length = n) (hm : n <= 9223372036854775806) (hbw : n ≠ 0 -> b < w.heap.size) (hc : ∀ i, i < n -> w.cell? ⟨b, off + i, none⟩ = some (.int .u8 (xs.getD i 0).toNat)) :
  Calls Tryz.prog 111 #[.slice (some ⟨b, off, none⟩) n cap] w fun e w' => e = .returned (pv (Rol.pa xs) (Rol.pb xs)) ∧ Kept [] w w' := by
 have hzv := Tryz.zeroParts
 obtain ⟨P, hP⟩ : ∃ P, P = w.heap.size + 1 := ⟨_, rfl⟩
 have HI : Hid (PRel w ((w.alloc (.cells #[.int .u16 0, .int .u16 0] 172)).alloc (.cells #[.int .u16 0, .int .u16 0] 172)) w.heap.size (w.heap.size + 1) 0 0) := by
  refine ⟨?_, ?_, ((Kept.refl _ _).alloc _).alloc _⟩
  ·have := heap_alloc_new (w.alloc (.cells #[.int .u16 0, .int .u16 0] 172)) (.cells #[.int .u16 0, .int .u16 0] 172)
   simpa using this
  ·rw [Below.heap_alloc _ _ _ (by simp)]
   exact heap_alloc_new _ _
 have HN : Hid (xs.length = n) := hn
 have HC : Hid (∀ i, i < n -> w.cell? ⟨b, off + i, none⟩ = some (.int .u8 (xs.getD i 0).toNat)) := hc
 have HB : Hid (n ≠ 0 -> b < w.heap.size) := hbw
 clear hn hc hbw
 go_enter Tryz.func111, Tryz.ntmps111
 go_wp2
 go_loopw [8] (fun i wr => ∃ k : Nat, k <= n ∧ i = .int .i64 k ∧ Hid (PRel w wr w.heap.size (w.heap.size + 1) (Rol.pa (xs.take k)) (Rol.pb (xs.take k)))) (fun i wr => n - (intOf i).toNat)
 case atStart => exact ⟨0, Nat.zero_le _, rfl, HI⟩
 case round =>
  clear HI
  obtain ⟨k, hk, rfl, HR⟩ := hrel
  have ha := Rol.pa_lt (xs.take k)
  have hb := Rol.pb_lt (xs.take k)
  have ca := HR.out.ca
  have cb := HR.out.cb
  have fr0 := HR.out.fr 0
  have fr1 := HR.out.fr 1
  by_cases hlt : k < n
  ·have hcell : wr.cell? ⟨b, off + k, none⟩ = some (.int .u8 (xs.getD k 0).toNat) := HR.out.kept.cellOf (HC.out k hlt) (by simp)
   have hcb : (xs.getD k 0).toNat < 256 := UInt8.toNat_lt _
   have HA : Hid (Rol.pa (xs.take (k + 1)) = (Rol.pa (xs.take k) + (xs.getD k 0).toNat) % 65536) := by
    show _ = _
    rw [getD_take_snoc xs k (by rw [HN.out]; omega), Rol.pa_snoc]
   have HB : Hid (Rol.pb (xs.take (k + 1)) = (Rol.pb (xs.take k) + Rol.pa (xs.take (k + 1))) % 65536) := by
    show _ = _
    rw [getD_take_snoc xs k (by rw [HN.out]; omega), Rol.pb_snoc]
   generalize Rol.pa (xs.take k) = a at ha HA HR ca ⊢
   generalize Rol.pb (xs.take k) = b' at hb HB HR cb ⊢
   generalize (xs.getD k 0).toNat = c at hcell hcb HA
   have e1 : IntKind.u16.wrap ((a : Int) + c) = ((Rol.pa (xs.take (k + 1)) : Nat) : Int) := by rw [HA.out, <-wrap_u16]; congr 1
   have e2 : IntKind.u16.wrap ((b' : Int) + (Rol.pa (xs.take (k + 1)) : Nat)) = ((Rol.pb (xs.take (k + 1)) : Nat) : Int) := by rw [HB.out, <-wrap_u16]; congr 1
   have HR2 : Hid (PRel w ((wr.setCell ⟨w.heap.size + 1, 0, none⟩ (.int .u16 (Rol.pa (xs.take (k + 1)) : Nat))).setCell ⟨w.heap.size + 1, 1, none⟩ (.int .u16 (Rol.pb (xs.take (k + 1)) : Nat))) w.heap.size (w.heap.size + 1) (Rol.pa (xs.take (k + 1))) (Rol.pb (xs.take (k + 1)))) :=
    (HR.out.set0 (by omega) (by omega) _).set1 (by omega) (by omega) _
   clear HR HA HB
   go_wp2
   go_roundw
   case rel => exact ⟨k + 1, by omega, by go_num, HR2⟩
   case measure => simp [intOf]; omega
  ·obtain rfl : k = n := by omega
   have HT : Hid (xs.take k = xs) := List.take_of_length_le (by rw [HN.out]; omega)
   have cr0 : wr.cell? ⟨w.heap.size, 0, none⟩ = some (.int .u16 0) := by rw [cell_of_row _ _ _ _ _ _ HR.out.res]; rfl
   have cr1 : wr.cell? ⟨w.heap.size, 1, none⟩ = some (.int .u16 0) := by rw [cell_of_row _ _ _ _ _ _ HR.out.res]; rfl
   have fz0 : wr.frozen? ⟨w.heap.size, 0, none⟩ = false := frozen_of_row _ _ _ _ _ HR.out.res
   have fz1 : wr.frozen? ⟨w.heap.size, 1, none⟩ = false := frozen_of_row _ _ _ _ _ HR.out.res
   have HK := HR.out.kept
   clear HR HC HB HN
   go_wp2
   refine bodyPost_ret (v := pv (Rol.pa xs) (Rol.pb xs)) ?_ rfl ⟨rfl, (HK.setCell (by simp) _).setCell (by simp) _⟩
   rw [HT.out]
   simp [results, Tryz.results111, go_sem, cr0, cr1, fz0, fz1]
theorem partsOf_none (ao : Option Addr) (cap : Nat) (w : World) :
  Calls Tryz.prog 111 #[.slice ao 0 cap] w fun e w' => e = .returned (pv (Rol.pa []) (Rol.pb [])) ∧ Kept [] w w' := by
 have hzv := Tryz.zeroParts
 have HK : Kept [] w ((w.alloc (.cells #[.int .u16 0, .int .u16 0] 172)).alloc (.cells #[.int .u16 0, .int .u16 0] 172)) := ((Kept.refl _ _).alloc _).alloc _
 go_enter Tryz.func111, Tryz.ntmps111
 go_wp2
 go_loop [8] (fun i => i = .int .i64 0) (fun i => 0)
 case atStart => rfl
 case round =>
  subst hrel
  go_wp2
  refine bodyPost_ret (v := pv (Rol.pa []) (Rol.pb [])) ?_ rfl ⟨rfl, ?_⟩
  ·simp [results, Tryz.results111, go_sem, pv, Rol.pa_nil, Rol.pb_nil]
  ·first | exact HK | exact (HK.setCell (by simp) _).setCell (by simp) _
theorem partsOf_n (ao : Option Addr) (n cap : Nat) (xs : List UInt8) (w : World) (hn : xs.length = n) (hm : n <= 9223372036854775806) (h : Sl w ao xs) :
  Calls Tryz.prog 111 #[.slice ao n cap] w fun e w' => e = .returned (pv (Rol.pa xs) (Rol.pb xs)) ∧ Kept [] w w' := by
 by_cases h0 : xs = []
 ·subst h0
  obtain rfl : n = 0 := by simpa using hn.symm
  exact partsOf_none ao cap w
 ·obtain ⟨b, off, rfl, hb, hc⟩ := h.open h0
  exact partsOf_some b off n cap xs w hn hm (fun _ => hb) (fun i hi => hc i (by omega))
theorem i64_or_nat (a b : Nat) (ha : a < 65536) (hb : b < 65536) : bits .or .i64 ((b : Int) * 65536) (a : Int) = ((a + 65536 * b : Nat) : Int) := by
 show IntKind.i64.wrap ((BitVec.ofInt 64 ((b : Int) * 65536) ||| BitVec.ofInt 64 (a : Int)).toNat : Int) = _
 have e1 : ((b : Int) * 65536) = ((b * 65536 : Nat) : Int) := by omega
 rw [e1, BitVec.ofInt_natCast, BitVec.ofInt_natCast, BitVec.toNat_or, BitVec.toNat_ofNat, BitVec.toNat_ofNat, Nat.mod_eq_of_lt (by omega), Nat.mod_eq_of_lt (by omega)]
 have e2 : b * 65536 ||| a = a + 65536 * b := by
  have := Nat.two_pow_add_eq_or_of_lt (i := 16) (b := a) (by omega) b
  rw [show b * 65536 = 2 ^ 16 * b by omega, <-this]
  omega
 rw [e2]
 simp [IntKind.wrap, IntKind.bits, IntKind.signed]
 omega
theorem psum_any (a b : Nat) (w : World) (ha : a < 65536) (hb : b < 65536) :
  Calls Tryz.prog 112 #[pv a b] w fun e w' => e = .returned (.int .i64 ((a + 65536 * b : Nat) : Int)) ∧ Kept [] w w' := by
 have e1 := i64_or_nat a b ha hb
 have HK : Kept [] w (w.alloc (.cells #[.int .u16 a, .int .u16 b] 172)) := (Kept.refl _ _).alloc _
 go_enter Tryz.func112, Tryz.ntmps112
 go_wp2
 go_ret
 exact ⟨rfl, HK⟩
theorem wrap_u16_sub (a x : Nat) (hx : x <= 65536) : IntKind.u16.wrap ((a : Int) - (x : Int)) = (((a + 65536 - x) % 65536 : Nat) : Int) := by
 simp [IntKind.wrap, IntKind.bits, IntKind.signed]
 omega
theorem wrap_u16_add (a x : Nat) : IntKind.u16.wrap ((a : Int) + (x : Int)) = (((a + x) % 65536 : Nat) : Int) := by rw [<-wrap_u16]; congr 1
theorem wrap_u16_mul (n x : Nat) : IntKind.u16.wrap (((n % 65536 : Nat) : Int) * (x : Int)) = ((n * x % 65536 : Nat) : Int) := by
 rw [show ((n % 65536 : Nat) : Int) * (x : Int) = ((n % 65536 * x : Nat) : Int) by simp, wrap_u16, Nat.mod_mul_mod]
abbrev mva (a x c : Nat) : Nat := ((a + 65536 - x) % 65536 + c) % 65536
abbrev mvb (a b x c n : Nat) : Nat := ((b + 65536 - n * x % 65536) % 65536 + mva a x c) % 65536
theorem mva_move (x : UInt8) (l : List UInt8) (c : UInt8) : mva (Rol.pa (x :: l)) x.toNat c.toNat = Rol.pa (l ++ [c]) := by
 rw [Rol.pa_move x l c]; have := UInt8.toNat_lt x; unfold mva; omega
theorem mvb_move (x : UInt8) (l : List UInt8) (c : UInt8) (n : Nat) (hn : n = l.length + 1) : mvb (Rol.pa (x :: l)) (Rol.pb (x :: l)) x.toNat c.toNat n = Rol.pb (l ++ [c]) := by
 unfold mvb
 rw [mva_move, Rol.pb_move x l c, hn]
 omega
theorem moved_any (a b x c n : Nat) (w : World) (ha : a < 65536) (hb : b < 65536) (hx : x < 256) (hc : c < 256) (hn : n <= 9223372036854775807) :
  Calls Tryz.prog 125 #[pv a b, .int .u8 x, .int .u8 c, .int .i64 n] w fun e w' => e = .returned (pv (mva a x c) (mvb a b x c n)) ∧ Kept [] w w' := by
 have hzv := Tryz.zeroParts
 have e1 := wrap_u16_sub a x (by omega)
 have e2 := wrap_u16_add ((a + 65536 - x) % 65536) c
 have e3 := wrap_u16 n
 have e4 := wrap_u16_mul n x
 have e5 := wrap_u16_sub b (n * x % 65536) (by omega)
 have e6 := wrap_u16_add ((b + 65536 - n * x % 65536) % 65536) (mva a x c)
 have l1 : mva a x c < 65536 := Nat.mod_lt _ (by omega)
 have l2 : mvb a b x c n < 65536 := Nat.mod_lt _ (by omega)
 have e2' : IntKind.u16.wrap (((a + 65536 - x) % 65536 : Nat) + (c : Int)) = (mva a x c : Nat) := e2
 have e6' : IntKind.u16.wrap (((b + 65536 - n * x % 65536) % 65536 : Nat) + (mva a x c : Nat)) = ((mvb a b x c n : Nat) : Int) := e6
 clear e2 e6
 have q1 : (a + 65536 - x) % 65536 < 65536 := Nat.mod_lt _ (by omega)
 have q2 : n % 65536 < 65536 := Nat.mod_lt _ (by omega)
 have q3 : n * x % 65536 < 65536 := Nat.mod_lt _ (by omega)
 have q4 : (b + 65536 - n * x % 65536) % 65536 < 65536 := Nat.mod_lt _ (by omega)
 generalize mvb a b x c n = b2 at e6' l2 ⊢
 generalize mva a x c = a2 at e2' e6' l1 ⊢
 generalize (b + 65536 - n * x % 65536) % 65536 = m4 at e5 e6' q4
 generalize n * x % 65536 = m3 at e4 e5 q3
 generalize n % 65536 = m2 at e3 e4 q2
 generalize (a + 65536 - x) % 65536 = m1 at e1 e2' q1
 go_enter Tryz.func125, Tryz.ntmps125
 go_wp2
 refine bodyPost_ret (v := pv a2 b2) ?_ rfl ⟨rfl, ((Kept.refl _ _).alloc _).alloc _⟩
 simp [results, Tryz.results125, go_sem]
theorem rsum_n (ao : Option Addr) (n cap : Nat) (xs : List UInt8) (w : World) (hn : xs.length = n) (hm : n <= 9223372036854775806) (h : Sl w ao xs) :
  Calls Tryz.prog 85 #[.slice ao n cap] w fun e w' => e = .returned (.int .i64 (Rol.sum xs)) ∧ Kept [] w w' := by
 have ha := Rol.pa_lt xs
 have hb := Rol.pb_lt xs
 go_enter Tryz.func85, Tryz.ntmps85
 go_wp2_with (first | (go_at_call 111; refine (partsOf_n ao n cap xs _ hn hm h).mono ?_; rintro e w1 ⟨rfl, hk1⟩) | (go_at_call 112; refine (psum_any _ _ _ ha hb).mono ?_; rintro e w2 ⟨rfl, hk2⟩))
 go_ret
 exact ⟨rfl, hk1.tr hk2⟩
end

section
theorem Tryz.followsE : Tryz.prog.follows .mixedOrders = true := by kernel_rfl
end

section
theorem Tryz.infoByteE : (Tryz.prog.info? 5).map (fun i => (i.zero, i.size, i.bytes)) = some (some (.int .u8 0), 1, 1) := by kernel_rfl
theorem clone_nilE (w : World) :
  Calls Tryz.prog 123 #[.slice none 0 0] w fun e w' => e = .returned (.slice none 0 0) ∧ w' = w := by
 have hnil := fun (w : World) (a : Option Addr) (n c : Nat) => Lib.run_eql_slice_nil (P := Tryz.prog) w 27 5 a n c 0 0 Tryz.underlying27
 go_enter Tryz.func123, Tryz.ntmps123
 go_wp2
 go_ret
 exact ⟨rfl, rfl⟩
theorem clone_someE (ad : Addr) (cap : Nat) (xs : List UInt8) (w : World) (hm : xs.length <= 140737488355328) (hc : ∀ j u, (bys xs)[j]? = some u -> (w.alloc (.cells #[] 5)).cell? (ad.add j) = some u) :
  Calls Tryz.prog 123 #[.slice (some ad) xs.length cap] w fun e w' => ∃ g cap', e = .returned (.slice (some ⟨g, 0, none⟩) xs.length cap') ∧ w.heap.size <= g ∧ g < w'.heap.size ∧ xs.length <= cap' ∧ Sl w' (some ⟨g, 0, none⟩) xs ∧ Kept [] w w' ∧ w'.ownsRow w.heap.size 5 1 (.slice (some ⟨g, 0, none⟩) xs.length cap') xs.length (bys xs) := by
 obtain ⟨i0, hi, hz0, hz1, hz2⟩ := info_parts Tryz.infoByteE
 have hnil := fun (w : World) (a : Option Addr) (n c : Nat) => Lib.run_eql_slice_nil (P := Tryz.prog) w 27 5 a n c 0 0 Tryz.underlying27
 go_enter Tryz.func123, Tryz.ntmps123
 go_wp2_with (at_builtin; refine wpList_append_own _ rfl _ _ 27 rfl w.heap.size 5 i0 (.int .u8 0) 1 1 Tryz.underlying27 hi hz0 hz1 hz2 rfl (by decide) _ 0 [] rfl (World.ownsRow_made w #[] 0 (Nat.le_refl _) (by decide) rfl) ad xs.length cap (bys xs) rfl (by simp [bys_length]) hc (bys_oneCell xs) ?c3 ?c4 ?c5 ?_)
 case c3 => unfold maxLen; omega
 case c4 => omega
 case c5 => simp
 intro v' w1 hown hgrow hnn
 obtain ⟨g, cap', hv, hg, hgs, hcap, hsl⟩ := own_sl hown hnn
 have hk : Kept [] w w1 := ((Kept.refl [] w).alloc _).grown hgrow (by intro k hk hlt; simp [Value.ownBlock] at hk; omega)
 have HOW : Hid (w1.ownsRow w.heap.size 5 1 (.slice (some ⟨g, 0, none⟩) xs.length cap') xs.length (bys xs)) := by
  have h := hown
  rw [hv] at h
  exact h
 rw [hv]
 clear hown hgrow hnn hv hnil hc
 go_wp2
 go_ret
 exact ⟨g, cap', rfl, hg, hgs, hcap, hsl, hk, HOW.out⟩
theorem clone_ownE (ao : Option Addr) (n cap : Nat) (xs : List UInt8) (w : World) (hxn : xs.length = n) (hm : xs.length <= 140737488355328) (h : Sl w ao xs) (hn : ao = none -> xs = [] ∧ cap = 0) :
  Calls Tryz.prog 123 #[.slice ao n cap] w fun e w' => ∃ ao' cap', e = .returned (.slice ao' n cap') ∧ w'.ownsRow w.heap.size 5 1 (.slice ao' n cap') n (bys xs) ∧ Kept [] w w' := by
 subst hxn
 cases ao with
 | none =>
  obtain ⟨rfl, rfl⟩ := hn rfl
  refine (clone_nilE w).mono fun e w' ⟨he, hw⟩ => ?_
  subst he; subst hw
  exact ⟨none, 0, rfl, World.ownsRow_nil _ _ _ _, Kept.refl _ _⟩
 | some a =>
  refine (clone_someE a cap xs w hm ?_).mono fun e w' ⟨g, cap', he, hg, hgs, hcap, hsl, hk, ho⟩ => ?_
  ·by_cases h0 : xs = []
   ·subst h0
    intro j u hu
    simp [bys] at hu
   ·obtain ⟨b, off, e', hb, hc⟩ := h.open h0
    cases e'
    refine Sl.cells fun i hi => ?_
    rw [World.cell?_alloc_lt _ _ _ hb]
    exact hc i hi
  ·exact ⟨_, cap', he, ho, hk⟩
end

section

end

section

end

section
theorem own_open {w : World} {base : Nat} {e : TypeId} {v : Value} {n : Nat} {xs : List UInt8} (h : w.ownsRow base e 1 v n (bys xs)) (hv : v ≠ .slice none 0 0) :
  ∃ g cap, v = .slice (some ⟨g, 0, none⟩) n cap ∧ base <= g ∧ g < w.heap.size ∧ n <= cap ∧ (∀ i, i < xs.length -> w.cell? ⟨g, i, none⟩ = some (.int .u8 (xs.getD i 0).toNat)) ∧ ∀ i, w.frozen? ⟨g, i, none⟩ = false := by
 obtain ⟨g, cap, rfl, hb, hlt, hn, hs⟩ := own_sl h hv
 refine ⟨g, cap, rfl, hb, hlt, hn, fun i hi => ?_, fun i => ?_⟩
 ·obtain ⟨b, off, e1, e2⟩ := hs i hi
  cases e1
  rwa [Nat.zero_add] at e2
 ·rcases h.2 with ⟨h1, _⟩ | ⟨g', cap', cur, h1, _, hg, _⟩
  ·cases h1
  ·cases h1
   exact frozen_of_row _ _ _ _ _ hg
end

section
def wat (data : List UInt8) (size k : Nat) : List UInt8 := (data.drop k).take size
theorem wat_head (data : List UInt8) (size k : Nat) (hs : 0 < size) (h : k + size <= data.length) : wat data size k = data.getD k 0 :: (data.drop (k + 1)).take (size - 1) := by
 unfold wat
 obtain ⟨m, rfl⟩ : ∃ m, size = m + 1 := ⟨size - 1, by omega⟩
 rw [List.drop_eq_getElem_cons (by omega), List.take_succ_cons]
 simp [List.getElem?_eq_getElem (show k < data.length by omega)]
theorem wat_next (data : List UInt8) (size k : Nat) (hs : 0 < size) (h : k + size < data.length) : wat data size (k + 1) = (data.drop (k + 1)).take (size - 1) ++ [data.getD (k + size) 0] := by
 unfold wat
 have e : size = size - 1 + 1 := by omega
 rw [show List.take size (data.drop (k + 1)) = List.take (size - 1 + 1) (data.drop (k + 1)) by rw [<-e], List.take_succ_eq_append_getElem (by simp; omega)]
 congr 2
 simp only [List.getElem_drop, List.getD_eq_getElem?_getD]
 rw [List.getElem?_eq_getElem (show k + size < data.length by omega), Option.getD_some]
 congr 1
 omega
structure Wc (w : World) (Kb Sb g cap size : Nat) (data : List UInt8) : Prop where
 k : w.cell? ⟨Kb, 0, none⟩ = some (.slice (some ⟨g, 0, none⟩) data.length cap)
 s : w.cell? ⟨Sb, 0, none⟩ = some (.int .i64 size)
 d : ∀ i, i < data.length -> w.cell? ⟨g, i, none⟩ = some (.int .u8 (data.getD i 0).toNat)
 h1 : 1 <= size
 h2 : size <= data.length
 le : data.length <= cap
 max : data.length <= 140737488355328
theorem Wc.kept {l : List Nat} {w w' : World} {Kb Sb g cap size : Nat} {data : List UInt8} (h : Wc w Kb Sb g cap size data) (hk : Kept l w w') (h1 : Kb ∉ l) (h2 : Sb ∉ l) (h3 : g ∉ l) : Wc w' Kb Sb g cap size data :=
 ⟨hk.cellOf h.k h1, hk.cellOf h.s h2, fun i hi => hk.cellOf (h.d i hi) h3, h.h1, h.h2, h.le, h.max⟩
structure Wl (wr : World) (P : Nat) (a b : Nat) : Prop where
 row : wr.heap[P]? = some (.cells #[.int .u16 a, .int .u16 b] 172 (0, 0))
theorem Wl.kept {l : List Nat} {w w' : World} {P a b : Nat} (h : Wl w P a b) (hk : Kept l w w') (hp : P ∉ l) : Wl w' P a b :=
 ⟨by rw [hk.block P (gs h.row).1 hp]; exact h.row⟩
theorem win1_any (y : Value) (w : World) :
  Calls Tryz.prog 122 #[y] w fun e w' => e = .returned (.tuple #[]) ∧ w' = w := by
 go_enter Tryz.func122, Tryz.ntmps122
 go_wp2
 first | exact bodyPost_end (results_none rfl _ _ _) rfl ⟨rfl, rfl⟩ | exact bodyPost_ret (results_none rfl _ _ _) rfl ⟨rfl, rfl⟩
theorem windows_bad (ao : Option Addr) (n cap : Nat) (size : Int) (w : World) (hs : size < 1 ∨ (n : Int) < size) :
  Calls Tryz.prog 100 #[.slice ao n cap, .int .i64 size] w fun e w' => e = .returned (.func (.func 122) #[] #[]) ∧ Kept [] w w' := by
 have HK : Hid (Kept [] w (w.alloc (.cells #[.int .i64 size] 3))) := (Kept.refl _ _).alloc _
 by_cases h1 : size < 1
 ·clear hs
  go_enter Tryz.func100, Tryz.ntmps100
  go_wp2
  go_ret
  exact ⟨rfl, HK.out⟩
 ·have h2 : (n : Int) < size := by omega
  clear hs
  go_enter Tryz.func100, Tryz.ntmps100
  go_wp2
  go_ret
  exact ⟨rfl, HK.out⟩
theorem windows_ok (ao : Option Addr) (n cap size : Nat) (data : List UInt8) (w : World) (hx : data.length = n) (hm : n <= 140737488355328) (h : Sl w ao data) (h1 : 1 <= size) (h2 : size <= n) :
  Calls Tryz.prog 100 #[.slice ao n cap, .int .i64 size] w fun e w' => ∃ Kb Sb g cap', e = .returned (.func (.func 124) #[] #[.pointer (some ⟨Kb, 0, none⟩), .pointer (some ⟨Sb, 0, none⟩)]) ∧ Wc w' Kb Sb g cap' size data ∧ w.heap.size <= Kb ∧ w.heap.size <= Sb ∧ w.heap.size <= g ∧ Kept [] w w' := by
 have HX : Hid (data.length = n) := hx
 have HS : Hid (Sl (w.alloc (.cells #[.int .i64 size] 3)) ao data) := h.kept ((Kept.refl [] w).alloc _) (by simp)
 have hnn : ao = none -> data = [] ∧ cap = 0 := fun e => by
  obtain ⟨b, off, e', _⟩ := h 0 (by omega)
  rw [e] at e'; cases e'
 clear hx h
 go_enter Tryz.func100, Tryz.ntmps100
 go_wp2_with (go_at_call 123; refine (clone_ownE ao n cap data _ HX.out (by rw [HX.out]; omega) HS.out hnn).mono ?_; rintro e w1 ⟨ao1, cap1, rfl, how1, hk1⟩; have HW1 : Hid (w1.ownsRow (w.alloc (.cells #[.int .i64 size] 3)).heap.size 5 1 (.slice ao1 n cap1) n (bys data)) := how1; clear how1)
 go_ret
 have hne : (Value.slice ao1 n cap1) ≠ .slice none 0 0 := by intro e; cases e; omega
 obtain ⟨g, cp, e1, hg1, hg2, hg3, hc, hfz⟩ := own_open HW1.out hne
 cases e1
 have hka : Kept [] w (w.alloc (.cells #[.int .i64 size] 3)) := (Kept.refl _ _).alloc _
 have hk2 : Kept [] w1 (w1.alloc (.cells #[.slice (some ⟨g, 0, none⟩) n cap1] 27)) := (Kept.refl _ _).alloc _
 have hsz := hka.size
 have hs2 := hk1.size
 refine ⟨w1.heap.size, w.heap.size, g, cap1, rfl, ?_, by omega, Nat.le_refl _, by omega, (hka.tr hk1).tr hk2⟩
 refine ⟨by rw [HX.out]; simp, ?_, fun i hi => hk2.cellOf (hc i hi) (by simp), h1, by rw [HX.out]; exact h2, by rw [HX.out]; exact hg3, by rw [HX.out]; exact hm⟩
 refine hk2.cellOf (hk1.cellOf ?_ (by simp)) (by simp)
 simp
end

end Go.Proofs.YtmklodligplbaabGreat
