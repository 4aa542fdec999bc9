import Derived.Test.YtmklodligplbaabGreatDdal
import Derived.Test.YtmklodligplbaabGreatL18al
namespace Go.Proofs.YtmklodligplbaabGreat
section
open Go.RowKit
set_option linter.unusedVariables false
set_option linter.unusedSimpArgs false
set_option maxHeartbeats 400000 in
set_option maxRecDepth 100000 in
theorem rof_of (width : Int) (ao : Option Addr) (cap : Nat) (m : List UInt8) (w : World) (n : Nat)
  (hfull : ∀ w1, Below w.heap.size w w1 → Calls Tryz.prog 40 #[.slice ao n cap] w1 fun e w' => e = .returned (.agg (bys (Sha.full m)).toArray) ∧ Below w1.heap.size w1 w') :
  Calls Tryz.prog 10 #[.int .i64 width, .slice ao n cap] w fun e w' => e = .returned (.agg (bys (Sha.ident width m)).toArray) ∧ Below w.heap.size w w' := by
 have hz := Tryz.zeroB32
 have hz2 := Tryz.zeroID
 obtain ⟨r, hr⟩ : ∃ r, r = w.heap.size := ⟨_, rfl⟩
 obtain ⟨g, hg⟩ : ∃ r, r = w.heap.size + 1 := ⟨_, rfl⟩
 have hg1 : ((w.alloc (.cells zero32 23)).alloc (.cells zero32 23)).heap[w.heap.size + 1]? = some (.cells zero32 23 (0, 0)) := heap_alloc2_new _ _ _
 have hr1 : ((w.alloc (.cells zero32 23)).alloc (.cells zero32 23)).heap[w.heap.size]? = some (.cells zero32 23 (0, 0)) := heap_alloc2_old _ _ _
 have hB1 : Below w.heap.size w ((w.alloc (.cells zero32 23)).alloc (.cells zero32 23)) := ((Below.refl _ _).alloc (Nat.le_refl _) _).alloc (by simp) _
 have HFU := (show Hid (∀ _, _) from hfull)
 have HG : Hid (r = w.heap.size ∧ g = w.heap.size + 1) := ⟨hr, hg⟩
 clear hfull
 go_enter Tryz.func10, Tryz.ntmps10
 by_cases hout : width < 1 ∨ 32 < width
 ·have HF : Hid (Sha.ident width m = List.replicate 32 0) := by
   show _ = _
   unfold Sha.ident; rw [if_pos hout]
  have hz0 : zero32.all (·.oneCell') = true := bys_all _
  have FIN : Hid (∀ (a : Act), a.defers = [] → a.tmps.getD 4 undef = .pointer (some ⟨w.heap.size, 0, none⟩) → bodyPost Tryz.prog Tryz.f10 (fun e w' => e = .returned (.agg (bys (Sha.ident width m)).toArray) ∧ Below w.heap.size w w') .ret a (((w.alloc (.cells zero32 23)).alloc (.cells zero32 23)).setRow w.heap.size zero32)) := fun a hd hp =>
   ret_row rfl hd w.heap.size 23 zero32 (0, 0) _ hp (setRow_heap _ _ _ _ _ _ hr1) Tryz.underlying23 rfl Tryz.infoID ⟨by rw [HF.out]; rfl, below_row hB1 (Nat.le_refl _) _⟩
  by_cases h1 : width < 1
  ·go_wp2_with (first | refine wpList_load_row rfl 23 (.tmp 5) rfl (w.heap.size + 1) rfl 23 _ (0, 0) _ hg1 Tryz.underlying23 rfl Tryz.infoID ?_ | refine wpList_store_rowTo rfl 23 (.tmp 4) (.tmp 14) rfl rfl w.heap.size zero32 rfl rfl 23 zero32 hr1 Tryz.infoID rfl hz0 ?_)
   exact FIN.out _ rfl rfl
  ·have h2 : 32 < width := by omega
   go_wp2_with (first | refine wpList_load_row rfl 23 (.tmp 5) rfl (w.heap.size + 1) rfl 23 _ (0, 0) _ hg1 Tryz.underlying23 rfl Tryz.infoID ?_ | refine wpList_store_rowTo rfl 23 (.tmp 4) (.tmp 14) rfl rfl w.heap.size zero32 rfl rfl 23 zero32 hr1 Tryz.infoID rfl hz0 ?_)
   exact FIN.out _ rfl rfl
 ·obtain ⟨k, rfl⟩ := Int.eq_ofNat_of_zero_le (show 0 ≤ width by omega)
  have h1 : ¬ ((k : Int) < 1) := by omega
  have h2 : ¬ (32 < (k : Int)) := by omega
  have hk32 : k ≤ 32 := by omega
  have HF : Hid (Sha.ident (k : Int) m = (Sha.full m).take k ++ List.replicate (32 - k) 0) := by
   show _ = _
   unfold Sha.ident; rw [if_neg hout]; rfl
  have H1 := (show Hid (_ ∧ _ ∧ _) from ⟨hg1, hr1, hB1⟩)
  clear hg1 hr1 hB1
  go_wp2_with (fail)
  generalize (w.alloc _).alloc _ = w1 at H1 ⊢
  rw [← hg, ← hr] at ⊢
  refine (HFU.out w1 H1.out.2.2).mono ?_
  rintro e w2 ⟨rfl, hb2⟩
  have hg2 : w2.heap[g]? = some (.cells zero32 23 (0, 0)) := by rw [hg]; exact (hb2.block _ (Array.getElem?_eq_some_iff.1 H1.out.1).1).trans H1.out.1
  have hr2 : w2.heap[r]? = some (.cells zero32 23 (0, 0)) := by rw [hr]; exact (hb2.block _ (Array.getElem?_eq_some_iff.1 H1.out.2.1).1).trans H1.out.2.1
  have hB2 : Below w.heap.size w w2 := H1.out.2.2.trans (hb2.mono H1.out.2.2.size)
  clear H1 hb2 HFU hr hg hz2
  have hfl : (Sha.full m).length = 32 := Sha.full_len _
  generalize Sha.full m = F at hfl HF ⊢
  obtain ⟨f, hf⟩ : ∃ f, f = w2.heap.size := ⟨_, rfl⟩
  have hf1 : (w2.alloc (.cells zero32 22)).heap[w2.heap.size]? = some (.cells zero32 22 (0, 0)) := heap_alloc_new _ _
  have hinf : (Tryz.prog.info? 22).map (·.size) = some (bys F).toArray.size := by rw [List.size_toArray, bys_length, hfl]; exact Tryz.info32
  have hz0 : zero32.size = (bys F).toArray.size := by rw [show (bys F).toArray.size = 32 by rw [List.size_toArray, bys_length, hfl]]; rfl
  have hone := bys_all F
  go_wp2_with (refine wpList_store_rowTo rfl 22 (.tmp 6) (.tmp 16) rfl rfl w2.heap.size (bys F).toArray rfl rfl 22 zero32 hf1 hinf hz0 hone ?_)
  have hf3 : ((w2.alloc (.cells zero32 22)).setRow w2.heap.size (bys F).toArray).heap[f]? = some (.cells (bys F).toArray 22 (0, 0)) := by rw [hf]; exact setRow_heap _ _ _ _ _ _ hf1
  have hgl : g < w2.heap.size := (Array.getElem?_eq_some_iff.1 hg2).1
  have hrl : r < w2.heap.size := (Array.getElem?_eq_some_iff.1 hr2).1
  have HI : Hid (Fill32 w ((w2.alloc (.cells zero32 22)).setRow w2.heap.size (bys F).toArray) 23 r g (idl F 0)) := by
   have := HG.out
   refine ⟨by rw [setRow_other _ _ _ _ (by omega), heap_alloc_old w2 _ hrl]; exact hr2, by rw [setRow_other _ _ _ _ (by omega), heap_alloc_old w2 _ hgl]; exact hg2, by simp [idl], below_row (hB2.alloc hB2.size _) hB2.size _, by omega⟩
  have HCF : Hid (∀ i, i < 32 → ((w2.alloc (.cells zero32 22)).setRow w2.heap.size (bys F).toArray).cell? ⟨f, i, none⟩ = some (.int .u8 (F.getD i 0).toNat)) := fun i hi => by
   rw [cell_of_row _ _ _ _ _ _ hf3, List.getElem?_toArray, bys_at (by omega)]
  clear hf1 hinf hz0 hone hg2 hr2 hB2 hf3
  generalize World.setRow _ _ _ = w3 at HI HCF ⊢
  rw [← hf]
  have hfg : Hid (f ≠ g) := by show _ ≠ _; omega
  clear hf hgl hrl
  go_loopw [7] (fun x wr => ∃ i : Nat, i ≤ k ∧ x = .int .i64 i ∧ Hid (Fill32 w wr 23 r g (idl F i)) ∧ Hid (∀ i, i < 32 → wr.cell? ⟨f, i, none⟩ = some (.int .u8 (F.getD i 0).toNat))) (fun x wr => k - (intOf x).toNat)
  case atStart => exact ⟨0, by omega, rfl, HI, HCF⟩
  case round =>
   clear HI HCF
   obtain ⟨i, hi, rfl, HI, HC⟩ := hrel
   by_cases hlt : i < k
   ·have li : (i : Int) < 32 := by omega
    have cf := HC.out i (by omega)
    have ci := HI.out.cell i (by omega)
    have fi := HI.out.frozen i
    have HS : Hid (Fill32 w (wr.setCell ⟨g, i, none⟩ (.int .u8 (F.getD i 0).toNat)) 23 r g (idl F (i + 1))) := HI.out.set i _
    have HC2 : ∀ v, Hid (∀ j, j < 32 → (wr.setCell ⟨g, i, none⟩ v).cell? ⟨f, j, none⟩ = some (.int .u8 (F.getD j 0).toNat)) := fun v j hj => by
     rw [World.cell?_setCell_other _ _ _ _ (by intro e; injection e with e1; exact hfg.out e1.symm)]
     exact HC.out j hj
    clear HI HC
    generalize (idl F i).getD i 0 = old at ci
    generalize F.getD i 0 = x at cf HS
    go_wp2
    go_roundw
    case rel => exact ⟨i + 1, by omega, by go_num, HS, HC2 _⟩
    case measure => simp [intOf]; omega
   ·obtain rfl : i = k := by omega
    have h1 := HI.out.arr
    have h2 := HI.out.res
    have hlen : (bys (idl F i)).toArray.size = 32 := by simp [bys_length, HI.out.len]
    have hinf : (Tryz.prog.info? 23).map (·.size) = some (bys (idl F i)).toArray.size := by rw [hlen]; exact Tryz.infoID
    have hz0 : zero32.size = (bys (idl F i)).toArray.size := by rw [hlen]; rfl
    have hone := bys_all (idl F i)
    have HFIN : Hid (idl F i = Sha.ident (i : Int) m) := (idl_eq F hfl i hk32).trans HF.out.symm
    generalize idl F i = I at h1 hlen hinf hone hz0 HFIN HI
    go_wp2_with (first | refine wpList_load_row rfl 23 (.tmp 5) rfl g rfl 23 _ (0, 0) _ h1 Tryz.underlying23 rfl hinf ?_ | refine wpList_store_rowTo rfl 23 (.tmp 4) (.tmp 27) rfl rfl r (bys I).toArray rfl rfl 23 zero32 h2 hinf hz0 hone ?_)
    exact ret_row rfl rfl r 23 _ (0, 0) _ rfl (setRow_heap _ _ _ _ _ _ h2) Tryz.underlying23 rfl hinf ⟨by rw [HFIN.out], below_row HI.out.below HI.out.ps.1 _⟩
end

section
open Go.RowKit
open Dlt
set_option linter.unusedVariables false
set_option linter.unusedSimpArgs false
theorem rof_ok (width : Int) (ao : Option Addr) (n cap : Nat) (m : List UInt8) (w : World) (hn : m.length = n) (hlen : n ≤ 140737488351232) (hs : Sl w ao m) (hnl : ao = none → m = [] ∧ cap = 0) :
  Calls Tryz.prog 10 #[.int .i64 width, .slice ao n cap] w fun e w' => e = .returned (.agg (bys (Sha.ident width m)).toArray) ∧ Kept [] w w' :=
 (rof_of width ao cap m w n fun w1 hb => rfull_any ao cap m w1 n hn hlen (hs.kept (Kept.of_below hb) (by simp)) hnl).mono fun e w' h => ⟨h.1, Kept.of_below h.2⟩
end

end Go.Proofs.YtmklodligplbaabGreat
