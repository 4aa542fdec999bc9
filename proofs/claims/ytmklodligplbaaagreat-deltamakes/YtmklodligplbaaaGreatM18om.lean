import Derived.Test.YtmklodligplbaaaGreatM18nm
import Derived.Test.YtmklodligplbaaaGreatL18gm
open Go.RowKit
set_option linter.unusedVariables false
set_option linter.unusedSimpArgs false
set_option maxRecDepth 100000
set_option maxHeartbeats 51200000
namespace Go.Proofs.YtmklodligplbaaaGreat
open Dlt
theorem makeB_len (s : Sig) (ys : List UInt8) : (makeB s ys).length <= 131072 := by
 unfold makeB
 split
 ·rename_i h0
  unfold makeE at h0
  split at h0; · cases h0
  split at h0; · cases h0
  split at h0; · cases h0
  split at h0; · cases h0
  omega
 ·simp
theorem cy_in8o {w : World} {g n cap : Nat} {xs : List UInt8} (h : Cy w g n cap xs) (hc : cap <= 9223372036854775807) : InB8 w (some ⟨g, 0, none⟩) n cap xs := ⟨h.len, by have := h.cap; omega, by have := h.cap; omega, h.sl, fun e => by cases e⟩
theorem ownB_capo {w : World} {base : Nat} {ao : Option Addr} {n cap : Nat} {xs : List UInt8} (h : OwnB w base (.slice ao n cap) xs) : cap <= 9223372036854775807 := by
 obtain ⟨_, _, e, _, _, _, h6, _⟩ := h.shape
 injection e with _ _ e
 subst e
 exact h6
theorem bits_wfo (x : Int) : (Lit.int .i64 (bits .xor .i64 x 1)).wf = true := by
 have h : ∀ z : Int, (Lit.int .i64 (IntKind.i64.wrap z)).wf = true := fun z => by
  apply wf64 <;> (rw [IntKind.wrap_i64]; omega)
 exact h _
theorem makes18_walk (s : Sig) (ao : Option Addr) (n cap : Nat) (bo : Option Addr) (m bc : Nat) (at_ : Int) (ys : List UInt8) (w : World) (hI : SigIn w s ao n cap) (h0 : ao = none -> n = 0 ∧ cap = 0) (hm : n <= 3518437208782) (h2 : InB w bo m bc ys) (hat : (Lit.int .i64 at_).wf = true) :
  Calls Tryz.prog 4 #[.agg (s.cells (.slice ao n cap)).toArray, .slice bo m bc, .int .i64 at_] w fun e w' => e = .returned (.bool true) ∧ Below w.heap.size w w' := by
 have hz := Tryz.zeroSig
 have kA := ka w (.cells (s.cells (.slice ao n cap)).toArray 29)
 have hA := SigAt.new w s (.slice ao n cap)
 have hkn := known18_ok (w.alloc (.cells (s.cells (.slice ao n cap)).toArray 29))
 have hmm : m <= 140737488351232 := Nat.le_trans h2.le h2.max
 obtain ⟨A, hAe⟩ := nm (w.heap.size)
 rw [hAe] at hA
 have HI := hide (hI.kept kA)
 have H0 := hide h0
 have H2 := hide h2
 have HAT := hide hat
 have HK0 := hide kA
 have hil := Tryz.infoSig s (.slice ao n cap)
 clear hI h0 kA h2 hat
 go_enter Tryz.func4, Tryz.ntmps4
 go_upto_region 1 with (fail)
 clear hAe
 generalize w.alloc (.cells (s.cells (.slice ao n cap)).toArray 29) = w0 at *
 go_upto_region 3 with (go_at_call 6; refine hkn.mono ?_; rintro r w1 ⟨rfl, hk1⟩; have HK1 := hide hk1; clear hkn hk1)
 have HA1 := hide (hA.kept HK1.out (by simp))
 have HI1 := hide (HI.out.kept HK1.out)
 have HKw1 := hide (HK0.out.tr HK1.out)
 have hr := HA1.out.range
 have hcp := copied_ok s ao n cap w1 HI1.out H0.out hm
 clear hA HI HK0 HK1
 go_upto_region 4 with (first
  | refine wpList_load_mid rfl 29 (.tmp 3) rfl A 0 rfl (s.cells (.slice ao n cap)) _ hr Tryz.underlying29 rfl hil ?_
  | (go_at_call 13; refine hcp.mono ?_; rintro r y3 ⟨⟨g1, c1, rfl, hog⟩, hky⟩; have Hy := hide (ai hog hky); have hozy := heap_new y3 (.cells zeroS 29); have hia := Tryz.infoSigA s (.slice (some ⟨g1, 0, none⟩) n c1); have hzs : zeroS.size = (s.cells (.slice (some ⟨g1, 0, none⟩) n c1)).toArray.size := (by rw [sig_size]; exact sig_size _ _); have hal := sig_one s (.slice (some ⟨g1, 0, none⟩) n c1) rfl; clear hcp hog hky)
  | refine wpList_store_rowTo rfl 29 (.tmp 7) (.tmp 19) rfl rfl y3.heap.size (s.cells (.slice (some ⟨g1, 0, none⟩) n c1)).toArray rfl rfl 29 zeroS hozy hia hzs hal ?_)
 have ky : Kept [] y3 ((y3.alloc (.cells zeroS 29)).setRow y3.heap.size (s.cells (.slice (some ⟨g1, 0, none⟩) n c1)).toArray) := ((Kept.refl [] y3).alloc _).trans (kept_row _ y3.heap.size _) (fun i hi hl => by simp only [List.mem_singleton] at hi; omega)
 have hAy : SigAt ((y3.alloc (.cells zeroS 29)).setRow y3.heap.size (s.cells (.slice (some ⟨g1, 0, none⟩) n c1)).toArray) y3.heap.size s (.slice (some ⟨g1, 0, none⟩) n c1) := ⟨setRow_heap _ _ _ _ _ _ hozy⟩
 have HS3 : Hid (w1.heap.size <= g1 ∧ g1 < y3.heap.size) := ⟨OwnW.ge Hy.out.1 rfl, (own_blk Hy.out.1 rfl).2.1⟩
 obtain ⟨O3, hO⟩ : ∃ O, y3.heap.size = O := ⟨_, rfl⟩
 obtain ⟨B1, hBB⟩ : ∃ B, w1.heap.size = B := ⟨_, rfl⟩
 rw [hO] at ky hAy HS3 ⊢
 have HC3 := hide ((show Cpd y3 B1 s g1 n c1 from ⟨by rw [<-hBB]; exact Hy.out.1, HI1.out.len⟩).kept ky (by simp))
 have HAA3 := hide hAy
 have Ky3 := hide (Hy.out.2.tr ky)
 rw [hBB] at HS3
 have HBw3 := hide (show w1.heap.size = B1 from hBB)
 clear hO hBB hozy hia hzs hal ky Hy hAy hr
 generalize (y3.alloc (.cells zeroS 29)).setRow O3 (s.cells (.slice (some ⟨g1, 0, none⟩) n c1)).toArray = w3 at HC3 HAA3 Ky3 ⊢
 have hr := (HA1.out.kept Ky3.out (by simp)).range
 have hcp := copied_ok s ao n cap w3 (HI1.out.kept Ky3.out) H0.out hm
 go_upto_region 5 with (first
  | refine wpList_load_mid rfl 29 (.tmp 3) rfl A 0 rfl (s.cells (.slice ao n cap)) _ hr Tryz.underlying29 rfl hil ?_
  | (go_at_call 13; refine hcp.mono ?_; rintro r y4 ⟨⟨g2, c2, rfl, hog⟩, hky⟩; have Hy := hide (ai hog hky); have hozy := heap_new y4 (.cells zeroS 29); have hia := Tryz.infoSigA s (.slice (some ⟨g2, 0, none⟩) n c2); have hzs : zeroS.size = (s.cells (.slice (some ⟨g2, 0, none⟩) n c2)).toArray.size := (by rw [sig_size]; exact sig_size _ _); have hal := sig_one s (.slice (some ⟨g2, 0, none⟩) n c2) rfl; clear hcp hog hky)
  | refine wpList_store_rowTo rfl 29 (.tmp 8) (.tmp 21) rfl rfl y4.heap.size (s.cells (.slice (some ⟨g2, 0, none⟩) n c2)).toArray rfl rfl 29 zeroS hozy hia hzs hal ?_)
 have ky : Kept [] y4 ((y4.alloc (.cells zeroS 29)).setRow y4.heap.size (s.cells (.slice (some ⟨g2, 0, none⟩) n c2)).toArray) := ((Kept.refl [] y4).alloc _).trans (kept_row _ y4.heap.size _) (fun i hi hl => by simp only [List.mem_singleton] at hi; omega)
 have hAy : SigAt ((y4.alloc (.cells zeroS 29)).setRow y4.heap.size (s.cells (.slice (some ⟨g2, 0, none⟩) n c2)).toArray) y4.heap.size s (.slice (some ⟨g2, 0, none⟩) n c2) := ⟨setRow_heap _ _ _ _ _ _ hozy⟩
 have HS4 : Hid (w3.heap.size <= g2 ∧ g2 < y4.heap.size) := ⟨OwnW.ge Hy.out.1 rfl, (own_blk Hy.out.1 rfl).2.1⟩
 obtain ⟨O4, hO⟩ : ∃ O, y4.heap.size = O := ⟨_, rfl⟩
 obtain ⟨B2, hBB⟩ : ∃ B, w3.heap.size = B := ⟨_, rfl⟩
 rw [hO] at ky hAy HS4 ⊢
 have HC4 := hide ((show Cpd y4 B2 s g2 n c2 from ⟨by rw [<-hBB]; exact Hy.out.1, HI1.out.len⟩).kept ky (by simp))
 have HAA4 := hide hAy
 have Ky4 := hide (Hy.out.2.tr ky)
 rw [hBB] at HS4
 have HBw4 := hide (show w3.heap.size = B2 from hBB)
 clear hO hBB hozy hia hzs hal ky Hy hAy hr
 generalize (y4.alloc (.cells zeroS 29)).setRow O4 (s.cells (.slice (some ⟨g2, 0, none⟩) n c2)).toArray = w4 at HC4 HAA4 Ky4 ⊢
 have HFAR0 : Hid (g1 < O3 ∧ O3 < B2 ∧ B2 <= g2 ∧ g2 < O4 ∧ w.heap.size <= g1 ∧ O4 < w4.heap.size) := ⟨HS3.out.2, by rw [<-HBw4.out]; exact HAA3.out.lt, HS4.out.1, HS4.out.2, by have h1 := HS3.out.1; have h2 := HBw3.out; have h3 := HKw1.out.size; omega, HAA4.out.lt⟩
 have HK4 := hide ((HKw1.out.tr Ky3.out).tr Ky4.out)
 obtain ⟨v5, w5, hrun5, ho5, hk5⟩ := run_freshB w4 ys bo m bc H2.out.len (H2.out.sl.kept HK4.out (by simp)) H2.out.nil (by omega)
 obtain ⟨ro, rc, rfl, hrc⟩ := own_shape ho5
 rw [H2.out.len] at ho5 hrun5
 go_upto_region 6 with (refine wpList_app_run rfl (.tmp 22) (.tmp 23) 22 22 rfl (.slice (some ⟨w4.heap.size, 0, none⟩) 0 0) (.slice bo m bc) rfl rfl (.slice ro m rc) w5 hrun5 ?_; clear hrun5)
 have hI5 := ho5.in8
 have hrm := roomy_ok ro m rc ys w5 H2.out.len hI5.sl hI5.nil hmm
 have HO5 := hide (ai ho5 hk5)
 clear ho5 hk5 hI5 hrc
 go_upto_region 7 with (go_at_call 7; refine hrm.mono ?_; rintro r w6 ⟨⟨g, gc, rfl, ho6, hgc⟩, hk6⟩; have H6 := hide (ai ho6 hk6); clear hrm ho6 hk6)
 obtain ⟨B3, hB3⟩ : ∃ B, w4.heap.size = B := ⟨_, rfl⟩
 obtain ⟨B4, hB4⟩ : ∃ B, w5.heap.size = B := ⟨_, rfl⟩
 have HW2 : Hid (∀ j, (Value.slice ro m rc).ownBlock = some j -> B3 <= j ∧ j < B4) := fun j hj => by
  have h1 := HO5.out.1.far j hj; rw [hB3, hB4] at h1; exact h1
 have HG2 : Hid (B4 <= g) := by have h1 := (H6.out.1.far g rfl).1; rw [hB4] at h1; exact h1
 have HFAR : Hid (g1 < O3 ∧ O3 < B2 ∧ B2 <= g2 ∧ g2 < O4 ∧ w.heap.size <= g1 ∧ O4 < B3 ∧ B3 <= B4) := by
  obtain ⟨f1, f2, f3, f4, f5, f6⟩ := HFAR0.out
  rw [hB3] at f6
  exact ⟨f1, f2, f3, f4, f5, f6, by have := HO5.out.2.size; omega⟩
 have HIN : Hid (Cpd w6 B1 s g1 n c1 ∧ Cpd w6 B2 s g2 n c2 ∧ SigAt w6 O3 s (.slice (some ⟨g1, 0, none⟩) n c1) ∧ SigAt w6 O4 s (.slice (some ⟨g2, 0, none⟩) n c2) ∧ OwnB w6 B3 (.slice ro m rc) ys ∧ OwnB w6 B4 (.slice (some ⟨g, 0, none⟩) (m + 40) gc) (ys ++ bms) ∧ Kept [] w w6) := by
  have k46 : Kept [] w4 w6 := HO5.out.2.tr H6.out.2
  refine ⟨(HC3.out.kept Ky4.out (by simp)).kept k46 (by simp), HC4.out.kept k46 (by simp), (HAA3.out.kept Ky4.out (by simp)).kept k46 (by simp), HAA4.out.kept k46 (by simp), ?_, ?_, HK4.out.tr k46⟩
  ·rw [<-hB3]; exact HO5.out.1.kept H6.out.2 (by simp)
  ·rw [<-hB4]; exact H6.out.1
 clear HC3 HC4 HAA3 HAA4 Ky3 Ky4 HS3 HS4 HBw3 HBw4 HKw1 HA1 HI1 H0 hil HFAR0 HK4 HO5 H6 hB3 hB4
 go_wp2
 go_loopw [11] (fun x wr => ∃ (i : Nat) (k : Sig) (us : List UInt8), i <= 3 ∧ x = .int .i64 i ∧ Hid (Cpd wr B1 k g1 n c1 ∧ Cpd wr B2 k g2 n c2 ∧ SigAt wr O3 k (.slice (some ⟨g1, 0, none⟩) n c1) ∧ SigAt wr O4 k (.slice (some ⟨g2, 0, none⟩) n c2) ∧ OwnB wr B3 (.slice ro m rc) us ∧ OwnB wr B4 (.slice (some ⟨g, 0, none⟩) (m + 40) gc) (us ++ bms) ∧ Kept [] w wr)) (fun x wr => 3 - (intOf x).toNat)
 case atStart => exact ⟨0, s, ys, by omega, rfl, HIN⟩
 case round =>
  clear HIN H2
  obtain ⟨i, k, us, hi, rfl, HP⟩ := hrel
  by_cases hlt : i < 3
  ·obtain ⟨hC1, hC2, hA3, hA4, hR, hE, hK⟩ := HP.out
   clear HP
   have hul := own_len hR
   have hCz := cy_of hE hul hgc
   obtain ⟨c, hcc⟩ := nm (makeE k us)
   obtain ⟨eb, heb⟩ := nm (makeB k us)
   obtain ⟨en, hen⟩ := nm (eb.length)
   have hE1 := make_ok k (some ⟨g2, 0, none⟩) n c2 (some ⟨g, 0, none⟩) m gc us wr hC2.sig (cy_in8o hCz (ownB_capo hE)).len (cy_in8o hCz (ownB_capo hE)).le (cy_in8o hCz (ownB_capo hE)).sl (by omega)
   have HE2 := hide (fun W (hW : Kept [] wr W) => rmake_ok k (some ⟨g1, 0, none⟩) n c1 ro m rc us W (hC1.sig.kept hW) (hR.in8.kept hW))
   rw [hcc, heb] at hE1 HE2
   have hen7 : en <= 131072 := by rw [<-hen, <-heb]; exact makeB_len k us
   have HEN := hide hen
   have hr4 := hA4.range
   have hil4 := Tryz.infoSig k (.slice (some ⟨g2, 0, none⟩) n c2)
   have hil3 := Tryz.infoSig k (.slice (some ⟨g1, 0, none⟩) n c1)
   have HC1 := hide hC1
   have HC2 := hide hC2
   have HA3 := hide hA3
   have HA4 := hide hA4
   have HR := hide hR
   have HE := hide hE
   have HCZ := hide hCz
   have HUL := hide hul
   have HKw := hide hK
   clear hcc heb hen hC1 hC2 hA3 hA4 hK hR hE hCz hul
   go_upto_region 11 with (first
    | refine wpList_load_mid rfl 29 (.tmp 8) rfl O4 0 rfl (k.cells (.slice (some ⟨g2, 0, none⟩) n c2)) _ hr4 Tryz.underlying29 rfl hil4 ?_
    | (go_at_call 14; refine hE1.mono ?_; rintro r wa ⟨⟨fo, fc, rfl, hoa⟩, hka⟩; rw [HEN.out] at hoa ⊢; have Ha := hide (ai hoa hka); clear hE1 hoa hka))
   have hr3 := (HA3.out.kept Ha.out.2 (by simp)).range
   have hE2 := HE2.out wa Ha.out.2
   clear HE2 hr4
   go_upto_region 12 with (first
    | refine wpList_load_mid rfl 29 (.tmp 7) rfl O3 0 rfl (k.cells (.slice (some ⟨g1, 0, none⟩) n c1)) _ hr3 Tryz.underlying29 rfl hil3 ?_
    | (go_at_call 15; refine hE2.mono ?_; rintro r wb ⟨⟨po, pc, rfl, hob⟩, hkb⟩; rw [HEN.out] at hob ⊢; have Hb := hide (ai hob hkb); clear hE2 hob hkb))
   have Kb := hide (Ha.out.2.tr Hb.out.2)
   have hsm := same_yes fo po en fc pc eb wb HEN.out (by omega) (own_sl9 (own_kept9 Ha.out.1 Hb.out.2 (by simp))) (own_sl9 Hb.out.1)
   clear hr3 Ha Hb
   have HWH := hide (fun W (hW : Kept [] wb W) => ai (whole_yes k B2 g2 n c2 (some ⟨g1, 0, none⟩) c1 W (HC2.out.kept (Kb.out.tr hW) (by simp)) (HC1.out.sig.kept (Kb.out.tr hW)) hm) (ai ((HA4.out.kept (Kb.out.tr hW) (by simp)).range) ((HA3.out.kept (Kb.out.tr hW) (by simp)).range)))
   have HS2 := hide (fun W (hW2 : Kept [] wb W) => stands_ok g m gc us ro rc W (HCZ.out.kept (Kb.out.tr hW2) (by simp)) (HR.out.in8.sl.kept (Kb.out.tr hW2) (by simp)) hmm)
   go_upto_region 14 with (first
    | (go_at_call 16; refine hsm.mono ?_; rintro r wc ⟨rfl, mc, hwc⟩; have hkc : Kept [] wb wc := (by rw [hwc]; exact (Kept.refl [] wb).drewN mc); obtain ⟨hwh, hq4, hq3⟩ := HWH.out wc hkc; have Hc := hide hkc; clear hsm hwc hkc HWH)
    | (refine wpList_load_midW 29 (.tmp 8) rfl O4 0 rfl (k.cells (.slice (some ⟨g2, 0, none⟩) n c2)) _ hq4 Tryz.underlying29 rfl hil4 (by kernel_rfl) ?_; try simp only [z4, z5, z6, z7, z8])
    | (refine wpList_load_midW 29 (.tmp 7) rfl O3 0 rfl (k.cells (.slice (some ⟨g1, 0, none⟩) n c1)) _ hq3 Tryz.underlying29 rfl hil3 (by kernel_rfl) ?_; try simp only [z4, z5, z6, z7, z8])
    | (go_at_call 17; refine hwh.mono ?_; rintro r wd ⟨rfl, hkd⟩; have Hd := hide (Hc.out.tr hkd); have hst2 := HS2.out wd Hd.out; clear hwh hkd hq4 hq3 HS2)
    | (go_at_call 11; refine hst2.mono ?_; rintro r wh ⟨rfl, hkh⟩; have Hh := hide (Hd.out.tr hkh); clear hst2 hkh))
   have Kd := hide (Kb.out.tr Hh.out)
   have HC1d := hide (HC1.out.kept Kd.out (by simp))
   have HC2d := hide (HC2.out.kept Kd.out (by simp))
   have HA3d := hide (HA3.out.kept Kd.out (by simp))
   have HA4d := hide (HA4.out.kept Kd.out (by simp))
   have HRd := hide (HR.out.kept Kd.out (by simp))
   have HEd := hide (HE.out.kept Kd.out (by simp))
   have HKd := hide (HKw.out.tr Kd.out)
   clear HC1 HC2 HA3 HA4 HKw Kd Hc Hd Hh Kb hil3 hil4 HEN hen7 HR HE HCZ
   have a4 := HA4d.out.cell (Sig.cv _ _)
   have a3 := HA3d.out.cell (Sig.cv _ _)
   by_cases hi0 : i = 0
   ·subst hi0
    as_aux_lemma =>
    by_cases hm0 : m = 0
    ·subst hm0
     have HF : Hid (Cpd wh B1 k g1 n c1 ∧ Cpd wh B2 k g2 n c2 ∧ SigAt wh O3 k (.slice (some ⟨g1, 0, none⟩) n c1) ∧ SigAt wh O4 k (.slice (some ⟨g2, 0, none⟩) n c2) ∧ OwnB wh B3 (.slice ro 0 rc) us ∧ OwnB wh B4 (.slice (some ⟨g, 0, none⟩) (0 + 40) gc) (us ++ bms) ∧ Kept [] w wh) := ⟨HC1d.out, HC2d.out, HA3d.out, HA4d.out, HRd.out, HEd.out, HKd.out⟩
     clear HC1d HC2d HA3d HA4d HKd HRd HEd a3
     have htn := turned18_none (some ⟨g, 0, none⟩) gc ro rc at_ wh
     go_wp2_with (go_at_call 12; refine htn.mono ?_; rintro r wk ⟨rfl, hwk⟩; obtain rfl := hwk.symm; clear htn)
     go_roundw
     case rel => exact ⟨1, k, us, by omega, by go_num, HF⟩
     case measure => simp [intOf]
    ·obtain ⟨h, wc', e, _, _⟩ := own_head (by have := HRd.out; unfold OwnB at this; exact this) (by rw [HUL.out]; exact hm0)
     injection e with e1 e2 e3
     subst e1
     clear e2 e3
     have hgh : g ≠ h := by have := HW2.out h rfl; have := HG2.out; omega
     have htn := turned18_ok g h m gc rc B4 B3 at_ us wh HEd.out HRd.out hgh HUL.out hmm hm0 HAT.out
     go_wp2_with (go_at_call 12; refine htn.mono ?_; rintro r wk ⟨rfl, ⟨vs, hyl, hay, hwy⟩, hkk⟩; have HF : Hid (Cpd wk B1 k g1 n c1 ∧ Cpd wk B2 k g2 n c2 ∧ SigAt wk O3 k (.slice (some ⟨g1, 0, none⟩) n c1) ∧ SigAt wk O4 k (.slice (some ⟨g2, 0, none⟩) n c2) ∧ OwnB wk B3 (.slice (some ⟨h, 0, none⟩) m rc) vs ∧ OwnB wk B4 (.slice (some ⟨g, 0, none⟩) (m + 40) gc) (vs ++ bms) ∧ Kept [] w wk) := (ai (HC1d.out.kept hkk (by have := HW2.out h rfl; have := HG2.out; have := HFAR.out; simp; omega)) (ai (HC2d.out.kept hkk (by have := HW2.out h rfl; have := HG2.out; have := HFAR.out; simp; omega)) (ai (HA3d.out.kept hkk (by have := HW2.out h rfl; have := HG2.out; have := HFAR.out; simp; omega)) (ai (HA4d.out.kept hkk (by have := HW2.out h rfl; have := HG2.out; have := HFAR.out; simp; omega)) (ai hwy (ai hay (HKd.out.trans hkk (fun j hj hl => by simp only [List.mem_cons, List.not_mem_nil, or_false] at hj; have := HW2.out h rfl; have := HG2.out; have := HFAR.out; omega)))))))); have b4 := hkk.cellOf a4 (by have := HW2.out h rfl; have := HG2.out; have := HFAR.out; simp; omega); clear htn hyl hay hwy hkk)
     go_roundw
     case rel => exact ⟨1, k, vs, by omega, by go_num, HF⟩
     case measure => simp [intOf]
   ·have hi01 : ((i : Int) == 0) = false := by simp; omega
    by_cases hi1 : i = 1
    ·subst hi1
     by_cases hn0 : n = 0
     ·subst hn0
      have HF : Hid (Cpd wh B1 k g1 0 c1 ∧ Cpd wh B2 k g2 0 c2 ∧ SigAt wh O3 k (.slice (some ⟨g1, 0, none⟩) 0 c1) ∧ SigAt wh O4 k (.slice (some ⟨g2, 0, none⟩) 0 c2) ∧ OwnB wh B3 (.slice ro m rc) us ∧ OwnB wh B4 (.slice (some ⟨g, 0, none⟩) (m + 40) gc) (us ++ bms) ∧ Kept [] w wh) := ⟨HC1d.out, HC2d.out, HA3d.out, HA4d.out, HRd.out, HEd.out, HKd.out⟩
      clear HC1d HC2d HA3d HA4d HKd HRd HEd a3
      as_aux_lemma =>
      go_wp2
      go_roundw
      case rel => exact ⟨2, k, us, by omega, by go_num, HF⟩
      case measure => simp [intOf]
     ·have hnp : (0 : Int) < (n : Int) := by omega
      have hnp2 : 0 < n := by omega
      obtain ⟨x1, hx1, hx1e, cx1, fx1, st1⟩ := HC1d.out.turn hn0
      obtain ⟨x2, hx2, hx2e, cx2, fx2, st2⟩ := HC2d.out.turn hn0
      obtain ⟨y, hy⟩ := nm (bits .xor .i64 x1 1)
      have hyw : (Lit.int .i64 y).wf = true := by rw [<-hy]; exact bits_wfo x1
      have HS1 := hide (st1 y hyw)
      clear hx1e hx2e hx1 hx2 st1 st2
      as_aux_lemma =>
      go_upto_region 17 with (fail)
      refine wp_region_late (fun w' => Kept [] wh w') (fun i => i == 10) (by kernel_rfl) ?_
      have h0 : Kept [] wh wh.drew := (Kept.refl [] wh).drew
      generalize World.drew wh = v0 at h0  ⊢
      have k0 := h0
      refine wpAnyL_free (i := 0) (v := .pointer (some ⟨O3, 35, none⟩)) rfl (by kernel_rfl) (by kernel_rfl) (by kernel_rfl) (fun _ _ _ h => h) (Or.inl ⟨by rfl, fun w _ => by go_simp⟩) ?_
      try simp only [zz]
      refine wpAnyL_take (i := 1) (v := .slice (some ⟨g1, 0, none⟩) n c1) rfl (by kernel_rfl) (by kernel_rfl) (by kernel_rfl) (by kernel_rfl) (by kernel_rfl) (fun _ _ _ h => h) (Or.inl ⟨by rfl, fun w hSw => by have q0 := Kept.cellOf hSw a3 (by simp); go_simp⟩) h0 ?_
      try simp only [zz]
      refine wpAnyL_free (i := 2) (v := .pointer (some ⟨O3, 35, none⟩)) rfl (by kernel_rfl) (by kernel_rfl) (by kernel_rfl) (fun _ _ _ h => h) (Or.inl ⟨by rfl, fun w _ => by go_simp⟩) ?_
      try simp only [zz]
      refine wpAnyL_take (i := 3) (v := .slice (some ⟨g1, 0, none⟩) n c1) rfl (by kernel_rfl) (by kernel_rfl) (by kernel_rfl) (by kernel_rfl) (by kernel_rfl) (fun _ _ _ h => h) (Or.inl ⟨by rfl, fun w hSw => by have q0 := Kept.cellOf hSw a3 (by simp); go_simp⟩) h0 ?_
      try simp only [zz]
      refine wpAnyL_free (i := 4) (v := .pointer (some ⟨g1, 0, none⟩)) rfl (by kernel_rfl) (by kernel_rfl) (by kernel_rfl) (fun _ _ _ h => h) (Or.inl ⟨by rfl, fun w _ => by go_simp⟩) ?_
      try simp only [zz]
      refine wpAnyL_free (i := 5) (v := .pointer (some ⟨g1, 0, none⟩)) rfl (by kernel_rfl) (by kernel_rfl) (by kernel_rfl) (fun _ _ _ h => h) (Or.inl ⟨by rfl, fun w _ => by go_simp⟩) ?_
      try simp only [zz]
      refine wpAnyL_take (i := 6) (v := .int .i64 x1) rfl (by kernel_rfl) (by kernel_rfl) (by kernel_rfl) (by kernel_rfl) (by kernel_rfl) (fun _ _ _ h => h) (Or.inl ⟨by rfl, fun w hSw => by have q0 := Kept.cellOf hSw cx1 (by simp); go_simp⟩) h0 ?_
      try simp only [zz]
      refine wpAnyL_free (i := 7) (v := .int .i64 y) rfl (by kernel_rfl) (by kernel_rfl) (by kernel_rfl) (fun _ _ _ h => h) (Or.inl ⟨by rfl, fun w _ => by go_simp⟩) ?_
      try simp only [zz]
      refine wpAnyL_free (i := 8) (v := .pointer (some ⟨g1, 0, none⟩)) rfl (by kernel_rfl) (by kernel_rfl) (by kernel_rfl) (fun _ _ _ h => h) (Or.inl ⟨by rfl, fun w _ => by go_simp⟩) ?_
      try simp only [zz]
      refine wpAnyL_free (i := 9) (v := .pointer (some ⟨g1, 0, none⟩)) rfl (by kernel_rfl) (by kernel_rfl) (by kernel_rfl) (fun _ _ _ h => h) (Or.inl ⟨by rfl, fun w _ => by go_simp⟩) ?_
      try simp only [zz]
      have cz := k0.cellOf cx1 (by simp)
      have fz := (k0.frozen (World.block_lt_of_cell? _ _ cx1) (by simp)).trans fx1
      refine wpAnyL_one (i := 10) (by kernel_rfl) rfl (fun K hK => ?_)
      rw [if_pos (by rfl)]
      go_simp
      refine hK.out _ _ (fun _ h => by cases h) ?_
      clear hK K
      try simp only [zz]
      refine wpAnyL_done (by kernel_rfl) ?_ _
      obtain ⟨_, _, _, _, _, st1⟩ := (HC1d.out.kept k0 (by simp)).turn hn0
      have ks : Kept [g1] v0 (v0.setCell ⟨g1, 0, none⟩ (.int .i64 y)) := (Kept.refl [g1] v0).setCell (by simp) _
      have kk : Kept [g1] wh (v0.setCell ⟨g1, 0, none⟩ (.int .i64 y)) := (show Kept [g1] wh v0 from k0.mono (by simp)).tr ks
      have HT1 := hide (st1 y hyw)
      have HT3 := hide ((HA3d.out.kept kk (by have := HFAR.out; simp; omega)).turn y hyw)
      have HT4 := hide (HA4d.out.kept kk (by have := HFAR.out; simp; omega))
      have HT2 := hide (HC2d.out.kept kk (by have := HFAR.out; simp; omega))
      have HTR := hide (HRd.out.kept kk (fun j hj hm => by have := HW2.out j hj; have := HFAR.out; simp only [List.mem_singleton] at hm; omega))
      have HTE := hide (HEd.out.kept kk (fun j hj hm => by injection hj with hj; subst hj; have := HG2.out; have := HFAR.out; simp only [List.mem_singleton] at hm; omega))
      have HTK := hide (HKd.out.trans kk (fun j hj hl => by simp only [List.mem_singleton] at hj; have := HFAR.out; omega))
      have cy : (v0.setCell ⟨g1, 0, none⟩ (.int .i64 y)).cell? ⟨g1, 0, none⟩ = some (.int .i64 y) := World.cell?_setCell_same _ _ _ cz
      have b3 := kk.cellOf a3 (by have := HFAR.out; simp; omega)
      have b4 := kk.cellOf a4 (by have := HFAR.out; simp; omega)
      have cx2b := kk.cellOf cx2 (by have := HFAR.out; simp; omega)
      have fx2b := (kk.frozen (World.block_lt_of_cell? _ _ cx2) (by have := HFAR.out; simp; omega)).trans fx2
      clear HC1d HC2d HA3d HA4d HKd HRd HEd ks kk st1 h0 k0 cz fz a3 a4 cx1 fx1 cx2 fx2 HS1 hy
      generalize v0.setCell ⟨g1, 0, none⟩ (.int .i64 y) = we at *
      go_upto_region 18 with (fail)
      refine wp_region_late (fun w' => Kept [] we w') (fun i => i == 9) (by kernel_rfl) ?_
      have g0 : Kept [] we we.drew := (Kept.refl [] we).drew
      generalize World.drew we = u0 at g0  ⊢
      have k0 := g0
      refine wpAnyL_free (i := 0) (v := .pointer (some ⟨O4, 35, none⟩)) rfl (by kernel_rfl) (by kernel_rfl) (by kernel_rfl) (fun _ _ _ h => h) (Or.inl ⟨by rfl, fun w _ => by go_simp⟩) ?_
      try simp only [zz]
      refine wpAnyL_take (i := 1) (v := .slice (some ⟨g2, 0, none⟩) n c2) rfl (by kernel_rfl) (by kernel_rfl) (by kernel_rfl) (by kernel_rfl) (by kernel_rfl) (fun _ _ _ h => h) (Or.inl ⟨by rfl, fun w hSw => by have q0 := Kept.cellOf hSw b4 (by simp); go_simp⟩) g0 ?_
      try simp only [zz]
      refine wpAnyL_free (i := 2) (v := .pointer (some ⟨O3, 35, none⟩)) rfl (by kernel_rfl) (by kernel_rfl) (by kernel_rfl) (fun _ _ _ h => h) (Or.inl ⟨by rfl, fun w _ => by go_simp⟩) ?_
      try simp only [zz]
      refine wpAnyL_take (i := 3) (v := .slice (some ⟨g1, 0, none⟩) n c1) rfl (by kernel_rfl) (by kernel_rfl) (by kernel_rfl) (by kernel_rfl) (by kernel_rfl) (fun _ _ _ h => h) (Or.inl ⟨by rfl, fun w hSw => by have q0 := Kept.cellOf hSw b3 (by simp); go_simp⟩) g0 ?_
      try simp only [zz]
      refine wpAnyL_free (i := 4) (v := .pointer (some ⟨g1, 0, none⟩)) rfl (by kernel_rfl) (by kernel_rfl) (by kernel_rfl) (fun _ _ _ h => h) (Or.inl ⟨by rfl, fun w _ => by go_simp⟩) ?_
      try simp only [zz]
      refine wpAnyL_free (i := 5) (v := .pointer (some ⟨g1, 0, none⟩)) rfl (by kernel_rfl) (by kernel_rfl) (by kernel_rfl) (fun _ _ _ h => h) (Or.inl ⟨by rfl, fun w _ => by go_simp⟩) ?_
      try simp only [zz]
      refine wpAnyL_take (i := 6) (v := .int .i64 y) rfl (by kernel_rfl) (by kernel_rfl) (by kernel_rfl) (by kernel_rfl) (by kernel_rfl) (fun _ _ _ h => h) (Or.inl ⟨by rfl, fun w hSw => by have q0 := Kept.cellOf hSw cy (by simp); go_simp⟩) g0 ?_
      try simp only [zz]
      refine wpAnyL_free (i := 7) (v := .pointer (some ⟨g2, 0, none⟩)) rfl (by kernel_rfl) (by kernel_rfl) (by kernel_rfl) (fun _ _ _ h => h) (Or.inl ⟨by rfl, fun w _ => by go_simp⟩) ?_
      try simp only [zz]
      refine wpAnyL_free (i := 8) (v := .pointer (some ⟨g2, 0, none⟩)) rfl (by kernel_rfl) (by kernel_rfl) (by kernel_rfl) (fun _ _ _ h => h) (Or.inl ⟨by rfl, fun w _ => by go_simp⟩) ?_
      try simp only [zz]
      have cz := k0.cellOf cx2b (by simp)
      have fz := (k0.frozen (World.block_lt_of_cell? _ _ cx2b) (by simp)).trans fx2b
      refine wpAnyL_one (i := 9) (by kernel_rfl) rfl (fun K hK => ?_)
      rw [if_pos (by rfl)]
      go_simp
      refine hK.out _ _ (fun _ h => by cases h) ?_
      clear hK K
      try simp only [zz]
      refine wpAnyL_done (by kernel_rfl) ?_ _
      obtain ⟨_, _, _, _, _, st2⟩ := (HT2.out.kept k0 (by simp)).turn hn0
      have ks : Kept [g2] u0 (u0.setCell ⟨g2, 0, none⟩ (.int .i64 y)) := (Kept.refl [g2] u0).setCell (by simp) _
      have kk : Kept [g2] we (u0.setCell ⟨g2, 0, none⟩ (.int .i64 y)) := (show Kept [g2] we u0 from k0.mono (by simp)).tr ks
      have HF : Hid (Cpd (u0.setCell ⟨g2, 0, none⟩ (.int .i64 y)) B1 (k.turn y hyw) g1 n c1 ∧ Cpd (u0.setCell ⟨g2, 0, none⟩ (.int .i64 y)) B2 (k.turn y hyw) g2 n c2 ∧ SigAt (u0.setCell ⟨g2, 0, none⟩ (.int .i64 y)) O3 (k.turn y hyw) (.slice (some ⟨g1, 0, none⟩) n c1) ∧ SigAt (u0.setCell ⟨g2, 0, none⟩ (.int .i64 y)) O4 (k.turn y hyw) (.slice (some ⟨g2, 0, none⟩) n c2) ∧ OwnB (u0.setCell ⟨g2, 0, none⟩ (.int .i64 y)) B3 (.slice ro m rc) us ∧ OwnB (u0.setCell ⟨g2, 0, none⟩ (.int .i64 y)) B4 (.slice (some ⟨g, 0, none⟩) (m + 40) gc) (us ++ bms) ∧ Kept [] w (u0.setCell ⟨g2, 0, none⟩ (.int .i64 y))) := ⟨HT1.out.kept kk (by have := HFAR.out; simp; omega), st2 y hyw, HT3.out.kept kk (by have := HFAR.out; simp; omega), (HT4.out.kept kk (by have := HFAR.out; simp; omega)).turn y hyw, HTR.out.kept kk (fun j hj hm => by have := HW2.out j hj; have := HFAR.out; simp only [List.mem_singleton] at hm; omega), HTE.out.kept kk (fun j hj hm => by injection hj with hj; subst hj; have := HG2.out; have := HFAR.out; simp only [List.mem_singleton] at hm; omega), HTK.out.trans kk (fun j hj hl => by simp only [List.mem_singleton] at hj; have := HFAR.out; omega)⟩
      clear HT1 HT2 HT3 HT4 HTK HTR HTE ks kk st2 g0 k0 cz fz b3 b4 cy cx2b fx2b
      generalize u0.setCell ⟨g2, 0, none⟩ (.int .i64 y) = wf at *
      go_wp2
      go_roundw
      case rel => exact ⟨2, k.turn y hyw, us, by omega, by go_num, HF⟩
      case measure => simp [intOf]
    ·have hi11 : ((i : Int) == 1) = false := by simp; omega
     have HF : Hid (Cpd wh B1 k g1 n c1 ∧ Cpd wh B2 k g2 n c2 ∧ SigAt wh O3 k (.slice (some ⟨g1, 0, none⟩) n c1) ∧ SigAt wh O4 k (.slice (some ⟨g2, 0, none⟩) n c2) ∧ OwnB wh B3 (.slice ro m rc) us ∧ OwnB wh B4 (.slice (some ⟨g, 0, none⟩) (m + 40) gc) (us ++ bms) ∧ Kept [] w wh) := ⟨HC1d.out, HC2d.out, HA3d.out, HA4d.out, HRd.out, HEd.out, HKd.out⟩
     clear HC1d HC2d HA3d HA4d HKd HRd HEd a3 a4
     as_aux_lemma =>
     go_wp2
     go_roundw
     case rel => exact ⟨i + 1, k, us, by omega, by go_num, HF⟩
     case measure => simp [intOf]; omega
  ·obtain rfl : i = 3 := by omega
   have HKF := hide HP.out.2.2.2.2.2.2
   clear HP
   go_wp2
   go_ret
   exact ⟨rfl, HKF.out.below0⟩
end Go.Proofs.YtmklodligplbaaaGreat
