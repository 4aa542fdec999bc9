import Derived.Test.YtmklodligplbaabGreatM18gt
open Go.RowKit
set_option linter.unusedVariables false
set_option linter.unusedSimpArgs false
set_option maxRecDepth 100000
set_option maxHeartbeats 0
namespace Go.Proofs.YtmklodligplbaabGreat
section
open Dlt
theorem turned18_some (width : Int) (ao : Option Addr) (n cap Z : Nat) (bo : Option Addr) (m bc : Nat) (at_ : Int) (y : UInt8) (xs ys : List UInt8) (w : World) (h1 : InB w ao n cap xs) (h2 : InB w bo m bc ys) (hat : (Lit.int .i64 at_).wf = true) (hc : signE width n (Z : Int) = 0) (hm : makeE (sign width xs Z) ys = 0) (hy : y ≠ 0) :
  Calls Tryz.prog 4 #[.int .i64 width, .slice ao n cap, .int .i64 Z, .slice bo m bc, .int .i64 at_, .int .u8 (y.toNat : Nat)] w fun e w' => e = .returned (.bool true) ∧ Below w.heap.size w w' := by
 obtain ⟨yv, hyv⟩ := nm (y.toNat)
 have hyb : yv < 256 := by rw [<-hyv]; exact UInt8.toNat_lt _
 have hy0 : ((yv : Int) == 0) = false := by
  have : yv ≠ 0 := by rw [<-hyv]; exact fun h => hy (UInt8.toNat_inj.1 h)
  simp; omega
 rw [hyv]
 have HYV := hide hyv
 have HY0 := hide hy
 clear hyv hy
 have HAT := hide hat
 clear hat
 have hz := Tryz.zeroSig
 have hkn := known18_ok w
 have H1 := hide h1
 have H2 := hide h2
 clear h1 h2
 have hS := fun W (hW : Kept [] w W) => sign_ok width ao n cap (Z : Int) xs W H1.out.len H1.out.le (H1.out.sl.kept hW (by simp)) (by have := H1.out.in8.max; omega)
 have e2 : signS width xs (Z : Int) = sign width xs Z := by unfold signS; rw [H1.out.len, hc, if_pos rfl, Int.toNat_natCast]
 rw [hc, e2] at hS
 clear e2
 have hMay := sign_may (show signE width xs.length (Z : Int) = 0 by rw [H1.out.len]; exact hc)
 have HN : Hid (n <= 131072) := by
  have a3 := hMay.l2
  have e2 : (sign width xs Z).length = (xs.length : Nat) := rfl
  have e3 := H1.out.len
  show n <= 131072
  omega
 obtain ⟨sg, hsg⟩ := nm (sign width xs Z)
 obtain ⟨sn, hsn⟩ := nm (sg.blocks.length)
 have HQS := hide hsn
 rw [hsg] at hS hMay hm
 clear hsg hsn hc
 have he1 : okE (may sg) = 0 := by rw [may_iff.2 hMay]; rfl
 have he2 : encodeS sg = encS sg := by unfold encodeS; rw [may_iff.2 hMay, if_pos rfl]
 obtain ⟨eb, heb⟩ := nm (encS sg)
 obtain ⟨en, hen⟩ := nm (eb.length)
 have HEB : Hid ((∃ us, eb = sealed us) ∧ 4 <= en ∧ en <= 131072) := by
  have h5 := encS_len hMay
  rw [heb, hen] at h5
  refine ⟨⟨bodyS sg, heb.symm⟩, ?_, by omega⟩
  rw [<-hen, <-heb]
  show 4 <= (sealed (bodyS sg)).length
  rw [sealed_len]
  omega
 have HEN := hide hen
 clear hen hMay
 go_enter Tryz.func4, Tryz.ntmps4
 go_upto_region 3 with (go_at_call 7; refine hkn.mono ?_; rintro r w1 ⟨rfl, hk1⟩; have HK1 := hide hk1; have hS1 := hS w1 hk1; clear hkn hk1 hS)
 go_upto_region 4 with (first
  | (go_at_call 13; refine hS1.mono ?_; rintro r wa ⟨hta, hka⟩; obtain ⟨so, sc, rfl, hsi, hsb⟩ := TellS.open hta; rw [HQS.out] at hsi ⊢; have Ha := hide (ai hka hsi); have hoza := heap_new wa (.cells zeroS 26); have hia := Tryz.infoSigA sg (.slice so sn sc); have hzs : zeroS.size = (sg.cells (.slice so sn sc)).toArray.size := (by rw [sig_size]; exact sig_size _ _); have hal := sig_one sg (.slice so sn sc) rfl; clear hS1 hta hka hsi hsb)
  | refine wpList_store_rowTo rfl 26 (.tmp 13) (.tmp 31) rfl rfl wa.heap.size (sg.cells (.slice so sn sc)).toArray rfl rfl 26 zeroS hoza hia hzs hal ?_)
 have kb : Kept [] wa ((wa.alloc (.cells zeroS 26)).setRow wa.heap.size (sg.cells (.slice so sn sc)).toArray) := ((Kept.refl [] wa).alloc _).trans (kept_row _ wa.heap.size _) (fun i hi hl => by simp only [List.mem_singleton] at hi; omega)
 have hA : SigAt ((wa.alloc (.cells zeroS 26)).setRow wa.heap.size (sg.cells (.slice so sn sc)).toArray) wa.heap.size sg (.slice so sn sc) := ⟨setRow_heap _ _ _ _ _ _ hoza⟩
 obtain ⟨O, hO⟩ := nm (wa.heap.size)
 rw [hO] at kb hA ⊢
 have HKb := hide ((HK1.out.tr Ha.out.1).tr kb)
 have HIb := hide (Ha.out.2.kept kb)
 clear hO hoza hia hzs hal kb Ha HK1
 generalize (wa.alloc (.cells zeroS 26)).setRow O (sg.cells (.slice so sn sc)).toArray = wb at hA HKb HIb ⊢
 have hM := make_ok sg so sn sc bo m bc ys wb HIb.out H2.out.len H2.out.le (H2.out.sl.kept HKb.out (by simp)) (by have := H2.out.in8.max; have := H2.out.le; have := H2.out.max; omega)
 have hE := fun W (hW : Kept [] wb W) => encode_ok sg so sn sc W (HIb.out.kept hW)
 rw [he1, he2, heb] at hE
 have HE := hide hE
 obtain ⟨mb, hmb⟩ := nm (makeB sg ys)
 obtain ⟨dn, hdn⟩ := nm (mb.length)
 rw [hmb] at hM
 obtain ⟨_, _, hdec, _, _⟩ := make_good hm
 rw [hmb] at hdec
 have HMB : Hid ((∃ us, mb = sealed us) ∧ 4 <= dn ∧ dn <= 131072) := by
  obtain ⟨_, h5, h6⟩ := decD_some hdec
  rw [hdn] at h6
  refine ⟨⟨_, h5⟩, ?_, h6⟩
  rw [<-hdn, h5]
  show 4 <= (sealed _).length
  rw [sealed_len]
  omega
 rw [hm] at hM
 clear hm hmb hdec
 have HDN := hide hdn
 have hrz := hA.range
 have HA := hide hA
 have hil := Tryz.infoSig sg (.slice so sn sc)
 clear hA hdn hE he1 he2 heb
 go_upto_region 7 with (first
  | refine wpList_load_mid rfl 26 (.tmp 13) rfl O 0 rfl (sg.cells (.slice so sn sc)) _ hrz Tryz.underlying26 rfl hil ?_
  | (go_at_call 8; refine hM.mono ?_; rintro r wc ⟨⟨dO, dc, rfl, hod⟩, hkc⟩; rw [HDN.out] at hod ⊢; have Hc := hide (ai hod hkc); clear hM hod hkc))
 clear hrz
 have hrz := (HA.out.kept Hc.out.2 (by simp)).range
 have hE := HE.out wc Hc.out.2
 clear HE HA
 go_upto_region 8 with (first
  | refine wpList_load_mid rfl 26 (.tmp 13) rfl O 0 rfl (sg.cells (.slice so sn sc)) _ hrz Tryz.underlying26 rfl hil ?_
  | (go_at_call 14; refine hE.mono ?_; rintro r wd ⟨⟨eO, ec, rfl, hoe⟩, hkd⟩; rw [HEN.out] at hoe ⊢; have Hd := hide (ai hoe hkd); clear hE hoe hkd))
 clear hrz hil HIb
 have hdn4 := HMB.out.2
 have hen4 := HEB.out.2
 obtain ⟨g, dc', e, hg1, hgc, hg2⟩ := own_head Hc.out.1 (by omega)
 injection e with e _ e'
 subst e e'
 obtain ⟨h, ec', e, hh1, hhc, hh2⟩ := own_head Hd.out.1 (by omega)
 injection e with e _ e'
 subst e e'
 obtain ⟨B1, hB1⟩ : ∃ B, wb.heap.size = B := ⟨_, rfl⟩
 obtain ⟨B2, hB2⟩ : ∃ B, wc.heap.size = B := ⟨_, rfl⟩
 have HGH : Hid (g ≠ h ∧ w.heap.size <= g ∧ w.heap.size <= h) := by
  have a := HKb.out.size
  have b := Hc.out.2.size
  exact ⟨by omega, by omega, by omega⟩
 have HO : Hid (OwnB wd B1 (.slice (some ⟨g, 0, none⟩) dn dc) mb ∧ OwnB wd B2 (.slice (some ⟨h, 0, none⟩) en ec) eb ∧ Kept [] w wd) := by
  refine ⟨?_, ?_, (HKb.out.tr Hc.out.2).tr Hd.out.2⟩
  ·have := own_kept9 Hc.out.1 Hd.out.2 (by simp)
   unfold OwnB
   rw [HDN.out, <-hB1]
   exact this
  ·unfold OwnB
   rw [HEN.out, <-hB2]
   exact Hd.out.1
 clear Hc Hd HKb hg1 hg2 hh1 hh2 hB1 hB2
 have hd0 : ((dn : Int) == 0) = false := by simp; omega
 have he0 : ((en : Int) == 0) = false := by simp; omega
 have hr1 := round18_ok at_ dn wd HAT.out (by omega) (by omega)
 have hr2 := round18_ok at_ en wd HAT.out (by omega) (by omega)
 have HR2 := hide hr2
 clear hr2 HAT
 go_upto_region 15 with (go_at_call 15; refine hr1.mono ?_; rintro r w' ⟨i, hi, rfl, hww⟩; obtain rfl := hww.symm; clear hr1)
 have hr2 := HR2.out
 clear HR2
 go_upto_region 16 with (go_at_call 15; refine hr2.mono ?_; rintro r w' ⟨k, hk, rfl, hww⟩; obtain rfl := hww.symm; clear hr2)
 obtain ⟨xv1, zv1, hx1, hz1, cx1, fx1, hxr1, hF1⟩ := flip_ok (i := i) y HO.out.1 HO.out.2.1 HO.out.2.2 (by rw [own_len HO.out.1]; exact hi) HGH.out.1 HGH.out.2.1
 rw [HYV.out] at hxr1
 have HF1 := hide hF1
 clear hF1 HO
 go_upto_region 17 with (fail)
 generalize wd.setCell ⟨g, i, none⟩ (.int .u8 zv1) = w7 at HF1 ⊢
 obtain ⟨mb1, hmb1⟩ := nm (mb.set i (mb.getD i 0 ^^^ y))
 have HMB1 := hide hmb1
 have HO : Hid (OwnB w7 B1 (.slice (some ⟨g, 0, none⟩) dn dc) mb1 ∧ OwnB w7 B2 (.slice (some ⟨h, 0, none⟩) en ec) eb ∧ Kept [] w w7) := by have := HF1.out; rw [hmb1] at this; exact this
 clear HF1 hmb1 cx1 fx1 hxr1
 obtain ⟨xv2, zv2, hx2, hz2, cx2, fx2, hxr2, hF2⟩ := flip_ok (i := k) y HO.out.2.1 HO.out.1 HO.out.2.2 (by rw [own_len HO.out.2.1]; exact hk) HGH.out.1.symm HGH.out.2.2
 rw [HYV.out] at hxr2
 have HF2 := hide hF2
 clear hF2 HO
 go_upto_region 18 with (fail)
 generalize w7.setCell ⟨h, k, none⟩ (.int .u8 zv2) = w8 at HF2 ⊢
 obtain ⟨eb1, heb1⟩ := nm (eb.set k (eb.getD k 0 ^^^ y))
 have HEB1 := hide heb1
 have HO : Hid (OwnB w8 B1 (.slice (some ⟨g, 0, none⟩) dn dc) mb1 ∧ OwnB w8 B2 (.slice (some ⟨h, 0, none⟩) en ec) eb1 ∧ Kept [] w w8) := by have := HF2.out; rw [heb1] at this; exact ⟨this.2.1, this.1, this.2.2⟩
 clear HF2 heb1 cx2 fx2 hxr2
 have hP := apply_ok ao n cap xs (some ⟨g, 0, none⟩) dn dc mb1 w8 (H1.out.in8.kept HO.out.2.2) HO.out.1.in8
 obtain ⟨hae, hab⟩ : applyE xs mb1 = 180 ∧ applyB xs mb1 = [] := by
  obtain ⟨⟨us, hus⟩, _⟩ := HMB.out
  rw [<-HMB1.out]
  exact applyE_turned hus (by rw [HDN.out]; exact hi) HY0.out (by rw [H1.out.len]; exact HN.out)
 rw [hae, hab] at hP
 have hD := fun W (hW : Kept [] w8 W) => decode_k18 (some ⟨h, 0, none⟩) en ec eb1 W (HO.out.2.1.in8.kept hW)
 have hds : decS eb1 = none := by
  obtain ⟨⟨us, hus⟩, _⟩ := HEB.out
  rw [<-HEB1.out]
  exact decS_turned hus (by rw [HEN.out]; exact hk) HY0.out
 rw [show decC18 eb1 = 180 by unfold decC18; rw [hds], show decV18 eb1 = sig0 by unfold decV18; rw [hds]] at hD
 obtain ⟨s0, hs0⟩ := nm (sig0)
 obtain ⟨zn, hzn⟩ := nm (s0.blocks.length)
 rw [hs0] at hD
 have HZN := hide hzn
 clear hae hab hds hs0 hzn
 go_upto_region 19 with (go_at_call 16; refine hP.mono ?_; rintro r wf ⟨⟨ko, kc, rfl, hof⟩, hkf⟩; rw [show ([] : List UInt8).length = 0 from rfl]; have hD1 := hD wf hkf; have Hf := hide hkf; clear hP hof hkf hD)
 go_upto_region 20 with (first
  | (go_at_call 17; refine hD1.mono ?_; rintro r wa ⟨hta, hka⟩; obtain ⟨zo, zc, rfl, hsi, hsb⟩ := TellS.open hta; rw [HZN.out]; have Ha := hide hka; have hoza := heap_new wa (.cells zeroS 26); have hia := Tryz.infoSigA s0 (.slice zo zn zc); have hzs : zeroS.size = (s0.cells (.slice zo zn zc)).toArray.size := (by rw [sig_size]; exact sig_size _ _); have hal := sig_one s0 (.slice zo zn zc) rfl; clear hD1 hta hka hsi hsb)
  | refine wpList_store_rowTo rfl 26 (.tmp 22) (.tmp 99) rfl rfl wa.heap.size (s0.cells (.slice zo zn zc)).toArray rfl rfl 26 zeroS hoza hia hzs hal ?_)
 have kb : Kept [] wa ((wa.alloc (.cells zeroS 26)).setRow wa.heap.size (s0.cells (.slice zo zn zc)).toArray) := ((Kept.refl [] wa).alloc _).trans (kept_row _ wa.heap.size _) (fun i hi hl => by simp only [List.mem_singleton] at hi; omega)
 have kc : Kept [] w8 ((wa.alloc (.cells zeroS 26)).setRow wa.heap.size (s0.cells (.slice zo zn zc)).toArray) := (Hf.out.tr Ha.out).tr kb
 have HO2 : Hid (OwnB ((wa.alloc (.cells zeroS 26)).setRow wa.heap.size (s0.cells (.slice zo zn zc)).toArray) B1 (.slice (some ⟨g, 0, none⟩) dn dc) mb1 ∧ OwnB ((wa.alloc (.cells zeroS 26)).setRow wa.heap.size (s0.cells (.slice zo zn zc)).toArray) B2 (.slice (some ⟨h, 0, none⟩) en ec) eb1 ∧ Kept [] w ((wa.alloc (.cells zeroS 26)).setRow wa.heap.size (s0.cells (.slice zo zn zc)).toArray)) := ⟨HO.out.1.kept kc (by simp), HO.out.2.1.kept kc (by simp), HO.out.2.2.tr kc⟩
 obtain ⟨O2, hO2⟩ := nm (wa.heap.size)
 rw [hO2]
 rw [hO2] at HO2
 clear hO2 hoza hia hzs hal kb kc Ha Hf HO
 generalize (wa.alloc (.cells zeroS 26)).setRow O2 (s0.cells (.slice zo zn zc)).toArray = w10 at HO2 ⊢
 have HO := hide HO2.out
 clear HO2
 go_upto_region 22 with (fail)
 obtain ⟨xv3, zv3, hx3, hz3, cx3, fx3, hxr3, hF3⟩ := flip_ok (i := i) y HO.out.1 HO.out.2.1 HO.out.2.2 (by rw [own_len HO.out.1]; exact hi) HGH.out.1 HGH.out.2.1
 rw [HYV.out] at hxr3
 have HF3 := hide hF3
 clear hF3 HO
 go_upto_region 23 with (fail)
 generalize w10.setCell ⟨g, i, none⟩ (.int .u8 zv3) = w11 at HF3 ⊢
 have HO : Hid (OwnB w11 B1 (.slice (some ⟨g, 0, none⟩) dn dc) mb ∧ OwnB w11 B2 (.slice (some ⟨h, 0, none⟩) en ec) eb1 ∧ Kept [] w w11) := by have := HF3.out; rw [<-HMB1.out, set_back mb i y (by rw [HDN.out]; exact hi)] at this; exact this
 clear HF3 cx3 fx3 hxr3 HMB1
 obtain ⟨xv4, zv4, hx4, hz4, cx4, fx4, hxr4, hF4⟩ := flip_ok (i := k) y HO.out.2.1 HO.out.1 HO.out.2.2 (by rw [own_len HO.out.2.1]; exact hk) HGH.out.1.symm HGH.out.2.2
 rw [HYV.out] at hxr4
 have HF4 := hide hF4
 clear hF4 HO
 go_upto_region 24 with (fail)
 generalize w11.setCell ⟨h, k, none⟩ (.int .u8 zv4) = w12 at HF4 ⊢
 have HO : Hid (OwnB w12 B1 (.slice (some ⟨g, 0, none⟩) dn dc) mb ∧ OwnB w12 B2 (.slice (some ⟨h, 0, none⟩) en ec) eb ∧ Kept [] w w12) := by have := HF4.out; rw [<-HEB1.out, set_back eb k y (by rw [HEN.out]; exact hk)] at this; exact ⟨this.2.1, this.1, this.2.2⟩
 clear HF4 cx4 fx4 hxr4 HEB1
 have hdi := HO.out.1.in8
 have hei := HO.out.2.1.in8
 have hic : i <= dc := by have := hdi.le; omega
 have hkc : k <= ec := by have := hei.le; omega
 have hcut1 := fun W => Tryz.cutBy W (some ⟨g, 0, none⟩) dn dc i hic
 have hcut2 := fun W => Tryz.cutBy W (some ⟨h, 0, none⟩) en ec k hkc
 have hp1 : InB8 w12 (some ⟨g, 0, none⟩) i dc (mb.take i) := ⟨by rw [List.length_take, HDN.out]; omega, hic, by omega, hdi.sl.take i, fun e => by cases e⟩
 have hp2 : InB8 w12 (some ⟨h, 0, none⟩) k ec (eb.take k) := ⟨by rw [List.length_take, HEN.out]; omega, hkc, by omega, hei.sl.take k, fun e => by cases e⟩
 have HAL := hide (fun W (hW : Kept [] w12 W) => alikeTo_ok ao n cap xs (some ⟨g, 0, none⟩) i dc (mb.take i) (some ⟨h, 0, none⟩) k ec (eb.take k) W ((H1.out.in8.kept HO.out.2.2).kept hW) (hp1.kept hW) (hp2.kept hW))
 have HD8 := hide hdi
 have HE8 := hide hei
 have hli : i < 9223372036854775807 := by omega
 have hlk : k < 9223372036854775807 := by omega
 clear hdi hei hp1 hp2
 refine th w12 fun h0 => ?_
 generalize World.drew w12 = v0 at h0  ⊢
 refine t1 0 (.slice ao n cap) h0 ?_
 simp only [zz]
 refine t1 1 (.slice (some ⟨g, 0, none⟩) dn dc) h0 ?_
 simp only [zz]
 refine t1 2 (.int .i64 (i : Nat)) h0 ?_
 simp only [zz]
 refine t2 3 (.slice (some ⟨g, 0, none⟩) i dc) rfl h0 ?_ (fun w hSw => by have c0 := hcut1 w; go_simp)
 simp only [zz]
 refine t1 4 (.slice (some ⟨h, 0, none⟩) en ec) h0 ?_
 simp only [zz]
 refine t1 5 (.int .i64 (k : Nat)) h0 ?_
 simp only [zz]
 refine t2 6 (.slice (some ⟨h, 0, none⟩) k ec) rfl h0 ?_ (fun w hSw => by have c0 := hcut2 w; go_simp)
 simp only [zz]
 refine rd 7 fun K hK => ?_
 go_simp
 refine (HAL.out v0 h0).mono ?_
 rintro e v1 ⟨rfl, hk7⟩
 refine hK.out _ _ (h0.tr hk7) (fun h1 => ?_)
 clear hK K
 try simp only [zz]
 clear hk7 h0
 refine t1 8 (.bool true) h1 ?_
 simp only [zz]
 refine t1 9 (.slice ao n cap) h1 ?_
 simp only [zz]
 refine t1 11 (.slice (some ⟨g, 0, none⟩) dn dc) h1 ?_
 simp only [zz]
 refine t1 13 (.int .u8 (yv : Nat)) h1 ?_
 simp only [zz]
 refine t1 17 (.slice (some ⟨h, 0, none⟩) en ec) h1 ?_
 simp only [zz]
 refine t1 19 (.int .u8 (yv : Nat)) h1 ?_
 simp only [zz]
 refine wpAnyH_both (v0 := v1) (fun w hw => h1.tr hw) (some ⟨g, 0, none⟩) (some ⟨h, 0, none⟩) dn dc en ec mb eb y ?_ (by kernel_rfl) (by kernel_rfl) (HD8.out.kept h1) (by omega) (HE8.out.kept h1) (by omega) ?_
 ·exact ⟨(by kernel_rfl), (fun _ _ => by kernel_rfl), (⟨_, rfl, rfl, fun _ _ => by kernel_rfl, fun _ _ _ => by kernel_rfl⟩), (fun _ _ => by kernel_rfl), (⟨_, _, _, rfl, rfl, fun _ _ => by kernel_rfl, fun _ _ _ => by kernel_rfl, rfl, fun _ _ => by kernel_rfl, fun _ _ => by kernel_rfl⟩), (fun _ _ => by kernel_rfl), (⟨_, _, rfl, rfl, fun _ _ => by kernel_rfl, fun _ _ _ => by kernel_rfl, fun _ _ => by rw [HYV.out]; kernel_rfl⟩), (fun _ _ => by kernel_rfl), (⟨_, _, _, rfl, rfl, fun _ _ => by kernel_rfl, fun _ _ _ => by kernel_rfl, rfl, fun _ _ => by kernel_rfl, fun _ _ => by kernel_rfl⟩), (fun _ _ => by kernel_rfl), (⟨_, rfl, rfl, fun _ _ => by kernel_rfl, fun _ _ _ => by kernel_rfl⟩), (fun _ _ => by kernel_rfl), (⟨_, _, _, rfl, rfl, fun _ _ => by kernel_rfl, fun _ _ _ => by kernel_rfl, rfl, fun _ _ => by kernel_rfl, fun _ _ => by kernel_rfl⟩), (fun _ _ => by kernel_rfl), (⟨_, _, rfl, rfl, fun _ _ => by kernel_rfl, fun _ _ _ => by kernel_rfl, fun _ _ => by rw [HYV.out]; kernel_rfl⟩), (fun _ _ => by kernel_rfl), (⟨_, _, _, rfl, rfl, fun _ _ => by kernel_rfl, fun _ _ _ => by kernel_rfl, rfl, fun _ _ => by kernel_rfl, fun _ _ => by kernel_rfl⟩)⟩
 rintro ⟨p1, q1, r1, s1⟩ ⟨p2, q2, r2, s2⟩ v2 h2 hO1 hO2 hk2
 obtain ⟨m1, hm1⟩ := nm ((mb ++ [y]).length)
 obtain ⟨m2, hm2⟩ := nm ((eb ++ [y]).length)
 obtain ⟨o1, c1, e1, _⟩ := own_shape hO1
 obtain ⟨o2, c2, e2, _⟩ := own_shape hO2
 simp only at e1 e2
 subst e1 e2
 simp only at hO1 hO2
 rw [hm1] at hO1 ⊢
 rw [hm2] at hO2 ⊢
 have hal2 := alikeTo_ok ao n cap xs o1 m1 c1 _ o2 m2 c2 _ v2 ((H1.out.in8.kept HO.out.2.2).kept h2) hO1.in8 hO2.in8
 clear hO1 hO2 hk2 hm1 hm2 HAL HD8 HE8 h1
 simp only [all8, Act.put, List.setIfInBounds_toArray, List.set_cons_zero, List.set_cons_succ]
 refine rd 22 fun K hK => ?_
 go_simp
 refine (hal2).mono ?_
 rintro e v3 ⟨rfl, hk22⟩
 refine hK.out _ _ (h2.tr hk22) (fun h3 => ?_)
 clear hK K
 try simp only [zz]
 clear hk22 h2 hal2
 refine t1 23 (.bool true) h3 ?_
 simp only [zz]
 refine t1 24 (.bool true) h3 ?_
 simp only [zz]
 refine qd ?_
 have HKF := hide (HO.out.2.2.tr h3)
 clear h3 HO
 go_wp2
 go_ret
 exact ⟨rfl, HKF.out.below0⟩
end

section
open Dlt
theorem turned18_walk (width : Int) (ao : Option Addr) (n cap : Nat) (size : Int) (bo : Option Addr) (m bc : Nat) (at_ : Int) (by_ : Int) (xs ys : List UInt8) (w : World) (h1 : InB w ao n cap xs) (h2 : InB w bo m bc ys) (_ : (Lit.int .i64 width).wf = true) (_ : (Lit.int .i64 size).wf = true) (hat : (Lit.int .i64 at_).wf = true) (hby : (Lit.int .u8 by_).wf = true) :
  Calls Tryz.prog 4 #[.int .i64 width, .slice ao n cap, .int .i64 size, .slice bo m bc, .int .i64 at_, .int .u8 by_] w fun e w' => e = .returned (.bool true) ∧ Below w.heap.size w w' := by
 by_cases hc : signE width n size = 0
 ·have hz2 : isZ size = true := by
   cases hh : isZ size with
   | true => rfl
   | false => unfold signE at hc; rw [hh, Bool.and_false, if_pos rfl] at hc; exact absurd hc (by decide)
  obtain ⟨Z, hZ⟩ := Int.eq_ofNat_of_zero_le (show 0 <= size by have := (Dlt.within_iff.1 (show Dlt.within size 16 4096 = true from hz2)).1; omega)
  subst hZ
  by_cases hm : makeE (sign width xs Z) ys = 0
  ·have hb : 0 <= by_ ∧ by_ < 256 := by
    have h : IntKind.u8.min <= by_ ∧ by_ <= IntKind.u8.max := by simpa [Lit.wf] using hby
    have e1 : IntKind.u8.min = 0 := rfl
    have e2 : IntKind.u8.max = 255 := rfl
    omega
   obtain ⟨b, rfl⟩ := Int.eq_ofNat_of_zero_le hb.1
   have hbl : b < 256 := by omega
   by_cases h0 : b = 0
   ·subst h0
    exact turned18_zero width ao n cap Z bo m bc at_ xs ys w h1 h2 hat hc hm
   ·have hbt : (UInt8.ofNat b).toNat = b := UInt8.toNat_ofNat_of_lt' (by simpa [UInt8.size] using hbl)
    have := turned18_some width ao n cap Z bo m bc at_ (UInt8.ofNat b) xs ys w h1 h2 hat hc hm (fun e => h0 (by rw [<-hbt, e]; rfl))
    rw [hbt] at this
    exact this
  ·exact turned18_bad width ao n cap Z bo m bc at_ _ xs ys w h1 h2 hc hm
 ·exact turned18_no width ao n cap size bo m bc at_ _ xs w h1 hc
end

end Go.Proofs.YtmklodligplbaabGreat
