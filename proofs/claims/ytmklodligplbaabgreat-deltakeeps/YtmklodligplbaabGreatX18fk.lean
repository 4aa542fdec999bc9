import Derived.Test.YtmklodligplbaabGreatM18nk
open Go.RowKit
set_option linter.unusedVariables false
set_option linter.unusedSimpArgs false
set_option maxRecDepth 100000
set_option maxHeartbeats 0
namespace Go.Proofs.YtmklodligplbaabGreat
open Dlt
theorem keeps18_no (width : Int) (ao : Option Addr) (n cap : Nat) (size : Int) (bo : Option Addr) (m bc : Nat) (xs ys : List UInt8) (w : World) (h1 : InB w ao n cap xs) (h2 : InB w bo m bc ys) (hc : signE width n size ≠ 0) :
  Calls Tryz.prog 6 #[.int .i64 width, .slice ao n cap, .int .i64 size, .slice bo m bc] w fun e w' => e = .returned (.bool true) ∧ Below w.heap.size w w' := by
 have hz := Tryz.zeroSig
 have hkn := known18_ok w
 have H1 := hide h1
 have H2 := hide h2
 clear h1 h2
 have hS := fun W (hW : Kept [] w W) => sign_ok width ao n cap size xs W H1.out.len H1.out.le (H1.out.sl.kept hW (by simp)) (by have := H1.out.in8.max; omega)
 obtain ⟨c, hcc⟩ := nm (signE width n size)
 obtain ⟨sg, hsg⟩ := nm (signS width xs size)
 obtain ⟨sn, hsn⟩ := nm (sg.blocks.length)
 have HQS := hide hsn
 rw [hcc] at hc hS
 rw [hsg] at hS
 have hc0 : (c == 0) = false := by simpa using hc
 clear hcc hsg hsn hc
 go_enter Tryz.func6, Tryz.ntmps6
 go_upto_region 3 with (go_at_call 7; refine hkn.mono ?_; rintro r w1 ⟨rfl, hk1⟩; have HK1 := hide hk1; have hS1 := hS w1 hk1; clear hkn hk1 hS)
 go_upto_region 4 with (first
  | (go_at_call 13; refine hS1.mono ?_; rintro r wa ⟨hta, hka⟩; obtain ⟨so, sc, rfl, hsi, hsb⟩ := TellS.open hta; rw [HQS.out] at hsi ⊢; have Ha := hide (ai hka hsi); have hoza := heap_new wa (.cells zeroS 26); have hia := Tryz.infoSigA sg (.slice so sn sc); have hzs : zeroS.size = (sg.cells (.slice so sn sc)).toArray.size := (by rw [sig_size]; exact sig_size _ _); have hal := sig_one sg (.slice so sn sc) rfl; clear hS1 hta hka hsi hsb)
  | refine wpList_store_rowTo rfl 26 (.tmp 9) (.tmp 42) rfl rfl wa.heap.size (sg.cells (.slice so sn sc)).toArray rfl rfl 26 zeroS hoza hia hzs hal ?_)
 have kb : Kept [] wa ((wa.alloc (.cells zeroS 26)).setRow wa.heap.size (sg.cells (.slice so sn sc)).toArray) := ((Kept.refl [] wa).alloc _).trans (kept_row _ wa.heap.size _) (fun i hi hl => by simp only [List.mem_singleton] at hi; omega)
 have hA : SigAt ((wa.alloc (.cells zeroS 26)).setRow wa.heap.size (sg.cells (.slice so sn sc)).toArray) wa.heap.size sg (.slice so sn sc) := ⟨setRow_heap _ _ _ _ _ _ hoza⟩
 obtain ⟨O, hO⟩ := nm (wa.heap.size)
 rw [hO] at kb hA ⊢
 have HKb := hide ((HK1.out.tr Ha.out.1).tr kb)
 have HIb := hide (Ha.out.2.kept kb)
 clear hO hoza hia hzs hal kb Ha HK1
 generalize (wa.alloc (.cells zeroS 26)).setRow O (sg.cells (.slice so sn sc)).toArray = wb at hA HKb HIb ⊢
 have HKF := hide HKb.out
 clear hA HKb HIb
 go_wp2
 go_ret
 exact ⟨rfl, HKF.out.below0⟩
theorem keeps18_yes (width : Int) (ao : Option Addr) (n cap Z : Nat) (bo : Option Addr) (m bc : Nat) (xs ys : List UInt8) (w : World) (h1 : InB w ao n cap xs) (h2 : InB w bo m bc ys) (hc : signE width n (Z : Int) = 0) :
  Calls Tryz.prog 6 #[.int .i64 width, .slice ao n cap, .int .i64 Z, .slice bo m bc] w fun e w' => e = .returned (.bool true) ∧ Below w.heap.size w w' := by
 have hz := Tryz.zeroSig
 have hkn := known18_ok w
 have H1 := hide h1
 have H2 := hide h2
 clear h1 h2
 have hS := fun W (hW : Kept [] w W) => sign_ok width ao n cap (Z : Int) xs W H1.out.len H1.out.le (H1.out.sl.kept hW (by simp)) (by have := H1.out.in8.max; omega)
 have e2 : signS width xs (Z : Int) = sign width xs Z := by unfold signS; rw [H1.out.len, hc, if_pos rfl, Int.toNat_natCast]
 rw [hc, e2] at hS
 clear e2
 have HMAY0 := sign_may (w := width) (b := xs) (z := Z) (by rw [H1.out.len]; exact hc)
 have HC0 := hide hc
 have HMD0 := made_dec (ys := ys) HMAY0
 have HN13 : Hid (n <= 131072) := by have h := HMAY0.l2; have e : (sign width xs Z).length = (xs.length : Nat) := rfl; rw [e] at h; have := H1.out.len; show n <= _; omega
 obtain ⟨sg, hsg⟩ := nm (sign width xs Z)
 obtain ⟨sn, hsn⟩ := nm (sg.blocks.length)
 have HQS := hide hsn
 rw [hsg] at hS
 rw [hsg] at HMAY0 HMD0
 have HSG : Hid (signE width n (Z : Int) = 0 ∧ signS width xs (Z : Int) = sg) := ⟨HC0.out, by unfold signS; rw [H1.out.len, HC0.out, if_pos rfl, Int.toNat_natCast, hsg]⟩
 have HMAY := hide HMAY0
 have HMDa := hide HMD0
 clear HMAY0 HMD0 HC0
 clear hsg hsn hc
 go_enter Tryz.func6, Tryz.ntmps6
 go_upto_region 3 with (go_at_call 7; refine hkn.mono ?_; rintro r w1 ⟨rfl, hk1⟩; have HK1 := hide hk1; have hS1 := hS w1 hk1; clear hkn hk1 hS)
 go_upto_region 4 with (first
  | (go_at_call 13; refine hS1.mono ?_; rintro r wa ⟨hta, hka⟩; obtain ⟨so, sc, rfl, hsi, hsb⟩ := TellS.open hta; rw [HQS.out] at hsi ⊢; have Ha := hide (ai hka hsi); have hoza := heap_new wa (.cells zeroS 26); have hia := Tryz.infoSigA sg (.slice so sn sc); have hzs : zeroS.size = (sg.cells (.slice so sn sc)).toArray.size := (by rw [sig_size]; exact sig_size _ _); have hal := sig_one sg (.slice so sn sc) rfl; clear hS1 hta hka hsi hsb)
  | refine wpList_store_rowTo rfl 26 (.tmp 9) (.tmp 42) rfl rfl wa.heap.size (sg.cells (.slice so sn sc)).toArray rfl rfl 26 zeroS hoza hia hzs hal ?_)
 have kb : Kept [] wa ((wa.alloc (.cells zeroS 26)).setRow wa.heap.size (sg.cells (.slice so sn sc)).toArray) := ((Kept.refl [] wa).alloc _).trans (kept_row _ wa.heap.size _) (fun i hi hl => by simp only [List.mem_singleton] at hi; omega)
 have hA : SigAt ((wa.alloc (.cells zeroS 26)).setRow wa.heap.size (sg.cells (.slice so sn sc)).toArray) wa.heap.size sg (.slice so sn sc) := ⟨setRow_heap _ _ _ _ _ _ hoza⟩
 obtain ⟨O, hO⟩ := nm (wa.heap.size)
 rw [hO] at kb hA ⊢
 have HKb := hide ((HK1.out.tr Ha.out.1).tr kb)
 have HIb := hide (Ha.out.2.kept kb)
 clear hO hoza hia hzs hal kb Ha HK1
 generalize (wa.alloc (.cells zeroS 26)).setRow O (sg.cells (.slice so sn sc)).toArray = wb at hA HKb HIb ⊢
 have HA0 := hide hA
 clear hA
 obtain ⟨X, hX⟩ := nm (encS sg)
 obtain ⟨D, hD⟩ := nm (makeB sg ys)
 obtain ⟨G, hG⟩ := nm (applyB xs D)
 obtain ⟨xn, hxn⟩ := nm (X.length)
 obtain ⟨dn, hdn⟩ := nm (D.length)
 obtain ⟨gn, hgn⟩ := nm (G.length)
 have HXN := hide hxn
 have HDN := hide hdn
 have HGN := hide hgn
 have HXL : Hid (xn <= 131072) := by show _ <= _; rw [<-hxn, <-hX]; have := encS_len HMAY.out; omega
 have HDL : Hid (dn <= 131072) := by show _ <= _; rw [<-hdn, <-hD]; exact makeB_len18 sg ys
 have HGL : Hid (gn <= 131072) := by show _ <= _; rw [<-hgn, <-hG]; exact applyB_lenK xs D
 have HME : Hid (okE (may sg) = 0 ∧ encodeS sg = X) := by
  have h := may_iff.2 HMAY.out
  exact ⟨by rw [h]; rfl, by unfold encodeS; rw [h, if_pos rfl, hX]⟩
 have HDE : Hid (decS X = some sg) := by
  have h := decS_enc HMAY.out
  rw [hX] at h
  exact h
 have HMD : Hid ((∃ d, decD D = some d ∧ xs.length = d.blen ∧ Sha.ident d.width xs = d.bid) ∨ D = []) := by
  have h := HMDa.out
  rw [hD] at h
  exact h
 have HMB := hide hD
 have HAB := hide hG
 have HBK : Hid (sg.blocks.length <= 2048) := HMAY.out.few
 have hnm : n <= 140737488351232 := Nat.le_trans H1.out.le H1.out.max
 have hmm : m <= 140737488351232 := Nat.le_trans H2.out.le H2.out.max
 clear hX hD hG hxn hdn hgn
 have hrm := roomy_ok ao n cap xs wb H1.out.len (H1.out.sl.kept HKb.out (by simp)) H1.out.nil hnm
 go_upto_region 9 with (go_at_call 20; refine hrm.mono ?_; rintro r w4 ⟨⟨g1, gc1, rfl, ho4, hgc1⟩, hk4⟩; have G4 := hide (ai ho4 (ai hgc1 hk4)); clear hrm ho4 hgc1 hk4)
 have HK4 := hide (HKb.out.tr G4.out.2.2)
 have hrm := roomy_ok bo m bc ys w4 H2.out.len (H2.out.sl.kept HK4.out (by simp)) H2.out.nil hmm
 go_upto_region 10 with (go_at_call 20; refine hrm.mono ?_; rintro r w5 ⟨⟨g2, gc2, rfl, ho5, hgc2⟩, hk5⟩; have G5 := hide (ai ho5 (ai hgc2 hk5)); clear hrm ho5 hgc2 hk5)
 have HK05 := hide (HK4.out.tr G5.out.2.2)
 have HO1 := hide (G4.out.1.kept G5.out.2.2 (by simp))
 have HO2 := hide G5.out.1
 have HC1 := hide (cy_of HO1.out H1.out.len G4.out.2.1)
 have HC2 := hide (cy_of HO2.out H2.out.len G5.out.2.1)
 have HCP : Hid (gc1 <= 9223372036854775807 ∧ gc2 <= 9223372036854775807) := ⟨ownB_cap HO1.out, ownB_cap HO2.out⟩
 have HB45 : Hid (w.heap.size <= wb.heap.size ∧ w.heap.size <= w4.heap.size ∧ g1 < w5.heap.size ∧ g2 < w5.heap.size ∧ g1 ≠ g2) := by
  have a1 := G4.out.1.far g1 rfl
  have a2 := G5.out.1.far g2 rfl
  have a3 := G5.out.2.2.size
  exact ⟨HKb.out.size, HK4.out.size, by omega, a2.2, by omega⟩
 have HA5 := hide (HA0.out.kept (G4.out.2.2.tr G5.out.2.2) (by simp))
 have HI5 := hide (HIb.out.kept (G4.out.2.2.tr G5.out.2.2))
 clear G4 G5 HK4 HKb HA0 HIb
 have HIN : Hid (Tk w5 w5 (3 * 0) (2 * 0) (fun _ => rw0) (fun _ => rw0) (.slice none 0 0) (.slice none 0 0) ∧ Kc 0 X D G sg.blocks (fun _ => rw0) (fun _ => rw0)) := ⟨Tk.start w5 _ _, Kc.start _ _ _ _ _ _⟩
 go_wp2_with (fail)
 go_loopw [11, 12, 15] (fun x11 x12 z wr => ∃ (i : Nat) (fb fl : Nat -> Rw), i <= 4 ∧ z = .int .i64 i ∧ Hid (Tk w5 wr (3 * i) (2 * i) fb fl x11 x12 ∧ Kc i X D G sg.blocks fb fl)) (fun x11 x12 z wr => 4 - (intOf z).toNat)
 case atStart => exact ⟨0, _, _, by omega, rfl, HIN.out⟩
 case round =>
  clear HIN
  obtain ⟨i, fb, fl, hi, rfl, HP⟩ := hrel
  by_cases hi4 : i < 4
  ·as_aux_lemma =>
   have TK := hide HP.out.1
   have KC := hide HP.out.2
   have HK5 := hide (Kept.of_below HP.out.1.bel)
   clear HP
   have hi1 : (i : Int) < 4 := by omega
   have hS1 := sign_ok width (some ⟨g1, 0, none⟩) n gc1 (Z : Int) xs wr H1.out.len (by have := HC1.out.cap; omega) (HC1.out.sl.kept HK5.out (by simp)) (by have := H1.out.in8.max; omega)
   rw [HSG.out.1, HSG.out.2] at hS1
   go_upto_region 14 with (first
    | (go_at_call 13; refine hS1.mono ?_; rintro r ra ⟨⟨vx, rfl, hox⟩, hkra⟩; obtain ⟨xo, xc, rfl, hxle⟩ := own_shape hox; have hIx := own_sig hox; have Wx := hide hox; rw [HQS.out] at hIx ⊢; have Kra := hide hkra; have hoza := heap_new ra (.cells zeroS 26); have hia := Tryz.infoSigA sg (.slice xo sn xc); have hzs : zeroS.size = (sg.cells (.slice xo sn xc)).toArray.size := (by rw [sig_size]; exact sig_size _ _); have hal := sig_one sg (.slice xo sn xc) rfl; have Ix := hide hIx; clear hS1 hox hkra hxle hIx)
    | refine wpList_store_rowTo rfl 26 (.tmp 16) (.tmp 59) rfl rfl ra.heap.size (sg.cells (.slice xo sn xc)).toArray rfl rfl 26 zeroS hoza hia hzs hal ?_)
   have kb : Kept [] ra ((ra.alloc (.cells zeroS 26)).setRow ra.heap.size (sg.cells (.slice xo sn xc)).toArray) := ((Kept.refl [] ra).alloc _).trans (kept_row _ ra.heap.size _) (fun i hi hl => by simp only [List.mem_singleton] at hi; omega)
   have hAx : SigAt ((ra.alloc (.cells zeroS 26)).setRow ra.heap.size (sg.cells (.slice xo sn xc)).toArray) ra.heap.size sg (.slice xo sn xc) := ⟨setRow_heap _ _ _ _ _ _ hoza⟩
   obtain ⟨Ox, hOx⟩ := nm (ra.heap.size)
   rw [hOx] at kb hAx ⊢
   have HOx : Hid (ra.heap.size = Ox) := hOx
   have Krb := hide kb
   clear hOx hoza hia hzs hal kb
   generalize (ra.alloc (.cells zeroS 26)).setRow Ox (sg.cells (.slice xo sn xc)).toArray = rb at hAx Krb ⊢
   have hE := encode_ok sg xo sn xc rb (Ix.out.kept Krb.out)
   rw [HME.out.1, HME.out.2] at hE
   have hrx := hAx.range
   have hilx := Tryz.infoSig sg (.slice xo sn xc)
   have HAx := hide hAx
   clear hAx
   go_upto_region 15 with (first
    | refine wpList_load_mid rfl 26 (.tmp 16) rfl Ox 0 rfl (sg.cells (.slice xo sn xc)) _ hrx Tryz.underlying26 rfl hilx ?_
    | (go_at_call 14; refine hE.mono ?_; rintro r rc ⟨⟨eo, ec, rfl, hoe⟩, hkc⟩; have OE := hide (show OwnB rc rb.heap.size (.slice eo X.length ec) X from hoe); rw [HXN.out]; have Krc := hide hkc; clear hE hoe hkc))
   clear hrx hilx
   have hD := decode_good eo xn ec X rc (by have := OE.out.in8; rw [HXN.out] at this; exact this) sg HDE.out
   go_upto_region 16 with (first
    | (go_at_call 17; refine hD.mono ?_; rintro r rd ⟨⟨vy, rfl, hoy⟩, hkrd⟩; obtain ⟨yo, yc, rfl, hyle⟩ := own_shape hoy; have hIy := own_sig hoy; have Wy := hide hoy; rw [HQS.out] at hIy ⊢; have Krd := hide hkrd; have hoza := heap_new rd (.cells zeroS 26); have hia := Tryz.infoSigA sg (.slice yo sn yc); have hzs : zeroS.size = (sg.cells (.slice yo sn yc)).toArray.size := (by rw [sig_size]; exact sig_size _ _); have hal := sig_one sg (.slice yo sn yc) rfl; have Iy := hide hIy; clear hD hoy hkrd hyle hIy)
    | refine wpList_store_rowTo rfl 26 (.tmp 20) (.tmp 69) rfl rfl rd.heap.size (sg.cells (.slice yo sn yc)).toArray rfl rfl 26 zeroS hoza hia hzs hal ?_)
   have kb : Kept [] rd ((rd.alloc (.cells zeroS 26)).setRow rd.heap.size (sg.cells (.slice yo sn yc)).toArray) := ((Kept.refl [] rd).alloc _).trans (kept_row _ rd.heap.size _) (fun i hi hl => by simp only [List.mem_singleton] at hi; omega)
   have hAy : SigAt ((rd.alloc (.cells zeroS 26)).setRow rd.heap.size (sg.cells (.slice yo sn yc)).toArray) rd.heap.size sg (.slice yo sn yc) := ⟨setRow_heap _ _ _ _ _ _ hoza⟩
   obtain ⟨Oy, hOy⟩ := nm (rd.heap.size)
   rw [hOy] at kb hAy ⊢
   have HOy : Hid (rd.heap.size = Oy) := hOy
   have Kre := hide kb
   clear hOy hoza hia hzs hal kb
   generalize (rd.alloc (.cells zeroS 26)).setRow Oy (sg.cells (.slice yo sn yc)).toArray = re at hAy Kre ⊢
   have KH := hide ((((HK5.out.tr Kra.out).tr Krb.out).tr Krc.out).trans (Krd.out.tr Kre.out) (by simp))
   have hM := make_ok sg yo sn yc (some ⟨g2, 0, none⟩) m gc2 ys re (Iy.out.kept Kre.out) H2.out.len (by have := HC2.out.cap; omega) (HC2.out.sl.kept KH.out (by simp)) (by have := H2.out.in8.max; have := H2.out.le; have := H2.out.max; omega)
   rw [HMB.out] at hM
   have hry := hAy.range
   have hily := Tryz.infoSig sg (.slice yo sn yc)
   have HAy := hide hAy
   clear hAy
   go_upto_region 17 with (first
    | refine wpList_load_mid rfl 26 (.tmp 20) rfl Oy 0 rfl (sg.cells (.slice yo sn yc)) _ hry Tryz.underlying26 rfl hily ?_
    | (go_at_call 8; refine hM.mono ?_; rintro r rf ⟨⟨mo, mc, rfl, hom⟩, hkf⟩; have OM := hide (show OwnB rf re.heap.size (.slice mo D.length mc) D from hom); rw [HDN.out]; have Krf := hide hkf; clear hM hom hkf))
   clear hry hily
   have KF := hide (KH.out.tr Krf.out)
   have hP := apply_made (some ⟨g1, 0, none⟩) n gc1 xs mo dn mc D rf ((cy_in8 HC1.out HCP.out.1).kept KF.out) (by have := OM.out.in8; rw [HDN.out] at this; exact this) HN13.out HMD.out
   rw [HAB.out] at hP
   go_upto_region 18 with (go_at_call 16; refine hP.mono ?_; rintro r rg ⟨⟨ao3, ac3, rfl, hoa⟩, hkg⟩; have OA := hide (show OwnB rg rf.heap.size (.slice ao3 G.length ac3) G from hoa); rw [HGN.out]; have Krg := hide hkg; clear hP hoa hkg)
   have keg := hide (Krf.out.tr Krg.out)
   have kdg := hide (Kre.out.tr keg.out)
   have kcg := hide (Krd.out.tr kdg.out)
   have kbg := hide (Krc.out.tr kcg.out)
   have kag := hide (Krb.out.tr kbg.out)
   have krg := hide (Kra.out.tr kag.out)
   have T5 := hide (TK.out.kept krg.out)
   have s5 := TK.out.bel.size
   have sa := Kra.out.size
   have sb := Krb.out.size
   have sc2 := Krc.out.size
   have sd := Krd.out.size
   have se := Kre.out.size
   have sf := Krf.out.size
   have q1 : (rwB eo ec X).At 5 1 rb.heap.size rc := OE.out
   have q2 : (rwB mo mc D).At 5 1 re.heap.size rf := OM.out
   have q3 : (rwB ao3 ac3 G).At 5 1 rf.heap.size rg := OA.out
   have q4 : (rwW xo xc sg.blocks).At 62 33 wr.heap.size ra := Wx.out
   have q5 : (rwW yo yc sg.blocks).At 62 33 rc.heap.size rd := Wy.out
   have p1 : (rwB eo ec X).At 5 1 w5.heap.size rg := own_base (OE.out.kept kcg.out (by simp)) (by omega)
   have p2 : (rwB mo mc D).At 5 1 w5.heap.size rg := own_base (OM.out.kept Krg.out (by simp)) (by omega)
   have p3 : (rwB ao3 ac3 G).At 5 1 w5.heap.size rg := own_base OA.out (by omega)
   have p4 : (rwW xo xc sg.blocks).At 62 33 w5.heap.size rg := own_base (Wx.out.kept kag.out (by simp)) (by omega)
   have p5 : (rwW yo yc sg.blocks).At 62 33 w5.heap.size rg := own_base (Wy.out.kept kdg.out (by simp)) (by omega)
   obtain ⟨vR', rh, hrun6, ho6, hg6⟩ := run_append_vals 57 27 Tryz.underlying57 Tryz.infoRow rg w5.heap.size u11 (3 * i) (vals (3 * i) fb) [(rwB eo ec X).val, (rwB mo mc D).val, (rwB ao3 ac3 G).val] 3 rfl T5.out.oR (by simp [Rw.val, Value.oneCell']) (by omega) T5.out.bel.size
   have T6 := T5.out.addB3 p1 p2 p3 (fun a ha => off_new (TK.out.bf.own a ha) q1 (by omega)) (fun a ha => off_new (TK.out.bf.own a ha) q2 (by omega)) (fun a ha => off_new (TK.out.bf.own a ha) q3 (by omega)) (off_new q1 q2 (by omega)) (off_new q1 q3 (by omega)) (off_new q2 q3 (by omega)) ho6 hg6
   have p4' := p4.keep hg6 (own_types p4 T5.out.oR (by decide))
   have p5' := p5.keep hg6 (own_types p5 T5.out.oR (by decide))
   obtain ⟨vL', ri, hrun7, ho7, hg7⟩ := run_append_vals 58 24 Tryz.underlying58 Tryz.infoList rh w5.heap.size u12 (2 * i) (vals (2 * i) fl) [(rwW xo xc sg.blocks).val, (rwW yo yc sg.blocks).val] 2 rfl T6.oL (by simp [Rw.val, Value.oneCell']) (by omega) T6.bel.size
   have T7 := T6.addL p4' p5' (fun a ha => off_new (TK.out.lf.own a ha) q4 (Nat.le_refl _)) (fun a ha => off_new (TK.out.lf.own a ha) q5 (by omega)) (off_new q4 q5 (by omega)) ho7 hg7
   have HN : Hid (Tk w5 ri (3 * (i + 1)) (2 * (i + 1)) _ _ vR' vL' ∧ Kc (i + 1) X D G sg.blocks _ _) := ⟨T7, KC.out.next eo mo ao3 xo yo ec mc ac3 xc yc⟩
   have hgh : Kept u11.ownBlock.toList rg rh := grown_kept hg6
   have hnx : ∀ O, wr.heap.size <= O -> O ∉ u11.ownBlock.toList := fun O hO hm => by
    have := (World.ownsRow.lt TK.out.oR O (by simpa using hm)).2
    omega
   have ax : rh.cell? ⟨Ox, 35, none⟩ = some (.slice xo sn xc) := hgh.cellOf ((HAx.out.kept kbg.out (by simp)).cell (Sig.cv _ _)) (hnx Ox (by have := HOx.out; omega))
   have ay : rh.cell? ⟨Oy, 35, none⟩ = some (.slice yo sn yc) := hgh.cellOf ((HAy.out.kept keg.out (by simp)).cell (Sig.cv _ _)) (hnx Oy (by have := HOy.out; omega))
   have e1 : (rwB eo ec X).val = .slice eo X.length ec := rfl
   have e2 : (rwB mo mc D).val = .slice mo D.length mc := rfl
   have e3 : (rwB ao3 ac3 G).val = .slice ao3 G.length ac3 := rfl
   have e4 : (rwW xo xc sg.blocks).val = .slice xo sg.blocks.length xc := rfl
   have e5 : (rwW yo yc sg.blocks).val = .slice yo sg.blocks.length yc := rfl
   rw [e1, e2, e3, HXN.out, HDN.out, HGN.out] at hrun6
   rw [e4, e5, HQS.out] at hrun7
   obtain ⟨oR, nR, cR, rfl⟩ : ∃ oR nR cR, u11 = .slice oR nR cR := by
    obtain ⟨o, c, h, _⟩ := own_shape TK.out.oR
    exact ⟨o, _, c, h⟩
   obtain ⟨oL, nL, cL, rfl⟩ : ∃ oR nR cR, u12 = .slice oR nR cR := by
    obtain ⟨o, c, h, _⟩ := own_shape TK.out.oL
    exact ⟨o, _, c, h⟩
   obtain ⟨oR2, nR2, cR2, rfl⟩ : ∃ oR nR cR, vR' = .slice oR nR cR := by
    obtain ⟨o, c, h, _⟩ := own_shape ho6
    exact ⟨o, _, c, h⟩
   obtain ⟨oL2, nL2, cL2, rfl⟩ : ∃ oR nR cR, vL' = .slice oR nR cR := by
    obtain ⟨o, c, h, _⟩ := own_shape ho7
    exact ⟨o, _, c, h⟩
   clear e1 e2 e3 e4 e5 q1 q2 q3 q4 q5 p1 p2 p3 p4 p5 ho6 hg6 T6 p4' p5' ho7 hg7 T7 hgh hnx T5 TK KC HAx HAy OE OM OA Wx Wy Ix Iy kag krg kcg kbg kdg keg KF KH Kra Krb Krc Krd Kre Krf Krg sa sb sc2 sd se sf s5 HOx HOy HK5
   go_wp2_with (first
    | (refine wpList_app_run rfl (.tmp 83) (.tmp 87) 57 57 rfl (.slice oR nR cR) (.slice (some ⟨rg.heap.size, 0, none⟩) 3 3) rfl rfl (.slice oR2 nR2 cR2) rh hrun6 ?_; try simp only [z4, z5, z6, z7, z8])
    | (refine wpList_app_run rfl (.tmp 89) (.tmp 94) 58 58 rfl (.slice oL nL cL) (.slice (some ⟨rh.heap.size, 0, none⟩) 2 2) rfl rfl (.slice oL2 nL2 cL2) ri hrun7 ?_; try simp only [z4, z5, z6, z7, z8]))
   go_roundw
   case rel => exact ⟨i + 1, _, _, by omega, by go_num, HN.out⟩
   case measure => simp [intOf]; omega
  ·obtain rfl : i = 4 := by omega
   have HK5 := hide (Kept.of_below HP.out.1.bel)
   obtain ⟨gR, cR, hvR, _⟩ := HP.out.1.cellB (i := 0) (by omega)
   subst hvR
   obtain ⟨gL, cL, hvL, _⟩ := HP.out.1.cellL (i := 0) (by omega)
   subst hvL
   have TK0 : Hid (Tk w5 wr 12 8 fb fl (.slice (some ⟨gR, 0, none⟩) 12 cR) (.slice (some ⟨gL, 0, none⟩) 8 cL)) := HP.out.1
   have KC := hide HP.out.2
   clear HP
   have hE := rencode_ok sg so sn sc wr (HI5.out.kept HK5.out)
   rw [HME.out.1, HME.out.2] at hE
   have hrs := (HA5.out.kept HK5.out (by simp)).range
   have hils := Tryz.infoSig sg (.slice so sn sc)
   go_upto_region 21 with (first
    | refine wpList_load_mid rfl 26 (.tmp 9) rfl O 0 rfl (sg.cells (.slice so sn sc)) _ hrs Tryz.underlying26 rfl hils ?_
    | (go_at_call 24; refine hE.mono ?_; rintro r ra ⟨⟨xo2, xc2, rfl, hoe⟩, hkc⟩; have S1 := hide (show OwnB ra wr.heap.size (.slice xo2 X.length xc2) X from hoe).in8.sl; rw [HXN.out]; have Kra := hide hkc; clear hE hoe hkc))
   clear hrs
   have K5a := hide (HK5.out.tr Kra.out)
   have hrs := (HA5.out.kept K5a.out (by simp)).range
   have hM := rmake_ok sg so sn sc bo m bc ys ra (HI5.out.kept K5a.out) (H2.out.in8.kept (HK05.out.tr K5a.out))
   rw [HMB.out] at hM
   go_upto_region 22 with (first
    | refine wpList_load_mid rfl 26 (.tmp 9) rfl O 0 rfl (sg.cells (.slice so sn sc)) _ hrs Tryz.underlying26 rfl hils ?_
    | (go_at_call 25; refine hM.mono ?_; rintro r rb ⟨⟨do2, dc2, rfl, hom⟩, hkf⟩; have OM := hide (show OwnB rb ra.heap.size (.slice do2 D.length dc2) D from hom); rw [HDN.out]; have Krb := hide hkf; clear hM hom hkf))
   clear hrs hils
   have K5b := hide (K5a.out.tr Krb.out)
   have hP := rapply_made ao n cap xs do2 dn dc2 D rb (H1.out.in8.kept (HK05.out.tr K5b.out)) (by have := OM.out.in8; rw [HDN.out] at this; exact this) HN13.out HMD.out
   rw [HAB.out] at hP
   go_upto_region 23 with (go_at_call 21; refine hP.mono ?_; rintro r wz ⟨⟨go2, gc3, rfl, hoa⟩, hkg⟩; have S3 := hide (show OwnB wz rb.heap.size (.slice go2 G.length gc3) G from hoa).in8.sl; rw [HGN.out]; have Krz := hide hkg; clear hP hoa hkg)
   have HK5z := hide (K5b.out.tr Krz.out)
   have TK := hide (TK0.out.kept ((Kra.out.tr Krb.out).tr Krz.out))
   have HSL : Hid (Sl wz xo2 X ∧ Sl wz do2 D ∧ Sl wz go2 G) := ⟨S1.out.kept (Krb.out.tr Krz.out) (by simp), OM.out.in8.sl.kept Krz.out (by simp), S3.out⟩
   have HAz := hide (HA5.out.kept HK5z.out (by simp))
   have HIz := hide (HI5.out.kept HK5z.out)
   have HK0 : Hid (Kept [] wz wz) := Kept.refl _ _
   clear S1 S3 OM Kra Krb Krz K5a K5b HK5 TK0 HA5 HI5
   go_wp2_with (fail)
   go_loopw [32] (fun x wr => ∃ j : Nat, j <= 4 ∧ x = .int .i64 j ∧ Hid (Kept [] wz wr)) (fun x wr => 4 - (intOf x).toNat)
   case atStart => exact ⟨0, by omega, rfl, HK0.out⟩
   case round =>
    clear HK0
    obtain ⟨j, hj, rfl, HK⟩ := hrel
    by_cases hj4 : j < 4
    ·as_aux_lemma =>
     have hj1 : (j : Int) < 4 := by omega
     have b0 := KC.out.b (3 * j) (by omega)
     have b1 := KC.out.b (3 * j + 1) (by omega)
     have b2 := KC.out.b (3 * j + 2) (by omega)
     rw [p3_0] at b0
     rw [p3_1] at b1
     rw [p3_2] at b2
     have hw0 : IntKind.i64.wrap (3 * (j : Int)) = ((3 * j : Nat) : Int) := by rw [wrap64 (by omega) (by omega)]; omega
     have hp12 : 3 * j + 2 < 12 := by omega
     generalize 3 * j = p at b0 b1 b2 hw0 hp12
     have hw1 : IntKind.i64.wrap ((p : Int) + 1) = ((p + 1 : Nat) : Int) := by rw [wrap64 (by omega) (by omega)]; omega
     have hw2 : IntKind.i64.wrap ((p : Int) + 2) = ((p + 2 : Nat) : Int) := by rw [wrap64 (by omega) (by omega)]; omega
     have MB : Hid (∀ W, Kept [] wz W -> (W.cell? ⟨gR, p, none⟩ = some (.slice (fb p).o xn (fb p).c) ∧ Sl W (fb p).o X ∧ Sl W xo2 X) ∧ (W.cell? ⟨gR, p + 1, none⟩ = some (.slice (fb (p + 1)).o dn (fb (p + 1)).c) ∧ Sl W (fb (p + 1)).o D ∧ Sl W do2 D) ∧ W.cell? ⟨gR, p + 2, none⟩ = some (.slice (fb (p + 2)).o gn (fb (p + 2)).c) ∧ Sl W (fb (p + 2)).o G ∧ Sl W go2 G) := fun W hW => by
      have hT := TK.out.kept hW
      have c0 := hT.atB (i := p) (by omega)
      have c1 := hT.atB (i := p + 1) (by omega)
      have c2 := hT.atB (i := p + 2) (by omega)
      rw [b0.1, HXN.out] at c0
      rw [b1.1, HDN.out] at c1
      rw [b2.1, HGN.out] at c2
      exact ⟨⟨c0, rw_sl (hT.bf.own p (by omega)) b0.1 b0.2, HSL.out.1.kept hW (by simp)⟩, ⟨c1, rw_sl (hT.bf.own (p + 1) (by omega)) b1.1 b1.2, HSL.out.2.1.kept hW (by simp)⟩, c2, rw_sl (hT.bf.own (p + 2) (by omega)) b2.1 b2.2, HSL.out.2.2.kept hW (by simp)⟩
     clear b0 b1 b2
     generalize (fb p).o = fo0 at *
     generalize (fb p).c = fc0 at *
     generalize (fb (p + 1)).o = fo1 at *
     generalize (fb (p + 1)).c = fc1 at *
     generalize (fb (p + 2)).o = fo2 at *
     generalize (fb (p + 2)).c = fc2 at *
     have m0 := (MB.out _ HK.out).1.1
     have hs0 := same_any fo0 xo2 xn fc0 xn xc2 X X wr HXN.out HXN.out (by have := HXL.out; omega) (MB.out _ HK.out).1.2.1 (MB.out _ HK.out).1.2.2
     rw [decide_eq_true (rfl : X = X)] at hs0
     have HM0 := hide hw0
     go_wp2_with (first
      | (go_at_call 22; refine hs0.mono ?_; rintro r v1 ⟨rfl, k1, rfl⟩; have L1 := hide (HK.out.drewN k1); clear hs0; generalize World.drewN wr k1 = v1 at L1 ⊢; have m1 := (MB.out _ L1.out).2.1.1; have hs1 := same_any fo1 do2 dn fc1 dn dc2 D D v1 HDN.out HDN.out (by have := HDL.out; omega) (MB.out _ L1.out).2.1.2.1 (MB.out _ L1.out).2.1.2.2; rw [decide_eq_true (rfl : D = D)] at hs1)
      | (go_at_call 22; refine hs1.mono ?_; rintro r v2 ⟨rfl, k2, rfl⟩; have L2 := hide (L1.out.drewN k2); clear hs1; generalize World.drewN v1 k2 = v2 at L2 ⊢; have m2 := (MB.out _ L2.out).2.2.1; have hs2 := same_any fo2 go2 gn fc2 gn gc3 G G v2 HGN.out HGN.out (by have := HGL.out; omega) (MB.out _ L2.out).2.2.2.1 (MB.out _ L2.out).2.2.2.2; rw [decide_eq_true (rfl : G = G)] at hs2)
      | (go_at_call 22; refine hs2.mono ?_; rintro r v3 ⟨rfl, k3, rfl⟩; have L3 := hide (L2.out.drewN k3); clear hs2; generalize World.drewN v2 k3 = v3 at L3 ⊢))
     go_roundw
     case rel => exact ⟨j + 1, by omega, by go_num, L3.out⟩
     case measure => simp [intOf]; omega
    ·have hj1 : ¬ (j : Int) < 4 := by omega
     have HK0 := hide HK.out
     clear HK
     go_wp2_with (fail)
     clear hj4 hj1 hj
     go_loopw [33] (fun x wr => ∃ j : Nat, j <= 8 ∧ x = .int .i64 j ∧ Hid (Kept [] wz wr)) (fun x wr => 8 - (intOf x).toNat)
     case atStart => exact ⟨0, by omega, rfl, HK0.out⟩
     case round =>
      clear HK0
      obtain ⟨j, hj, rfl, HK⟩ := hrel
      by_cases hj8 : j < 8
      ·as_aux_lemma =>
       have hj1 : (j : Int) < 8 := by omega
       have hsn : sn <= 2048 := by have := HBK.out; rw [HQS.out] at this; exact this
       obtain ⟨q1, q2⟩ := KC.out.l j (by omega)
       have m1 := (TK.out.kept HK.out).atL (i := j) hj8
       have w1 := rw_wks ((TK.out.kept HK.out).lf.own j hj8) q1 q2
       rw [q1, HQS.out] at m1
       have m2 := (HAz.out.kept HK.out (by simp)).cell (Sig.cv _ _)
       have HW1 : Hid (∀ W, Kept [] wz W -> Wks W (fl j).o sg.blocks ∧ W.cell? ⟨gL, j, none⟩ = some (.slice (fl j).o sn (fl j).c)) := fun W hW => by
        have c := (TK.out.kept hW).atL (i := j) hj8
        rw [q1, HQS.out] at c
        exact ⟨rw_wks ((TK.out.kept hW).lf.own j hj8) q1 q2, c⟩
       clear w1 q1 q2
       generalize (fl j).o = lo at *
       generalize (fl j).c = lc at *
       go_upto_region 31 with (fail)
       refine th wr fun h0 => ?_
       generalize World.drew wr = v0 at h0  ⊢
       refine t1 0 (.slice (some ⟨gL, 0, none⟩) 8 cL) h0 ?_
       simp only [zz]
       refine t1 1 (.int .i64 j) h0 ?_
       simp only [zz]
       refine t1 2 (.pointer (some ⟨gL, j, none⟩)) h0 ?_
       simp only [zz]
       refine t2 3 (.slice lo sn lc) rfl h0 ?_ (fun w h => by have c := qc h m1; go_simp)
       simp only [zz]
       refine t1 4 (.int .i64 sn) h0 ?_
       simp only [zz]
       refine t1 5 (.pointer (some ⟨O, 35, none⟩)) h0 ?_
       simp only [zz]
       refine t2 6 (.slice so sn sc) rfl h0 ?_ (fun w h => by have c := qc h m2; go_simp)
       simp only [zz]
       refine t1 7 (.int .i64 sn) h0 ?_
       simp only [zz]
       refine t1 8 (.bool false) h0 ?_
       simp only [zz]
       refine qd ?_
       have HK1 := hide (HK.out.tr h0)
       clear h0 m1 m2 HK
       go_wp2_with (fail)
       go_loopw [34] (fun x wr => ∃ k : Nat, k <= sn ∧ x = .int .i64 k ∧ Hid (Kept [] wz wr)) (fun x wr => sn - (intOf x).toNat)
       case atStart => exact ⟨0, Nat.zero_le _, rfl, HK1.out⟩
       case round =>
        clear HK1
        obtain ⟨k, hk, rfl, HK⟩ := hrel
        have m1 := (HW1.out _ HK.out).2
        by_cases hks : k < sn
        ·have hks1 : (k : Int) < (sn : Int) := by omega
         have hkb : k < sg.blocks.length := by rw [HQS.out]; exact hks
         obtain ⟨lb, lf, rfl, r1⟩ := (HW1.out _ HK.out).1 k hkb
         obtain ⟨sb, sf, rfl, r2⟩ := (HIz.out.at_.kept HK.out (by simp)) k hkb
         have m2 := (HAz.out.kept HK.out (by simp)).cell (Sig.cv _ _)
         generalize sg.blocks.getD k wk0 = e at r1 r2
         have heq : ∀ W, (Op.equalIn 10000 62 (.agg e.cells.toArray) (.agg e.cells.toArray)).run Tryz.prog W = .ok true W := fun W => by rw [Tryz.eqlWk e e W, wkEq_iff.2 rfl]
         have hiw := Tryz.infoWk e
         go_upto_region 36 with (fail)
         refine th wr fun h0 => ?_
         generalize World.drew wr = v0 at h0  ⊢
         refine t1 0 (.slice (some ⟨gL, 0, none⟩) 8 cL) h0 ?_
         simp only [zz]
         refine t1 1 (.int .i64 j) h0 ?_
         simp only [zz]
         refine t1 2 (.pointer (some ⟨gL, j, none⟩)) h0 ?_
         simp only [zz]
         refine t2 3 (.slice (some ⟨lb, lf, none⟩) sn lc) rfl h0 ?_ (fun w h => by have c := qc h m1; go_simp)
         simp only [zz]
         refine t1 4 (.int .i64 k) h0 ?_
         simp only [zz]
         refine t1 5 (.pointer (some ⟨lb, lf + k * 33, none⟩)) h0 ?_
         simp only [zz]
         refine t4 6 (.agg e.cells.toArray) rfl (yieldsIf_load_mid (by rfl) _ _ rfl lb (lf + k * 33) rfl e.cells _ (fun W h => fun j u hu => Kept.cellOf h (r1 j u hu) (by simp)) Tryz.underlying62 rfl hiw) h0 ?_
         simp only [zz]
         refine t1 7 (.pointer (some ⟨O, 35, none⟩)) h0 ?_
         simp only [zz]
         refine t2 8 (.slice (some ⟨sb, sf, none⟩) sn sc) rfl h0 ?_ (fun w h => by have c := qc h m2; go_simp)
         simp only [zz]
         refine t1 9 (.int .i64 k) h0 ?_
         simp only [zz]
         refine t1 10 (.pointer (some ⟨sb, sf + k * 33, none⟩)) h0 ?_
         simp only [zz]
         refine t4 11 (.agg e.cells.toArray) rfl (yieldsIf_load_mid (by rfl) _ _ rfl sb (sf + k * 33) rfl e.cells _ (fun W h => fun j u hu => Kept.cellOf h (r2 j u hu) (by simp)) Tryz.underlying62 rfl hiw) h0 ?_
         simp only [zz]
         refine t2 12 (.bool false) rfl h0 ?_ (fun w hSw => by have c0 := heq w; go_simp)
         simp only [zz]
         refine qd ?_
         have HN := hide (HK.out.tr h0)
         clear h0 m1 m2 HK r1 r2
         go_wp2
         go_roundw
         case rel => exact ⟨k + 1, by omega, by go_num, HN.out⟩
         case measure => simp [intOf]; omega
        ·have hks1 : ¬ (k : Int) < (sn : Int) := by omega
         go_wp2
         go_roundw
         case rel => exact ⟨j + 1, by omega, by go_num, HK.out⟩
         case measure => simp [intOf]; omega
      ·have hj1 : ¬ (j : Int) < 8 := by omega
       as_aux_lemma =>
       have hst1 := stands_ok g1 n gc1 xs ao cap wr ((HC1.out.kept (HK5z.out.tr HK.out) (by simp))) (H1.out.sl.kept ((HK05.out.tr HK5z.out).tr HK.out) (by simp)) (by have := H1.out.le; have := H1.out.max; omega)
       have hst2 := hide (fun W (hW : Kept [] wr W) => stands_ok g2 m gc2 ys bo bc W ((HC2.out.kept ((HK5z.out.tr HK.out).tr hW) (by simp))) (H2.out.sl.kept (((HK05.out.tr HK5z.out).tr HK.out).tr hW) (by simp)) (by have := H2.out.le; have := H2.out.max; omega))
       go_upto_region 40 with (first
        | (go_at_call 23; refine hst1.mono ?_; rintro r e1 ⟨rfl, hk1⟩; have E1 := hide hk1; have hst3 := hst2.out e1 hk1; clear hst1 hk1)
        | (go_at_call 23; refine hst3.mono ?_; rintro r e2 ⟨rfl, hk2⟩; have E2 := hide (HK.out.trans (E1.out.tr hk2) (by simp)); clear hst3 hk2))
       have TE := hide ((TK.out.kept E2.out).base HK05.out)
       have T5 := hide (TK.out.kept E2.out)
       have kz := hide (HK5z.out.tr E2.out)
       have r1 : (rwG g1 gc1 n xs).At 5 1 w.heap.size e2 := own_base (rwG_at (HO1.out.kept kz.out (by simp)) H1.out.len) HB45.out.1
       have r2 : (rwG g2 gc2 m ys).At 5 1 w.heap.size e2 := own_base (rwG_at (HO2.out.kept kz.out (by simp)) H2.out.len) HB45.out.2.1
       obtain ⟨vR', ez, hrun, ho6, hg6⟩ := run_append_vals 57 27 Tryz.underlying57 Tryz.infoRow e2 w.heap.size (.slice (some ⟨gR, 0, none⟩) 12 cR) 12 (vals 12 fb) [(rwG g1 gc1 n xs).val, (rwG g2 gc2 m ys).val] 2 rfl TE.out.oR (by simp [Rw.val, Value.oneCell']) (by omega) TE.out.bel.size
       have hof : ∀ a, a < 12 -> ∀ g, g < w5.heap.size -> Off (fb a).blk (some g) := fun a ha g hg k h1 h2 => by
        have := (T5.out.bf.own a ha).ge h1
        cases h2
        omega
       have T7 := TE.out.addB r1 r2 (fun a ha => hof a ha g1 HB45.out.2.2.1) (fun a ha => hof a ha g2 HB45.out.2.2.2.1) (fun k h1 h2 => HB45.out.2.2.2.2 (by cases h1; cases h2; rfl)) ho6 hg6
       obtain ⟨gR2, cR2, hv2, _⟩ := T7.cellB (i := 0) (by omega)
       subst hv2
       have hTm := Tk.begin T7 KC.out (by have := HXL.out; have := HXN.out; omega) (by have := HDL.out; have := HDN.out; omega) (by have := HGL.out; have := HGN.out; omega) H1.out.len H2.out.len (by have := H1.out.le; have := H1.out.max; omega) (by have := H2.out.le; have := H2.out.max; omega) HBK.out
       have how := own18_ok w ez 14 8 _ _ gR2 cR2 gL cL (by omega) (by omega) (by omega) (by omega) hTm
       have e1' : (rwG g1 gc1 n xs).val = .slice (some ⟨g1, 0, none⟩) n gc1 := rfl
       have e2' : (rwG g2 gc2 m ys).val = .slice (some ⟨g2, 0, none⟩) m gc2 := rfl
       rw [e1', e2'] at hrun
       clear e1' e2' hTm T7 hof r1 r2 ho6 hg6 TE T5 kz hst2
       go_wp2_with (first
        | (refine wpList_app_run rfl (.tmp 194) (.tmp 197) 57 57 rfl (.slice (some ⟨gR, 0, none⟩) 12 cR) (.slice (some ⟨e2.heap.size, 0, none⟩) 2 2) rfl rfl (.slice (some ⟨gR2, 0, none⟩) (12 + 2) cR2) ez hrun ?_; try simp only [z4, z5, z6, z7, z8])
        | (go_at_call 26; refine how.mono ?_; rintro r e3 ⟨rfl, hb3⟩; have HB3 := hide hb3; clear how hb3))
       go_ret
       exact ⟨rfl, HB3.out⟩
theorem keeps18_walk (width : Int) (ao : Option Addr) (n cap : Nat) (size : Int) (bo : Option Addr) (m bc : Nat) (xs ys : List UInt8) (w : World) (h1 : InB w ao n cap xs) (h2 : InB w bo m bc ys) (_ : (Lit.int .i64 width).wf = true) (_ : (Lit.int .i64 size).wf = true) :
  Calls Tryz.prog 6 #[.int .i64 width, .slice ao n cap, .int .i64 size, .slice bo m bc] w fun e w' => e = .returned (.bool true) ∧ Below w.heap.size w w' := by
 by_cases hc : signE width n size = 0
 ·have hz2 : isZ size = true := by
   cases hh : isZ size with
   | true => rfl
   | false => unfold signE at hc; rw [hh, Bool.and_false, if_pos rfl] at hc; exact absurd hc (by decide)
  obtain ⟨Z, hZ⟩ := Int.eq_ofNat_of_zero_le (show 0 <= size by have := (Dlt.within_iff.1 (show Dlt.within size 16 4096 = true from hz2)).1; omega)
  subst hZ
  exact keeps18_yes width ao n cap Z bo m bc xs ys w h1 h2 hc
 ·exact keeps18_no width ao n cap size bo m bc xs ys w h1 h2 hc
end Go.Proofs.YtmklodligplbaabGreat
