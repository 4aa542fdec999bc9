import Derived.Test.YtmklodligplbaabGreatL18t0o
open Go.RowKit
set_option linter.unusedVariables false
set_option linter.unusedSimpArgs false
set_option maxRecDepth 100000
set_option maxHeartbeats 0
namespace Go.Proofs.YtmklodligplbaabGreat
open Dlt
theorem rread_num (ao : Option Addr) (n cap : Nat) (xs : List UInt8) (w : World) (h : InB8 w ao n cap xs) (dd : Option Dta) (ys : List UInt8) (ho : openB xs = some ys) (hmk : mk ys = 68) (hok : (Dlt.s4 ys).e = 0 ∧ (isW (nW ys) && isZ (nZ ys)) = true ∧ nL ys <= 131072) (hbad : ¬ ((Dlt.s7 ys).e = 0 ∧ nT ys <= 131072 ∧ nI ys <= 2048)) (hno : dd = none) :
  Calls Tryz.prog 9 #[.slice ao n cap] w fun e w' => ReadE w w' e dd ∧ Kept [] w w' := by
 have hz := Tryz.zeroDlt
 have K0 := ka w (.cells zeroD 34)
 have hr0 := heap_new w (.cells zeroD 34)
 have hop := ropened_ok ao n cap xs _ (h.kept K0)
 rw [ho] at hop
 have H := hide h
 obtain ⟨R, hR⟩ := nm (w.heap.size)
 rw [hR] at hr0
 have HRW := hide hR
 clear h ho
 go_enter Tryz.func9, Tryz.ntmps9
 go_upto_region 1 with (fail)
 try rw [hR]
 clear hR
 generalize w.alloc (.cells zeroD 34) = w1 at *
 have HNO := hide hno
 clear hno
 go_upto_region 4 with (go_at_call 32; refine hop.mono ?_; rintro r w2 ⟨⟨rfl, hys, h4, h13⟩, hk2⟩; have H2 := hide (ai hys (ai h4 (ai h13 hk2))); clear hop hys h4 h13 hk2)
 obtain ⟨m, hm⟩ := nm (n - 4)
 have HK2 := hide (K0.tr H2.out.2.2.2)
 have hyl : ys.length = m := by rw [H2.out.1, List.length_take, H.out.len, <-hm]; omega
 have hm13 : m <= 131072 := by have := H2.out.2.2.1; omega
 have hsy : Sl w ao ys := by rw [H2.out.1]; exact H.out.sl.take _
 have HSB : Hid (ys ≠ [] -> ∀ a, ao = some a -> a.block < w.heap.size) := fun hne a ha => by
  obtain ⟨bb, off, e, hb, _⟩ := hsy.open hne
  rw [e] at ha; injection ha with ha; subst ha; exact hb
 have hbR := Tryz.builtR ao m cap
 have hrf := Rf.new (hsy.kept HK2.out (by simp)) hyl (by have := H.out.le; omega : m <= cap) (by omega)
 obtain ⟨b, hb⟩ := nm (w2.heap.size)
 have HRb : Hid (w.heap.size = R ∧ R < b) := ⟨HRW.out, by have := heap_lt hr0; have := H2.out.2.2.2.size; omega⟩
 have hr2 := (H2.out.2.2.2.block R (heap_lt hr0) (by simp)).trans hr0
 rw [hb] at hrf
 rw [hm]
 clear hm hr0 K0
 go_upto_region 5 with (refine wpList_buildRun8 rfl 79 #[(0, .tmp 21)] rfl #[(0, .slice ao m cap)] (by simp [Act.eval]) _ (hbR _) ?_)
 have k3 := ka w2 (.cells #[.slice ao m cap, .int .i64 0, .int .i64 0, .int .i64 0] 79)
 try rw [hb]
 have HS3 : Hid (Kept [] w (w2.alloc (.cells #[.slice ao m cap, .int .i64 0, .int .i64 0, .int .i64 0] 79)) ∧ (w2.alloc (.cells #[.slice ao m cap, .int .i64 0, .int .i64 0, .int .i64 0] 79)).heap[R]? = some (.cells zeroD 34 (0, 0))) := ⟨HK2.out.tr k3, (k3.block R (heap_lt hr2) (by simp)).trans hr2⟩
 have hR3 : RfS (w2.alloc (.cells #[.slice ao m cap, .int .i64 0, .int .i64 0, .int .i64 0] 79)) b ao cap ys ⟨0, 0, 0⟩ := hrf
 clear hrf hr2 k3 hb hbR HK2 H2
 generalize w2.alloc (.cells #[.slice ao m cap, .int .i64 0, .int .i64 0, .int .i64 0] 79) = w3 at HS3 hR3 ⊢
 have htf := takefix_st hR3 1
 clear hR3
 rw [show (stFixed ys ⟨0, 0, 0⟩ 1).1 = mk ys from rfl, show (stFixed ys ⟨0, 0, 0⟩ 1).2 = Dlt.s1 ys from rfl, hmk] at htf
 clear hmk
 go_upto_region 7 with (go_at_call 33; refine htf.mono ?_; rintro r w4 ⟨rfl, hk4, hr4⟩; have H4 := hide (ai hk4 hr4); clear htf hk4 hr4)
 obtain ⟨D, hD⟩ := nm (w4.heap.size)
 have kd := ka w4 (.cells zeroD 34)
 have hdd0 : DltAt (w4.alloc (.cells zeroD 34)) D 0 0 0 0 z32 z32 (.slice none 0 0) := ⟨by rw [<-hD]; exact heap_new w4 _, z32_len, z32_len⟩
 have HPS : Hid (w.heap.size = R ∧ R < b ∧ b < D) := ⟨HRb.out.1, HRb.out.2, by have := H4.out.2.lt; omega⟩
 have HS5 : Hid (Rst w (w4.alloc (.cells zeroD 34)) b R D 0 0 0 0 z32 z32 (.slice none 0 0)) := by
  have hk34 : Kept [] w w4 := HS3.out.1.trans H4.out.1 (fun i hi hl => by simp only [List.mem_singleton] at hi; have := HRb.out; omega)
  have hr4 := (H4.out.1.block R (heap_lt HS3.out.2) (by have := HRb.out; simp; omega)).trans HS3.out.2
  exact ⟨hk34.tr kd, (kd.block R (heap_lt hr4) (by simp)).trans hr4, hdd0, HPS.out⟩
 have HR5 := hide (H4.out.2.kept kd (by simp) (by simp))
 clear HS3 hdd0 kd H4 HRb HRW
 go_upto_region 8 with (fail)
 try rw [hD]
 clear hD hz
 generalize w4.alloc (.cells zeroD 34) = w5 at HS5 HR5 ⊢
 have htn := takenum_st HR5.out
 rw [show (stNumber ys (Dlt.s1 ys)).1 = nW ys from rfl, show (stNumber ys (Dlt.s1 ys)).2 = Dlt.s2 ys from rfl] at htn
 go_upto_region 9 with (go_at_call 34; refine htn.mono ?_; rintro r x5 ⟨rfl, hkx, hrx⟩; have hSx := HS5.out.call hkx; have cX := hSx.dAt.c (j := 0) rfl; have fX := hSx.dAt.fr 0; have HX := hide (ai hSx hrx); clear htn hkx hrx hSx)
 clear cX fX HS5 HR5
 have kx : Kept [D] x5 (x5.setCell ⟨D, 0, none⟩ (.int .i64 (nW ys))) := (Kept.refl [D] x5).setCell (by simp) _
 have HS6 : Hid (Rst w _ b R D (nW ys) 0 0 0 z32 z32 (.slice none 0 0)) := HX.out.1.put kx (HX.out.1.dAt.setI 0 (nW ys) _ _ _ _ rfl)
 have HR6 := hide (HX.out.2.kept kx (by have := HPS.out; simp; omega) (fun hne a ha => by have := HSB.out hne a ha; have := HPS.out; simp; omega))
 clear HX kx
 generalize x5.setCell ⟨D, 0, none⟩ (.int .i64 (nW ys)) = w6 at HS6 HR6 ⊢
 have htn := takenum_st HR6.out
 rw [show (stNumber ys (Dlt.s2 ys)).1 = nZ ys from rfl, show (stNumber ys (Dlt.s2 ys)).2 = Dlt.s3 ys from rfl] at htn
 go_upto_region 10 with (go_at_call 34; refine htn.mono ?_; rintro r x6 ⟨rfl, hkx, hrx⟩; have hSx := HS6.out.call hkx; have cX := hSx.dAt.c (j := 1) rfl; have fX := hSx.dAt.fr 1; have HX := hide (ai hSx hrx); clear htn hkx hrx hSx)
 clear cX fX HS6 HR6
 have kx : Kept [D] x6 (x6.setCell ⟨D, 1, none⟩ (.int .i64 (nZ ys))) := (Kept.refl [D] x6).setCell (by simp) _
 have HS7 : Hid (Rst w _ b R D (nW ys) (nZ ys) 0 0 z32 z32 (.slice none 0 0)) := HX.out.1.put kx (HX.out.1.dAt.setI 1 (nZ ys) _ _ _ _ rfl)
 have HR7 := hide (HX.out.2.kept kx (by have := HPS.out; simp; omega) (fun hne a ha => by have := HSB.out hne a ha; have := HPS.out; simp; omega))
 clear HX kx
 generalize x6.setCell ⟨D, 1, none⟩ (.int .i64 (nZ ys)) = w7 at HS7 HR7 ⊢
 have htn := takenum_st HR7.out
 rw [show (stNumber ys (Dlt.s3 ys)).1 = nL ys from rfl, show (stNumber ys (Dlt.s3 ys)).2 = Dlt.s4 ys from rfl] at htn
 go_upto_region 11 with (go_at_call 34; refine htn.mono ?_; rintro r x7 ⟨rfl, hkx, hrx⟩; have hSx := HS7.out.call hkx; have cX := hSx.dAt.c (j := 2) rfl; have fX := hSx.dAt.fr 2; have HX := hide (ai hSx hrx); clear htn hkx hrx hSx)
 clear cX fX HS7 HR7
 have kx : Kept [D] x7 (x7.setCell ⟨D, 2, none⟩ (.int .i64 (nL ys))) := (Kept.refl [D] x7).setCell (by simp) _
 have HS8 : Hid (Rst w _ b R D (nW ys) (nZ ys) (nL ys) 0 z32 z32 (.slice none 0 0)) := HX.out.1.put kx (HX.out.1.dAt.setI 2 (nL ys) _ _ _ _ rfl)
 have HR8 := hide (HX.out.2.kept kx (by have := HPS.out; simp; omega) (fun hne a ha => by have := HSB.out hne a ha; have := HPS.out; simp; omega))
 clear HX kx
 generalize x7.setCell ⟨D, 2, none⟩ (.int .i64 (nL ys)) = w8 at HS8 HR8 ⊢
 have cE := HR8.out.c2
 have c0 := HS8.out.dAt.c (j := 0) rfl
 have c1 := HS8.out.dAt.c (j := 1) rfl
 have c2 := HS8.out.dAt.c (j := 2) rfl
 have hsz := rsized_ok (nW ys) (nZ ys) w8
 obtain ⟨hE0, hsd, hL0⟩ := hok
 have hsd2 := hsd
 rw [Bool.and_eq_true, isW, isZ, Dlt.within_iff, Dlt.within_iff] at hsd2
 obtain ⟨W, hWn⟩ := Int.eq_ofNat_of_zero_le (show 0 <= nW ys by omega)
 obtain ⟨Z, hZn⟩ := Int.eq_ofNat_of_zero_le (show 0 <= nZ ys by omega)
 obtain ⟨L, hLn⟩ := Int.eq_ofNat_of_zero_le (show 0 <= nL ys from (stNumber_le ys (Dlt.s3 ys)).1)
 have HW32 : Hid (W <= 32) := by show _ <= _; omega
 have HZ1 : Hid (16 <= Z ∧ Z <= 4096 ∧ L <= 131072) := ⟨by omega, by omega, by omega⟩
 have HWN := hide hWn
 have HZN := hide hZn
 have HLN := hide hLn
 rw [hWn, hZn, hLn] at HS8
 rw [hsd, hWn, hZn] at hsz
 rw [hWn] at c0
 rw [hZn] at c1
 rw [hLn] at c2
 rw [hE0] at cE
 have hl13 : ¬ (131072 : Int) < (L : Int) := by omega
 clear hE0 hsd hsd2 hL0 hWn hZn hLn
 go_upto_region 13 with (go_at_call 35; refine hsz.mono ?_; rintro r w' ⟨rfl, hw⟩; obtain rfl := hw.symm; clear hsz)
 clear cE c0 c1 c2 hl13
 obtain ⟨rb8, hrb⟩ : ∃ rb, (stRaw ys (Dlt.s4 ys) (W : Nat)).1 = rb := ⟨_, rfl⟩
 obtain ⟨rn8, hrn⟩ : ∃ rn, rb8.length = rn := ⟨_, rfl⟩
 obtain ⟨I8, hI⟩ : ∃ I, pad rb8 = I := ⟨_, rfl⟩
 have hIl : I8.length = 32 := by rw [<-hI]; exact pad_len _
 have HI8 : Hid (idB ys = I8) := by show _ = _; unfold idB; rw [HWN.out, hrb, hI]
 have hr32 : rn8 <= 32 := by rw [<-hrn, <-hrb]; exact Nat.le_trans (raw_len ys (Dlt.s4 ys) W) HW32.out
 have htr := takeraw_st HR8.out (W : Nat)
 rw [hrb, show (stRaw ys (Dlt.s4 ys) (W : Nat)).2 = Dlt.sB ys by unfold Dlt.sB; rw [HWN.out]] at htr
 have HRN := hide hrn
 have HPI := hide hI
 have cw := HS8.out.dAt.c (j := 0) rfl
 have hii : (Tryz.prog.info? 23).map (·.size) = some (bys I8).toArray.size := by rw [List.size_toArray]; exact idlen hIl
 have hib := bys_all I8
 have hsz32 : (bys I8).toArray.size = 32 := by rw [List.size_toArray, bys_length, hIl]
 clear hrb hrn hI
 go_upto_region 14 with (first
  | (go_at_call 37; refine htr.mono ?_; rintro r x8 ⟨⟨ro, rc, rfl, hfr⟩, hkx, hrx⟩; rw [HRN.out]; have hwh := rwhole_ok ro rn8 rc rb8 x8 HRN.out (by omega) hfr.1; rw [HPI.out] at hwh; have HX := hide (ai (HS8.out.call hkx) hrx); clear htr hkx hrx hfr)
  | (go_at_call 36; refine hwh.mono ?_; rintro r y8 ⟨rfl, hky⟩; have hSy := HX.out.1.move hky (by simp); have hth := hSy.dAt.there 4 32 (by omega); have HY := hide (ai hSy (HX.out.2.kept hky (by simp) (by simp))); clear hwh hky hSy HX)
  | refine wpList_store_mid rfl 23 (.tmp 61) (.tmp 60) rfl D 4 (bys I8).toArray rfl rfl (by rw [hsz32]; exact hth) hii hib ?_)
 clear hth hii hib hsz32 cw HS8 HR8 HRN HPI hr32
 have kx : Kept [D] y8 (y8.setCells D 4 (bys I8)) := kept_setCells _ _ _ _ _ (Kept.refl _ _) (by simp)
 have HS9 : Hid (Rst w (y8.setCells D 4 (bys I8)) b R D (W : Int) (Z : Int) (L : Int) 0 I8 z32 (.slice none 0 0)) := HY.out.1.put kx (HY.out.1.dAt.setB I8 hIl)
 have HR9 := hide (HY.out.2.kept kx (by have := HPS.out; simp; omega) (fun hne a ha => by have := HSB.out hne a ha; have := HPS.out; simp; omega))
 clear HY kx hIl
 generalize y8.setCells D 4 (bys I8) = w9 at HS9 HR9 ⊢
 have htn := takenum_st HR9.out
 rw [show (stNumber ys (Dlt.sB ys)).1 = nT ys from rfl, show (stNumber ys (Dlt.sB ys)).2 = Dlt.s5 ys from rfl] at htn
 go_upto_region 15 with (go_at_call 34; refine htn.mono ?_; rintro r x9 ⟨rfl, hkx, hrx⟩; have hSx := HS9.out.call hkx; have cX := hSx.dAt.c (j := 3) rfl; have fX := hSx.dAt.fr 3; have HX := hide (ai hSx hrx); clear htn hkx hrx hSx)
 clear cX fX HS9 HR9
 have kx : Kept [D] x9 (x9.setCell ⟨D, 3, none⟩ (.int .i64 (nT ys))) := (Kept.refl [D] x9).setCell (by simp) _
 have HS10 : Hid (Rst w _ b R D (W : Int) (Z : Int) (L : Int) (nT ys) I8 z32 (.slice none 0 0)) := HX.out.1.put kx (HX.out.1.dAt.setI 3 (nT ys) _ _ _ _ rfl)
 have HR10 := hide (HX.out.2.kept kx (by have := HPS.out; simp; omega) (fun hne a ha => by have := HSB.out hne a ha; have := HPS.out; simp; omega))
 clear HX kx
 generalize x9.setCell ⟨D, 3, none⟩ (.int .i64 (nT ys)) = w10 at HS10 HR10 ⊢
 obtain ⟨rb10, hrb⟩ : ∃ rb, (stRaw ys (Dlt.s5 ys) (W : Nat)).1 = rb := ⟨_, rfl⟩
 obtain ⟨rn10, hrn⟩ : ∃ rn, rb10.length = rn := ⟨_, rfl⟩
 obtain ⟨I10, hI⟩ : ∃ I, pad rb10 = I := ⟨_, rfl⟩
 have hIl : I10.length = 32 := by rw [<-hI]; exact pad_len _
 have HI10 : Hid (idT ys = I10) := by show _ = _; unfold idT; rw [HWN.out, hrb, hI]
 have hr32 : rn10 <= 32 := by rw [<-hrn, <-hrb]; exact Nat.le_trans (raw_len ys (Dlt.s5 ys) W) HW32.out
 have htr := takeraw_st HR10.out (W : Nat)
 rw [hrb, show (stRaw ys (Dlt.s5 ys) (W : Nat)).2 = Dlt.s6 ys by unfold Dlt.s6; rw [HWN.out]] at htr
 have HRN := hide hrn
 have HPI := hide hI
 have cw := HS10.out.dAt.c (j := 0) rfl
 have hii : (Tryz.prog.info? 23).map (·.size) = some (bys I10).toArray.size := by rw [List.size_toArray]; exact idlen hIl
 have hib := bys_all I10
 have hsz32 : (bys I10).toArray.size = 32 := by rw [List.size_toArray, bys_length, hIl]
 clear hrb hrn hI
 go_upto_region 16 with (first
  | (go_at_call 37; refine htr.mono ?_; rintro r x10 ⟨⟨ro, rc, rfl, hfr⟩, hkx, hrx⟩; rw [HRN.out]; have hwh := rwhole_ok ro rn10 rc rb10 x10 HRN.out (by omega) hfr.1; rw [HPI.out] at hwh; have HX := hide (ai (HS10.out.call hkx) hrx); clear htr hkx hrx hfr)
  | (go_at_call 36; refine hwh.mono ?_; rintro r y10 ⟨rfl, hky⟩; have hSy := HX.out.1.move hky (by simp); have hth := hSy.dAt.there 36 32 (by omega); have HY := hide (ai hSy (HX.out.2.kept hky (by simp) (by simp))); clear hwh hky hSy HX)
  | refine wpList_store_mid rfl 23 (.tmp 70) (.tmp 69) rfl D 36 (bys I10).toArray rfl rfl (by rw [hsz32]; exact hth) hii hib ?_)
 clear hth hii hib hsz32 cw HS10 HR10 HRN HPI hr32
 have kx : Kept [D] y10 (y10.setCells D 36 (bys I10)) := kept_setCells _ _ _ _ _ (Kept.refl _ _) (by simp)
 have HS11 : Hid (Rst w (y10.setCells D 36 (bys I10)) b R D (W : Int) (Z : Int) (L : Int) (nT ys) I8 I10 (.slice none 0 0)) := HY.out.1.put kx (HY.out.1.dAt.setT I10 hIl)
 have HR11 := hide (HY.out.2.kept kx (by have := HPS.out; simp; omega) (fun hne a ha => by have := HSB.out hne a ha; have := HPS.out; simp; omega))
 clear HY kx hIl
 generalize y10.setCells D 36 (bys I10) = w11 at HS11 HR11 ⊢
 have htn := takenum_st HR11.out
 rw [show (stNumber ys (Dlt.s6 ys)).1 = nI ys from rfl, show (stNumber ys (Dlt.s6 ys)).2 = Dlt.s7 ys from rfl] at htn
 go_upto_region 17 with (go_at_call 34; refine htn.mono ?_; rintro r w12 ⟨rfl, hkx, hrx⟩; have HS12 := hide (HS11.out.call hkx); have HR12 := hide hrx; clear htn hkx hrx)
 clear HS11 HR11
 have cE := HR12.out.c2
 have c3 := HS12.out.dAt.c (j := 3) rfl
 obtain ⟨e7, he7⟩ := nm ((Dlt.s7 ys).e)
 rw [he7] at cE hbad
 clear he7
 by_cases hE : e7 = 0
 ·have hE1 : (e7 != 0) = false := by simpa using hE
  by_cases hT : nT ys <= 131072
  ·have hN : 2048 < nI ys := by
    apply Classical.byContradiction; intro hc
    exact hbad ⟨hE, hT, by omega⟩
   have hT1 : ¬ 131072 < nT ys := by omega
   clear hbad hE hT
   generalize nT ys = xT at *
   generalize nI ys = xI at *
   go_upto_region 18 with (fail)
   have hrR := HS12.out.rAt
   have HKZ : Hid (Kept [] w (w12.setRow R zeroD)) := HS12.out.kept.trans (kept_row _ _ _) (fun i hi hl => by simp only [List.mem_singleton] at hi; have := HPS.out; omega)
   clear HS12 HR12 cE c3 hE1
   have hbz := Tryz.builtDltZ
   have hiD := Tryz.infoDltA (W := 0) (Z := 0) (L := 0) (N := 0) (v := .slice none 0 0) z32_len z32_len
   have haD : zeroD.all (·.oneCell') = true := dltC_one rfl
   have hrow : (w12.setRow R zeroD).heap[R]? = some (.cells zeroD 34 (0, 0)) := setRow_heap _ _ _ _ _ _ hrR
   go_wp2_with (first
    | refine wpList_buildRun8 rfl 34 #[] rfl #[] (by simp) _ (hbz _) ?_
    | refine wpList_store_rowTo rfl 34 (.tmp 2) (.tmp 87) rfl rfl R zeroD rfl rfl 34 zeroD hrR hiD rfl haD ?_)
   refine ret_row_slot rfl rfl R 34 _ (0, 0) _ rfl hrow Tryz.underlying34 rfl hiD ?_
   exact ⟨ReadE.zero _ _ HNO.out, HKZ.out⟩
  ·have hT1 : 131072 < nT ys := by omega
   clear hbad hE hT
   generalize nT ys = xT at *
   generalize nI ys = xI at *
   go_upto_region 18 with (fail)
   have hrR := HS12.out.rAt
   have HKZ : Hid (Kept [] w (w12.setRow R zeroD)) := HS12.out.kept.trans (kept_row _ _ _) (fun i hi hl => by simp only [List.mem_singleton] at hi; have := HPS.out; omega)
   clear HS12 HR12 cE c3 hE1
   have hbz := Tryz.builtDltZ
   have hiD := Tryz.infoDltA (W := 0) (Z := 0) (L := 0) (N := 0) (v := .slice none 0 0) z32_len z32_len
   have haD : zeroD.all (·.oneCell') = true := dltC_one rfl
   have hrow : (w12.setRow R zeroD).heap[R]? = some (.cells zeroD 34 (0, 0)) := setRow_heap _ _ _ _ _ _ hrR
   go_wp2_with (first
    | refine wpList_buildRun8 rfl 34 #[] rfl #[] (by simp) _ (hbz _) ?_
    | refine wpList_store_rowTo rfl 34 (.tmp 2) (.tmp 87) rfl rfl R zeroD rfl rfl 34 zeroD hrR hiD rfl haD ?_)
   refine ret_row_slot rfl rfl R 34 _ (0, 0) _ rfl hrow Tryz.underlying34 rfl hiD ?_
   exact ⟨ReadE.zero _ _ HNO.out, HKZ.out⟩
 ·have hE1 : (e7 != 0) = true := by simpa using hE
  clear hbad hE
  generalize nT ys = xT at *
  generalize nI ys = xI at *
  go_upto_region 18 with (fail)
  have hrR := HS12.out.rAt
  have HKZ : Hid (Kept [] w (w12.setRow R zeroD)) := HS12.out.kept.trans (kept_row _ _ _) (fun i hi hl => by simp only [List.mem_singleton] at hi; have := HPS.out; omega)
  clear HS12 HR12 cE c3 hE1
  have hbz := Tryz.builtDltZ
  have hiD := Tryz.infoDltA (W := 0) (Z := 0) (L := 0) (N := 0) (v := .slice none 0 0) z32_len z32_len
  have haD : zeroD.all (·.oneCell') = true := dltC_one rfl
  have hrow : (w12.setRow R zeroD).heap[R]? = some (.cells zeroD 34 (0, 0)) := setRow_heap _ _ _ _ _ _ hrR
  go_wp2_with (first
   | refine wpList_buildRun8 rfl 34 #[] rfl #[] (by simp) _ (hbz _) ?_
   | refine wpList_store_rowTo rfl 34 (.tmp 2) (.tmp 87) rfl rfl R zeroD rfl rfl 34 zeroD hrR hiD rfl haD ?_)
  refine ret_row_slot rfl rfl R 34 _ (0, 0) _ rfl hrow Tryz.underlying34 rfl hiD ?_
  exact ⟨ReadE.zero _ _ HNO.out, HKZ.out⟩
theorem wpList_buildOne {ops : Array Oper} {rest : List Oper} {o : Oper} {a : Act} {w : World} {Q : Exit -> Act -> World -> Prop} (hgd : o.guard = none) (t : TypeId) (x : Operand) (ho : o.op = .buildSlice t 1 #[(0, x)]) (u : Value) (hx : a.eval x = u) {v : Value} {w' : World} (hrun : (Instr.buildSlice t 1 #[(0, u)]).run Tryz.prog w = .ok v w')
  (h : wpList Tryz.prog ops Q rest (a.put o.dst v) w') : wpList Tryz.prog ops Q (o :: rest) a w := wpList_buildTwo8 hgd t 1 #[(0, x)] ho #[(0, u)] (by simp [hx]) hrun h
theorem resD {V : World} {R : Nat} {W Z L N : Int} {bid tid : List UInt8} {v : Value} (h : V.heap[R]? = some (.cells zeroD 34 (0, 0))) (hb : bid.length = 32) (ht : tid.length = 32) : (V.setCells R 0 (dltC W Z L N bid tid v).toArray.toList).heap[R]? = some (.cells (dltC W Z L N bid tid v).toArray 34 (0, 0)) := by
 have h' : V.heap[R]? = some (.cells (dltC 0 0 0 0 z32 z32 (.slice none 0 0)).toArray 34 (0, 0)) := h
 have hl := dltC_len (W := W) (Z := Z) (L := L) (N := N) (v := v) hb ht
 have hl0 := dltC_len (W := 0) (Z := 0) (L := 0) (N := 0) (v := .slice none 0 0) z32_len z32_len
 rw [List.toList_toArray, setCells_row _ _ _ _ _ _ h' (by rw [hl, hl0]; omega), setRow_heap _ _ _ _ _ _ h', hl, List.drop_of_length_le (by rw [hl0]; omega)]
 simp
theorem StepsAt.base {b b' : Nat} {w : World} {v : Value} {T : List Stc} (h : StepsAt b w v T) (hb : b' <= b) : StepsAt b' w v T := ⟨own_base h.own hb, fun x hx => ⟨(h.lit x hx).1, fun a ha => ⟨Nat.le_trans hb ((h.lit x hx).2 a ha).1, ((h.lit x hx).2 a ha).2⟩⟩⟩
theorem rread_loop (ao : Option Addr) (n cap : Nat) (xs : List UInt8) (w : World) (h : InB8 w ao n cap xs) (dd : Option Dta) (ys : List UInt8) (ho : openB xs = some ys) (hmk : mk ys = 68) (hok : (Dlt.s4 ys).e = 0 ∧ (isW (nW ys) && isZ (nZ ys)) = true ∧ nL ys <= 131072) (hok2 : (Dlt.s7 ys).e = 0 ∧ nT ys <= 131072 ∧ nI ys <= 2048) (hrh : rheadOk ys = true) (hdd : dd = rdD ys) :
  Calls Tryz.prog 9 #[.slice ao n cap] w fun e w' => ReadE w w' e dd ∧ Kept [] w w' := by
 have HRH := hide hrh
 have HDD := hide hdd
 clear hrh hdd
 have hz := Tryz.zeroDlt
 have K0 := ka w (.cells zeroD 34)
 have hr0 := heap_new w (.cells zeroD 34)
 have hop := ropened_ok ao n cap xs _ (h.kept K0)
 rw [ho] at hop
 have H := hide h
 obtain ⟨R, hR⟩ := nm (w.heap.size)
 rw [hR] at hr0
 have HRW := hide hR
 clear h ho
 go_enter Tryz.func9, Tryz.ntmps9
 go_upto_region 1 with (fail)
 try rw [hR]
 clear hR
 generalize w.alloc (.cells zeroD 34) = w1 at *
 go_upto_region 4 with (go_at_call 32; refine hop.mono ?_; rintro r w2 ⟨⟨rfl, hys, h4, h13⟩, hk2⟩; have H2 := hide (ai hys (ai h4 (ai h13 hk2))); clear hop hys h4 h13 hk2)
 obtain ⟨m, hm⟩ := nm (n - 4)
 have HK2 := hide (K0.tr H2.out.2.2.2)
 have hyl : ys.length = m := by rw [H2.out.1, List.length_take, H.out.len, <-hm]; omega
 have hm13 : m <= 131072 := by have := H2.out.2.2.1; omega
 have hsy : Sl w ao ys := by rw [H2.out.1]; exact H.out.sl.take _
 have HSB : Hid (ys ≠ [] -> ∀ a, ao = some a -> a.block < w.heap.size) := fun hne a ha => by
  obtain ⟨bb, off, e, hb, _⟩ := hsy.open hne
  rw [e] at ha; injection ha with ha; subst ha; exact hb
 have hbR := Tryz.builtR ao m cap
 have hrf := Rf.new (hsy.kept HK2.out (by simp)) hyl (by have := H.out.le; omega : m <= cap) (by omega)
 obtain ⟨b, hb⟩ := nm (w2.heap.size)
 have HRb : Hid (w.heap.size = R ∧ R < b) := ⟨HRW.out, by have := heap_lt hr0; have := H2.out.2.2.2.size; omega⟩
 have hr2 := (H2.out.2.2.2.block R (heap_lt hr0) (by simp)).trans hr0
 rw [hb] at hrf
 rw [hm]
 clear hm hr0 K0
 go_upto_region 5 with (refine wpList_buildRun8 rfl 79 #[(0, .tmp 21)] rfl #[(0, .slice ao m cap)] (by simp [Act.eval]) _ (hbR _) ?_)
 have k3 := ka w2 (.cells #[.slice ao m cap, .int .i64 0, .int .i64 0, .int .i64 0] 79)
 try rw [hb]
 have HS3 : Hid (Kept [] w (w2.alloc (.cells #[.slice ao m cap, .int .i64 0, .int .i64 0, .int .i64 0] 79)) ∧ (w2.alloc (.cells #[.slice ao m cap, .int .i64 0, .int .i64 0, .int .i64 0] 79)).heap[R]? = some (.cells zeroD 34 (0, 0))) := ⟨HK2.out.tr k3, (k3.block R (heap_lt hr2) (by simp)).trans hr2⟩
 have hR3 : RfS (w2.alloc (.cells #[.slice ao m cap, .int .i64 0, .int .i64 0, .int .i64 0] 79)) b ao cap ys ⟨0, 0, 0⟩ := hrf
 clear hrf hr2 k3 hb hbR HK2 H2
 generalize w2.alloc (.cells #[.slice ao m cap, .int .i64 0, .int .i64 0, .int .i64 0] 79) = w3 at HS3 hR3 ⊢
 have htf := takefix_st hR3 1
 clear hR3
 rw [show (stFixed ys ⟨0, 0, 0⟩ 1).1 = mk ys from rfl, show (stFixed ys ⟨0, 0, 0⟩ 1).2 = Dlt.s1 ys from rfl, hmk] at htf
 clear hmk
 go_upto_region 7 with (go_at_call 33; refine htf.mono ?_; rintro r w4 ⟨rfl, hk4, hr4⟩; have H4 := hide (ai hk4 hr4); clear htf hk4 hr4)
 obtain ⟨D, hD⟩ := nm (w4.heap.size)
 have kd := ka w4 (.cells zeroD 34)
 have hdd0 : DltAt (w4.alloc (.cells zeroD 34)) D 0 0 0 0 z32 z32 (.slice none 0 0) := ⟨by rw [<-hD]; exact heap_new w4 _, z32_len, z32_len⟩
 have HPS : Hid (w.heap.size = R ∧ R < b ∧ b < D) := ⟨HRb.out.1, HRb.out.2, by have := H4.out.2.lt; omega⟩
 have HS5 : Hid (Rst w (w4.alloc (.cells zeroD 34)) b R D 0 0 0 0 z32 z32 (.slice none 0 0)) := by
  have hk34 : Kept [] w w4 := HS3.out.1.trans H4.out.1 (fun i hi hl => by simp only [List.mem_singleton] at hi; have := HRb.out; omega)
  have hr4 := (H4.out.1.block R (heap_lt HS3.out.2) (by have := HRb.out; simp; omega)).trans HS3.out.2
  exact ⟨hk34.tr kd, (kd.block R (heap_lt hr4) (by simp)).trans hr4, hdd0, HPS.out⟩
 have HR5 := hide (H4.out.2.kept kd (by simp) (by simp))
 clear HS3 hdd0 kd H4 HRb HRW
 go_upto_region 8 with (fail)
 try rw [hD]
 clear hD hz
 generalize w4.alloc (.cells zeroD 34) = w5 at HS5 HR5 ⊢
 have htn := takenum_st HR5.out
 rw [show (stNumber ys (Dlt.s1 ys)).1 = nW ys from rfl, show (stNumber ys (Dlt.s1 ys)).2 = Dlt.s2 ys from rfl] at htn
 go_upto_region 9 with (go_at_call 34; refine htn.mono ?_; rintro r x5 ⟨rfl, hkx, hrx⟩; have hSx := HS5.out.call hkx; have cX := hSx.dAt.c (j := 0) rfl; have fX := hSx.dAt.fr 0; have HX := hide (ai hSx hrx); clear htn hkx hrx hSx)
 clear cX fX HS5 HR5
 have kx : Kept [D] x5 (x5.setCell ⟨D, 0, none⟩ (.int .i64 (nW ys))) := (Kept.refl [D] x5).setCell (by simp) _
 have HS6 : Hid (Rst w _ b R D (nW ys) 0 0 0 z32 z32 (.slice none 0 0)) := HX.out.1.put kx (HX.out.1.dAt.setI 0 (nW ys) _ _ _ _ rfl)
 have HR6 := hide (HX.out.2.kept kx (by have := HPS.out; simp; omega) (fun hne a ha => by have := HSB.out hne a ha; have := HPS.out; simp; omega))
 clear HX kx
 generalize x5.setCell ⟨D, 0, none⟩ (.int .i64 (nW ys)) = w6 at HS6 HR6 ⊢
 have htn := takenum_st HR6.out
 rw [show (stNumber ys (Dlt.s2 ys)).1 = nZ ys from rfl, show (stNumber ys (Dlt.s2 ys)).2 = Dlt.s3 ys from rfl] at htn
 go_upto_region 10 with (go_at_call 34; refine htn.mono ?_; rintro r x6 ⟨rfl, hkx, hrx⟩; have hSx := HS6.out.call hkx; have cX := hSx.dAt.c (j := 1) rfl; have fX := hSx.dAt.fr 1; have HX := hide (ai hSx hrx); clear htn hkx hrx hSx)
 clear cX fX HS6 HR6
 have kx : Kept [D] x6 (x6.setCell ⟨D, 1, none⟩ (.int .i64 (nZ ys))) := (Kept.refl [D] x6).setCell (by simp) _
 have HS7 : Hid (Rst w _ b R D (nW ys) (nZ ys) 0 0 z32 z32 (.slice none 0 0)) := HX.out.1.put kx (HX.out.1.dAt.setI 1 (nZ ys) _ _ _ _ rfl)
 have HR7 := hide (HX.out.2.kept kx (by have := HPS.out; simp; omega) (fun hne a ha => by have := HSB.out hne a ha; have := HPS.out; simp; omega))
 clear HX kx
 generalize x6.setCell ⟨D, 1, none⟩ (.int .i64 (nZ ys)) = w7 at HS7 HR7 ⊢
 have htn := takenum_st HR7.out
 rw [show (stNumber ys (Dlt.s3 ys)).1 = nL ys from rfl, show (stNumber ys (Dlt.s3 ys)).2 = Dlt.s4 ys from rfl] at htn
 go_upto_region 11 with (go_at_call 34; refine htn.mono ?_; rintro r x7 ⟨rfl, hkx, hrx⟩; have hSx := HS7.out.call hkx; have cX := hSx.dAt.c (j := 2) rfl; have fX := hSx.dAt.fr 2; have HX := hide (ai hSx hrx); clear htn hkx hrx hSx)
 clear cX fX HS7 HR7
 have kx : Kept [D] x7 (x7.setCell ⟨D, 2, none⟩ (.int .i64 (nL ys))) := (Kept.refl [D] x7).setCell (by simp) _
 have HS8 : Hid (Rst w _ b R D (nW ys) (nZ ys) (nL ys) 0 z32 z32 (.slice none 0 0)) := HX.out.1.put kx (HX.out.1.dAt.setI 2 (nL ys) _ _ _ _ rfl)
 have HR8 := hide (HX.out.2.kept kx (by have := HPS.out; simp; omega) (fun hne a ha => by have := HSB.out hne a ha; have := HPS.out; simp; omega))
 clear HX kx
 generalize x7.setCell ⟨D, 2, none⟩ (.int .i64 (nL ys)) = w8 at HS8 HR8 ⊢
 have cE := HR8.out.c2
 have c0 := HS8.out.dAt.c (j := 0) rfl
 have c1 := HS8.out.dAt.c (j := 1) rfl
 have c2 := HS8.out.dAt.c (j := 2) rfl
 have hsz := rsized_ok (nW ys) (nZ ys) w8
 obtain ⟨hE0, hsd, hL0⟩ := hok
 have hsd2 := hsd
 rw [Bool.and_eq_true, isW, isZ, Dlt.within_iff, Dlt.within_iff] at hsd2
 obtain ⟨W, hWn⟩ := Int.eq_ofNat_of_zero_le (show 0 <= nW ys by omega)
 obtain ⟨Z, hZn⟩ := Int.eq_ofNat_of_zero_le (show 0 <= nZ ys by omega)
 obtain ⟨L, hLn⟩ := Int.eq_ofNat_of_zero_le (show 0 <= nL ys from (stNumber_le ys (Dlt.s3 ys)).1)
 have HW32 : Hid (W <= 32) := by show _ <= _; omega
 have HZ1 : Hid (16 <= Z ∧ Z <= 4096 ∧ L <= 131072) := ⟨by omega, by omega, by omega⟩
 have HWN := hide hWn
 have HZN := hide hZn
 have HLN := hide hLn
 rw [hWn, hZn, hLn] at HS8
 rw [hsd, hWn, hZn] at hsz
 rw [hWn] at c0
 rw [hZn] at c1
 rw [hLn] at c2
 rw [hE0] at cE
 have hl13 : ¬ (131072 : Int) < (L : Int) := by omega
 clear hE0 hsd hsd2 hL0 hWn hZn hLn
 go_upto_region 13 with (go_at_call 35; refine hsz.mono ?_; rintro r w' ⟨rfl, hw⟩; obtain rfl := hw.symm; clear hsz)
 clear cE c0 c1 c2 hl13
 obtain ⟨rb8, hrb⟩ : ∃ rb, (stRaw ys (Dlt.s4 ys) (W : Nat)).1 = rb := ⟨_, rfl⟩
 obtain ⟨rn8, hrn⟩ : ∃ rn, rb8.length = rn := ⟨_, rfl⟩
 obtain ⟨I8, hI⟩ : ∃ I, pad rb8 = I := ⟨_, rfl⟩
 have hIl : I8.length = 32 := by rw [<-hI]; exact pad_len _
 have HI8 : Hid (idB ys = I8) := by show _ = _; unfold idB; rw [HWN.out, hrb, hI]
 have hr32 : rn8 <= 32 := by rw [<-hrn, <-hrb]; exact Nat.le_trans (raw_len ys (Dlt.s4 ys) W) HW32.out
 have htr := takeraw_st HR8.out (W : Nat)
 rw [hrb, show (stRaw ys (Dlt.s4 ys) (W : Nat)).2 = Dlt.sB ys by unfold Dlt.sB; rw [HWN.out]] at htr
 have HRN := hide hrn
 have HPI := hide hI
 have cw := HS8.out.dAt.c (j := 0) rfl
 have hii : (Tryz.prog.info? 23).map (·.size) = some (bys I8).toArray.size := by rw [List.size_toArray]; exact idlen hIl
 have hib := bys_all I8
 have hsz32 : (bys I8).toArray.size = 32 := by rw [List.size_toArray, bys_length, hIl]
 clear hrb hrn hI
 go_upto_region 14 with (first
  | (go_at_call 37; refine htr.mono ?_; rintro r x8 ⟨⟨ro, rc, rfl, hfr⟩, hkx, hrx⟩; rw [HRN.out]; have hwh := rwhole_ok ro rn8 rc rb8 x8 HRN.out (by omega) hfr.1; rw [HPI.out] at hwh; have HX := hide (ai (HS8.out.call hkx) hrx); clear htr hkx hrx hfr)
  | (go_at_call 36; refine hwh.mono ?_; rintro r y8 ⟨rfl, hky⟩; have hSy := HX.out.1.move hky (by simp); have hth := hSy.dAt.there 4 32 (by omega); have HY := hide (ai hSy (HX.out.2.kept hky (by simp) (by simp))); clear hwh hky hSy HX)
  | refine wpList_store_mid rfl 23 (.tmp 61) (.tmp 60) rfl D 4 (bys I8).toArray rfl rfl (by rw [hsz32]; exact hth) hii hib ?_)
 clear hth hii hib hsz32 cw HS8 HR8 HRN HPI hr32
 have kx : Kept [D] y8 (y8.setCells D 4 (bys I8)) := kept_setCells _ _ _ _ _ (Kept.refl _ _) (by simp)
 have HS9 : Hid (Rst w (y8.setCells D 4 (bys I8)) b R D (W : Int) (Z : Int) (L : Int) 0 I8 z32 (.slice none 0 0)) := HY.out.1.put kx (HY.out.1.dAt.setB I8 hIl)
 have HR9 := hide (HY.out.2.kept kx (by have := HPS.out; simp; omega) (fun hne a ha => by have := HSB.out hne a ha; have := HPS.out; simp; omega))
 clear HY kx hIl
 generalize y8.setCells D 4 (bys I8) = w9 at HS9 HR9 ⊢
 have htn := takenum_st HR9.out
 rw [show (stNumber ys (Dlt.sB ys)).1 = nT ys from rfl, show (stNumber ys (Dlt.sB ys)).2 = Dlt.s5 ys from rfl] at htn
 go_upto_region 15 with (go_at_call 34; refine htn.mono ?_; rintro r x9 ⟨rfl, hkx, hrx⟩; have hSx := HS9.out.call hkx; have cX := hSx.dAt.c (j := 3) rfl; have fX := hSx.dAt.fr 3; have HX := hide (ai hSx hrx); clear htn hkx hrx hSx)
 clear cX fX HS9 HR9
 have kx : Kept [D] x9 (x9.setCell ⟨D, 3, none⟩ (.int .i64 (nT ys))) := (Kept.refl [D] x9).setCell (by simp) _
 have HS10 : Hid (Rst w _ b R D (W : Int) (Z : Int) (L : Int) (nT ys) I8 z32 (.slice none 0 0)) := HX.out.1.put kx (HX.out.1.dAt.setI 3 (nT ys) _ _ _ _ rfl)
 have HR10 := hide (HX.out.2.kept kx (by have := HPS.out; simp; omega) (fun hne a ha => by have := HSB.out hne a ha; have := HPS.out; simp; omega))
 clear HX kx
 generalize x9.setCell ⟨D, 3, none⟩ (.int .i64 (nT ys)) = w10 at HS10 HR10 ⊢
 obtain ⟨rb10, hrb⟩ : ∃ rb, (stRaw ys (Dlt.s5 ys) (W : Nat)).1 = rb := ⟨_, rfl⟩
 obtain ⟨rn10, hrn⟩ : ∃ rn, rb10.length = rn := ⟨_, rfl⟩
 obtain ⟨I10, hI⟩ : ∃ I, pad rb10 = I := ⟨_, rfl⟩
 have hIl : I10.length = 32 := by rw [<-hI]; exact pad_len _
 have HI10 : Hid (idT ys = I10) := by show _ = _; unfold idT; rw [HWN.out, hrb, hI]
 have hr32 : rn10 <= 32 := by rw [<-hrn, <-hrb]; exact Nat.le_trans (raw_len ys (Dlt.s5 ys) W) HW32.out
 have htr := takeraw_st HR10.out (W : Nat)
 rw [hrb, show (stRaw ys (Dlt.s5 ys) (W : Nat)).2 = Dlt.s6 ys by unfold Dlt.s6; rw [HWN.out]] at htr
 have HRN := hide hrn
 have HPI := hide hI
 have cw := HS10.out.dAt.c (j := 0) rfl
 have hii : (Tryz.prog.info? 23).map (·.size) = some (bys I10).toArray.size := by rw [List.size_toArray]; exact idlen hIl
 have hib := bys_all I10
 have hsz32 : (bys I10).toArray.size = 32 := by rw [List.size_toArray, bys_length, hIl]
 clear hrb hrn hI
 go_upto_region 16 with (first
  | (go_at_call 37; refine htr.mono ?_; rintro r x10 ⟨⟨ro, rc, rfl, hfr⟩, hkx, hrx⟩; rw [HRN.out]; have hwh := rwhole_ok ro rn10 rc rb10 x10 HRN.out (by omega) hfr.1; rw [HPI.out] at hwh; have HX := hide (ai (HS10.out.call hkx) hrx); clear htr hkx hrx hfr)
  | (go_at_call 36; refine hwh.mono ?_; rintro r y10 ⟨rfl, hky⟩; have hSy := HX.out.1.move hky (by simp); have hth := hSy.dAt.there 36 32 (by omega); have HY := hide (ai hSy (HX.out.2.kept hky (by simp) (by simp))); clear hwh hky hSy HX)
  | refine wpList_store_mid rfl 23 (.tmp 70) (.tmp 69) rfl D 36 (bys I10).toArray rfl rfl (by rw [hsz32]; exact hth) hii hib ?_)
 clear hth hii hib hsz32 cw HS10 HR10 HRN HPI hr32
 have kx : Kept [D] y10 (y10.setCells D 36 (bys I10)) := kept_setCells _ _ _ _ _ (Kept.refl _ _) (by simp)
 have HS11 : Hid (Rst w (y10.setCells D 36 (bys I10)) b R D (W : Int) (Z : Int) (L : Int) (nT ys) I8 I10 (.slice none 0 0)) := HY.out.1.put kx (HY.out.1.dAt.setT I10 hIl)
 have HR11 := hide (HY.out.2.kept kx (by have := HPS.out; simp; omega) (fun hne a ha => by have := HSB.out hne a ha; have := HPS.out; simp; omega))
 clear HY kx hIl
 generalize y10.setCells D 36 (bys I10) = w11 at HS11 HR11 ⊢
 have htn := takenum_st HR11.out
 rw [show (stNumber ys (Dlt.s6 ys)).1 = nI ys from rfl, show (stNumber ys (Dlt.s6 ys)).2 = Dlt.s7 ys from rfl] at htn
 go_upto_region 17 with (go_at_call 34; refine htn.mono ?_; rintro r w12 ⟨rfl, hkx, hrx⟩; have HS12 := hide (HS11.out.call hkx); have HR12 := hide hrx; clear htn hkx hrx)
 clear HS11 HR11
 have cE := HR12.out.c2
 have c3 := HS12.out.dAt.c (j := 3) rfl
 obtain ⟨hE7, hT0, hI0⟩ := hok2
 obtain ⟨t, hTn⟩ := Int.eq_ofNat_of_zero_le (show 0 <= nT ys from (stNumber_le ys (Dlt.sB ys)).1)
 obtain ⟨M, hMn⟩ := Int.eq_ofNat_of_zero_le (show 0 <= nI ys from (stNumber_le ys (Dlt.s6 ys)).1)
 have hM2 : M <= 2048 := by omega
 have HTN := hide hTn
 have HMN := hide hMn
 have HE7 := hide hE7
 rw [hTn] at HS12 c3
 rw [hE7] at cE
 rw [hMn]
 have hT1 : ¬ (131072 : Int) < (t : Int) := by omega
 have hI1 : ¬ (2048 : Int) < (M : Int) := by omega
 clear hE7 hT0 hI0 hTn hMn
 go_upto_region 19 with (fail)
 clear cE c3 hT1 hI1
 obtain ⟨B, hB⟩ := nm (w12.heap.size)
 have HDB : Hid (w.heap.size = R ∧ R < b ∧ b < D ∧ D < B) := ⟨HPS.out.1, HPS.out.2.1, HPS.out.2.2, by rw [<-hB]; exact heap_lt HS12.out.dAt.row⟩
 have HCB : Hid (cntB ys = L / Z) := by
  show _ = _
  unfold cntB
  rw [HLN.out, HZN.out, <-Int.natCast_ediv, Int.toNat_natCast]
 have HIN : Hid (∃ p T v, rdIs ys (L / Z) (Dlt.s7 ys) 0 = some p ∧ 0 = total Z p.1 ∧ RfS w12 b ao cap ys p.2 ∧ Rst w w12 b R D (W : Int) (Z : Int) (L : Int) (t : Int) I8 I10 v ∧ StepsAt B w12 v T ∧ T.map Stc.s = p.1 ∧ B <= w12.heap.size) := ⟨([], Dlt.s7 ys), [], .slice none 0 0, rfl, rfl, HR12.out, HS12.out, StepsAt.nil _ _, rfl, by rw [hB]; exact Nat.le_refl _⟩
 clear HS12 HR12 hB
 go_wp2
 go_loopw [9, 10] (fun x y wr => ∃ k tot : Nat, k <= M ∧ tot <= k * 131072 ∧ x = .int .i64 tot ∧ y = .int .i64 k ∧ Hid (∃ p T v, rdIs ys (L / Z) (Dlt.s7 ys) k = some p ∧ tot = total Z p.1 ∧ RfS wr b ao cap ys p.2 ∧ Rst w wr b R D (W : Int) (Z : Int) (L : Int) (t : Int) I8 I10 v ∧ StepsAt B wr v T ∧ T.map Stc.s = p.1 ∧ B <= wr.heap.size)) (fun x y wr => M - (intOf y).toNat)
 case atStart => exact ⟨0, 0, Nat.zero_le _, by omega, rfl, rfl, HIN⟩
 case round =>
  clear HIN
  obtain ⟨k, tot, hk, htot, rfl, rfl, HP⟩ := hrel
  obtain ⟨p, T, v, hp, htt, hR, hS, hA, hTm, hBs⟩ := HP.out
  clear HP
  obtain ⟨lo, lc, rfl, hlc⟩ := hA.shape
  obtain ⟨q, hq⟩ := nm (T.length)
  rw [hq] at hS hA hlc
  have hqk : q = k := by
   have h1 := rdIs_len hp
   rw [<-hTm, List.length_map] at h1
   omega
  have HQ := hide hq
  by_cases hlt : k < M
  ·have hdl := hS.dAt.range
   have hil := Tryz.infoDlt (W := (W : Int)) (Z := (Z : Int)) (L := (L : Int)) (N := (t : Int)) (v := .slice lo q lc) hS.dAt.hb hS.dAt.ht
   have hst := rstep_ok hR (dltC (W : Int) (Z : Int) (L : Int) (t : Int) I8 I10 (.slice lo q lc)) Z L rfl rfl HZ1.out.1 HZ1.out.2.1 HZ1.out.2.2
   have HS := hide hS
   have HA := hide hA
   have HTM := hide hTm
   have HBS := hide hBs
   have HPP := hide hp
   have HTT := hide htt
   have HQK := hide hqk
   have HLC := hide hlc
   cases hi : rdI ys (L / Z) p.2 with
   | none =>
    rw [hi] at hst
    have HNO : Hid (dd = none) := by
     show _ = _
     rw [HDD.out]
     unfold rdD
     split
     ·rfl
     ·have h1 : rdIs ys (cntB ys) (Dlt.s7 ys) (nI ys).toNat = none := by
       rw [HCB.out, HMN.out, show ((M : Nat) : Int).toNat = k + 1 + (M - (k + 1)) by omega]
       refine rdIs_none ?_ _
       rw [rdIs_next HPP.out, hi]; rfl
      rw [h1]
    clear hi hS hA hTm hBs hp htt hR hlc hq hqk
    go_upto_region 25 with (first
     | refine wpList_load_mid rfl 34 (.tmp 7) rfl D 0 rfl (dltC (W : Int) (Z : Int) (L : Int) (t : Int) I8 I10 (.slice lo q lc)) _ hdl Tryz.underlying34 rfl hil ?_
     | (go_at_call 38; refine hst.mono ?_; rintro r y0 ⟨⟨f, c, so, sn, sc, rfl⟩, hky⟩; have hox := heap_new y0 (.cells (stp3 0 0 (.slice none 0 0)).toArray 39); have HY := hide hky; have hzx := Tryz.zeroStp; have hiS := Tryz.infoStpA f c (.slice so sn sc); have haS := stp3_all f c (.slice so sn sc) rfl; clear hst hky)
     | refine wpList_store_rowTo rfl 39 (.tmp 11) (.tmp 97) rfl rfl y0.heap.size (stp3 f c (.slice so sn sc)).toArray rfl rfl 39 (stp3 0 0 (.slice none 0 0)).toArray hox hiS rfl haS ?_)
    have ky : Kept [] y0 ((y0.alloc (.cells (stp3 0 0 (.slice none 0 0)).toArray 39)).setRow y0.heap.size (stp3 f c (.slice so sn sc)).toArray) := ((Kept.refl [] y0).alloc _).trans (kept_row _ y0.heap.size _) (fun i hi hl => by simp only [List.mem_singleton] at hi; omega)
    have hSy := (HS.out.call HY.out).move ky (by simp)
    clear hox hiS haS ky HY hdl hil hzx
    generalize (y0.alloc (.cells (stp3 0 0 (.slice none 0 0)).toArray 39)).setRow y0.heap.size (stp3 f c (.slice so sn sc)).toArray = y1 at hSy ⊢
    have hrR := hSy.rAt
    have HKZ : Hid (Kept [] w (y1.setRow R zeroD)) := hSy.kept.trans (kept_row _ _ _) (fun i hi hl => by simp only [List.mem_singleton] at hi; have := HDB.out; omega)
    clear hSy HS HA HTM HBS HPP HTT HQK HLC
    have hbz := Tryz.builtDltZ
    have hiD := Tryz.infoDltA (W := 0) (Z := 0) (L := 0) (N := 0) (v := .slice none 0 0) z32_len z32_len
    have haD : zeroD.all (·.oneCell') = true := dltC_one rfl
    have hrow : (y1.setRow R zeroD).heap[R]? = some (.cells zeroD 34 (0, 0)) := setRow_heap _ _ _ _ _ _ hrR
    go_wp2_with (first
     | refine wpList_buildRun8 rfl 34 #[] rfl #[] (by simp) _ (hbz _) ?_
     | refine wpList_store_rowTo rfl 34 (.tmp 2) (.tmp 101) rfl rfl R zeroD rfl rfl 34 zeroD hrR hiD rfl haD ?_)
    refine ret_row_slot rfl rfl R 34 _ (0, 0) _ rfl hrow Tryz.underlying34 rfl hiD ?_
    exact ⟨ReadE.zero _ _ HNO.out, HKZ.out⟩
   | some qq =>
    rw [hi] at hst
    obtain ⟨i, s'⟩ := qq
    have HNX : Hid (rdIs ys (L / Z) (Dlt.s7 ys) (k + 1) = some (p.1 ++ [i], s')) := by
     show _ = _
     rw [rdIs_next HPP.out, hi]; rfl
    have hlen := rdI_len (z := Z) hi (by have := Nat.div_mul_le_self L Z; have := HZ1.out.2.2; omega)
    have hlen2 : i.len Z <= 131072 := hlen
    rw [stp_len] at hlen2
    have HTO : Hid (tot + stN i * Z + (stB i).length = total Z (p.1 ++ [i])) := by
     show _ = _
     rw [total_snoc, stp_len, <-HTT.out, Nat.add_assoc]
    clear hi hS hA hTm hBs hp htt hR hlc hq hqk hlen
    obtain ⟨cn, hcn⟩ := nm (stN i)
    obtain ⟨bl, hbl⟩ := nm ((stB i).length)
    obtain ⟨cz, hcz⟩ := nm (cn * Z)
    rw [hcn, hbl, hcz] at hlen2 HTO
    have HCN := hide hcn
    have HBL := hide hbl
    have hwc : IntKind.i64.wrap ((cn : Int) * (Z : Int)) = (cz : Int) := by
     rw [<-hcz, <-Int.natCast_mul]
     exact wrap64 (by omega) (by rw [hcz]; omega)
    have hcz2 : cz <= 131072 := by omega
    have hbl2 : bl <= 131072 := by omega
    have htot2 : tot <= 268435456 := by omega
    have hw1 : IntKind.i64.wrap ((tot : Int) + (cz : Int)) = (tot : Int) + (cz : Int) := wrap64 (by omega) (by omega)
    have hw2 : IntKind.i64.wrap ((tot : Int) + (cz : Int) + (bl : Int)) = (tot : Int) + (cz : Int) + (bl : Int) := wrap64 (by omega) (by omega)
    clear hcn hbl hcz
    go_upto_region 26 with (first
     | refine wpList_load_mid rfl 34 (.tmp 7) rfl D 0 rfl (dltC (W : Int) (Z : Int) (L : Int) (t : Int) I8 I10 (.slice lo q lc)) _ hdl Tryz.underlying34 rfl hil ?_
     | (go_at_call 38; refine hst.mono ?_; rintro r y0 ⟨⟨so, sn, sc, rfl, hin, hfar, hrf⟩, hky⟩; rw [HCN.out]; have hsn : sn = bl := (by rw [<-hin.len]; exact HBL.out); subst hsn; have hox := heap_new y0 (.cells (stp3 0 0 (.slice none 0 0)).toArray 39); have HY := hide (ai hky (ai hin (ai hfar hrf))); have hzx := Tryz.zeroStp; have hiS := Tryz.infoStpA (stF i) cn (.slice so sn sc); have haS := stp3_all (stF i) cn (.slice so sn sc) rfl; clear hst hky hin hfar hrf)
     | refine wpList_store_rowTo rfl 39 (.tmp 11) (.tmp 97) rfl rfl y0.heap.size (stp3 (stF i) cn (.slice so sn sc)).toArray rfl rfl 39 (stp3 0 0 (.slice none 0 0)).toArray hox hiS rfl haS ?_)
    have ky : Kept [] y0 ((y0.alloc (.cells (stp3 0 0 (.slice none 0 0)).toArray 39)).setRow y0.heap.size (stp3 (stF i) cn (.slice so sn sc)).toArray) := ((Kept.refl [] y0).alloc _).trans (kept_row _ y0.heap.size _) (fun i hi hl => by simp only [List.mem_singleton] at hi; omega)
    have HXA : Hid (((y0.alloc (.cells (stp3 0 0 (.slice none 0 0)).toArray 39)).setRow y0.heap.size (stp3 (stF i) cn (.slice so sn sc)).toArray).heap[y0.heap.size]? = some (.cells (stp3 (stF i) cn (.slice so sn sc)).toArray 39 (0, 0))) := setRow_heap _ _ _ _ _ _ hox
    obtain ⟨X, hX⟩ := nm (y0.heap.size)
    rw [hX] at HXA ky ⊢
    have HBX : Hid (B <= X) := by show B <= X; rw [<-hX]; exact Nat.le_trans HBS.out HY.out.1.size
    have HSy := hide ((HS.out.call HY.out.1).move ky (by simp))
    have HRy := hide (HY.out.2.2.2.kept ky (by simp) (by simp))
    have HIy : Hid (InB8 ((y0.alloc (.cells (stp3 0 0 (.slice none 0 0)).toArray 39)).setRow X (stp3 (stF i) cn (.slice so sn sc)).toArray) so sn sc (stB i) ∧ ∀ a, so = some a -> wr.heap.size <= a.block ∧ a.block < ((y0.alloc (.cells (stp3 0 0 (.slice none 0 0)).toArray 39)).setRow X (stp3 (stF i) cn (.slice so sn sc)).toArray).heap.size) := ⟨HY.out.2.1.kept ky, fun a ha => ⟨(HY.out.2.2.1 a ha).1, Nat.lt_of_lt_of_le (HY.out.2.2.1 a ha).2 ky.size⟩⟩
    have HAy := hide ((HA.out.kept HY.out.1 (fun i hi => by simp only [List.mem_singleton] at hi; have := HDB.out; omega)).kept ky (by simp))
    have HBy : Hid (B <= ((y0.alloc (.cells (stp3 0 0 (.slice none 0 0)).toArray 39)).setRow X (stp3 (stF i) cn (.slice so sn sc)).toArray).heap.size) := Nat.le_trans HBX.out (Nat.le_of_lt (heap_lt HXA.out))
    clear hX hox hiS haS ky HY hdl hil hzx HS
    generalize (y0.alloc (.cells (stp3 0 0 (.slice none 0 0)).toArray 39)).setRow X (stp3 (stF i) cn (.slice so sn sc)).toArray = y1 at HXA HSy HRy HIy HAy HBy ⊢
    have cx1 : y1.cell? ⟨X, 1, none⟩ = some (.int .i64 (cn : Int)) := by rw [cell_of_row _ _ _ _ _ _ HXA.out]; rfl
    have cx2 : y1.cell? ⟨X, 2, none⟩ = some (.slice so sn sc) := by rw [cell_of_row _ _ _ _ _ _ HXA.out]; rfl
    have cz1 := HSy.out.dAt.c (j := 1) rfl
    go_upto_region 27 with (fail)
    clear cx1 cx2 cz1 hwc hw1 hw2
    have cv := HSy.out.dAt.cv
    have hxr := range_row HXA.out
    have hi3 := Tryz.infoStp (stF i) cn (.slice so sn sc)
    have hb1 := Tryz.builtS1 (stF i) cn so sn sc y1
    have kz := ka y1 (.cells (stp3 (stF i) cn (.slice so sn sc)).toArray 39)
    have hAz := HAy.out.kept kz (by simp)
    obtain ⟨v', y3, hrun, hA3, hk3⟩ := hAz.add (by have := HQK.out; rw [HQ.out]; omega) (Nat.le_trans HBy.out kz.size) ⟨i, so, sn, sc⟩ (HIy.out.1.kept kz) (fun a ha => by
     have h1 := HIy.out.2 a ha
     refine ⟨Nat.le_trans HBS.out h1.1, Nat.lt_of_lt_of_le h1.2 kz.size, fun hob => ?_⟩
     have h2 := own_blk HA.out.own hob
     omega) y1.heap.size (by rw [show (⟨i, so, sn, sc⟩ : Stc).cells = stp3 (stF i) cn (.slice so sn sc) by rw [<-HCN.out]; rfl]; exact heap_new y1 _)
    obtain ⟨lo3, lc3, rfl, hlc3⟩ := hA3.shape
    obtain ⟨q3, hq3⟩ := nm ((T ++ [(⟨i, so, sn, sc⟩ : Stc)]).length)
    rw [hq3] at hrun hA3
    have hown : ∀ g, g ∈ (Value.slice lo q lc).ownBlock.toList -> B <= g := fun g hg => (own_blk HAy.out.own (by simpa using hg)).1
    have hS3 := (HSy.out.move kz (by simp)).move hk3 (fun g hg => by have := hown g hg; have := HDB.out; omega)
    have hR3 := (HRy.out.kept kz (by simp) (by simp)).kept hk3 (fun hg => by have := hown _ hg; have := HDB.out; omega) (fun hne a ha hg => by have := hown _ hg; have := HSB.out hne a ha; have := HDB.out; omega)
    have c68 := hS3.dAt.cv
    have f68 := hS3.dAt.fr 68
    have kx : Kept [D] y3 (y3.setCell ⟨D, 68, none⟩ (.slice lo3 q3 lc3)) := (Kept.refl [D] y3).setCell (by simp) _
    have HPF : Hid (∃ p T v, rdIs ys (L / Z) (Dlt.s7 ys) (k + 1) = some p ∧ tot + cz + sn = total Z p.1 ∧ RfS (y3.setCell ⟨D, 68, none⟩ (.slice lo3 q3 lc3)) b ao cap ys p.2 ∧ Rst w (y3.setCell ⟨D, 68, none⟩ (.slice lo3 q3 lc3)) b R D (W : Int) (Z : Int) (L : Int) (t : Int) I8 I10 v ∧ StepsAt B (y3.setCell ⟨D, 68, none⟩ (.slice lo3 q3 lc3)) v T ∧ T.map Stc.s = p.1 ∧ B <= (y3.setCell ⟨D, 68, none⟩ (.slice lo3 q3 lc3)).heap.size) := by
     refine ⟨_, T ++ [(⟨i, so, sn, sc⟩ : Stc)], .slice lo3 q3 lc3, HNX.out, HTO.out, hR3.kept kx (by have := HDB.out; simp; omega) (fun hne a ha => by have := HSB.out hne a ha; have := HDB.out; simp; omega), hS3.put kx (hS3.dAt.setV _), hA3.kept kx (fun g hg => by simp only [List.mem_singleton] at hg; have := HDB.out; omega), ?_, ?_⟩
     ·rw [List.map_append, HTM.out]; rfl
     ·exact Nat.le_trans HBy.out (Nat.le_trans kz.size (Nat.le_trans hk3.size kx.size))
    clear hS3 hR3 kx hown hA3 hk3 hAz kz HA HAy HSy HRy HIy HXA HBy HBX HNX HTO HTM HBS HPP HTT HQK HLC hq3 hlc3
    go_upto_region 22 with (first
     | (refine wpList_load_mid rfl 39 (.tmp 11) rfl X 0 rfl (stp3 (stF i) cn (.slice so sn sc)) _ hxr Tryz.underlying39 rfl hi3 ?_; try simp only [z4, z5, z6, z7, z8])
     | (refine wpList_buildOne rfl 32 (.tmp 115) rfl (.agg (stp3 (stF i) cn (.slice so sn sc)).toArray) rfl hb1 ?_; try simp only [z4, z5, z6, z7, z8])
     | (refine wpList_app_run rfl (.tmp 114) (.tmp 116) 32 32 rfl (.slice lo q lc) (.slice (some ⟨y1.heap.size, 0, none⟩) 1 1) rfl rfl (.slice lo3 q3 lc3) y3 hrun ?_; try simp only [z4, z5, z6, z7, z8]))
    clear hxr hb1 hrun c68 f68 cv hi3
    generalize y3.setCell ⟨D, 68, none⟩ (.slice lo3 q3 lc3) = wn at HPF ⊢
    go_wp2
    go_roundw
    case rel => exact ⟨k + 1, tot + cz + sn, by omega, by omega, by go_num, by go_num, HPF⟩
    case measure => simp [intOf]; omega
  ·obtain rfl : k = M := by omega
   have hep := rdIs_e HE7.out hp
   have hb8 := hS.dAt.hb
   have ht10 := hS.dAt.ht
   have cE := hR.c2
   rw [hep] at cE
   obtain ⟨lf, hlf⟩ := nm (stLeft ys p.2)
   have HLF : Hid (∀ W, RfS W b ao cap ys p.2 -> Calls Tryz.prog 39 #[.pointer (some ⟨b, 0, none⟩)] W fun e w' => e = .returned (.int .i64 lf) ∧ Kept [] W w') := fun W hW => (refleft_st hW).mono fun e w' hh => ⟨by rw [hh.1, hlf], by obtain ⟨j, hj⟩ := hh.2; rw [hj]; exact (Kept.refl _ _).drewN j⟩
   have HNR : Hid (b ∉ [R]) := by have := HDB.out; show b ∉ [R]; simp; omega
   have HND : Hid (D ∉ [R]) := by have := HDB.out; show D ∉ [R]; simp; omega
   have c3 := hS.dAt.c (j := 3) rfl
   have HSD := hide hS.dAt
   have hR0 : (World.drew wr).heap[R]? = some (.cells zeroD 34 (0, 0)) := hS.rAt
   have hrf : RfS (World.drew wr) b ao cap ys p.2 := hR.drewN 1
   have hii := Tryz.infoDlt (W := (W : Int)) (Z := (Z : Int)) (L := (L : Int)) (N := (t : Int)) (v := .slice lo q lc) hS.dAt.hb hS.dAt.ht
   have hiA := Tryz.infoDltA (W := (W : Int)) (Z := (Z : Int)) (L := (L : Int)) (N := (t : Int)) (v := .slice lo q lc) hS.dAt.hb hS.dAt.ht
   have hal : (dltC (W : Int) (Z : Int) (L : Int) (t : Int) I8 I10 (.slice lo q lc)).toArray.all (·.oneCell') = true := dltC_one rfl
   have HRD : Hid (∀ V : World, V.heap[R]? = some (.cells zeroD 34 (0, 0)) -> (V.setCells R 0 (dltC (W : Int) (Z : Int) (L : Int) (t : Int) I8 I10 (.slice lo q lc)).toArray.toList).heap[R]? = some (.cells (dltC (W : Int) (Z : Int) (L : Int) (t : Int) I8 I10 (.slice lo q lc)).toArray 34 (0, 0))) := fun V hV => resD hV hS.dAt.hb hS.dAt.ht
   have HK0 := hide hS.kept
   have HAQ := hide (ai hA (ai hTm hq))
   have HDV : Hid (dd = if (decide (lf = 0) && decide ((tot : Int) = (t : Int))) = false then none else some ⟨W, Z, L, I8, t, I10, p.1, hb8, ht10⟩) := by
    show _ = _
    rw [HDD.out]
    unfold rdD
    rw [HRH.out, if_neg (by simp), HCB.out, HMN.out, Int.toNat_natCast, hp]
    simp only [hep, hlf, decide_true, Bool.true_and]
    rw [HZN.out, HTN.out, Int.toNat_natCast, <-htt]
    congr 2
    exact Dta.ext' (by show (nW ys).toNat = _; rw [HWN.out]; rfl) (by rfl) (by show (nL ys).toNat = _; rw [HLN.out]; rfl) HI8.out (by rfl) HI10.out rfl
   clear hp htt hR hS hA hTm hBs hlf hep hlc hq hqk
   go_upto_region 28 with (fail)
   by_cases h0 : lf = 0
   ·have h01 : (lf == 0) = true := by simpa using h0
    by_cases h1 : tot = t
    ·have h11 : ((tot : Int) == (t : Int)) = true := by simp; omega
     have HDV2 : Hid (dd = some ⟨W, Z, L, I8, t, I10, p.1, hb8, ht10⟩) := by
      show _ = _
      rw [HDV.out]; simp [h0, h1]
     clear HDV h0 h1
     refine wp_region_held_drew (S := fun w' => Kept [R] wr w') (by kernel_rfl) ((Kept.refl [R] wr).drew) (fun h0 => ?_)
     generalize World.drew wr = v0 at h0 hrf hR0 ⊢
     refine t4 0 (.agg (dltC (W : Int) (Z : Int) (L : Int) (t : Int) I8 I10 (.slice lo q lc)).toArray) rfl (yieldsIf_load_mid (by rfl) _ _ rfl D 0 rfl (dltC (W : Int) (Z : Int) (L : Int) (t : Int) I8 I10 (.slice lo q lc)) _ (fun W h => (HSD.out.kept h HND.out).range) Tryz.underlying34 rfl hii) h0 ?_
     simp only [zz]
     refine t1 1 (.pointer (some ⟨b, 0, none⟩)) h0 ?_
     simp only [zz]
     refine t1 2 (.pointer (some ⟨b, 0, none⟩)) h0 ?_
     simp only [zz]
     refine t1 3 (.pointer (some ⟨b, 2, none⟩)) h0 ?_
     simp only [zz]
     refine t2 4 (.int .i64 0) rfl h0 ?_ (fun w hSw => by have c0 := Kept.cellOf hSw cE HNR.out; go_simp)
     simp only [zz]
     refine t1 5 (.bool true) h0 ?_
     simp only [zz]
     refine t1 6 (.bool true) h0 ?_
     simp only [zz]
     refine t1 7 (.pointer (some ⟨b, 0, none⟩)) h0 ?_
     simp only [zz]
     refine rd 8 fun K hK => ?_
     go_simp
     refine (HLF.out v0 hrf).mono ?_
     rintro e v1 ⟨rfl, hk8⟩
     have hR1 := (hk8.block R (heap_lt hR0) (by simp)).trans hR0
     clear hrf hR0
     refine hK.out _ _ (h0.tr hk8) (fun h1 => ?_)
     clear hK K
     try simp only [zz]
     clear hk8 h0
     refine t1 9 (.bool true) h1 ?_
     simp only [zz]
     refine t1 10 (.bool true) h1 ?_
     simp only [zz]
     refine t1 11 (.bool true) h1 ?_
     simp only [zz]
     refine t1 12 (.int .i64 tot) h1 ?_
     simp only [zz]
     refine t1 13 (.pointer (some ⟨D, 3, none⟩)) h1 ?_
     simp only [zz]
     refine t2 14 (.int .i64 t) rfl h1 ?_ (fun w hSw => by have c0 := Kept.cellOf hSw c3 HND.out; go_simp)
     simp only [zz]
     refine t1 15 (.bool true) h1 ?_
     simp only [zz]
     refine t1 16 (.bool true) h1 ?_
     simp only [zz]
     refine rd 17 fun K hK => ?_
     refine wp_store_mid 34 (.tmp 2) (.tmp 119) rfl R 0 (dltC (W : Int) (Z : Int) (L : Int) (t : Int) I8 I10 (.slice lo q lc)).toArray rfl rfl (there_row hR1 0 _ (by rw [dltC_size HSD.out.hb HSD.out.ht]; decide)) hiA hal ?_
     refine hK.out _ _ (h1.trans (kept_setCells _ _ _ _ _ (Kept.refl _ _) (by simp) : Kept [R] _ _) (by simp)) (fun h2 => ?_)
     clear hK K
     try simp only [zz]
     refine t1 18 (.bool true) h2 ?_
     simp only [zz]
     refine qd ?_
     have hrow := HRD.out v1 hR1
     have HKZ : Hid (Kept [] w (v1.setCells R 0 (dltC (W : Int) (Z : Int) (L : Int) (t : Int) I8 I10 (.slice lo q lc)).toArray.toList) ∧ Kept [R] wr (v1.setCells R 0 (dltC (W : Int) (Z : Int) (L : Int) (t : Int) I8 I10 (.slice lo q lc)).toArray.toList)) := ⟨HK0.out.trans h2 (fun i hi hl => by simp only [List.mem_singleton] at hi; have := HDB.out; omega), h2⟩
     clear h2 hR1 cE c3 HLF HRD HNR HND
     generalize v1.setCells R 0 (dltC (W : Int) (Z : Int) (L : Int) (t : Int) I8 I10 (.slice lo q lc)).toArray.toList = wz at hrow HKZ ⊢
     go_wp2
     refine ret_row_slot rfl rfl R 34 _ (0, 0) _ rfl hrow Tryz.underlying34 rfl hiA ?_
     refine ⟨?_, HKZ.out.1⟩
     rw [HDV2.out]
     obtain ⟨hA, hTm, hq⟩ := HAQ.out
     have hlq : p.1.length = q := by rw [<-hTm, List.length_map, hq]
     refine ⟨T, lo, lc, hTm, ?_, ?_⟩
     ·show StepsAt _ _ (.slice lo p.1.length lc) T
      rw [hlq]
      exact (hA.kept HKZ.out.2 (fun g hg => by simp only [List.mem_singleton] at hg; have := HDB.out; omega)).base (by have := HDB.out; omega)
     ·show _ = Ending.returned (.tuple #[.agg (dltC (W : Int) (Z : Int) (L : Int) (t : Int) I8 I10 (.slice lo p.1.length lc)).toArray, .bool true])
      rw [hlq]
      rfl
    ·have h11 : ((tot : Int) == (t : Int)) = false := by simp; omega
     have HDV2 : Hid (dd = none) := by
      show _ = _
      have h2 : decide ((tot : Int) = (t : Int)) = false := by simp; omega
      rw [HDV.out, h2, Bool.and_false, if_pos rfl]
     clear HDV h0 h1
     refine wp_region_held_drew (S := fun w' => Kept [R] wr w') (by kernel_rfl) ((Kept.refl [R] wr).drew) (fun h0 => ?_)
     generalize World.drew wr = v0 at h0 hrf hR0 ⊢
     refine t4 0 (.agg (dltC (W : Int) (Z : Int) (L : Int) (t : Int) I8 I10 (.slice lo q lc)).toArray) rfl (yieldsIf_load_mid (by rfl) _ _ rfl D 0 rfl (dltC (W : Int) (Z : Int) (L : Int) (t : Int) I8 I10 (.slice lo q lc)) _ (fun W h => (HSD.out.kept h HND.out).range) Tryz.underlying34 rfl hii) h0 ?_
     simp only [zz]
     refine t1 1 (.pointer (some ⟨b, 0, none⟩)) h0 ?_
     simp only [zz]
     refine t1 2 (.pointer (some ⟨b, 0, none⟩)) h0 ?_
     simp only [zz]
     refine t1 3 (.pointer (some ⟨b, 2, none⟩)) h0 ?_
     simp only [zz]
     refine t2 4 (.int .i64 0) rfl h0 ?_ (fun w hSw => by have c0 := Kept.cellOf hSw cE HNR.out; go_simp)
     simp only [zz]
     refine t1 5 (.bool true) h0 ?_
     simp only [zz]
     refine t1 6 (.bool true) h0 ?_
     simp only [zz]
     refine t1 7 (.pointer (some ⟨b, 0, none⟩)) h0 ?_
     simp only [zz]
     refine rd 8 fun K hK => ?_
     go_simp
     refine (HLF.out v0 hrf).mono ?_
     rintro e v1 ⟨rfl, hk8⟩
     have hR1 := (hk8.block R (heap_lt hR0) (by simp)).trans hR0
     clear hrf hR0
     refine hK.out _ _ (h0.tr hk8) (fun h1 => ?_)
     clear hK K
     try simp only [zz]
     clear hk8 h0
     refine t1 9 (.bool true) h1 ?_
     simp only [zz]
     refine t1 10 (.bool true) h1 ?_
     simp only [zz]
     refine t1 11 (.bool true) h1 ?_
     simp only [zz]
     refine t1 12 (.int .i64 tot) h1 ?_
     simp only [zz]
     refine t1 13 (.pointer (some ⟨D, 3, none⟩)) h1 ?_
     simp only [zz]
     refine t2 14 (.int .i64 t) rfl h1 ?_ (fun w hSw => by have c0 := Kept.cellOf hSw c3 HND.out; go_simp)
     simp only [zz]
     refine t1 15 (.bool false) h1 ?_
     simp only [zz]
     refine t1 16 (.bool false) h1 ?_
     simp only [zz]
     refine rd 17 fun K hK => ?_
     refine wp_store_mid 34 (.tmp 2) (.tmp 119) rfl R 0 (dltC (W : Int) (Z : Int) (L : Int) (t : Int) I8 I10 (.slice lo q lc)).toArray rfl rfl (there_row hR1 0 _ (by rw [dltC_size HSD.out.hb HSD.out.ht]; decide)) hiA hal ?_
     refine hK.out _ _ (h1.trans (kept_setCells _ _ _ _ _ (Kept.refl _ _) (by simp) : Kept [R] _ _) (by simp)) (fun h2 => ?_)
     clear hK K
     try simp only [zz]
     refine t1 18 (.bool false) h2 ?_
     simp only [zz]
     refine qd ?_
     have hrow := HRD.out v1 hR1
     have HKZ : Hid (Kept [] w (v1.setCells R 0 (dltC (W : Int) (Z : Int) (L : Int) (t : Int) I8 I10 (.slice lo q lc)).toArray.toList) ∧ Kept [R] wr (v1.setCells R 0 (dltC (W : Int) (Z : Int) (L : Int) (t : Int) I8 I10 (.slice lo q lc)).toArray.toList)) := ⟨HK0.out.trans h2 (fun i hi hl => by simp only [List.mem_singleton] at hi; have := HDB.out; omega), h2⟩
     clear h2 hR1 cE c3 HLF HRD HNR HND
     generalize v1.setCells R 0 (dltC (W : Int) (Z : Int) (L : Int) (t : Int) I8 I10 (.slice lo q lc)).toArray.toList = wz at hrow HKZ ⊢
     go_wp2
     refine ret_row_slot rfl rfl R 34 _ (0, 0) _ rfl hrow Tryz.underlying34 rfl hiA ?_
     refine ⟨?_, HKZ.out.1⟩
     rw [HDV2.out]
     exact ⟨W, Z, L, t, I8, I10, .slice lo q lc, HSD.out.hb, HSD.out.ht, rfl, rfl⟩
   ·have h01 : (lf == 0) = false := by simpa using h0
    have HDV2 : Hid (dd = none) := by
     show _ = _
     rw [HDV.out, decide_eq_false h0, Bool.false_and, if_pos rfl]
    clear HDV h0
    refine wp_region_held_drew (S := fun w' => Kept [R] wr w') (by kernel_rfl) ((Kept.refl [R] wr).drew) (fun h0 => ?_)
    generalize World.drew wr = v0 at h0 hrf hR0 ⊢
    refine t4 0 (.agg (dltC (W : Int) (Z : Int) (L : Int) (t : Int) I8 I10 (.slice lo q lc)).toArray) rfl (yieldsIf_load_mid (by rfl) _ _ rfl D 0 rfl (dltC (W : Int) (Z : Int) (L : Int) (t : Int) I8 I10 (.slice lo q lc)) _ (fun W h => (HSD.out.kept h HND.out).range) Tryz.underlying34 rfl hii) h0 ?_
    simp only [zz]
    refine t1 1 (.pointer (some ⟨b, 0, none⟩)) h0 ?_
    simp only [zz]
    refine t1 2 (.pointer (some ⟨b, 0, none⟩)) h0 ?_
    simp only [zz]
    refine t1 3 (.pointer (some ⟨b, 2, none⟩)) h0 ?_
    simp only [zz]
    refine t2 4 (.int .i64 0) rfl h0 ?_ (fun w hSw => by have c0 := Kept.cellOf hSw cE HNR.out; go_simp)
    simp only [zz]
    refine t1 5 (.bool true) h0 ?_
    simp only [zz]
    refine t1 6 (.bool true) h0 ?_
    simp only [zz]
    refine t1 7 (.pointer (some ⟨b, 0, none⟩)) h0 ?_
    simp only [zz]
    refine rd 8 fun K hK => ?_
    go_simp
    refine (HLF.out v0 hrf).mono ?_
    rintro e v1 ⟨rfl, hk8⟩
    have hR1 := (hk8.block R (heap_lt hR0) (by simp)).trans hR0
    clear hrf hR0
    refine hK.out _ _ (h0.tr hk8) (fun h1 => ?_)
    clear hK K
    try simp only [zz]
    clear hk8 h0
    refine t1 9 (.bool false) h1 ?_
    simp only [zz]
    refine t1 10 (.bool false) h1 ?_
    simp only [zz]
    refine t1 11 (.bool false) h1 ?_
    simp only [zz]
    refine t3 12 h1 ?_
    simp only [zz]
    refine t3 13 h1 ?_
    simp only [zz]
    refine t3 14 h1 ?_
    simp only [zz]
    refine t3 15 h1 ?_
    simp only [zz]
    refine t1 16 (.bool false) h1 ?_
    simp only [zz]
    refine rd 17 fun K hK => ?_
    refine wp_store_mid 34 (.tmp 2) (.tmp 119) rfl R 0 (dltC (W : Int) (Z : Int) (L : Int) (t : Int) I8 I10 (.slice lo q lc)).toArray rfl rfl (there_row hR1 0 _ (by rw [dltC_size HSD.out.hb HSD.out.ht]; decide)) hiA hal ?_
    refine hK.out _ _ (h1.trans (kept_setCells _ _ _ _ _ (Kept.refl _ _) (by simp) : Kept [R] _ _) (by simp)) (fun h2 => ?_)
    clear hK K
    try simp only [zz]
    refine t1 18 (.bool false) h2 ?_
    simp only [zz]
    refine qd ?_
    have hrow := HRD.out v1 hR1
    have HKZ : Hid (Kept [] w (v1.setCells R 0 (dltC (W : Int) (Z : Int) (L : Int) (t : Int) I8 I10 (.slice lo q lc)).toArray.toList) ∧ Kept [R] wr (v1.setCells R 0 (dltC (W : Int) (Z : Int) (L : Int) (t : Int) I8 I10 (.slice lo q lc)).toArray.toList)) := ⟨HK0.out.trans h2 (fun i hi hl => by simp only [List.mem_singleton] at hi; have := HDB.out; omega), h2⟩
    clear h2 hR1 cE c3 HLF HRD HNR HND
    generalize v1.setCells R 0 (dltC (W : Int) (Z : Int) (L : Int) (t : Int) I8 I10 (.slice lo q lc)).toArray.toList = wz at hrow HKZ ⊢
    go_wp2
    refine ret_row_slot rfl rfl R 34 _ (0, 0) _ rfl hrow Tryz.underlying34 rfl hiA ?_
    refine ⟨?_, HKZ.out.1⟩
    rw [HDV2.out]
    exact ⟨W, Z, L, t, I8, I10, .slice lo q lc, HSD.out.hb, HSD.out.ht, rfl, rfl⟩
theorem rread_ok (ao : Option Addr) (n cap : Nat) (xs : List UInt8) (w : World) (h : InB8 w ao n cap xs) :
  Calls Tryz.prog 9 #[.slice ao n cap] w fun e w' => ReadE w w' e (decD xs) ∧ Kept [] w w' := by
 have hd := decD_rdD xs
 cases ho : openB xs with
 | none => exact rread_open ao n cap xs w h _ ho (by rw [hd, ho]; rfl)
 | some ys =>
  have hd2 : decD xs = rdD ys := by rw [hd, ho]; rfl
  have hno : rheadOk ys = false -> decD xs = none := fun hh => by rw [hd2]; unfold rdD; rw [hh, if_pos rfl]
  by_cases h1 : mk ys = 68
  ·by_cases h2 : (Dlt.s4 ys).e = 0 ∧ (isW (nW ys) && isZ (nZ ys)) = true ∧ nL ys <= 131072
   ·by_cases h3 : (Dlt.s7 ys).e = 0 ∧ nT ys <= 131072 ∧ nI ys <= 2048
    ·refine rread_loop ao n cap xs w h _ ys ho h1 h2 h3 ?_ hd2
     have h4 := h2.2.1
     rw [Bool.and_eq_true] at h4
     unfold rheadOk
     simp only [Bool.and_eq_true, decide_eq_true_eq]
     exact ⟨⟨h1, ⟨⟨⟨h2.1, h4.1⟩, h4.2⟩, h2.2.2⟩⟩, ⟨⟨h3.1, h3.2.1⟩, h3.2.2⟩⟩
    ·refine rread_num ao n cap xs w h _ ys ho h1 h2 h3 (hno ?_)
     apply Bool.eq_false_iff.2
     intro hh
     unfold rheadOk at hh
     simp only [Bool.and_eq_true, decide_eq_true_eq] at hh
     exact h3 ⟨hh.2.1.1, hh.2.1.2, hh.2.2⟩
   ·refine rread_head ao n cap xs w h _ ys ho h1 h2 (hno ?_)
    apply Bool.eq_false_iff.2
    intro hh
    unfold rheadOk at hh
    simp only [Bool.and_eq_true, decide_eq_true_eq] at hh
    exact h2 ⟨hh.1.2.1.1.1, by rw [Bool.and_eq_true]; exact ⟨hh.1.2.1.1.2, hh.1.2.1.2⟩, hh.1.2.2⟩
  ·refine rread_mark ao n cap xs w h _ ys ho h1 (hno ?_)
   apply Bool.eq_false_iff.2
   intro hh
   unfold rheadOk at hh
   simp only [Bool.and_eq_true, decide_eq_true_eq] at hh
   exact h1 hh.1.1
theorem rread_good (ao : Option Addr) (n cap : Nat) (xs : List UInt8) (w : World) (h : InB8 w ao n cap xs) (d : Dta) (hdd : decD xs = some d) :
  Calls Tryz.prog 9 #[.slice ao n cap] w fun e w' => ReadE w w' e (decD xs) ∧ Kept [] w w' := by
 have hd := decD_rdD xs
 cases ho : openB xs with
 | none => rw [ho, hdd] at hd; cases hd
 | some ys =>
  have hd2 : decD xs = rdD ys := by rw [hd, ho]; rfl
  have hh : rheadOk ys = true := by
   cases hh : rheadOk ys with
   | true => rfl
   | false => rw [hd2] at hdd; unfold rdD at hdd; rw [hh, if_pos rfl] at hdd; cases hdd
  have hk := hh
  unfold rheadOk at hk
  simp only [Bool.and_eq_true, decide_eq_true_eq] at hk
  exact rread_loop ao n cap xs w h _ ys ho hk.1.1 ⟨hk.1.2.1.1.1, by rw [Bool.and_eq_true]; exact ⟨hk.1.2.1.1.2, hk.1.2.1.2⟩, hk.1.2.2⟩ ⟨hk.2.1.1, hk.2.1.2, hk.2.2⟩ hh hd2
end Go.Proofs.YtmklodligplbaabGreat
