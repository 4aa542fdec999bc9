import Derived.Test.YtmklodligplbaabGreatD9oo
open Go.RowKit
set_option linter.unusedVariables false
set_option linter.unusedSimpArgs false
set_option maxRecDepth 100000
set_option maxHeartbeats 0
namespace Go.Proofs.YtmklodligplbaabGreat
section
open Dlt
theorem readOrd_rest (ao : Option Addr) (n cap : Nat) (xs : List UInt8) (w : World) (hn : xs.length = n) (hc : n <= cap) (hm : n <= 131072) (hs : Sl w ao xs) (h0 : ao = none -> xs = [] ∧ cap = 0) (hmk : mk xs = 68) (hW : Dlt.isW (stNumber xs (s1 xs)).1 = true) (hZ : Dlt.isZ (stNumber xs (stNumber xs (s1 xs)).2).1 = true) (hB : Dlt.within (stNumber xs (stNumber xs (stNumber xs (s1 xs)).2).2).1 0 131072 = true) (hT : Dlt.within (stNumber xs (stRaw xs (stNumber xs (stNumber xs (stNumber xs (s1 xs)).2).2).2 (nW xs)).2).1 0 131072 = true) :
  Calls Tryz.prog 49 #[.slice ao n cap] w fun e w' => OrdPost xs e w' ∧ Kept [] w w' := by
 have HHD : Hid (Hd xs) := ⟨by omega, hmk, hW, hZ, hB, hT⟩
 have hz := Tryz.zeroOrd
 have hzs := Tryz.zeroStrict
 have hK := ka w (.cells (ordC 0 0 wk0 wk0 (.slice none 0 0)).toArray 74)
 have hR0 := heap_new w (.cells (ordC 0 0 wk0 wk0 (.slice none 0 0)).toArray 74)
 have hop := open_yes ao n cap 68 xs (w.alloc (.cells (ordC 0 0 wk0 wk0 (.slice none 0 0)).toArray 74)) hn hm (hs.kept hK (by simp)) h0 hmk
 have HD := hide (ai hn (ai hc (ai hm hs)))
 have HK := hide hK
 clear hn hc hs h0 hmk hK
 obtain ⟨R, hR⟩ := nm (w.heap.size)
 rw [hR] at hR0
 go_enter Tryz.func49, Tryz.ntmps49
 go_upto_region 1 with (fail)
 have HRW := hide hR
 clear hR
 generalize w.alloc (.cells (ordC 0 0 wk0 wk0 (.slice none 0 0)).toArray 74) = w1 at *
 go_upto_region 2 with (go_at_call 86; refine hop.mono ?_; rintro r w2 ⟨b, ao', cap', rfl, hb, hbl, hrd, hk2⟩; have H2 := hide (ai hb (ai hbl (ai hrd hk2))); clear hop hb hbl hrd hk2)
 have hX := Sx.new w2 b
 have hk3 := ka w2 (.cells (stC b).toArray 145)
 obtain ⟨G, hG⟩ := nm (w2.heap.size)
 have hGb : b < G := by rw [<-hG]; exact H2.out.2.2.1.lt
 rw [hG] at hX ⊢
 have HGN := hide (show G = w2.heap.size from hG.symm)
 clear hG
 generalize w2.alloc (.cells (stC b).toArray 145) = w3 at hX hk3 ⊢
 have hA := OrdAt.new w3 0 0 wk0 wk0 (.slice none 0 0)
 have hk4 := ka w3 (.cells (ordC 0 0 wk0 wk0 (.slice none 0 0)).toArray 74)
 obtain ⟨Sg, hSg⟩ := nm (w3.heap.size)
 have hSG : G < Sg := by rw [<-hSg]; exact hX.lt
 rw [hSg] at hA
 go_upto_region 3 with (fail)
 have HSN := hide (show Sg = w3.heap.size from hSg.symm)
 clear hSg
 have hA : OrdAt (w3.alloc (.cells (ordC 0 0 wk0 wk0 (.slice none 0 0)).toArray 74)) Sg 0 0 wk0 wk0 (.slice none 0 0) := hA
 generalize w3.alloc (.cells (ordC 0 0 wk0 wk0 (.slice none 0 0)).toArray 74) = w4 at *
 have HX := hide (hX.kept hk4 (by simp))
 have HR4 := hide ((H2.out.2.2.1.later hk3).later hk4)
 have HK4 := hide (((HK.out.tr H2.out.2.2.2).tr hk3).tr hk4)
 have HOUT : Hid (w4.heap[R]? = some (.cells (ordC 0 0 wk0 wk0 (.slice none 0 0)).toArray 74 (0, 0))) := by
  have hl := (gs hR0).1
  show _ = _
  rw [hk4.block R (Nat.lt_of_lt_of_le hl (Nat.le_trans H2.out.2.2.2.size hk3.size)) (by simp), hk3.block R (Nat.lt_of_lt_of_le hl H2.out.2.2.2.size) (by simp), H2.out.2.2.2.block R hl (by simp)]
  exact hR0
 have HBL : Hid (w.heap.size <= b ∧ R < b ∧ b < G ∧ G < Sg ∧ Sg < w4.heap.size ∧ ∀ a, ao' = some a -> R < a.block ∧ (xs ≠ [] -> a.block < G)) := by
  have h1 := (gs hR0).1
  have h2 := H2.out.1
  have h3 := HK.out.size
  have h4 := HGN.out
  refine ⟨by omega, by omega, hGb, hSG, hA.lt, fun a ha => ⟨by have := H2.out.2.1 a ha; omega, fun hx => ?_⟩⟩
  have := H2.out.2.2.1.blk hx a ha
  omega
 have HA := hide hA
 have cb := HX.out.cell
 have HNB : Hid (G ∉ [b]) := by have := HBL.out; show G ∉ [b]; simp; omega
 have HNS : Hid (G ∉ [b, Sg]) := by have := HBL.out; show G ∉ [b, Sg]; simp; omega
 have HSB : Hid (Sg ∉ [b]) := by have := HBL.out; show Sg ∉ [b]; simp; omega
 clear hX hk3 hk4 hA H2 HK hR0 hSG hGb hz hzs
 have k0 : Kept [] w4 (World.drew w4) := (Kept.refl [] w4).drew
 refine wp_region_held_drew (S := fun w' => Kept [b, Sg] w4 w') (by kernel_rfl) ((Kept.refl [b, Sg] w4).drew) (fun h0 => ?_)
 generalize World.drew w4 = v0 at h0 k0 ⊢
 refine t4 0 (stV b) rfl (yieldsIf_load_mid (by rfl) _ _ rfl G 0 rfl (stC b) _ (fun W h => (HX.out.kept h HNS.out).range) Tryz.underlying145 rfl Tryz.infoStrict) h0 ?_
 simp only [zz]
 refine t4 2 (stV b) rfl (yieldsIf_load_mid (by rfl) _ _ rfl G 0 rfl (stC b) _ (fun W h => (HX.out.kept h HNS.out).range) Tryz.underlying145 rfl Tryz.infoStrict) h0 ?_
 simp only [zz]
 have hr0 := HR4.out.later k0
 have kk0 : Kept [b] w4 v0 := k0.mono (by simp)
 clear k0
 refine rd 1 fun K hK => ?_
 go_simp
 refine (width_yes hr0 hW).mono ?_
 rintro e v1 ⟨rfl, hr1, hq⟩
 have kk1 := kk0.tr hq
 refine hK.out _ _ (h0.tr hq) (fun h1 => ?_)
 clear hK K
 try simp only [zz]
 clear hq hr0 kk0 h0
 refine t1 4 (.pointer (some ⟨Sg, 0, none⟩)) h1 ?_
 simp only [zz]
 refine rd 3 fun K hK => ?_
 go_simp
 refine (size_yes hr1 hZ).mono ?_
 rintro e v2 ⟨rfl, hr2, hq⟩
 have kk2 := kk1.tr hq
 refine hK.out _ _ (h1.tr hq) (fun h2 => ?_)
 clear hK K
 try simp only [zz]
 clear hq hr1 kk1 h1
 have hA2 := HA.out.kept kk2 HSB.out
 have f0 := hA2.fr 0
 have c0 := hA2.c (j := 0) (u := .int .i64 0) rfl
 have hA3 := hA2.setW (nW xs)
 have f1 := hA3.fr 1
 have c1 := hA3.c (j := 1) (u := .int .i64 0) rfl
 have hA4 := hA3.setZ (nZ xs)
 simp only [show (stNumber xs (s1 xs)).1 = nW xs from rfl, show (stNumber xs (stNumber xs (s1 xs)).2).1 = nZ xs from rfl]
 refine rd 5 fun K hK => ?_
 go_simp
 refine hK.out _ _ (h2.setCell (by simp) _) (fun h3 => ?_)
 clear hK K h2
 try simp only [zz]
 refine t1 6 (.pointer (some ⟨Sg, 1, none⟩)) h3 ?_
 simp only [zz]
 refine rd 7 fun K hK => ?_
 go_simp
 refine hK.out _ _ (h3.setCell (by simp) _) (fun h4 => ?_)
 clear hK K h3
 try simp only [zz]
 refine qd ?_
 have k6 : Kept [Sg] v2 ((v2.setCell ⟨Sg, 0, none⟩ (.int .i64 (nW xs))).setCell ⟨Sg, 1, none⟩ (.int .i64 (nZ xs))) := ((Kept.refl [Sg] v2).setCell (by simp) _).setCell (by simp) _
 have HR5 : Hid (RdS ((v2.setCell ⟨Sg, 0, none⟩ (.int .i64 (nW xs))).setCell ⟨Sg, 1, none⟩ (.int .i64 (nZ xs))) b ao' cap' xs (stNumber xs (stNumber xs (s1 xs)).2).2) := hr2.kept k6 (by have := HBL.out; simp; omega) (fun hx a ha => by have h1 := HBL.out.2.2.2.2.2 a ha; have h2 := HBL.out; have := h1.2 hx; simp; omega)
 have HK5 : Hid (Kept [b, Sg] w4 ((v2.setCell ⟨Sg, 0, none⟩ (.int .i64 (nW xs))).setCell ⟨Sg, 1, none⟩ (.int .i64 (nZ xs)))) := (kk2.mono (by simp)).tr k6
 have HA5 := hide hA4
 clear k6 hr2 kk2 hA2 hA3 hA4 f0 f1 c0 c1 HA HR4
 generalize (v2.setCell ⟨Sg, 0, none⟩ (.int .i64 (nW xs))).setCell ⟨Sg, 1, none⟩ (.int .i64 (nZ xs)) = w5 at *
 have HX5 := hide (HX.out.kept HK5.out HNS.out)
 obtain ⟨W, hWn⟩ := Int.eq_ofNat_of_zero_le (show 0 <= nW xs by have := (Dlt.within_iff.1 (show Dlt.within (nW xs) 1 32 = true from hW)).1; omega)
 have hW32 : W <= 32 := by have := (Dlt.within_iff.1 (show Dlt.within (nW xs) 1 32 = true from hW)).2; omega
 rw [hWn] at HA5
 have cW := HA5.out.c (j := 0) (u := .int .i64 W) rfl
 obtain ⟨Z, hZn⟩ := Int.eq_ofNat_of_zero_le (show 0 <= nZ xs by have := (Dlt.within_iff.1 (show Dlt.within (nZ xs) 16 4096 = true from hZ)).1; omega)
 have hZ16 : 16 <= Z := by have := (Dlt.within_iff.1 (show Dlt.within (nZ xs) 16 4096 = true from hZ)).1; omega
 have hZ40 : Z <= 4096 := by have := (Dlt.within_iff.1 (show Dlt.within (nZ xs) 16 4096 = true from hZ)).2; omega
 rw [hZn] at HA5
 have HZN := hide hZn
 have HWN := hide hWn
 clear hWn hZn hW hZ
 go_wp2
 rw [HWN.out] at hT
 obtain ⟨bk, hbk1, hbk2⟩ := sealK xs (stNumber xs (stNumber xs (s1 xs)).2).2 W hB
 obtain ⟨tk, htk1, htk2⟩ := sealK xs (stRaw xs (stNumber xs (stNumber xs (stNumber xs (s1 xs)).2).2).2 W).2 W hT
 have k0 : Kept [] w5 (World.drew w5) := (Kept.refl [] w5).drew
 refine wp_region_held_drew (S := fun w' => Kept [b, Sg] w5 w' ∧ w'.cell? ⟨Sg, 0, none⟩ = some (.int .i64 W)) (by kernel_rfl) ⟨(Kept.refl [b, Sg] w5).drew, cW⟩ (fun h0 => ?_)
 generalize World.drew w5 = v0 at h0 k0 ⊢
 refine t4 0 (stV b) rfl (yieldsIf_load_mid (by rfl) _ _ rfl G 0 rfl (stC b) _ (fun W h => (HX5.out.kept h.1 HNS.out).range) Tryz.underlying145 rfl Tryz.infoStrict) h0 ?_
 simp only [zz]
 refine t1 1 (.pointer (some ⟨Sg, 0, none⟩)) h0 ?_
 simp only [zz]
 refine t2 2 (.int .i64 W) rfl h0 ?_ (fun w hSw => by have c0 := hSw.2; go_simp)
 simp only [zz]
 refine t4 4 (stV b) rfl (yieldsIf_load_mid (by rfl) _ _ rfl G 0 rfl (stC b) _ (fun W h => (HX5.out.kept h.1 HNS.out).range) Tryz.underlying145 rfl Tryz.infoStrict) h0 ?_
 simp only [zz]
 refine t1 5 (.pointer (some ⟨Sg, 0, none⟩)) h0 ?_
 simp only [zz]
 refine t2 6 (.int .i64 W) rfl h0 ?_ (fun w hSw => by have c0 := hSw.2; go_simp)
 simp only [zz]
 have hr0 := HR5.out.later k0
 have kk0 : Kept [b] w5 v0 := k0.mono (by simp)
 clear k0
 refine rd 3 fun K hK => ?_
 go_simp
 refine (seal_yes hr0 W hW32 hB bk hbk1 hbk2).mono ?_
 rintro e v1 ⟨rfl, hr1, hq⟩
 have kk1 := kk0.tr hq
 refine hK.out _ _ (⟨h0.1.tr hq, hq.cellOf h0.2 HSB.out⟩) (fun h1 => ?_)
 clear hK K
 try simp only [zz]
 clear hq hr0 h0 kk0
 refine t1 8 (.pointer (some ⟨Sg, 2, none⟩)) h1 ?_
 simp only [zz]
 refine rd 7 fun K hK => ?_
 go_simp
 refine (seal_yes hr1 W hW32 hT tk htk1 htk2).mono ?_
 rintro e v2 ⟨rfl, hr2, hq⟩
 have kk2 := kk1.tr hq
 refine hK.out _ _ (⟨h1.1.tr hq, hq.cellOf h1.2 HSB.out⟩) (fun h2 => ?_)
 clear hK K
 try simp only [zz]
 clear hq hr1 h1 kk1
 have hA2 := HA5.out.kept kk2 HSB.out
 have thb := hA2.there_b
 have hA3 := hA2.setB bk
 have tht := hA3.there_t
 have hA4 := hA3.setT tk
 have sb : bk.cells.toArray.size = 33 := by rw [List.size_toArray, bk.len]
 have st : tk.cells.toArray.size = 33 := by rw [List.size_toArray, tk.len]
 refine rd 9 fun K hK => ?_
 refine wp_store_mid 71 (.tmp 23) (.tmp 18) rfl Sg 2 bk.cells.toArray rfl rfl (by rw [sb]; exact thb) (Tryz.infoSealA bk) (wk_all bk) ?_
 refine hK.out _ _ ⟨h2.1.trans (kept_setCells _ _ _ _ _ (Kept.refl _ _) (by simp) : Kept [Sg] _ _) (by simp), hA3.c (j := 0) (u := .int .i64 W) rfl⟩ (fun h3 => ?_)
 clear hK K h2
 try simp only [zz]
 refine t1 10 (.pointer (some ⟨Sg, 35, none⟩)) h3 ?_
 simp only [zz]
 refine rd 11 fun K hK => ?_
 refine wp_store_mid 71 (.tmp 24) (.tmp 22) rfl Sg 35 tk.cells.toArray rfl rfl (by rw [st]; exact tht) (Tryz.infoSealA tk) (wk_all tk) ?_
 refine hK.out _ _ ⟨h3.1.trans (kept_setCells _ _ _ _ _ (Kept.refl _ _) (by simp) : Kept [Sg] _ _) (by simp), hA4.c (j := 0) (u := .int .i64 W) rfl⟩ (fun h4 => ?_)
 clear hK K h3
 try simp only [zz]
 refine qd ?_
 have k6 : Kept [Sg] v2 ((v2.setCells Sg 2 bk.cells).setCells Sg 35 tk.cells) := (kept_setCells _ _ _ _ _ (kept_setCells _ _ _ _ _ (Kept.refl _ _) (by simp)) (by simp))
 have kkA : Kept [b, Sg] w5 ((v2.setCells Sg 2 bk.cells).setCells Sg 35 tk.cells) := (show Kept [b, Sg] w5 v2 from kk2.mono (by simp)).tr k6
 have es6 : (stRaw xs (stNumber xs (stRaw xs (stNumber xs (stNumber xs (stNumber xs (s1 xs)).2).2).2 W).2).2 W).2 = s6 xs := by unfold s6 s5 sB; rw [HWN.out]; rfl
 have HR6 : Hid (RdS ((v2.setCells Sg 2 bk.cells).setCells Sg 35 tk.cells) b ao' cap' xs (s6 xs)) := by rw [es6] at hr2; exact hr2.kept k6 (by have := HBL.out; simp; omega) (fun hx a ha => by have := HBL.out; have := (HBL.out.2.2.2.2.2 a ha).2 hx; simp; omega)
 have HKB : Hid (bk.sum = nL xs ∧ bk.id = idB xs ∧ tk.sum = nT xs ∧ tk.id = idT xs) := by
  refine ⟨hbk1, ?_, ?_, ?_⟩
  ·rw [hbk2]; unfold idB; rw [HWN.out]; rfl
  ·rw [htk1]; unfold nT sB; rw [HWN.out]; rfl
  ·rw [htk2]; unfold idT s5 sB; rw [HWN.out]; rfl
 have HK6 : Hid (Kept [] w ((v2.setCells Sg 2 bk.cells).setCells Sg 35 tk.cells)) := HK4.out.trans (HK5.out.tr kkA) (fun i hi hl => by simp only [List.mem_cons, List.not_mem_nil, or_false] at hi; have := HBL.out; omega)
 have HO6 : Hid (((v2.setCells Sg 2 bk.cells).setCells Sg 35 tk.cells).heap[R]? = some (.cells (ordC 0 0 wk0 wk0 (.slice none 0 0)).toArray 74 (0, 0))) := by
  have hl := (gs HOUT.out).1
  have hb := HBL.out
  have kA : Kept [b, Sg] w4 ((v2.setCells Sg 2 bk.cells).setCells Sg 35 tk.cells) := HK5.out.tr kkA
  exact (kA.block R hl (by simp; omega)).trans HOUT.out
 have HX6 := hide ((HX5.out.kept kk2 HNB.out).kept k6 (by have := HBL.out; simp; omega))
 have HA6 := hide hA4
 clear es6 kkA hr2 kk2 k6 hA2 hA3 hA4 thb tht sb st h4 hB hT hbk1 hbk2 htk1 htk2 HX5 HR5 HK5 HK4 HA5 HOUT cW HX
 generalize (v2.setCells Sg 2 bk.cells).setCells Sg 35 tk.cells = w6 at *
 obtain ⟨N, hNn⟩ := Int.eq_ofNat_of_zero_le (show 0 <= nL xs from (Dlt.within_iff.1 HHD.out.l).1)
 obtain ⟨M, hMn⟩ := Int.eq_ofNat_of_zero_le (show 0 <= nT xs from (Dlt.within_iff.1 HHD.out.t).1)
 have hN13 : N <= 131072 := by have := (Dlt.within_iff.1 HHD.out.l).2; omega
 have hM13 : M <= 131072 := by have := (Dlt.within_iff.1 HHD.out.t).2; omega
 have HNN := hide hNn
 have HMN := hide hMn
 clear hNn hMn
 have hrg := HX6.out.range
 cases hN : Dlt.within (nI xs) 0 2048 with
 | false =>
  have hnum := number_no 0 2048 HR6.out hN
  have HNO := hide (HHD.out.dN hN)
  clear hN
  go_wp2_with (first
   | refine wpList_load_mid rfl 145 (.tmp 3) rfl G 0 rfl (stC b) _ hrg Tryz.underlying145 rfl Tryz.infoStrict ?_
   | (go_at_call 90; refine hnum.mono ?_; rintro r w7 ⟨rfl, hk7⟩; have H7 := hide hk7; clear hnum hk7))
  exact ⟨rfl, OrdPost.none HNO.out, HK6.out.trans H7.out (fun i hi hl => by simp only [List.mem_cons, List.not_mem_nil, or_false] at hi; have := HBL.out; omega)⟩
 | true =>
  have hIb := Dlt.within_iff.1 hN
  obtain ⟨c, hcn⟩ := Int.eq_ofNat_of_zero_le (show 0 <= nI xs from hIb.1)
  have hc20 : c <= 2048 := by omega
  have HIC := hide (ai hN hcn)
  have hnum := number_yes 0 2048 HR6.out hN
  rw [show (stNumber xs (s6 xs)).1 = (c : Int) from hcn, show (stNumber xs (s6 xs)).2 = s7 xs from rfl] at hnum
  have harr : (List.replicate c Value.nilIface).toArray = Array.replicate c Value.nilIface := by simp
  clear hN hIb hcn
  go_upto_region 6 with (first
   | refine wpList_load_mid rfl 145 (.tmp 3) rfl G 0 rfl (stC b) _ hrg Tryz.underlying145 rfl Tryz.infoStrict ?_
   | (go_at_call 90; refine hnum.mono ?_; rintro r w7 ⟨rfl, hr7, hk7⟩; have hmk9 := run_makeI9 w7 c (by omega); have hk8 := ka w7 (.cells (List.replicate c Value.nilIface).toArray 129); have hA7 := (HA6.out.kept hk7 HSB.out).kept hk8 (by simp); have c68 := hA7.c (ordC_v _ _ _ _ _); have f68 := hA7.fr 68; have hL7 := Lst.new w7 c; rw [harr] at hmk9 hk8 hA7 c68 f68 hL7; have H7 := hide (ai hr7 (ai hk7 (ai hk8 (ai hA7 hL7)))); clear hnum hr7 hk7 hk8 hA7 hL7))
  clear hmk9 c68 f68 harr
  obtain ⟨gL, hgL⟩ : ∃ g, w7.heap.size = g := ⟨_, rfl⟩
  obtain ⟨hr7, hk7, hk8, hA7, hL7⟩ := H7.out
  clear H7
  rw [hgL] at hL7 ⊢
  have HGS : Hid (Sg < gL ∧ gL < (w7.alloc (.cells (Array.replicate c Value.nilIface) 129)).heap.size) := by
   refine ⟨?_, ?_⟩
   ·have hh := (HA6.out.kept hk7 HSB.out).lt; rw [hgL] at hh; exact hh
   ·exact (gs (show _ = _ from hL7.row)).1
  have HX8 := hide (((HX6.out.kept hk7 HNB.out).kept hk8 (by simp)))
  have HR8 := hide (hr7.later hk8)
  have HK8 : Hid (Kept [] w (w7.alloc (.cells (Array.replicate c Value.nilIface) 129))) := (HK6.out.trans hk7 (fun i hi hl => by simp only [List.mem_cons, List.not_mem_nil, or_false] at hi; have := HBL.out; omega)).tr hk8
  have HO8 := hide ((hk8.block R (Nat.lt_of_lt_of_le (gs HO6.out).1 hk7.size) (by simp)).trans ((hk7.block R (gs HO6.out).1 (by have := HBL.out; simp; omega)).trans HO6.out))
  clear hgL HX6 HR6 HK6 HO6 HA6 hr7 hk7 hk8 hrg
  generalize w7.alloc (.cells (Array.replicate c Value.nilIface) 129) = w8 at *
  have hk9 : Kept [Sg] w8 (w8.setCell ⟨Sg, 68, none⟩ (.slice (some ⟨gL, 0, none⟩) c c)) := (Kept.refl [Sg] w8).setCell (by simp) _
  have hA9 := hA7.setV (.slice (some ⟨gL, 0, none⟩) c c)
  have hL9 := hL7.kept hk9 (by have := HGS.out; simp; omega)
  have HX9 := hide (HX8.out.kept hk9 (by have := HBL.out; simp; omega))
  have HR9 := hide (HR8.out.kept hk9 (by have := HBL.out; simp; omega) (fun hx a ha => by have := HBL.out; have := (HBL.out.2.2.2.2.2 a ha).2 hx; simp; omega))
  have HK9 : Hid (Kept [] w (w8.setCell ⟨Sg, 68, none⟩ (.slice (some ⟨gL, 0, none⟩) c c))) := HK8.out.trans hk9 (fun i hi hl => by simp only [List.mem_cons, List.not_mem_nil, or_false] at hi; have := HBL.out; omega)
  have HO9 := hide ((hk9.block R (gs HO8.out).1 (by have := HBL.out; simp; omega)).trans HO8.out)
  obtain ⟨B, hB⟩ := nm (w8.heap.size)
  have HGB : Hid (b < G ∧ G < Sg ∧ Sg < gL ∧ gL < B ∧ R < b ∧ B <= (w8.setCell ⟨Sg, 68, none⟩ (.slice (some ⟨gL, 0, none⟩) c c)).heap.size ∧ w.heap.size <= R) := ⟨HBL.out.2.2.1, HBL.out.2.2.2.1, HGS.out.1, by rw [<-hB]; exact HGS.out.2, HBL.out.2.1, by rw [<-hB]; exact hk9.size, by have := HRW.out; omega⟩
  clear HX8 HR8 HK8 HO8 hA7 hL7 hk9 hB HGS
  generalize w8.setCell ⟨Sg, 68, none⟩ (.slice (some ⟨gL, 0, none⟩) c c) = w9 at *
  have cv := hA9.c (ordC_v _ _ _ _ _)
  have HIN : Hid (∃ p vals, rdIs xs (cntB xs) (s7 xs) 0 = some p ∧ total Z p.1 = 0 ∧ Lst w9 gL c vals ∧ vals.length = 0 ∧ (∀ (i : Nat) s u, p.1[i]? = some s -> vals[i]? = some u -> StpN B w9 s u) ∧ OrdAt w9 Sg W Z bk tk (.slice (some ⟨gL, 0, none⟩) c c) ∧ Sx w9 G b ∧ RdS w9 b ao' cap' xs p.2 ∧ Kept [] w w9 ∧ w9.heap[R]? = some (.cells (ordC 0 0 wk0 wk0 (.slice none 0 0)).toArray 74 (0, 0)) ∧ B <= w9.heap.size) :=
   ⟨([], s7 xs), [], rfl, rfl, hL9, rfl, by simp, hA9, HX9.out, HR9.out, HK9.out, HO9.out, HGB.out.2.2.2.2.2.1⟩
  clear hL9 hA9 HX9 HR9 HK9 HO9
  obtain ⟨nb, hnq⟩ := nm (N / Z)
  have hcB : cntB xs = nb := by unfold cntB; rw [HNN.out, HZN.out, <-hnq]; rfl
  have hdiv : (N : Int).tdiv (Z : Int) = (nb : Int) := by rw [<-hnq, Int.ofNat_tdiv]
  have hzz : (Z : Int) ≠ 0 := by omega
  have hz0 : ((Z : Int) == 0) = false := by simp; omega
  have hn13 : nb <= 131072 := by rw [<-hnq]; exact Nat.le_trans (Nat.div_le_self _ _) hN13
  have hnz : nb * Z <= 131072 := by rw [<-hnq]; exact Nat.le_trans (Nat.div_mul_le_self _ _) hN13
  have HCB := hide hcB
  clear hcB hnq
  have HQ := hide (ai hdiv (ai hzz hz0))
  clear hdiv hzz hz0
  go_wp2
  go_loopw [5, 32] (fun x y wr => ∃ (k T : Nat), k <= c ∧ T <= k * 131072 ∧ x = .int .i64 T ∧ y = .int .i64 k ∧ Hid (∃ p vals, rdIs xs (cntB xs) (s7 xs) k = some p ∧ total Z p.1 = T ∧ Lst wr gL c vals ∧ vals.length = k ∧ (∀ (i : Nat) s u, p.1[i]? = some s -> vals[i]? = some u -> StpN B wr s u) ∧ OrdAt wr Sg W Z bk tk (.slice (some ⟨gL, 0, none⟩) c c) ∧ Sx wr G b ∧ RdS wr b ao' cap' xs p.2 ∧ Kept [] w wr ∧ wr.heap[R]? = some (.cells (ordC 0 0 wk0 wk0 (.slice none 0 0)).toArray 74 (0, 0)) ∧ B <= wr.heap.size)) (fun x y wr => c - (intOf y).toNat)
  case atStart => exact ⟨0, 0, Nat.zero_le _, Nat.zero_le _, rfl, rfl, HIN⟩
  case round =>
   clear HIN cv
   obtain ⟨k, T, hk, hT9, rfl, rfl, HP⟩ := hrel
   by_cases hlt : k < c
   ·obtain ⟨p, vals, hp, htot, hLs, hvl, hall, hA, hX, hR, hK, hO, hBs⟩ := HP.out
    clear HP
    have cv := hA.c (ordC_v _ _ _ _ _)
    have cN : wr.cell? ⟨Sg, 2, none⟩ = some (.int .i64 N) := by have h := hA.c (ordC_b (j := 0) bk.su); rw [HKB.out.1, HNN.out] at h; exact h
    have cZ : wr.cell? ⟨Sg, 1, none⟩ = some (.int .i64 Z) := hA.c (j := 1) (u := .int .i64 Z) rfl
    obtain ⟨hdiv, hzz, hz0⟩ := HQ.out
    have hnw : IntKind.i64.wrap (nb : Int) = (nb : Int) := wrap64 (by omega) (by omega)
    have HX := hide hX
    have HA := hide hA
    have HO := hide hO
    have HK := hide hK
    have HLS := hide hLs
    have HRR := hide hR
    have HVL := hide hvl
    have HALL := hide hall
    have HBS := hide hBs
    have HTT := hide htot
    have HPP := hide hp
    clear hX hA hO hK hLs hR hvl hall hBs htot hp
    have HNG : Hid (G ∉ [b, gL]) := by have := HGB.out; show G ∉ [b, gL]; simp; omega
    have HNGS : Hid (Sg ∉ [b, gL]) := by have := HGB.out; show Sg ∉ [b, gL]; simp; omega
    have HGLB : Hid (gL ∉ [b]) := by have := HGB.out; show gL ∉ [b]; simp; omega
    have HRB : Hid (R ∉ [b, gL]) := by have := HGB.out; show R ∉ [b, gL]; simp; omega
    cases hi0 : rdI xs (cntB xs) p.2 with
    | none =>
     have HNO := hide (HHD.out.dI HIC.out.1 (k := k) (by rw [HIC.out.2]; simpa using hlt) HPP.out hi0)
     have hi := hi0
     rw [HCB.out] at hi
     clear hi0
     go_upto_region 10 with (fail)
     have k0 : Kept [] wr (World.drew wr) := (Kept.refl [] wr).drew
     refine wp_region_held_drew (S := fun w' => Kept [b, gL] wr w') (by kernel_rfl) ((Kept.refl [b, gL] wr).drew) (fun h0 => ?_)
     generalize World.drew wr = v0 at h0 k0 ⊢
     refine t1 0 (.pointer (some ⟨Sg, 68, none⟩)) h0 ?_
     simp only [zz]
     refine t2 1 (.slice (some ⟨gL, 0, none⟩) c c) rfl h0 ?_ (fun w hSw => by have c0 := Kept.cellOf hSw cv HNGS.out; go_simp)
     simp only [zz]
     refine t1 2 (.int .i64 k) h0 ?_
     simp only [zz]
     refine t4 3 (stV b) rfl (yieldsIf_load_mid (by rfl) _ _ rfl G 0 rfl (stC b) _ (fun W h => (HX.out.kept h HNG.out).range) Tryz.underlying145 rfl Tryz.infoStrict) h0 ?_
     simp only [zz]
     refine t1 4 (.pointer (some ⟨Sg, 2, none⟩)) h0 ?_
     simp only [zz]
     refine t1 5 (.pointer (some ⟨Sg, 2, none⟩)) h0 ?_
     simp only [zz]
     refine t2 6 (.int .i64 N) rfl h0 ?_ (fun w hSw => by have c0 := Kept.cellOf hSw cN HNGS.out; go_simp)
     simp only [zz]
     refine t1 7 (.pointer (some ⟨Sg, 1, none⟩)) h0 ?_
     simp only [zz]
     refine t2 8 (.int .i64 Z) rfl h0 ?_ (fun w hSw => by have c0 := Kept.cellOf hSw cZ HNGS.out; go_simp)
     simp only [zz]
     have hzn : ¬ Z = 0 := by omega
     refine t2 9 (.int .i64 nb) rfl h0 ?_ (fun w hSw => by go_simp; try (rw [if_neg hzn]); try (rw [hnw]))
     simp only [zz]
     have hr0 := HRR.out.later k0
     refine rd 10 fun K hK => ?_
     go_simp
     refine (instr_none hr0 nb (by omega) hi).mono ?_
     rintro e vx ⟨rfl, hq⟩
     exact ⟨rfl, OrdPost.none HNO.out, HK.out.trans (h0.tr hq) (fun i hi hl => by simp only [List.mem_cons, List.not_mem_nil, or_false] at hi; have := HGB.out; omega)⟩
    | some q =>
     have hi := hi0
     rw [HCB.out] at hi
     have hlen := rdI_len hi hnz
     have HNX : Hid (rdIs xs (cntB xs) (s7 xs) (k + 1) = some (p.1 ++ [q.1], q.2)) := by show _ = _; rw [rdIs_next HPP.out, hi0]; rfl
     clear hi0
     obtain ⟨Ln, hLn⟩ := nm (q.1.len Z)
     have HLN := hide hLn
     have HPL := hide (rdIs_len HPP.out)
     go_upto_region 10 with (fail)
     clear hLn
     have k0 : Kept [] wr (World.drew wr) := (Kept.refl [] wr).drew
     refine wp_region_held_drew (S := fun w' => Kept [b, gL] wr w') (by kernel_rfl) ((Kept.refl [b, gL] wr).drew) (fun h0 => ?_)
     generalize World.drew wr = v0 at h0 k0 ⊢
     refine t1 0 (.pointer (some ⟨Sg, 68, none⟩)) h0 ?_
     simp only [zz]
     refine t2 1 (.slice (some ⟨gL, 0, none⟩) c c) rfl h0 ?_ (fun w hSw => by have c0 := Kept.cellOf hSw cv HNGS.out; go_simp)
     simp only [zz]
     refine t1 2 (.int .i64 k) h0 ?_
     simp only [zz]
     refine t4 3 (stV b) rfl (yieldsIf_load_mid (by rfl) _ _ rfl G 0 rfl (stC b) _ (fun W h => (HX.out.kept h HNG.out).range) Tryz.underlying145 rfl Tryz.infoStrict) h0 ?_
     simp only [zz]
     refine t1 4 (.pointer (some ⟨Sg, 2, none⟩)) h0 ?_
     simp only [zz]
     refine t1 5 (.pointer (some ⟨Sg, 2, none⟩)) h0 ?_
     simp only [zz]
     refine t2 6 (.int .i64 N) rfl h0 ?_ (fun w hSw => by have c0 := Kept.cellOf hSw cN HNGS.out; go_simp)
     simp only [zz]
     refine t1 7 (.pointer (some ⟨Sg, 1, none⟩)) h0 ?_
     simp only [zz]
     refine t2 8 (.int .i64 Z) rfl h0 ?_ (fun w hSw => by have c0 := Kept.cellOf hSw cZ HNGS.out; go_simp)
     simp only [zz]
     have hzn : ¬ Z = 0 := by omega
     refine t2 9 (.int .i64 nb) rfl h0 ?_ (fun w hSw => by go_simp; try (rw [if_neg hzn]); try (rw [hnw]))
     simp only [zz]
     have hr0 := HRR.out.later k0
     refine rd 10 fun K hK => ?_
     go_simp
     refine (instr_some hr0 nb (by omega) q hi).mono ?_
     rintro e v1 ⟨⟨u, rfl, hN1⟩, hr1, hq⟩
     obtain ⟨T9, sv, fn, rfl, m1, m2, m3, hC⟩ := hN1.meth Z hlen
     have kk1 : Kept [b] wr v1 := (k0.mono (by simp)).tr hq
     have HN1 := hide (hN1.mono (Nat.le_trans HBS.out k0.size))
     refine hK.out _ _ (h0.tr hq) (fun h1 => ?_)
     clear hK K
     try simp only [zz]
     clear hq k0 h0 hr0 hN1
     refine t1 11 (.pointer (some ⟨gL, k, none⟩)) h1 ?_
     simp only [zz]
     have hL1 := HLS.out.kept kk1 HGLB.out
     obtain ⟨cS, fS⟩ := hL1.next (by rw [HVL.out]; exact hlt)
     have hL2 := hL1.put (by rw [HVL.out]; exact hlt) (.iface T9 sv)
     rw [HVL.out] at cS fS hL2
     have kg1 : Kept [gL] v1 (v1.setCell ⟨gL, k, none⟩ (.iface T9 sv)) := (Kept.refl [gL] v1).setCell (by simp) _
     refine rd 12 fun K hK => ?_
     go_simp
     refine hK.out _ _ (h1.tr kg1) (fun h2 => ?_)
     clear hK K h1
     try simp only [zz]
     refine qd ?_
     clear cS fS hL1 kk1
     rw [HLN.out] at hC
     have hLn13 : Ln <= 131072 := by rw [<-HLN.out]; exact hlen
     have hadd : IntKind.i64.wrap ((T : Int) + (Ln : Int)) = ((T + Ln : Nat) : Int) := by rw [wrap64 (by omega) (by omega)]; rfl
     have HALL2 : Hid (∀ (i : Nat) s u, (p.1 ++ [q.1])[i]? = some s -> (vals ++ [Value.iface T9 sv])[i]? = some u -> StpN B (v1.setCell ⟨gL, k, none⟩ (.iface T9 sv)) s u) := by
      intro i s u hs hu
      by_cases hik : i < k
      ·rw [List.getElem?_append_left (by rw [HPL.out]; exact hik)] at hs
       rw [List.getElem?_append_left (by rw [HVL.out]; exact hik)] at hu
       exact (HALL.out i s u hs hu).kept h2 (fun j hj => by simp only [List.mem_cons, List.not_mem_nil, or_false] at hj; have := HGB.out; omega)
      ·rw [List.getElem?_append_right (by rw [HPL.out]; omega), HPL.out] at hs
       rw [List.getElem?_append_right (by rw [HVL.out]; omega), HVL.out] at hu
       have h0 : i - k = 0 := by
        apply Classical.byContradiction; intro hne
        rw [List.getElem?_eq_none (by simp; omega)] at hs
        cases hs
       rw [h0] at hs hu
       simp only [List.getElem?_cons_zero, Option.some.injEq] at hs hu
       subst hs; subst hu
       exact HN1.out.kept kg1 (fun j hj => by simp only [List.mem_cons, List.not_mem_nil, or_false] at hj; have := HGB.out; omega)
     have HL2 := hide hL2
     have HX2 := hide (HX.out.kept h2 HNG.out)
     have HA2 := hide (HA.out.kept h2 HNGS.out)
     have HK2 : Hid (Kept [] w (v1.setCell ⟨gL, k, none⟩ (.iface T9 sv))) := HK.out.trans h2 (fun i hi hl => by simp only [List.mem_cons, List.not_mem_nil, or_false] at hi; have := HGB.out; omega)
     have HO2 := hide ((h2.block R (gs HO.out).1 HRB.out).trans HO.out)
     have HR2 : Hid (RdS (v1.setCell ⟨gL, k, none⟩ (.iface T9 sv)) b ao' cap' xs q.2) := hr1.kept kg1 (by have := HGB.out; simp; omega) (fun hx a ha => by have := HGB.out; have := (HBL.out.2.2.2.2.2 a ha).2 hx; simp; omega)
     have HBS2 := hide (Nat.le_trans HBS.out h2.size)
     clear hL2 h2 hr1 kg1 HX HA HK HO HLS HRR HALL HBS HN1 cv cN cZ
     generalize v1.setCell ⟨gL, k, none⟩ (.iface T9 sv) = w12 at *
     have cv2 := HA2.out.c (ordC_v _ _ _ _ _)
     have cZ2 : w12.cell? ⟨Sg, 1, none⟩ = some (.int .i64 Z) := HA2.out.c (j := 1) (u := .int .i64 Z) rfl
     have cE : w12.cell? ⟨gL, k, none⟩ = some (.iface T9 sv) := HL2.out.cell (by rw [List.getElem?_append_right (by rw [HVL.out]; exact Nat.le_refl _), HVL.out, Nat.sub_self]; rfl)
     clear hdiv hzz hz0
     go_upto_region 11 with (fail)
     refine th w12 fun g0 => ?_
     generalize World.drew w12 = u0 at g0  ⊢
     refine t1 0 (.int .i64 T) g0 ?_
     simp only [zz]
     refine t1 1 (.pointer (some ⟨Sg, 68, none⟩)) g0 ?_
     simp only [zz]
     refine t2 2 (.slice (some ⟨gL, 0, none⟩) c c) rfl g0 ?_ (fun w h => by have c := qc h cv2; go_simp)
     simp only [zz]
     refine t1 3 (.int .i64 k) g0 ?_
     simp only [zz]
     refine t1 4 (.pointer (some ⟨gL, k, none⟩)) g0 ?_
     simp only [zz]
     refine t2 5 (.iface T9 sv) rfl g0 ?_ (fun w h => by have c := qc h cE; go_simp)
     simp only [zz]
     refine t1 6 (.pointer (some ⟨Sg, 1, none⟩)) g0 ?_
     simp only [zz]
     refine t2 7 (.int .i64 Z) rfl g0 ?_ (fun w h => by have c := qc h cZ2; go_simp)
     simp only [zz]
     refine rd 8 fun K hK => ?_
     go_simp
     refine (hC _).mono ?_
     rintro e u1 ⟨rfl, hq⟩
     refine hK.out _ _ (g0.tr hq) (fun g1 => ?_)
     clear hK K
     try simp only [zz]
     clear hq g0
     refine t1 9 (.int .i64 (T + Ln : Nat)) g1 ?_
     simp only [zz]
     refine t1 10 (.int .i64 (T + Ln : Nat)) g1 ?_
     simp only [zz]
     refine qd ?_
     have HPF : Hid (∃ p vals, rdIs xs (cntB xs) (s7 xs) (k + 1) = some p ∧ total Z p.1 = T + Ln ∧ Lst u1 gL c vals ∧ vals.length = k + 1 ∧ (∀ (i : Nat) s u, p.1[i]? = some s -> vals[i]? = some u -> StpN B u1 s u) ∧ OrdAt u1 Sg W Z bk tk (.slice (some ⟨gL, 0, none⟩) c c) ∧ Sx u1 G b ∧ RdS u1 b ao' cap' xs p.2 ∧ Kept [] w u1 ∧ u1.heap[R]? = some (.cells (ordC 0 0 wk0 wk0 (.slice none 0 0)).toArray 74 (0, 0)) ∧ B <= u1.heap.size) :=
      ⟨(p.1 ++ [q.1], q.2), vals ++ [.iface T9 sv], HNX.out, by rw [total_snoc, HTT.out, HLN.out], HL2.out.kept g1 (by simp), by rw [List.length_append, HVL.out]; rfl, fun i s u h1 h2 => (HALL2.out i s u h1 h2).kept g1 (by simp), HA2.out.kept g1 (by simp), HX2.out.kept g1 (by simp), HR2.out.later g1, HK2.out.tr g1, (g1.block R (gs HO2.out).1 (by simp)).trans HO2.out, Nat.le_trans HBS2.out g1.size⟩
     clear g1 HL2 HX2 HA2 HK2 HO2 HR2 HBS2 HALL2 cv2 cZ2 cE m1 m2 m3 hC
     go_wp2
     go_roundw
     case rel => exact ⟨k + 1, T + Ln, by omega, by omega, rfl, by go_num, HPF⟩
     case measure => simp [intOf]; omega
   ·obtain rfl : k = c := by omega
    obtain ⟨p, vals, hp, htot, hLs, hvl, hall, hA, hX, hR, hK, hO, hBs⟩ := HP.out
    clear HP hlt hk
    have cM : wr.cell? ⟨Sg, 35, none⟩ = some (.int .i64 M) := by have h := hA.c (ordC_t (j := 0) tk.su); rw [HKB.out.2.2.1, HMN.out] at h; exact h
    have HCI : Hid ((nI xs).toNat = k) := by show _ = _; rw [HIC.out.2]; exact Int.toNat_natCast k
    have HPP : Hid (rdIs xs (cntB xs) (s7 xs) (nI xs).toNat = some p) := by show _ = _; rw [HCI.out]; exact hp
    have HPL := hide (rdIs_len hp)
    have HZT : Hid (((total (nZ xs).toNat p.1 : Nat) : Int) = (T : Int)) := by show _ = _; rw [HZN.out, Int.toNat_natCast, htot]
    have hrg := hX.range
    have HA := hide hA
    have HO := hide hO
    have HK := hide hK
    have HLS := hide hLs
    have HRR := hide hR
    have HVL := hide hvl
    have HALL := hide hall
    clear hX hA hO hK hLs hR hvl hall hBs htot hp
    by_cases hTM : T = M
    ·subst hTM
     have hmu := must_yes b wr
     cases he : endOk xs p.2 with
     | false =>
      have HNO := hide (HHD.out.dE HIC.out.1 HPP.out (by rw [he, Bool.and_false]))
      have HE := hide he
      clear he
      go_wp2_with (first
       | refine wpList_load_mid rfl 145 (.tmp 3) rfl G 0 rfl (stC b) _ hrg Tryz.underlying145 rfl Tryz.infoStrict ?_
       | (go_at_call 92; refine hmu.mono ?_; rintro r wm ⟨rfl, hkm⟩; have hend := end_no (HRR.out.later hkm) ao n cap HD.out.1 HD.out.2.1 (by omega) (HD.out.2.2.2.kept (HK.out.tr hkm) (by simp)) (fun hx a ha => by obtain ⟨g, off, e, hg, _⟩ := HD.out.2.2.2.open hx; rw [ha] at e; cases e; have := HBL.out; show g ≠ b; omega) HE.out; have hrgm := fun j u hu => hkm.cellOf (hrg j u hu) (by simp); have HM := hide hkm; clear hmu hkm hrg)
       | refine wpList_load_mid rfl 145 (.tmp 3) rfl G 0 rfl (stC b) _ hrgm Tryz.underlying145 rfl Tryz.infoStrict ?_
       | (go_at_call 93; refine hend.mono ?_; rintro r wz ⟨rfl, hkz⟩; have HZ := hide hkz; clear hend hkz))
      exact ⟨rfl, OrdPost.none HNO.out, (HK.out.tr HM.out).trans HZ.out (fun i hi hl => by simp only [List.mem_cons, List.not_mem_nil, or_false] at hi; have := HGB.out; omega)⟩
     | true =>
      have HDY : Hid (∃ d : Dta, decD xs = some d ∧ (d.width : Int) = nW xs ∧ (d.size : Int) = nZ xs ∧ (d.blen : Int) = nL xs ∧ d.bid = idB xs ∧ (d.tlen : Int) = nT xs ∧ d.tid = idT xs ∧ d.steps = p.1) :=
       ⟨_, HHD.out.dY HIC.out.1 HPP.out (by rw [he, HZT.out, HMN.out]; simp), Int.toNat_of_nonneg (by rw [HWN.out]; omega), Int.toNat_of_nonneg (by rw [HZN.out]; omega), Int.toNat_of_nonneg (by rw [HNN.out]; omega), rfl, Int.toNat_of_nonneg (by rw [HMN.out]; omega), rfl, rfl⟩
      have HE := hide he
      clear he
      go_upto_region 15 with (first
       | refine wpList_load_mid rfl 145 (.tmp 3) rfl G 0 rfl (stC b) _ hrg Tryz.underlying145 rfl Tryz.infoStrict ?_
       | (go_at_call 92; refine hmu.mono ?_; rintro r wm ⟨rfl, hkm⟩; have hend := end_ok (HRR.out.later hkm) ao n cap HD.out.1 HD.out.2.1 (by omega) (HD.out.2.2.2.kept (HK.out.tr hkm) (by simp)) (fun hx a ha => by obtain ⟨g, off, e, hg, _⟩ := HD.out.2.2.2.open hx; rw [ha] at e; cases e; have := HBL.out; show g ≠ b; omega) HE.out; have hrgm := fun j u hu => hkm.cellOf (hrg j u hu) (by simp); have HM := hide hkm; clear hmu hkm hrg)
       | refine wpList_load_mid rfl 145 (.tmp 3) rfl G 0 rfl (stC b) _ hrgm Tryz.underlying145 rfl Tryz.infoStrict ?_
       | (go_at_call 93; refine hend.mono ?_; rintro r wz ⟨rfl, hkz⟩; have HZ := hide hkz; clear hend hkz))
      have kz : Kept [b] wr wz := (HM.out.mono (by simp)).tr HZ.out
      have hAz := HA.out.kept kz HSB.out
      have hrz := hAz.range
      have hoz : wz.heap[R]? = some (.cells (ordC 0 0 wk0 wk0 (.slice none 0 0)).toArray 74 (0, 0)) := (kz.block R (gs HO.out).1 (by have := HGB.out; simp; omega)).trans HO.out
      have hil := Tryz.infoOrd W Z bk tk (.slice (some ⟨gL, 0, none⟩) k k)
      have hia := Tryz.infoOrdA W Z bk tk (.slice (some ⟨gL, 0, none⟩) k k)
      have hzs : ((ordC 0 0 wk0 wk0 (.slice none 0 0)).toArray).size = (ordC W Z bk tk (.slice (some ⟨gL, 0, none⟩) k k)).toArray.size := by rw [ordC_size, ordC_size]
      have hal := ordC_one W Z bk tk (.slice (some ⟨gL, 0, none⟩) k k) rfl
      clear hrgm cM
      go_wp2_with (first
       | refine wpList_load_mid rfl 74 (.tmp 4) rfl Sg 0 rfl (ordC W Z bk tk (.slice (some ⟨gL, 0, none⟩) k k)) _ hrz Tryz.underlying74 rfl hil ?_
       | refine wpList_store_rowTo rfl 74 (.tmp 2) (.tmp 68) rfl rfl R (ordC W Z bk tk (.slice (some ⟨gL, 0, none⟩) k k)).toArray rfl rfl 74 ((ordC 0 0 wk0 wk0 (.slice none 0 0)).toArray) hoz hia hzs hal ?_)
      have hkR : Kept [R] wz (wz.setRow R (ordC W Z bk tk (.slice (some ⟨gL, 0, none⟩) k k)).toArray) := kept_row wz R _
      have kf : Kept [b, R] wr (wz.setRow R (ordC W Z bk tk (.slice (some ⟨gL, 0, none⟩) k k)).toArray) := (kz.mono (by simp)).tr hkR
      have hKE : Kept [] w (wz.setRow R (ordC W Z bk tk (.slice (some ⟨gL, 0, none⟩) k k)).toArray) := HK.out.trans kf (fun i hi hl => by simp only [List.mem_cons, List.not_mem_nil, or_false] at hi; have := HGB.out; omega)
      refine ret_row rfl rfl R 74 _ (0, 0) _ rfl (setRow_heap _ _ _ _ _ _ hoz) Tryz.underlying74 rfl hia ?_
      refine ⟨?_, hKE⟩
      unfold OrdPost
      obtain ⟨d, hd, e1, e2, e3, e4, e5, e6, e7⟩ := HDY.out
      rw [hd]
      have eL : d.steps.length = k := by rw [e7]; exact HPL.out
      refine ⟨gL, vals, bk, tk, ?_, by rw [HKB.out.1, e3], by rw [HKB.out.2.1, e4], by rw [HKB.out.2.2.1, e5], by rw [HKB.out.2.2.2, e6], ?_, ?_, ?_⟩
      ·rw [e1, e2, eL, HWN.out, HZN.out]
      ·rw [eL]
       exact HLS.out.kept kf (by have := HGB.out; simp; omega)
      ·rw [eL]; exact HVL.out
      ·intro i s u h1 h2
       rw [e7] at h1
       exact ((HALL.out i s u h1 h2).kept kf (fun j hj => by simp only [List.mem_cons, List.not_mem_nil, or_false] at hj; have := HGB.out; omega)).v
    ·have hee : ((T : Int) == (M : Int)) = false := by simp; omega
     have hmu := must_no b wr
     have HNO := hide (HHD.out.dE HIC.out.1 HPP.out (by rw [HZT.out, HMN.out, decide_eq_false (by omega)]; rfl))
     go_wp2_with (first
      | refine wpList_load_mid rfl 145 (.tmp 3) rfl G 0 rfl (stC b) _ hrg Tryz.underlying145 rfl Tryz.infoStrict ?_
      | (go_at_call 92; refine hmu.mono ?_; rintro r wm ⟨rfl, hkm⟩; have HM := hide hkm; clear hmu hkm))
     exact ⟨rfl, OrdPost.none HNO.out, HK.out.tr HM.out⟩
end

section
open Dlt
theorem own_sl9 {w : World} {base : Nat} {ao : Option Addr} {n cap : Nat} {xs : List UInt8} (h : w.ownsRow base 5 1 (.slice ao n cap) n (bys xs)) : Sl w ao xs := by
 have hl : xs.length = n := by have := h.1; rw [bys_length] at this; omega
 rcases h.2 with ⟨e, hn⟩ | ⟨g, cap', cur, e, hb, hrow, hn, _, hsz, ht⟩
 ·intro i hi; omega
 ·cases e
  refine Sl.of fun i hi => ?_
  rw [cell_of_row _ _ _ _ _ _ hrow, Nat.zero_add]
  have h2 : (bys xs)[i]? = some (.int .u8 (xs.getD i 0).toNat) := by rw [<-bys_at hi]
  rw [<-ht, List.getElem?_take_of_lt (by omega)] at h2
  simpa using h2
theorem headOk_all {xs : List UInt8} (h : headOk xs = true) : xs.length <= 131072 ∧ mk xs = 68 ∧ isW (nW xs) = true ∧ isZ (nZ xs) = true ∧ Dlt.within (nL xs) 0 131072 = true ∧ Dlt.within (nT xs) 0 131072 = true := by
 unfold headOk at h
 simp only [Bool.and_eq_true, decide_eq_true_eq] at h
 exact ⟨h.1.1.1.1.1.1, h.1.1.1.1.1.2, h.1.1.1.1.2, h.1.1.1.2, h.1.1.2, h.1.2⟩
theorem readOrd_good (ao : Option Addr) (n cap : Nat) (xs : List UInt8) (w : World) (h : InB8 w ao n cap xs) (d : Dta) (hd : decD xs = some d) :
  Calls Tryz.prog 49 #[.slice ao n cap] w fun e w' => OrdPost xs e w' ∧ Kept [] w w' := by
 have hh : headOk xs = true := by
  cases hh : headOk xs with
  | true => rfl
  | false => unfold decD at hd; rw [hh, if_pos rfl] at hd; cases hd
 obtain ⟨h1, h2, h3, h4, h5, h6⟩ := headOk_all hh
 exact readOrd_rest ao n cap xs w h.len h.le (by rw [<-h.len]; exact h1) h.sl h.nil h2 h3 h4 h5 h6
theorem readOrd_ok (ao : Option Addr) (n cap : Nat) (xs : List UInt8) (w : World) (h : InB8 w ao n cap xs) :
  Calls Tryz.prog 49 #[.slice ao n cap] w fun e w' => OrdPost xs e w' ∧ Kept [] w w' := by
 have none_of : headOk xs = false -> decD xs = none := fun hh => by unfold decD; rw [hh, if_pos rfl]
 have fin : decD xs = none -> ∀ e w', e = gaveUp8 ∧ Kept [] w w' -> OrdPost xs e w' ∧ Kept [] w w' := fun hd e w' he => ⟨by rw [he.1]; exact OrdPost.none hd, he.2⟩
 by_cases h1 : 131072 < n
 ·exact (readOrd_long ao n cap w h1).mono (fin (none_of (by unfold headOk; rw [decide_eq_false (by rw [h.len]; omega)]; rfl)))
 ·have hm : n <= 131072 := by omega
  by_cases h2 : mk xs = 68
  ·cases h3 : isW (nW xs) with
   | false => exact (readOrd_width ao n cap xs w h.len h.le hm h.sl h.nil h2 h3).mono (fin (none_of (by unfold headOk; rw [h3]; simp)))
   | true =>
    cases h4 : isZ (nZ xs) with
    | false => exact (readOrd_size ao n cap xs w h.len h.le hm h.sl h.nil h2 h3 h4).mono (fin (none_of (by unfold headOk; rw [h4]; simp)))
    | true =>
     cases h5 : Dlt.within (nL xs) 0 131072 with
     | false => exact (readOrd_base ao n cap xs w h.len h.le hm h.sl h.nil h2 h3 h4 h5).mono (fin (none_of (by unfold headOk; rw [h5]; simp)))
     | true =>
      cases h6 : Dlt.within (nT xs) 0 131072 with
      | false => exact (readOrd_targ ao n cap xs w h.len h.le hm h.sl h.nil h2 h3 h4 h5 h6).mono (fin (none_of (by unfold headOk; rw [h6]; simp)))
      | true => exact readOrd_rest ao n cap xs w h.len h.le hm h.sl h.nil h2 h3 h4 h5 h6
  ·exact (readOrd_mark ao n cap xs w h.len hm h.sl h.nil h2).mono (fin (none_of (by unfold headOk; rw [decide_eq_false h2]; simp)))
theorem acatch_panicking (p q : Nat) (n : Int) (pv0 : Value) (u : TypeId) (pv : Value) (older : List PanicEntry) (w : World) (hc1 : w.cell? ⟨p, 0, none⟩ = some pv0) (hz1 : w.frozen? ⟨p, 0, none⟩ = false) (hc2 : w.cell? ⟨q, 0, none⟩ = some (.int .i64 n)) (hz2 : w.frozen? ⟨q, 0, none⟩ = false) (hpq : p ≠ q) :
  CallsD Tryz.prog 48 #[.pointer (some ⟨p, 0, none⟩), .pointer (some ⟨q, 0, none⟩)] (.panicking ({ v := .iface u pv, recovered := false } :: older)) w fun e u' w' =>
   e = .returned (.tuple #[]) ∧ u' = .panicking ({ v := .iface u pv, recovered := true } :: older) ∧ w' = (w.setCell ⟨p, 0, none⟩ (.slice none 0 0)).setCell ⟨q, 0, none⟩ (.int .i64 180) := by
 have hk : Kept [p] w (w.setCell ⟨p, 0, none⟩ (.slice none 0 0)) := (Kept.refl [p] w).setCell (by simp) _
 have h3 : (w.setCell ⟨p, 0, none⟩ (.slice none 0 0)).cell? ⟨q, 0, none⟩ = some (.int .i64 n) := hk.cellOf hc2 (by simp; omega)
 have h4 : (w.setCell ⟨p, 0, none⟩ (.slice none 0 0)).frozen? ⟨q, 0, none⟩ = false := (hk.frozen (World.block_lt_of_cell? _ _ hc2) (by simp; omega)).trans hz2
 refine callsD_of_wpS Tryz.func48 rfl fun c₀ cs hu => ?_
 apply wpS_seq
 apply wpS_region
 simp [wpOpsS, go_sem, recoverD, hu, Tryz.ntmps48, Exit.thenS]
 refine wpS_cond (t := true) (by simp [Act.eval, Array.replicate]) ?_
 simp only [if_true]
 have e0 : (#[Value.pointer (some ⟨p, 0, none⟩), Value.pointer (some ⟨q, 0, none⟩)] ++ ((Array.replicate 2 undef).setIfInBounds 0 (Value.iface u pv)).setIfInBounds 1 (Value.bool true)) = #[Value.pointer (some ⟨p, 0, none⟩), Value.pointer (some ⟨q, 0, none⟩), Value.iface u pv, Value.bool true] := rfl
 rw [e0]
 refine wpS_of_wp ?_
 go_wp2
 simp [bodyPostS, results, Tryz.results48]
theorem acatch_idle (p q : Nat) (w : World) :
  CallsD Tryz.prog 48 #[.pointer (some ⟨p, 0, none⟩), .pointer (some ⟨q, 0, none⟩)] .returning w fun e u' w' => e = .returned (.tuple #[]) ∧ u' = .returning ∧ w' = w := by
 refine callsD_of_wpS Tryz.func48 rfl fun c₀ cs hu => ?_
 apply wpS_seq
 apply wpS_region
 simp [wpOpsS, go_sem, recoverD, hu, Tryz.ntmps48, Exit.thenS]
 refine wpS_cond (t := false) (by simp [Act.eval, Array.replicate]) ?_
 simp only [Bool.false_eq_true, if_false]
 refine wpS_of_wp (wp_skip ?_)
 cases c₀
 simp_all [bodyPostS, results, Tryz.results48]
theorem app_results {w : World} {A B : Nat} {v : Value} {n : Int} {tmps : Array Value} (hA : w.cell? ⟨A, 0, none⟩ = some v) (hB : w.cell? ⟨B, 0, none⟩ = some (.int .i64 n)) (h2 : tmps[4]?.getD undef = .pointer (some ⟨A, 0, none⟩)) (h3 : tmps[5]?.getD undef = .pointer (some ⟨B, 0, none⟩)) :
  (results Tryz.f16 tmps).run Tryz.prog w = .ok (.tuple #[v, .int .i64 n]) w := by
 have hl1 : (loadVar 27 ⟨A, 0, none⟩).run Tryz.prog w = .ok v w := by simp [go_sem, hA]
 have hl2 : (loadVar 29 ⟨B, 0, none⟩).run Tryz.prog w = .ok (.int .i64 n) w := by simp [go_sem, hB]
 simp [results, Tryz.results16, h2, h3, asAddr, hl1, hl2]
theorem leaves_congr9 {P : Program} {fn : Func} {t1 t2 : Array Value} {R : Ending -> World -> Prop} (h : results fn t1 = results fn t2) : ∀ (ds : List Deferred) (u : FrameMode) (w : World), Leaves P fn t1 R ds u w -> Leaves P fn t2 R ds u w
 | [], .returning, w, ⟨v, h1, h2⟩ => ⟨v, h ▸ h1, h2⟩
 | [], .panicking _, _, h1 => h1
 | [], .run, _, h1 => h1
 | d :: ds, u, w, ⟨h1, fv, cap, f, args, h2, h3, h4⟩ => ⟨h1, fv, cap, f, args, h2, h3, h4.mono (fun e u' w' he => by
   cases e with
   | returned _ => exact leaves_congr9 h ds _ _ he
   | panicked _ => exact leaves_congr9 h ds _ _ he
   | outgrown => exact he)⟩
theorem appRes (t : Array Value) (k : Nat) (v : Value) (hk : k ≠ 4) (hk5 : k ≠ 5) : results Tryz.f16 (t.setIfInBounds k v) = results Tryz.f16 t := by
 have e : ∀ j, k ≠ j -> (t.setIfInBounds k v)[j]?.getD undef = t[j]?.getD undef := fun j hj => by rw [Array.getElem?_setIfInBounds_ne hj]
 simp only [results, Tryz.results16]
 simp [e 4 hk, e 5 hk5]
theorem appQ (R : Ending -> World -> Prop) (k : Nat) (v : Value) (hk : k ≠ 4) (hk5 : k ≠ 5) (ch : List PanicEntry) (a : Act) (w : World) (h : bodyPostD Tryz.prog Tryz.f16 R (.panic ch) (a.put (some k) v) w) : bodyPostD Tryz.prog Tryz.f16 R (.panic ch) a w :=
 leaves_congr9 (appRes a.tmps k v hk hk5) a.defers _ w h
end

end Go.Proofs.YtmklodligplbaabGreat
