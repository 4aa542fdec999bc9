import Derived.Test.YtmklodligplbaabGreatD8mk
import Derived.Maps.AppendAt
open Go.RowKit
set_option linter.unusedVariables false
set_option linter.unusedSimpArgs false
set_option maxRecDepth 100000
set_option maxHeartbeats 0
namespace Go.Proofs.YtmklodligplbaabGreat
section
open Dlt
theorem readSig_yes (ao : Option Addr) (n cap : Nat) (xs : List UInt8) (w : World) (hn : xs.length = n) (hc : n <= cap) (hm : n <= 131072) (hs : Sl w ao xs) (h0 : ao = none -> xs = [] ∧ cap = 0) (hmk : mk xs = 83) (hW : Dlt.isW (stNumber xs (s1 xs)).1 = true) (hZ : Dlt.isZ (stNumber xs (stNumber xs (s1 xs)).2).1 = true) (hL : Dlt.within (stNumber xs (stNumber xs (stNumber xs (s1 xs)).2).2).1 0 131072 = true) (hM : ¬ 2048 < nL xs / nZ xs) (HEND : endOk xs (rdWs xs (nW xs) (sB xs) (cntS xs)).2 = true) :
  Calls Tryz.prog 52 #[.slice ao n cap] w fun e w' => (∃ v, e = .returned (.agg ((sigOf xs).cells v).toArray) ∧ OwnW w' w.heap.size v (sigOf xs).blocks) ∧ Kept [] w w' := by
 have hz := Tryz.zeroSig
 have hzs := Tryz.zeroStrict
 have hK := ka w (.cells zeroS 26)
 have hR0 := heap_new w (.cells zeroS 26)
 have hop := open_yes ao n cap 83 xs (w.alloc (.cells zeroS 26)) hn hm (hs.kept hK (by simp)) h0 hmk
 have HD := hide (ai hn (ai hc (ai hm hs)))
 have HK := hide hK
 clear hn hc hs h0 hmk hK
 obtain ⟨R, hR⟩ := nm (w.heap.size)
 rw [hR] at hR0
 go_enter Tryz.func52, Tryz.ntmps52
 go_upto_region 1 with (fail)
 have HRW := hide hR
 clear hR
 generalize w.alloc (.cells zeroS 26) = w1 at *
 go_upto_region 2 with (go_at_call 86; refine hop.mono ?_; rintro r w2 ⟨b, ao', cap', rfl, hb, hbl, hrd, hk2⟩; have H2 := hide (ai hb (ai hbl (ai hrd hk2))); clear hop hb hbl hrd hk2)
 have hX := Sx.new w2 b
 have hk3 := ka w2 (.cells (stC b).toArray 145)
 obtain ⟨G, hG⟩ := nm (w2.heap.size)
 have hGb : b < G := by rw [<-hG]; exact H2.out.2.2.1.lt
 rw [hG] at hX ⊢
 have HGN := hide (show G = w2.heap.size from hG.symm)
 clear hG
 generalize w2.alloc (.cells (stC b).toArray 145) = w3 at hX hk3 ⊢
 have hA := SigAt.new w3 sig0 (.slice none 0 0)
 have hk4 := ka w3 (.cells zeroS 26)
 obtain ⟨Sg, hSg⟩ := nm (w3.heap.size)
 have hSG : G < Sg := by rw [<-hSg]; exact hX.lt
 rw [hSg] at hA
 go_upto_region 3 with (fail)
 have HSN := hide (show Sg = w3.heap.size from hSg.symm)
 clear hSg
 have hA : SigAt (w3.alloc (.cells zeroS 26)) Sg sig0 (.slice none 0 0) := hA
 generalize w3.alloc (.cells zeroS 26) = w4 at *
 have HX := hide (hX.kept hk4 (by simp))
 have HR4 := hide ((H2.out.2.2.1.later hk3).later hk4)
 have HK4 := hide (((HK.out.tr H2.out.2.2.2).tr hk3).tr hk4)
 have HOUT : Hid (w4.heap[R]? = some (.cells zeroS 26 (0, 0))) := by
  have hl := (gs hR0).1
  show _ = _
  rw [hk4.block R (Nat.lt_of_lt_of_le hl (Nat.le_trans H2.out.2.2.2.size hk3.size)) (by simp), hk3.block R (Nat.lt_of_lt_of_le hl H2.out.2.2.2.size) (by simp), H2.out.2.2.2.block R hl (by simp)]
  exact hR0
 have HBL : Hid (w.heap.size <= b ∧ R < b ∧ b < G ∧ G < Sg ∧ Sg < w4.heap.size ∧ ∀ a, ao' = some a -> R < a.block ∧ (xs ≠ [] -> a.block < G)) := by
  have h1 := (gs hR0).1
  have h2 := H2.out.1
  have h3 := HK.out.size
  have h4 := HGN.out
  refine ⟨by omega, by omega, hGb, hSG, hA.lt, fun a ha => ⟨by have := H2.out.2.1 a ha; omega, fun hx => ?_⟩⟩
  have := H2.out.2.2.1.blk hx a ha
  omega
 have HA := hide hA
 have cb := HX.out.cell
 have HNB : Hid (G ∉ [b]) := by have := HBL.out; show G ∉ [b]; simp; omega
 have HNS : Hid (G ∉ [b, Sg]) := by have := HBL.out; show G ∉ [b, Sg]; simp; omega
 have HSB : Hid (Sg ∉ [b]) := by have := HBL.out; show Sg ∉ [b]; simp; omega
 clear hX hk3 hk4 hA H2 HK hR0 hSG hGb hz hzs
 have HMANY := hide hM
 clear hM
 have k0 : Kept [] w4 (World.drew w4) := (Kept.refl [] w4).drew
 refine wp_region_held_drew (S := fun w' => Kept [b, Sg] w4 w') (by kernel_rfl) ((Kept.refl [b, Sg] w4).drew) (fun h0 => ?_)
 generalize World.drew w4 = v0 at h0 k0 ⊢
 refine t4 0 (stV b) rfl (yieldsIf_load_mid (by rfl) _ _ rfl G 0 rfl (stC b) _ (fun W h => (HX.out.kept h HNS.out).range) Tryz.underlying145 rfl Tryz.infoStrict) h0 ?_
 simp only [zz]
 refine t4 2 (stV b) rfl (yieldsIf_load_mid (by rfl) _ _ rfl G 0 rfl (stC b) _ (fun W h => (HX.out.kept h HNS.out).range) Tryz.underlying145 rfl Tryz.infoStrict) h0 ?_
 simp only [zz]
 refine t4 4 (stV b) rfl (yieldsIf_load_mid (by rfl) _ _ rfl G 0 rfl (stC b) _ (fun W h => (HX.out.kept h HNS.out).range) Tryz.underlying145 rfl Tryz.infoStrict) h0 ?_
 simp only [zz]
 have hr0 := HR4.out.later k0
 have kk0 : Kept [b] w4 v0 := k0.mono (by simp)
 clear k0
 refine rd 1 fun K hK => ?_
 go_simp
 refine (width_yes hr0 hW).mono ?_
 rintro e v1 ⟨rfl, hr1, hq⟩
 have kk1 := kk0.tr hq
 refine hK.out _ _ (h0.tr hq) (fun h1 => ?_)
 clear hK K
 try simp only [zz]
 clear hq hr0 kk0 h0
 refine t1 6 (.pointer (some ⟨Sg, 0, none⟩)) h1 ?_
 simp only [zz]
 refine rd 3 fun K hK => ?_
 go_simp
 refine (size_yes hr1 hZ).mono ?_
 rintro e v2 ⟨rfl, hr2, hq⟩
 have kk2 := kk1.tr hq
 refine hK.out _ _ (h1.tr hq) (fun h2 => ?_)
 clear hK K
 try simp only [zz]
 clear hq hr1 kk1 h1
 refine rd 5 fun K hK => ?_
 go_simp
 refine (length_yes hr2 hL).mono ?_
 rintro e v3 ⟨rfl, hr3, hq⟩
 have kk3 := kk2.tr hq
 refine hK.out _ _ (h2.tr hq) (fun h3 => ?_)
 clear hK K
 try simp only [zz]
 clear hq hr2 kk2 h2
 have hA3 := HA.out.kept kk3 HSB.out
 have f0 := hA3.fr 0
 have c0 := hA3.cell (Sig.c0 _ _)
 have hA4 := hA3.setW (nW xs)
 have f1 := hA4.fr 1
 have c1 := hA4.cell (Sig.c1 _ _)
 have hA5 := hA4.setZ (nZ xs)
 have f2 := hA5.fr 2
 have c2 := hA5.cell (Sig.c2 _ _)
 have hA6 := hA5.setL (nL xs)
 simp only [show (stNumber xs (s1 xs)).1 = nW xs from rfl, show (stNumber xs (stNumber xs (s1 xs)).2).1 = nZ xs from rfl, show (stNumber xs (stNumber xs (stNumber xs (s1 xs)).2).2).1 = nL xs from rfl]
 refine rd 7 fun K hK => ?_
 go_simp
 refine hK.out _ _ (h3.setCell (by simp) _) (fun h4 => ?_)
 clear hK K h3
 try simp only [zz]
 refine t1 8 (.pointer (some ⟨Sg, 1, none⟩)) h4 ?_
 simp only [zz]
 refine rd 9 fun K hK => ?_
 go_simp
 refine hK.out _ _ (h4.setCell (by simp) _) (fun h5 => ?_)
 clear hK K h4
 try simp only [zz]
 refine t1 10 (.pointer (some ⟨Sg, 2, none⟩)) h5 ?_
 simp only [zz]
 refine rd 11 fun K hK => ?_
 go_simp
 refine hK.out _ _ (h5.setCell (by simp) _) (fun h6 => ?_)
 clear hK K h5
 try simp only [zz]
 refine qd ?_
 have k6 : Kept [Sg] v3 (((v3.setCell ⟨Sg, 0, none⟩ (.int .i64 (nW xs))).setCell ⟨Sg, 1, none⟩ (.int .i64 (nZ xs))).setCell ⟨Sg, 2, none⟩ (.int .i64 (nL xs))) := (((Kept.refl [Sg] v3).setCell (by simp) _).setCell (by simp) _).setCell (by simp) _
 obtain ⟨sgA, hsgA⟩ : ∃ sgA : Sig, { { { sig0 with width := nW xs } with size := nZ xs } with length := nL xs } = sgA := ⟨_, rfl⟩
 have qW : sgA.width = nW xs := by rw [<-hsgA]
 have qZ : sgA.size = nZ xs := by rw [<-hsgA]
 have qL : sgA.length = nL xs := by rw [<-hsgA]
 rw [hsgA] at hA6
 have HSA := hide hsgA
 clear hsgA hA3 hA4 hA5 f0 f1 f2 c0 c1 c2 h6
 generalize ((v3.setCell ⟨Sg, 0, none⟩ (.int .i64 (nW xs))).setCell ⟨Sg, 1, none⟩ (.int .i64 (nZ xs))).setCell ⟨Sg, 2, none⟩ (.int .i64 (nL xs)) = w5 at hA6 k6 ⊢
 have HX5 := hide ((HX.out.kept kk3 HNB.out).kept k6 (by have := HBL.out; simp; omega))
 have HR5 : Hid (RdS w5 b ao' cap' xs (s4 xs)) := hr3.kept k6 (by have := HBL.out; simp; omega) (fun hx a ha => by have := HBL.out; have := (HBL.out.2.2.2.2.2 a ha).2 hx; simp; omega)
 have HK5 : Hid (Kept [] w w5) := (HK4.out.trans kk3 (fun i hi hl => by simp only [List.mem_singleton] at hi; have := HBL.out; omega)).trans k6 (fun i hi hl => by simp only [List.mem_singleton] at hi; have := HBL.out; omega)
 have HO5 : Hid (w5.heap[R]? = some (.cells zeroS 26 (0, 0))) := by
  have hl := (gs HOUT.out).1
  have := HBL.out
  show _ = _
  rw [k6.block R (Nat.lt_of_lt_of_le hl kk3.size) (by simp; omega), kk3.block R hl (by simp; omega)]
  exact HOUT.out
 have HA5 := hide hA6
 clear hr3 kk3 k6 HX HR4 HK4 HOUT HA cb
 have cW := hA6.cell (Sig.c0 _ _)
 have cZ := hA6.cell (Sig.c1 _ _)
 have cL := hA6.cell (Sig.c2 _ _)
 rw [qW] at cW
 rw [qZ] at cZ
 rw [qL] at cL
 clear hA6
 have hWb := hW
 have hZb := hZ
 have hLb := hL
 rw [show (stNumber xs (s1 xs)).1 = nW xs from rfl, isW, Dlt.within_iff] at hWb
 rw [show (stNumber xs (stNumber xs (s1 xs)).2).1 = nZ xs from rfl, isZ, Dlt.within_iff] at hZb
 rw [show (stNumber xs (stNumber xs (stNumber xs (s1 xs)).2).2).1 = nL xs from rfl, Dlt.within_iff] at hLb
 obtain ⟨W, hWn⟩ := Int.eq_ofNat_of_zero_le (show 0 <= nW xs by omega)
 obtain ⟨Z, hZn⟩ := Int.eq_ofNat_of_zero_le (show 0 <= nZ xs by omega)
 obtain ⟨N, hNn⟩ := Int.eq_ofNat_of_zero_le (show 0 <= nL xs by omega)
 rw [hWn] at cW
 rw [hZn] at cZ
 rw [hNn] at cL
 have hW32 : W <= 32 := by omega
 have hZ16 : 16 <= Z := by omega
 have hN13 : N <= 131072 := by omega
 obtain ⟨c, hcq⟩ := nm (N / Z)
 have hcn : c <= 131072 := by rw [<-hcq]; exact Nat.le_trans (Nat.div_le_self _ _) hN13
 have hdiv : (N : Int).tdiv (Z : Int) = (c : Int) := by rw [<-hcq, Int.ofNat_tdiv]
 have HCC : Hid (nL xs / nZ xs = (c : Int)) := by show _ = _; rw [hZn, hNn, <-hcq, Int.natCast_ediv]
 have hzz : (Z : Int) ≠ 0 := by omega
 have hz0 : ((Z : Int) == 0) = false := by simp; omega
 have HWN := hide hWn
 clear hW hZ hL hWb hZb hLb hWn hZn hNn hcq qW qZ qL
 have hrg := HX5.out.range
 have hc20 : c <= 2048 := by have := HMANY.out; rw [HCC.out] at this; omega
 have hcz2 : (c : Int) <= 2048 := by omega
 have hmu := must_yes b w5
 go_upto_region 6 with (first
  | refine wpList_load_mid rfl 145 (.tmp 3) rfl G 0 rfl (stC b) _ hrg Tryz.underlying145 rfl Tryz.infoStrict ?_
  | (go_at_call 92; refine hmu.mono ?_; rintro r w6 ⟨rfl, hk6⟩; have H6 := hide hk6; clear hmu hk6))
 have hA6 := HA5.out.kept H6.out (by simp)
 have hrg6 := (HX5.out.kept H6.out (by simp)).range
 have HX6 := hide (HX5.out.kept H6.out (by simp))
 have hid6 := id_ok (HR5.out.later H6.out) W hW32
 have HK6 := hide (HK5.out.tr H6.out)
 have HO6 := hide ((H6.out.block R (gs HO5.out).1 (by simp)).trans HO5.out)
 replace cW := H6.out.cellOf cW (by simp)
 have HA6 := hide hA6
 clear hrg cZ cL hA6 HA5 HX5 HR5 HK5 HO5 H6 hdiv hzz hz0
 have HEB : Hid (pad (stRaw xs (s4 xs) (W : Nat)).1 = idB xs) := by show _ = _; unfold idB; rw [HWN.out]
 have HEB2 : Hid ((stRaw xs (s4 xs) (W : Nat)).2 = sB xs) := by show _ = _; unfold sB; rw [HWN.out]
 rw [HEB.out, HEB2.out] at hid6
 have hidl : (idB xs).length = 32 := pad_len _
 have hii : (Tryz.prog.info? 23).map (·.size) = some (bys (idB xs)).toArray.size := by rw [List.size_toArray]; exact idlen hidl
 have hib := bys_all (idB xs)
 have hsz : (bys (idB xs)).toArray.size = 32 := by rw [List.size_toArray, bys_length, hidl]
 go_upto_region 7 with (first
  | refine wpList_load_mid rfl 145 (.tmp 3) rfl G 0 rfl (stC b) _ hrg6 Tryz.underlying145 rfl Tryz.infoStrict ?_
  | (go_at_call 95; refine hid6.mono ?_; rintro r w7 ⟨rfl, hr7, hk7⟩; have H7 := hide (ai hr7 hk7); have hA7 := HA6.out.kept hk7 HSB.out; have hth := hA7.thereB; clear hid6 hr7 hk7)
  | refine wpList_store_mid rfl 23 (.tmp 31) (.tmp 30) rfl Sg 3 (bys (idB xs)).toArray rfl rfl (by rw [hsz]; exact hth) hii hib ?_)
 have hA8 := hA7.setB (idB xs) hidl
 have hk8 : Kept [Sg] w7 (w7.setCells Sg 3 (bys (idB xs))) := kept_setCells _ _ _ _ _ (Kept.refl _ _) (by simp)
 have HX8 := hide ((HX6.out.kept H7.out.2 HNB.out).kept hk8 (by have := HBL.out; simp; omega))
 have HR8 : Hid (RdS (w7.setCells Sg 3 (bys (idB xs))) b ao' cap' xs (sB xs)) := H7.out.1.kept hk8 (by have := HBL.out; simp; omega) (fun hx a ha => by have := HBL.out; have := (HBL.out.2.2.2.2.2 a ha).2 hx; simp; omega)
 have HK8 : Hid (Kept [] w (w7.setCells Sg 3 (bys (idB xs)))) := (HK6.out.trans H7.out.2 (fun i hi hl => by simp only [List.mem_singleton] at hi; have := HBL.out; omega)).trans hk8 (fun i hi hl => by simp only [List.mem_singleton] at hi; have := HBL.out; omega)
 have HO8 : Hid ((w7.setCells Sg 3 (bys (idB xs))).heap[R]? = some (.cells zeroS 26 (0, 0))) := by
  have hl := (gs HO6.out).1
  have := HBL.out
  show _ = _
  rw [hk8.block R (Nat.lt_of_lt_of_le hl H7.out.2.size) (by simp; omega), H7.out.2.block R hl (by simp; omega)]
  exact HO6.out
 clear hrg6 hth hA7 hk8 H7 HX6 HK6 HO6 HA6 hii hib cW
 obtain ⟨sgB, hsgB⟩ : ∃ sgB : Sig, { sgA with base := idB xs, hb := hidl } = sgB := ⟨_, rfl⟩
 rw [hsgB] at hA8
 have HSB2 : Hid (sgB.width = nW xs ∧ sgB.size = nZ xs ∧ sgB.length = nL xs ∧ sgB.base = idB xs) := by
  rw [<-hsgB, <-HSA.out]; exact ⟨rfl, rfl, rfl, rfl⟩
 clear hsgB
 generalize w7.setCells Sg 3 (bys (idB xs)) = w8 at hA8 HX8 HR8 HK8 HO8 ⊢
 have hmk := run_makeW w8 c (by omega)
 have hF := Fil.start HK8.out c
 have hk9 := ka w8 (.cells (wrows (List.replicate c wk0)).toArray 62)
 have c35 := (hA8.kept hk9 (by simp)).cell (Sig.cv _ _)
 have f35 := (hA8.kept hk9 (by simp)).fr 35
 obtain ⟨gB, hgB⟩ : ∃ g, w8.heap.size = g := ⟨_, rfl⟩
 rw [hgB] at hF
 have HGS : Hid (Sg < gB) := by show _ < _; rw [<-hgB]; exact hA8.lt
 go_upto_region 8 with (fail)
 clear hmk hgB
 have hA9 := hA8.kept hk9 (by simp)
 have HX9 := hide (HX8.out.kept hk9 (by simp))
 have HR9 := hide (HR8.out.later hk9)
 have HK9 := hide (HK8.out.tr hk9)
 have HO9 := hide ((hk9.block R (gs HO8.out).1 (by simp)).trans HO8.out)
 clear HX8 HR8 HK8 HO8 hA8 hk9
 generalize w8.alloc (.cells (wrows (List.replicate c wk0)).toArray 62) = w9 at *
 have hA10 := hA9.setV (.slice (some ⟨gB, 0, none⟩) c c)
 have hk10 : Kept [Sg] w9 (w9.setCell ⟨Sg, 35, none⟩ (.slice (some ⟨gB, 0, none⟩) c c)) := (Kept.refl [Sg] w9).setCell (by simp) _
 have hF10 := hF.kept hk10 (by have := HGS.out; simp; omega)
 have HX10 := hide (HX9.out.kept hk10 (by have := HBL.out; simp; omega))
 have HR10 : Hid (RdS (w9.setCell ⟨Sg, 35, none⟩ (.slice (some ⟨gB, 0, none⟩) c c)) b ao' cap' xs (sB xs)) := HR9.out.kept hk10 (by have := HBL.out; simp; omega) (fun hx a ha => by have := HBL.out; have := (HBL.out.2.2.2.2.2 a ha).2 hx; simp; omega)
 have HK10 : Hid (Kept [] w (w9.setCell ⟨Sg, 35, none⟩ (.slice (some ⟨gB, 0, none⟩) c c))) := HK9.out.trans hk10 (fun i hi hl => by simp only [List.mem_singleton] at hi; have := HBL.out; omega)
 have HO10 := hide ((hk10.block R (gs HO9.out).1 (by have := HBL.out; simp; omega)).trans HO9.out)
 clear HX9 HR9 HK9 HO9 hA9 hF hk10 c35 f35
 generalize w9.setCell ⟨Sg, 35, none⟩ (.slice (some ⟨gB, 0, none⟩) c c) = w10 at hA10 hF10 HX10 HR10 HK10 HO10 ⊢
 have cv := hA10.cell (Sig.cv _ _)
 have HIN := hide (ai hF10 (ai hA10 (ai HX10.out (ai HR10.out (ai HK10.out HO10.out)))))
 clear hF10 hA10 HX10 HR10 HK10 HO10 HSA HEB HEB2 hidl hsz
 go_wp2
 go_loopw [38] (fun x wr => ∃ k : Nat, k <= c ∧ x = .int .i64 k ∧ Hid (Fil w wr gB c (rdWs xs (W : Nat) (sB xs) k).1 ∧ SigAt wr Sg sgB (.slice (some ⟨gB, 0, none⟩) c c) ∧ Sx wr G b ∧ RdS wr b ao' cap' xs (rdWs xs (W : Nat) (sB xs) k).2 ∧ Kept [] w wr ∧ wr.heap[R]? = some (.cells zeroS 26 (0, 0)))) (fun x wr => c - (intOf x).toNat)
 case atStart => exact ⟨0, Nat.zero_le _, rfl, HIN⟩
 case round =>
  clear HIN cv
  obtain ⟨k, hk, rfl, HP⟩ := hrel
  by_cases hlt : k < c
  ·obtain ⟨hF, hA, hX, hR, hK, hO⟩ := HP.out
   clear HP
   have hlen : (rdWs xs (W : Nat) (sB xs) k).1.length = k := rdWs_len _ _ _ _
   have hFh := hF.open (by rw [hlen]; exact hlt)
   have HNX : Hid (rdWs xs (W : Nat) (sB xs) (k + 1) = ((rdWs xs (W : Nat) (sB xs) k).1 ++ [(rdW xs (W : Nat) (rdWs xs (W : Nat) (sB xs) k).2).1], (rdW xs (W : Nat) (rdWs xs (W : Nat) (sB xs) k).2).2)) := rfl
   generalize rdWs xs (W : Nat) (sB xs) k = p at hFh hR hlen HNX
   obtain ⟨L, sk⟩ := p
   simp only at hFh hR hlen HNX
   have cv := hA.cell (Sig.cv _ _)
   have cb := hX.cell
   have HX := hide hX
   have HA := hide hA
   have HO := hide hO
   have HK := hide hK
   have HFH := hide hFh
   have HRR := hide hR
   have HLN := hide hlen
   have hk48 : k < 2048 := by omega
   clear hF hA hX hR hK hO hFh hlen
   have HNG : Hid (G ∉ [b, gB]) := by have := HBL.out; have := HGS.out; show G ∉ [b, gB]; simp; omega
   have HNGS : Hid (Sg ∉ [b, gB]) := by have := HBL.out; have := HGS.out; show Sg ∉ [b, gB]; simp; omega
   have HGB : Hid (gB ∉ [b]) := by have := HBL.out; have := HGS.out; show gB ∉ [b]; simp; omega
   have HRB : Hid (R ∉ [b, gB]) := by have := HBL.out; have := HGS.out; show R ∉ [b, gB]; simp; omega
   go_upto_region 11 with (fail)
   have k0 : Kept [] wr (World.drew wr) := (Kept.refl [] wr).drew
   refine wp_region_held_drew (S := fun w' => Kept [b, gB] wr w') (by kernel_rfl) ((Kept.refl [b, gB] wr).drew) (fun h0 => ?_)
   generalize World.drew wr = v0 at h0 k0 ⊢
   refine t1 0 (.pointer (some ⟨Sg, 35, none⟩)) h0 ?_
   simp only [zz]
   refine t2 1 (.slice (some ⟨gB, 0, none⟩) c c) rfl h0 ?_ (fun w hSw => by have c0 := Kept.cellOf hSw cv HNGS.out; go_simp)
   simp only [zz]
   refine t1 2 (.int .i64 k) h0 ?_
   simp only [zz]
   refine t1 3 (.pointer (some ⟨G, 0, none⟩)) h0 ?_
   simp only [zz]
   refine t2 4 (.pointer (some ⟨b, 0, none⟩)) rfl h0 ?_ (fun w hSw => by have c0 := Kept.cellOf hSw cb HNG.out; go_simp)
   simp only [zz]
   refine rd 5 fun K hK => ?_
   go_simp
   refine (rfixed_st (HRR.out.later k0) 4).mono ?_
   rintro e v1 ⟨rfl, hq, hr1⟩
   have kk1 : Kept [b] wr v1 := (k0.mono (by simp)).tr hq
   refine hK.out _ _ (h0.tr hq) (fun h1 => ?_)
   clear hK K
   try simp only [zz]
   clear hq k0 h0
   refine t1 6 (.pointer (some ⟨gB, k * 33, none⟩)) h1 ?_
   simp only [zz]
   refine t1 7 (.pointer (some ⟨gB, k * 33, none⟩)) h1 ?_
   simp only [zz]
   have hF1 := HFH.out.kept kk1 HGB.out
   obtain ⟨cS, fS, hth⟩ := hF1.cell
   have hF3 := hF1.setS (stFixed xs sk 4).1 (fixed_wf xs sk)
   rw [HLN.out] at cS fS hF3
   have kg1 : Kept [gB] v1 (v1.setCell ⟨gB, k * 33, none⟩ (.int .i64 (stFixed xs sk 4).1)) := (Kept.refl [gB] v1).setCell (by simp) _
   refine rd 8 fun K hK => ?_
   go_simp
   refine hK.out _ _ (h1.tr kg1) (fun h2 => ?_)
   clear hK K h1
   try simp only [zz]
   refine qd ?_
   clear cS fS hth hF1 kk1
   have HS3 := hide hF3
   have HX3 := hide (HX.out.kept h2 HNG.out)
   have HA3 := hide (HA.out.kept h2 HNGS.out)
   have HK3 := hide (HK.out.trans h2 (fun i hi hl => by simp only [List.mem_cons, List.not_mem_nil, or_false] at hi; have := HBL.out; have := HGS.out; omega))
   have HO3 := hide ((h2.block R (gs HO.out).1 HRB.out).trans HO.out)
   have HR3 : Hid (RdS (v1.setCell ⟨gB, k * 33, none⟩ (.int .i64 (stFixed xs sk 4).1)) b ao' cap' xs (stFixed xs sk 4).2) := hr1.kept kg1 (by have := HBL.out; have := HGS.out; simp; omega) (fun hx a ha => by have := HBL.out; have := HGS.out; have := (HBL.out.2.2.2.2.2 a ha).2 hx; simp; omega)
   clear hF3 h2 hr1 kg1 HX HA HK HO HFH HRR cv cb
   generalize v1.setCell ⟨gB, k * 33, none⟩ (.int .i64 (stFixed xs sk 4).1) = w12 at HS3 HX3 HA3 HK3 HO3 HR3 ⊢
   have cv := HA3.out.cell (Sig.cv _ _)
   have cW := HA3.out.cell (Sig.c0 _ _)
   rw [HSB2.out.1, HWN.out] at cW
   have hii := fun (id : List UInt8) (h : id.length = 32) => idlen h
   go_upto_region 12 with (fail)
   have k0 : Kept [] w12 (World.drew w12) := (Kept.refl [] w12).drew
   refine wp_region_held_drew (S := fun w' => Kept [b, gB] w12 w') (by kernel_rfl) ((Kept.refl [b, gB] w12).drew) (fun g0 => ?_)
   generalize World.drew w12 = v10 at g0 k0 ⊢
   refine t1 0 (.pointer (some ⟨Sg, 35, none⟩)) g0 ?_
   simp only [zz]
   refine t2 1 (.slice (some ⟨gB, 0, none⟩) c c) rfl g0 ?_ (fun w hSw => by have c0 := Kept.cellOf hSw cv HNGS.out; go_simp)
   simp only [zz]
   refine t1 2 (.int .i64 k) g0 ?_
   simp only [zz]
   refine t4 3 (stV b) rfl (yieldsIf_load_mid (by rfl) _ _ rfl G 0 rfl (stC b) _ (fun W h => (HX3.out.kept h HNG.out).range) Tryz.underlying145 rfl Tryz.infoStrict) g0 ?_
   simp only [zz]
   refine t1 4 (.pointer (some ⟨Sg, 0, none⟩)) g0 ?_
   simp only [zz]
   refine t2 5 (.int .i64 W) rfl g0 ?_ (fun w hSw => by have c0 := Kept.cellOf hSw cW HNGS.out; go_simp)
   simp only [zz]
   refine rd 6 fun K hK => ?_
   go_simp
   refine (id_ok (HR3.out.later k0) W hW32).mono ?_
   rintro e v11 ⟨rfl, hr11, hq⟩
   have kk1 : Kept [b] w12 v11 := (k0.mono (by simp)).tr hq
   refine hK.out _ _ (g0.tr hq) (fun g1 => ?_)
   clear hK K
   try simp only [zz]
   clear hq k0 g0
   refine t1 7 (.pointer (some ⟨gB, k * 33, none⟩)) g1 ?_
   simp only [zz]
   refine t1 8 (.pointer (some ⟨gB, k * 33 + 1, none⟩)) g1 ?_
   simp only [zz]
   have hF1 := HS3.out.kept kk1 HGB.out
   obtain ⟨cS, fS, hth⟩ := hF1.cell
   have hpl : (pad (stRaw xs (stFixed xs sk 4).2 (W : Nat)).1).length = 32 := pad_len _
   have hF4 := hF1.setI _ hpl
   rw [HLN.out] at hth hF4
   have kg11 : Kept [gB] v11 (v11.setCells gB (k * 33 + 1) (bys (pad (stRaw xs (stFixed xs sk 4).2 (W : Nat)).1))) := kept_setCells _ _ _ _ _ (Kept.refl _ _) (by simp)
   have hsz : (bys (pad (stRaw xs (stFixed xs sk 4).2 (W : Nat)).1)).toArray.size = 32 := by rw [List.size_toArray, bys_length, hpl]
   refine rd 9 fun K hK => ?_
   refine wp_store_mid 23 (.tmp 57) (.tmp 55) rfl gB (k * 33 + 1) (bys (pad (stRaw xs (stFixed xs sk 4).2 (W : Nat)).1)).toArray rfl rfl (by rw [hsz]; exact hth) (by rw [List.size_toArray]; exact idlen hpl) (bys_all _) ?_
   refine hK.out _ _ (g1.tr kg11) (fun g2 => ?_)
   clear hK K g1
   try simp only [zz]
   refine qd ?_
   clear cS fS hth hF1 kk1 hsz
   have HPF : Hid (Fil w (v11.setCells gB (k * 33 + 1) (bys (pad (stRaw xs (stFixed xs sk 4).2 (W : Nat)).1))) gB c (rdWs xs (W : Nat) (sB xs) (k + 1)).1 ∧ SigAt (v11.setCells gB (k * 33 + 1) (bys (pad (stRaw xs (stFixed xs sk 4).2 (W : Nat)).1))) Sg sgB (.slice (some ⟨gB, 0, none⟩) c c) ∧ Sx (v11.setCells gB (k * 33 + 1) (bys (pad (stRaw xs (stFixed xs sk 4).2 (W : Nat)).1))) G b ∧ RdS (v11.setCells gB (k * 33 + 1) (bys (pad (stRaw xs (stFixed xs sk 4).2 (W : Nat)).1))) b ao' cap' xs (rdWs xs (W : Nat) (sB xs) (k + 1)).2 ∧ Kept [] w (v11.setCells gB (k * 33 + 1) (bys (pad (stRaw xs (stFixed xs sk 4).2 (W : Nat)).1))) ∧ (v11.setCells gB (k * 33 + 1) (bys (pad (stRaw xs (stFixed xs sk 4).2 (W : Nat)).1))).heap[R]? = some (.cells zeroS 26 (0, 0))) := by
    refine ⟨?_, HA3.out.kept g2 HNGS.out, HX3.out.kept g2 HNG.out, ?_, HK3.out.trans g2 (fun i hi hl => by simp only [List.mem_cons, List.not_mem_nil, or_false] at hi; have := HBL.out; have := HGS.out; omega), (g2.block R (gs HO3.out).1 HRB.out).trans HO3.out⟩
    ·rw [HNX.out]; exact hF4.close
    ·rw [HNX.out]
     exact hr11.kept kg11 (by have := HBL.out; have := HGS.out; simp; omega) (fun hx a ha => by have := HBL.out; have := HGS.out; have := (HBL.out.2.2.2.2.2 a ha).2 hx; simp; omega)
   clear hF4 g2 hr11 kg11 HS3 HX3 HA3 HK3 HO3 HR3 cv cW hii
   generalize v11.setCells gB (k * 33 + 1) (bys (pad (stRaw xs (stFixed xs sk 4).2 (W : Nat)).1)) = w13 at HPF ⊢
   go_wp2
   go_roundw
   case rel => exact ⟨k + 1, by omega, by go_num, HPF⟩
   case measure => simp [intOf]; omega
  ·obtain rfl : k = c := by omega
   obtain ⟨hF, hA, hX, hR, hK, hO⟩ := HP.out
   clear HP
   have HCT : Hid (cntS xs = k) := by show _ = _; unfold cntS; rw [HCC.out, Int.toNat_natCast]
   have hrg := hX.range
   rw [HCT.out] at HEND
   rw [HWN.out] at HEND
   have hend := end_ok hR ao n cap HD.out.1 HD.out.2.1 (by omega) (HD.out.2.2.2.kept hK (by simp)) (fun hx a ha => by
    obtain ⟨g, off, e, hg, _⟩ := HD.out.2.2.2.open hx
    rw [ha] at e; cases e
    have := HBL.out
    show g ≠ b
    omega) HEND
   have HSS : Hid (sigOf xs = { sgB with blocks := (rdWs xs (W : Nat) (sB xs) k).1 }) := by
    show _ = _
    refine Sig.ext' ?_ ?_ ?_ ?_ ?_
    ·show nW xs = sgB.width; rw [HSB2.out.1]
    ·show nZ xs = sgB.size; rw [HSB2.out.2.1]
    ·show nL xs = sgB.length; rw [HSB2.out.2.2.1]
    ·show idB xs = sgB.base; rw [HSB2.out.2.2.2]
    ·show (rdWs xs (nW xs) (sB xs) (cntS xs)).1 = _; rw [HCT.out, HWN.out]
   have HF := hide hF
   have HAA := hide hA
   have HKF := hide hK
   have HOF := hide hO
   clear hF hA hX hR hK hO
   go_upto_region 15 with (first
    | refine wpList_load_mid rfl 145 (.tmp 3) rfl G 0 rfl (stC b) _ hrg Tryz.underlying145 rfl Tryz.infoStrict ?_
    | (go_at_call 93; refine hend.mono ?_; rintro r wz ⟨rfl, hkz⟩; have HZ := hide hkz; clear hend hkz))
   have hrz := (HAA.out.kept HZ.out HSB.out).range
   have hoz : wz.heap[R]? = some (.cells zeroS 26 (0, 0)) := (HZ.out.block R (gs HOF.out).1 (by have := HBL.out; simp; omega)).trans HOF.out
   have hil := Tryz.infoSig sgB (.slice (some ⟨gB, 0, none⟩) k k)
   have hia := Tryz.infoSigA sgB (.slice (some ⟨gB, 0, none⟩) k k)
   have hzs : zeroS.size = (sgB.cells (.slice (some ⟨gB, 0, none⟩) k k)).toArray.size := by rw [sig_size]; exact sig_size _ _
   have hal := sig_one sgB (.slice (some ⟨gB, 0, none⟩) k k) rfl
   clear hrg
   go_wp2_with (first
    | refine wpList_load_mid rfl 26 (.tmp 4) rfl Sg 0 rfl (sgB.cells (.slice (some ⟨gB, 0, none⟩) k k)) _ hrz Tryz.underlying26 rfl hil ?_
    | refine wpList_store_rowTo rfl 26 (.tmp 2) (.tmp 62) rfl rfl R (sgB.cells (.slice (some ⟨gB, 0, none⟩) k k)).toArray rfl rfl 26 zeroS hoz hia hzs hal ?_)
   have hkR : Kept [R] wz (wz.setRow R (sgB.cells (.slice (some ⟨gB, 0, none⟩) k k)).toArray) := kept_row wz R _
   have hFo := ((HF.out.kept HZ.out (by have := HBL.out; have := HGS.out; simp; omega)).kept hkR (by have := HBL.out; have := HGS.out; simp; omega)).own (rdWs_len _ _ _ _) (by omega)
   have hKE : Kept [] w (wz.setRow R (sgB.cells (.slice (some ⟨gB, 0, none⟩) k k)).toArray) := (HKF.out.trans HZ.out (fun i hi hl => by simp only [List.mem_singleton] at hi; have := HBL.out; omega)).trans hkR (fun i hi hl => by simp only [List.mem_singleton] at hi; have := HRW.out; omega)
   refine ret_row rfl rfl R 26 _ (0, 0) _ rfl (setRow_heap _ _ _ _ _ _ hoz) Tryz.underlying26 rfl hia ?_
   refine ⟨⟨.slice (some ⟨gB, 0, none⟩) k k, ?_, ?_⟩, hKE⟩
   ·rw [HSS.out]; rfl
   ·rw [HSS.out]; exact hFo
end

section
open Dlt
structure InB8 (w : World) (ao : Option Addr) (n cap : Nat) (xs : List UInt8) : Prop where
 len : xs.length = n
 le : n <= cap
 max : n <= 9223372036854775807
 sl : Sl w ao xs
 nil : ao = none -> xs = [] ∧ cap = 0
theorem InB8.kept {w w' : World} {ao : Option Addr} {n cap : Nat} {xs : List UInt8} (h : InB8 w ao n cap xs) (hk : Kept [] w w') : InB8 w' ao n cap xs := ⟨h.len, h.le, h.max, h.sl.kept hk (by simp), h.nil⟩
theorem readSig_some (ao : Option Addr) (n cap : Nat) (xs : List UInt8) (w : World) (h : InB8 w ao n cap xs) (s : Sig) (hd : decS xs = some s) :
  Calls Tryz.prog 52 #[.slice ao n cap] w fun e w' => (∃ v, e = .returned (.agg (s.cells v).toArray) ∧ OwnW w' w.heap.size v s.blocks) ∧ Kept [] w w' := by
 unfold decS at hd
 rw [h.len] at hd
 split at hd; · cases hd
 rename_i h1
 split at hd; · cases hd
 rename_i h2
 split at hd; · cases hd
 rename_i h3
 split at hd; · cases hd
 rename_i h4
 split at hd; · cases hd
 rename_i h5
 split at hd; · cases hd
 rename_i h6
 split at hd; · cases hd
 rename_i h7
 injection hd with hd
 subst hd
 rw [Bool.not_eq_false] at h3 h4 h5 h7
 exact readSig_yes ao n cap xs w h.len h.le (by omega) h.sl h.nil (Classical.not_not.1 h2) h3 h4 h5 h6 h7
theorem dcatch_idle (p q : Nat) (w : World) :
  CallsD Tryz.prog 51 #[.pointer (some ⟨p, 0, none⟩), .pointer (some ⟨q, 0, none⟩)] .returning w fun e u' w' => e = .returned (.tuple #[]) ∧ u' = .returning ∧ w' = w := by
 refine callsD_of_wpS Tryz.func51 rfl fun c₀ cs hu => ?_
 apply wpS_seq
 apply wpS_region
 simp [wpOpsS, go_sem, recoverD, hu, Tryz.ntmps51, Exit.thenS]
 refine wpS_cond (t := false) (by simp [Act.eval, Array.replicate]) ?_
 simp only [Bool.false_eq_true, if_false]
 refine wpS_of_wp (wp_skip ?_)
 cases c₀
 simp_all [bodyPostS, results, Tryz.results51]
theorem OwnW.ge {w : World} {base : Nat} {v : Value} {L : List Wk} (h : OwnW w base v L) {g : Nat} (hg : v.ownBlock = some g) : base <= g := by
 obtain ⟨ao5, c5, e5, _, _, hb5, _⟩ := h.wks
 cases ao5 with
 | none => rw [e5] at hg; simp [Value.ownBlock] at hg
 | some a5 => obtain ⟨g5, rfl, h5, _, h6⟩ := hb5 a5 rfl; rw [hg] at h6; cases h6; exact h5
theorem dec_results {w : World} {A B : Nat} {cs : Array Value} {n : Int} {tmps : Array Value} (hA : w.heap[A]? = some (.cells cs 26 (0, 0))) (hi : (Tryz.prog.info? 26).map (·.size) = some cs.size) (hB : w.cell? ⟨B, 0, none⟩ = some (.int .i64 n)) (h2 : tmps[2]?.getD undef = .pointer (some ⟨A, 0, none⟩)) (h3 : tmps[3]?.getD undef = .pointer (some ⟨B, 0, none⟩)) :
  (results Tryz.f17 tmps).run Tryz.prog w = .ok (.tuple #[.agg cs, .int .i64 n]) w := by
 have hl := run_loadVar_row (P := Tryz.prog) w A 26 26 cs (0, 0) _ hA Tryz.underlying26 rfl hi
 have hl2 : (loadVar 29 ⟨B, 0, none⟩).run Tryz.prog w = .ok (.int .i64 n) w := by simp [go_sem, hB]
 simp [results, Tryz.results17, h2, h3, asAddr, hl, hl2]
theorem decode_good (ao : Option Addr) (n cap : Nat) (xs : List UInt8) (w : World) (h : InB8 w ao n cap xs) (s : Sig) (hp : decS xs = some s) :
  Calls Tryz.prog 17 #[.slice ao n cap] w fun e w' => TellS w w' e 0 s ∧ Kept [] w w' := by
 have hmf : ∀ (fn : Fn) (first cap : Array Value) (w : World), (Instr.makeFunc fn first cap).run Tryz.prog w = .ok (.func fn first cap) w := fun _ _ _ _ => rfl
 have hz := Tryz.zeroSig
 have H := hide h
 clear h
 go_enter_defers Tryz.func17, Tryz.ntmps17
 go_upto_region 2 with (fail)
 obtain ⟨W0, hW0⟩ := nm ((w.alloc (.cells zeroS 26)).alloc (.cells #[.int .i64 0] 29))
 rw [hW0]
 have kb : Kept [] w W0 := by rw [<-hW0]; exact ((Kept.refl [] w).alloc _).alloc _
 have sz : W0.heap.size = w.heap.size + 2 := by rw [<-hW0]; simp
 have rA : W0.heap[w.heap.size]? = some (.cells zeroS 26 (0, 0)) := by rw [<-hW0, Below.heap_alloc _ _ _ (by simp)]; exact heap_new _ _
 have cB : W0.cell? ⟨w.heap.size + 1, 0, none⟩ = some (.int .i64 0) := by rw [<-hW0]; simp [go_sem]
 have fB : W0.frozen? ⟨w.heap.size + 1, 0, none⟩ = false := by rw [<-hW0]; simp [go_sem]
 clear hW0
 have hro := readSig_some ao n cap xs W0 (H.out.kept kb) s hp
 have hzs := fun v => (show zeroS.size = (s.cells v).toArray.size by rw [sig_size]; exact sig_size _ _)
 go_wp2_with (first
  | (go_at_call 52; refine hro.mono ?_; rintro r w2 ⟨⟨v, rfl, ho2⟩, hk2⟩; obtain ⟨vo, vc, rfl, hv2⟩ := own_shape ho2; have HK2 := hide (ai hk2 ho2); have rA2 := (hk2.block _ (show w.heap.size < W0.heap.size by omega) (by simp)).trans rA; have kA := kept_row w2 w.heap.size (s.cells (.slice vo s.blocks.length vc)).toArray; have cB2 := kA.cellOf (hk2.cellOf cB (by simp)) (by simp); have fB2 := (kA.frozen (Nat.lt_of_lt_of_le (show w.heap.size + 1 < W0.heap.size by omega) hk2.size) (by simp)).trans ((hk2.frozen (show w.heap.size + 1 < W0.heap.size by omega) (by simp)).trans fB); clear hro hk2 ho2)
  | refine wpList_store_rowTo rfl 26 (.tmp 2) (.tmp 6) rfl rfl w.heap.size (s.cells (.slice vo s.blocks.length vc)).toArray rfl rfl 26 zeroS rA2 (Tryz.infoSigA s (.slice vo s.blocks.length vc)) (hzs (.slice vo s.blocks.length vc)) (sig_one s (.slice vo s.blocks.length vc) rfl) ?_)
 refine leaves_cons (f := 51) (args := #[.pointer (some ⟨w.heap.size, 0, none⟩), .pointer (some ⟨w.heap.size + 1, 0, none⟩)]) (by simp) (by simp [go_sem]) ?_
 refine (dcatch_idle w.heap.size (w.heap.size + 1) _).mono ?_
 rintro e u' w'' ⟨rfl, rfl, rfl⟩
 have rA3 := setRow_heap w2 w.heap.size _ (s.cells (.slice vo s.blocks.length vc)).toArray _ _ rA2
 obtain ⟨W3, hW3⟩ := nm ((w2.setRow w.heap.size (s.cells (.slice vo s.blocks.length vc)).toArray).setCell ⟨w.heap.size + 1, 0, none⟩ (.int .i64 0))
 have kB : Kept [w.heap.size + 1] (w2.setRow w.heap.size (s.cells (.slice vo s.blocks.length vc)).toArray) W3 := by rw [<-hW3]; exact (Kept.refl _ _).setCell (by simp) _
 have eA : W3.heap[w.heap.size]? = some (.cells (s.cells (.slice vo s.blocks.length vc)).toArray 26 (0, 0)) := (kB.block _ (gs rA3).1 (by simp)).trans rA3
 have eB : W3.cell? ⟨w.heap.size + 1, 0, none⟩ = some (.int .i64 0) := by rw [<-hW3]; exact World.cell?_setCell_same _ _ _ cB2
 have hK : Kept [] w W3 := ((kb.tr HK2.out.1).tr kA).tr kB
 have hO : OwnW W3 w.heap.size (.slice vo s.blocks.length vc) s.blocks := by
  have h1 := (HK2.out.2.kept kA (fun g hg => by have := HK2.out.2.ge hg; simp; omega)).kept kB (fun g hg => by have := HK2.out.2.ge hg; simp; omega)
  exact own_base h1 (by omega)
 rw [hW3]
 have hres := fun (tm : Array Value) h2 h3 => dec_results (tmps := tm) eA (Tryz.infoSigA s (.slice vo s.blocks.length vc)) eB h2 h3
 simp [Leaves, settle, hres]
 exact ⟨⟨(.slice vo s.blocks.length vc), rfl, hO⟩, hK⟩
end

section
open Dlt
namespace Dlt
def idxs (L : List Wk) (x : Int) (k : Nat) : List Nat := (List.range k).filter fun i => (L.getD i wk0).sum == x
theorem idxs_succ (L : List Wk) (x : Int) (k : Nat) : idxs L x (k + 1) = if (L.getD k wk0).sum = x then idxs L x k ++ [k] else idxs L x k := by
 unfold idxs
 rw [List.range_succ, List.filter_append]
 by_cases h : (L.getD k wk0).sum = x
 ·rw [if_pos h]
  congr 1
  simp only [List.filter_cons, List.filter_nil]
  rw [if_pos (by simpa using h)]
 ·rw [if_neg h]
  simp only [List.filter_cons, List.filter_nil]
  rw [if_neg (by simpa using h), List.append_nil]
theorem idxs_len (L : List Wk) (x : Int) (k : Nat) : (idxs L x k).length <= k := by
 unfold idxs
 exact Nat.le_trans (List.length_filter_le _ _) (by simp)
theorem idxs_mem {L : List Wk} {x : Int} {k i : Nat} (h : i ∈ idxs L x k) : i < k ∧ (L.getD i wk0).sum = x := by
 unfold idxs at h
 rw [List.mem_filter, List.mem_range] at h
 exact ⟨h.1, by simpa using h.2⟩
def leastI (L : List Wk) (x : Int) (id : List UInt8) : Option Nat := (List.range L.length).find? fun i => (L.getD i wk0).sum == x && (L.getD i wk0).id == id
theorem leastI_idxs (L : List Wk) (x : Int) (id : List UInt8) : leastI L x id = (idxs L x L.length).find? fun i => (L.getD i wk0).id == id := by
 unfold leastI idxs
 rw [List.find?_filter]
 congr 1
 funext a
 rw [Bool.eq_iff_iff]
 simp
def ivs (l : List Nat) : List Value := l.map fun n : Nat => .int .i64 (n : Int)
theorem ivs_snoc (l : List Nat) (k : Nat) : ivs (l ++ [k]) = ivs l ++ [.int .i64 k] := by simp [ivs]
end Dlt
theorem Tryz.infoInt8 : (Tryz.prog.info? 3).map (fun i => (i.zero, i.size, i.bytes)) = some (some (.int .i64 0), 1, 8) := by kernel_rfl
theorem Tryz.zeroInts8 (w : World) : (zeroValue 155).run Tryz.prog w = .ok (.slice none 0 0) w := by kernel_rfl
theorem own_same {w w' : World} {base : Nat} {e : TypeId} {s : Nat} {v : Value} {n : Nat} {xs : List Value} (h : w.ownsRow base e s v n xs) (hs : ∀ g, v.ownBlock = some g -> w'.heap[g]? = w.heap[g]?) : w'.ownsRow base e s v n xs := by
 refine ⟨h.1, ?_⟩
 rcases h.2 with h1 | ⟨g, cap, cur, rfl, h2, h3, h4⟩
 ·exact .inl h1
 ·exact .inr ⟨g, cap, cur, rfl, h2, (hs g rfl).trans h3, h4⟩
theorem own_blk {w : World} {base : Nat} {e : TypeId} {s : Nat} {v : Value} {n : Nat} {xs : List Value} (h : w.ownsRow base e s v n xs) {g : Nat} (hg : v.ownBlock = some g) : base <= g ∧ g < w.heap.size ∧ ∃ cur, w.heap[g]? = some (.cells cur e (0, 0)) := by
 rcases h.2 with ⟨rfl, _⟩ | ⟨g', cap, cur, rfl, h2, h3, _⟩
 ·cases hg
 ·simp only [Value.ownBlock, Option.some.injEq] at hg
  subst hg
  exact ⟨h2, (gs h3).1, cur, h3⟩
structure Fm (w : World) (base M : Nat) (L : List Wk) (k : Nat) (K : List Int) (V : List Value) : Prop where
 map : Ik w M K V
 rows : ∀ (j : Nat) x v, K[j]? = some x -> V[j]? = some v -> w.ownsRow base 3 1 v (idxs L x k).length (ivs (idxs L x k))
 full : ∀ x, idxs L x k ≠ [] -> x ∈ K
 apart : ∀ (i j : Nat) u v g, i ≠ j -> V[i]? = some u -> V[j]? = some v -> u.ownBlock = some g -> v.ownBlock ≠ some g
theorem Fm.kept {w w' : World} {base M : Nat} {L : List Wk} {k : Nat} {K : List Int} {V : List Value} (h : Fm w base M L k K V) (hk : Kept [] w w') : Fm w' base M L k K V :=
 ⟨h.map.kept hk (by simp), fun j x v h1 h2 => own_same (h.rows j x v h1 h2) (fun g hg => hk.block g (own_blk (h.rows j x v h1 h2) hg).2.1 (by simp)), h.full, h.apart⟩
theorem Fm.start (w : World) (base M : Nat) (L : List Wk) (h : Ik w M [] []) : Fm w base M L 0 [] [] := ⟨h, by simp, by simp [idxs], by simp⟩
theorem Fm.look {w : World} {base M : Nat} {L : List Wk} {k : Nat} {K : List Int} {V : List Value} (h : Fm w base M L k K V) (x : Int) :
  ∃ v, (∀ W, Kept [] w W -> (Instr.lookup 107 (.map (some M)) (.int .i64 x) false).run Tryz.prog W = .ok v W) ∧ w.ownsRow base 3 1 v (idxs L x k).length (ivs (idxs L x k)) ∧ ((x ∉ K ∧ v = .slice none 0 0) ∨ ∃ j : Nat, K[j]? = some x ∧ V[j]? = some v) := by
 by_cases hx : x ∈ K
 ·obtain ⟨j, hj⟩ := List.getElem?_of_mem hx
  have hjl : j < V.length := by rw [h.map.len]; exact (List.getElem?_eq_some_iff.1 hj).1
  obtain ⟨v, hv⟩ : ∃ v, V[j]? = some v := ⟨_, List.getElem?_eq_getElem hjl⟩
  refine ⟨v, fun W hW => ?_, h.rows j x v hj hv, .inr ⟨j, hj, hv⟩⟩
  rcases (h.map.kept hW (by simp)).look Tryz.underlying107 Tryz.zeroInts8 x false with ⟨g1, _⟩ | ⟨j2, v2, g1, g2, g3⟩
  ·exact absurd hx g1
  ·have e : j2 = j := by
    have hn := h.map.nodup
    obtain ⟨l1, e1⟩ := List.getElem?_eq_some_iff.1 g1
    obtain ⟨l2, e2⟩ := List.getElem?_eq_some_iff.1 hj
    rcases Nat.lt_trichotomy j2 j with hh | hh | hh
    ·exact absurd (e1.trans e2.symm) ((List.pairwise_iff_getElem.1 hn) j2 j l1 l2 hh)
    ·exact hh
    ·exact absurd (e2.trans e1.symm) ((List.pairwise_iff_getElem.1 hn) j j2 l2 l1 hh)
   subst e
   rw [hv] at g2
   cases g2
   exact g3
 ·have he : idxs L x k = [] := Classical.byContradiction fun hne => hx (h.full x hne)
  refine ⟨.slice none 0 0, fun W hW => ?_, by rw [he]; exact World.ownsRow_nil _ _ _ _, .inl ⟨hx, rfl⟩⟩
  rcases (h.map.kept hW (by simp)).look Tryz.underlying107 Tryz.zeroInts8 x false with ⟨_, g2⟩ | ⟨j2, v2, g1, _⟩
  ·exact g2
  ·exact absurd (List.mem_of_getElem? g1) hx
theorem Fm.add {w : World} {base M : Nat} {L : List Wk} {k : Nat} {K : List Int} {V : List Value} (h : Fm w base M L k K V) (hk : k <= 1000000) (hbm : base <= w.heap.size) {v : Value} (hv : w.ownsRow base 3 1 v (idxs L (L.getD k wk0).sum k).length (ivs (idxs L (L.getD k wk0).sum k)))
  (hw : ((L.getD k wk0).sum ∉ K ∧ v = .slice none 0 0) ∨ ∃ j : Nat, K[j]? = some (L.getD k wk0).sum ∧ V[j]? = some v) (W : World) (hW : Kept [] w W) (N : Nat) (hN : W.cell? ⟨N, 0, none⟩ = some (.int .i64 k)) :
  ∃ v' W2 W3, (Builtin.append_ #[155, 155] 155 #[v, .slice (some ⟨N, 0, none⟩) 1 1]).run Tryz.prog W = .ok v' W2 ∧ (Instr.mapUpdate 107 (.map (some M)) (.int .i64 (L.getD k wk0).sum) v').run Tryz.prog W2 = .ok () W3 ∧ (∃ K' V', Fm W3 base M L (k + 1) K' V') ∧ Kept v.ownBlock.toList W W2 ∧ Kept [M] W2 W3 := by
 obtain ⟨x, hx⟩ := nm ((L.getD k wk0).sum)
 rw [hx] at hv hw ⊢
 have hF := h.kept hW
 have hvW : W.ownsRow base 3 1 v (idxs L x k).length (ivs (idxs L x k)) := own_same hv (fun g hg => hW.block g (own_blk hv hg).2.1 (by simp))
 obtain ⟨i0, hi, hz0, hz1, hz2⟩ := info_parts Tryz.infoInt8
 have hlk := idxs_len L x k
 obtain ⟨v', W2, hrun, h4, h5, _, h7⟩ := run_append_own_at (P := Tryz.prog) W base 155 155 3 i0 (.int .i64 0) 1 8 Tryz.underlying155 hi hz0 hz1 hz2 rfl (by decide) v _ _ hvW ⟨N, 0, none⟩ 1 1 [.int .i64 k] rfl (by
  intro j u hu
  cases j with
  | zero => simp only [List.getElem?_cons_zero, Option.some.injEq] at hu; subst hu; rw [Addr.add_mid]; exact hN
  | succ j => simp at hu) (by simp [Value.oneCell']) (by unfold maxLen; omega) (by omega) (Nat.le_trans hbm hW.size)
 have hk2 : Kept v.ownBlock.toList W W2 := (Kept.refl _ W).grown h5 (fun g hg _ => by rw [hg]; simp)
 have hMW := hF.map.lt
 have hMv : M ∉ v.ownBlock.toList := by
  intro hm
  have hg : v.ownBlock = some M := by simpa using hm
  obtain ⟨_, _, cur, hc⟩ := own_blk hvW hg
  obtain ⟨es, clock, hb, _⟩ := hF.map
  rw [hb] at hc
  cases hc
 have hF2 : Ik W2 M K V := hF.map.kept hk2 hMv
 obtain ⟨W3, hup, hk3, hs3, hcase⟩ := hF2.put Tryz.underlying107 x v'
 have hv3 : ∀ g, v'.ownBlock = some g -> g ≠ M := fun g hg e => by
  subst e
  obtain ⟨_, _, cur, hc⟩ := own_blk h4 hg
  obtain ⟨es, clock, hb, _⟩ := hF2
  rw [hb] at hc
  cases hc
 have own' : W3.ownsRow base 3 1 v' (idxs L x (k + 1)).length (ivs (idxs L x (k + 1))) := by
  rw [idxs_succ, if_pos hx, List.length_append, ivs_snoc]
  exact own_same h4 (fun g hg => hk3.block g (own_blk h4 hg).2.1 (by simpa using hv3 g hg))
 have hother : ∀ y, y ≠ x -> idxs L y (k + 1) = idxs L y k := fun y hy => by rw [idxs_succ, if_neg (by rw [hx]; exact fun e => hy e.symm)]
 have keep : ∀ (j : Nat) y u, K[j]? = some y -> V[j]? = some u -> y ≠ x -> (∀ g, u.ownBlock = some g -> v.ownBlock ≠ some g) -> W3.ownsRow base 3 1 u (idxs L y (k + 1)).length (ivs (idxs L y (k + 1))) := fun j y u h1 h2 hy ha => by
  have ho := hF.rows j y u h1 h2
  rw [hother y hy]
  refine own_same ho (fun g hg => ?_)
  have hgl := (own_blk ho hg).2.1
  rw [hk3.block g (Nat.lt_of_lt_of_le hgl hk2.size) ?_, hk2.block g hgl ?_]
  ·intro hm
   exact ha g hg (by simpa using hm)
  ·intro hm
   have : g = M := by simpa using hm
   subst this
   obtain ⟨_, _, cur, hc⟩ := own_blk ho hg
   obtain ⟨es, clock, hb, _⟩ := hF.map
   rw [hb] at hc
   cases hc
 refine ⟨v', W2, W3, hrun, hup, ?_, hk2, hk3⟩
 rcases hcase with ⟨hn, hI⟩ | ⟨j0, hj0, hI⟩
 ·rcases hw with ⟨_, hv0⟩ | ⟨j, hj, _⟩
  ·subst hv0
   have hlen := hF.map.len
   have nb : ∀ g, v'.ownBlock = some g -> W.heap.size <= g := fun g hg => by
    rcases h7 with h7 | h7
    ·rw [hg] at h7; simp [Value.ownBlock] at h7
    ·rw [hg] at h7; cases h7; exact Nat.le_refl _
   refine ⟨K ++ [x], V ++ [v'], hI, ?_, ?_, ?_⟩
   ·intro j y u h1 h2
    by_cases hj : j < K.length
    ·rw [List.getElem?_append_left hj] at h1
     rw [List.getElem?_append_left (by omega)] at h2
     refine keep j y u h1 h2 (fun e => hn (by rw [<-e]; exact List.mem_of_getElem? h1)) (fun g _ => by simp [Value.ownBlock])
    ·have hjl := (List.getElem?_eq_some_iff.1 h1).1
     rw [List.length_append, List.length_singleton] at hjl
     have e : j = K.length := by omega
     subst e
     rw [List.getElem?_append_right (Nat.le_refl _), Nat.sub_self] at h1
     rw [List.getElem?_append_right (by omega), hlen, Nat.sub_self] at h2
     simp only [List.getElem?_cons_zero, Option.some.injEq] at h1 h2
     subst h1; subst h2
     exact own'
   ·intro y hy
    by_cases e : y = x
    ·simp [e]
    ·rw [hother y e] at hy
     simp [hF.full y hy]
   ·intro i j u u' g hij h1 h2 hg
    have gl : ∀ (q : Nat) z, V[q]? = some z -> ∀ g, z.ownBlock = some g -> g < W.heap.size := fun q z hz g hg => by
     have hql : q < K.length := by rw [<-hlen]; exact (List.getElem?_eq_some_iff.1 hz).1
     exact (own_blk (hF.rows q K[q] z (List.getElem?_eq_getElem hql) hz) hg).2.1
    have cs : ∀ (q : Nat) z, (V ++ [v'])[q]? = some z -> V[q]? = some z ∨ (q = V.length ∧ z = v') := fun q z hz => by
     by_cases hq : q < V.length
     ·rw [List.getElem?_append_left hq] at hz; exact .inl hz
     ·have hql := (List.getElem?_eq_some_iff.1 hz).1
      rw [List.length_append, List.length_singleton] at hql
      have e : q = V.length := by omega
      subst e
      rw [List.getElem?_append_right (Nat.le_refl _), Nat.sub_self] at hz
      simp only [List.getElem?_cons_zero, Option.some.injEq] at hz
      exact .inr ⟨rfl, hz.symm⟩
    rcases cs i u h1 with p1 | ⟨rfl, rfl⟩
    ·rcases cs j u' h2 with p2 | ⟨rfl, rfl⟩
     ·exact hF.apart i j u u' g hij p1 p2 hg
     ·intro e
      have := gl i u p1 g hg
      have := nb g e
      omega
    ·rcases cs j u' h2 with p2 | ⟨rfl, rfl⟩
     ·intro e
      have := gl j u' p2 g e
      have := nb g hg
      omega
     ·exact absurd rfl hij
  ·exact absurd (List.mem_of_getElem? hj) hn
 ·rcases hw with ⟨hn, _⟩ | ⟨j, hj, hvj⟩
  ·exact absurd (List.mem_of_getElem? hj0) hn
  ·have e : j0 = j := by
    have hn := hF.map.nodup
    obtain ⟨l1, e1⟩ := List.getElem?_eq_some_iff.1 hj0
    obtain ⟨l2, e2⟩ := List.getElem?_eq_some_iff.1 hj
    rcases Nat.lt_trichotomy j0 j with hh | hh | hh
    ·exact absurd (e1.trans e2.symm) ((List.pairwise_iff_getElem.1 hn) j0 j l1 l2 hh)
    ·exact hh
    ·exact absurd (e2.trans e1.symm) ((List.pairwise_iff_getElem.1 hn) j j0 l2 l1 hh)
   subst e
   have hjV : j0 < V.length := (List.getElem?_eq_some_iff.1 hvj).1
   have loc : ∀ g, v'.ownBlock = some g -> v.ownBlock = some g ∨ W.heap.size <= g := fun g hg => by
    rcases h7 with h7 | h7
    ·exact .inl (by rw [<-h7]; exact hg)
    ·rw [hg] at h7; cases h7; exact .inr (Nat.le_refl _)
   have hlen := hF.map.len
   have gl : ∀ (q : Nat) z, V[q]? = some z -> ∀ g, z.ownBlock = some g -> g < W.heap.size := fun q z hz g hg => by
    have hql : q < K.length := by rw [<-hlen]; exact (List.getElem?_eq_some_iff.1 hz).1
    exact (own_blk (hF.rows q K[q] z (List.getElem?_eq_getElem hql) hz) hg).2.1
   refine ⟨K, V.set j0 v', hI, ?_, ?_, ?_⟩
   ·intro q y u h1 h2
    by_cases hq : j0 = q
    ·subst hq
     rw [List.getElem?_set_self hjV] at h2
     cases h2
     rw [hj0] at h1
     cases h1
     exact own'
    ·rw [List.getElem?_set_ne hq] at h2
     refine keep q y u h1 h2 (fun e => ?_) (fun g hg => hF.apart q j0 u v g (fun e => hq e.symm) h2 hvj hg)
     subst e
     obtain ⟨l1, e1⟩ := List.getElem?_eq_some_iff.1 h1
     obtain ⟨l2, e2⟩ := List.getElem?_eq_some_iff.1 hj0
     have hn := hF.map.nodup
     rcases Nat.lt_trichotomy q j0 with hh | hh | hh
     ·exact absurd (e1.trans e2.symm) ((List.pairwise_iff_getElem.1 hn) q j0 l1 l2 hh)
     ·exact hq hh.symm
     ·exact absurd (e2.trans e1.symm) ((List.pairwise_iff_getElem.1 hn) j0 q l2 l1 hh)
   ·intro y hy
    by_cases e : y = x
    ·rw [e]; exact List.mem_of_getElem? hj0
    ·rw [hother y e] at hy
     exact hF.full y hy
   ·intro i q u u' g hiq h1 h2 hg
    by_cases hi : j0 = i
    ·subst hi
     rw [List.getElem?_set_self hjV] at h1
     cases h1
     rw [List.getElem?_set_ne hiq] at h2
     intro e
     rcases loc g hg with h | h
     ·exact hF.apart q j0 u' v g (fun e => hiq e.symm) h2 hvj e h
     ·have := gl q u' h2 g e; omega
    ·rw [List.getElem?_set_ne hi] at h1
     by_cases hq : j0 = q
     ·subst hq
      rw [List.getElem?_set_self hjV] at h2
      cases h2
      intro e
      rcases loc g e with h | h
      ·exact hF.apart i j0 u v g (fun e => hi e.symm) h1 hvj hg h
      ·have := gl i u h1 g hg; omega
     ·rw [List.getElem?_set_ne hq] at h2
      exact hF.apart i q u u' g hiq h1 h2 hg
end

end Go.Proofs.YtmklodligplbaabGreat
