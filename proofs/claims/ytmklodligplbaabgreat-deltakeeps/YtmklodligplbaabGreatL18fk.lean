import Derived.Test.YtmklodligplbaabGreatL18ek
open Go.RowKit
set_option linter.unusedVariables false
set_option linter.unusedSimpArgs false
set_option maxRecDepth 100000
set_option maxHeartbeats 0
namespace Go.Proofs.YtmklodligplbaabGreat
section
open Dlt
theorem app18 {w : World} {B : Nat} {po : Option Addr} {q pc : Nat} {ys : List UInt8} (h : OwnB w B (.slice po q pc) ys) (hb : B <= w.heap.size) (so : Option Addr) (m sc : Nat) (zs : List UInt8) (hm : zs.length = m) (hs : Sl w so zs) (h0 : so = none -> zs = [] ∧ sc = 0) (hl : q + m <= 1000000000) :
  ∃ po' pc' w', (Builtin.append_ #[27, 27] 27 #[.slice po q pc, .slice so m sc]).run Tryz.prog w = .ok (.slice po' (q + m) pc') w' ∧ OwnB w' B (.slice po' (q + m) pc') (ys ++ zs) ∧ Kept (Value.slice po q pc).ownBlock.toList w w' := by
 have hl1 := own_len h
 obtain ⟨v', w', hrun, ho, hk⟩ := run_appSl w B (.slice po q pc) ys zs h so m sc hm hs h0 (by omega) hb
 obtain ⟨po', pc', rfl, _⟩ := own_shape ho
 rw [show (ys ++ zs).length = q + m by rw [List.length_append, hl1, hm]] at hrun ho
 exact ⟨po', pc', w', hrun, ho, hk⟩
theorem own_far {w w1 w2 : World} {B : Nat} {v : Value} {ys : List UInt8} (h : OwnB w1 B v ys) (hk : Kept [] w w1) (hB : w.heap.size <= B) (k2 : Kept v.ownBlock.toList w1 w2) : Kept [] w w2 :=
 hk.trans k2 (fun i hi hl => by have := (h.far i (by simpa using hi)).1; omega)
theorem refnum8 (v : Nat) (hv : v <= 2147483647) (w : World) : Calls Tryz.prog 55 #[.int .i64 v] w fun e w' => ∃ m so sc, (Pure.enc v).length = m ∧ m <= 5 ∧ e = .returned (.slice so m sc) ∧ Sl w' so (Pure.enc v) ∧ (so = none -> Pure.enc v = [] ∧ sc = 0) ∧ Kept [] w w' :=
 (refnumber_ok v hv w).mono fun e w' h => by
  obtain ⟨vb, rfl, _, ho, hk⟩ := h
  obtain ⟨so, sc, rfl, _⟩ := own_shape ho
  have hi := own_in8 ho
  exact ⟨_, so, sc, rfl, Pure.enc_len5 hv, rfl, hi.sl, hi.nil, hk⟩
theorem rencode_no (s : Sig) (ao : Option Addr) (n cap : Nat) (w : World) (hI : SigIn w s ao n cap) (hm : may s = false) :
  Calls Tryz.prog 24 #[.agg (s.cells (.slice ao n cap)).toArray] w fun e w' => TellB w w' e 180 [] ∧ Kept [] w w' := by
 have k1 := ka w (.cells (s.cells (.slice ao n cap)).toArray 26)
 have hA := SigAt.new w s (.slice ao n cap)
 obtain ⟨A, hAe⟩ := nm (w.heap.size)
 rw [hAe] at hA
 have hmy := rmay_ok s ao n cap _ (hI.kept k1)
 rw [hm] at hmy
 have hr := hA.range
 have hil := Tryz.infoSig s (.slice ao n cap)
 have HK1 := hide k1
 clear hI hm k1 hA
 go_enter Tryz.func24, Tryz.ntmps24
 go_wp2_with (first
  | refine wpList_load_mid rfl 26 (.tmp 1) rfl A 0 rfl (s.cells (.slice ao n cap)) _ hr Tryz.underlying26 rfl hil ?_
  | (go_at_call 59; refine hmy.mono ?_; rintro r w2 ⟨rfl, hk2⟩; have H2 := hide hk2; clear hmy hk2))
 go_ret2
 exact ⟨⟨none, 0, rfl, World.ownsRow_nil _ _ _ _⟩, HK1.out.tr H2.out⟩
theorem rencode_yes (s : Sig) (ao : Option Addr) (n cap : Nat) (w : World) (hI : SigIn w s ao n cap) (hm : may s = true) :
  Calls Tryz.prog 24 #[.agg (s.cells (.slice ao n cap)).toArray] w fun e w' => TellB w w' e 0 (encS s) ∧ Kept [] w w' := by
 have k1 := ka w (.cells (s.cells (.slice ao n cap)).toArray 26)
 have hA := SigAt.new w s (.slice ao n cap)
 obtain ⟨A, hAe⟩ := nm (w.heap.size)
 rw [hAe] at hA
 have hmy := rmay_ok s ao n cap _ (hI.kept k1)
 rw [hm] at hmy
 have HM := hide (may_iff.1 hm)
 have HI := hide (hI.kept k1)
 have HK1 := hide k1
 have hn20 : n <= 2048 := by rw [<-hI.len]; exact HM.out.few
 clear hI hm k1
 go_enter Tryz.func24, Tryz.ntmps24
 go_upto_region 1 with (fail)
 have HAW := hide hAe
 clear hAe
 generalize w.alloc (.cells (s.cells (.slice ao n cap)).toArray 26) = w1 at *
 have hr := hA.range
 have hil := Tryz.infoSig s (.slice ao n cap)
 go_upto_region 3 with (first
  | refine wpList_load_mid rfl 26 (.tmp 1) rfl A 0 rfl (s.cells (.slice ao n cap)) _ hr Tryz.underlying26 rfl hil ?_
  | (go_at_call 59; refine hmy.mono ?_; rintro r w2 ⟨rfl, hk2⟩; have H2 := hide hk2; clear hmy hk2))
 have HA2 := hide (hA.kept H2.out (by simp))
 have HI2 := hide (HI.out.kept H2.out)
 have HK2 := hide (HK1.out.tr H2.out)
 clear hr hil hA HI HK1 H2
 obtain ⟨W, hW⟩ := Int.eq_ofNat_of_zero_le (show 0 <= s.width by have := HM.out.w1; omega)
 obtain ⟨Z, hZ⟩ := Int.eq_ofNat_of_zero_le (show 0 <= s.size by have := HM.out.z1; omega)
 obtain ⟨N, hN⟩ := Int.eq_ofNat_of_zero_le HM.out.l1
 have hW32 : W <= 32 := by have := HM.out.w2; omega
 have hZ40 : Z <= 2147483647 := by have := HM.out.z2; omega
 have hN13 : N <= 2147483647 := by have := HM.out.l2; omega
 have HWT : Hid (s.width.toNat = W ∧ s.size.toNat = Z ∧ s.length.toNat = N) := ⟨by omega, by omega, by omega⟩
 have a0 := HA2.out.cell (Sig.c0 _ _)
 have a1 := HA2.out.cell (Sig.c1 _ _)
 have a2 := HA2.out.cell (Sig.c2 _ _)
 rw [hW] at a0
 rw [hZ] at a1
 rw [hN] at a2
 have HWW := hide (ai hW (ai hZ hN))
 clear hW hZ hN
 obtain ⟨B, hB⟩ := nm (w2.heap.size)
 have HAB : Hid (A < B ∧ w.heap.size <= B ∧ w.heap.size = A) := ⟨by rw [<-hB]; exact HA2.out.lt, by rw [<-hB]; exact HK2.out.size, HAW.out⟩
 have ho3 : OwnB (w2.alloc (.cells #[.int .u8 83] 5)) B (.slice (some ⟨B, 0, none⟩) 1 1) [83] := by rw [<-hB]; exact own_one9 w2 83
 have hk3 := ka w2 (.cells #[.int .u8 83] 5)
 go_upto_region 4 with (fail)
 try rw [hB]
 have H3 : Hid (OwnB (w2.alloc (.cells #[.int .u8 83] 5)) B (.slice (some ⟨B, 0, none⟩) 1 1) [83] ∧ Kept [] w2 (w2.alloc (.cells #[.int .u8 83] 5)) ∧ B <= (w2.alloc (.cells #[.int .u8 83] 5)).heap.size) := ⟨ho3, hk3, by rw [<-hB]; exact hk3.size⟩
 have hBQ := hB
 clear ho3 hk3 hB HAW
 generalize w2.alloc (.cells #[.int .u8 83] 5) = x0 at *
 obtain ⟨p0, hp0⟩ : ∃ p0 : Option Addr, some (⟨B, 0, none⟩ : Addr) = p0 := ⟨_, rfl⟩
 rw [hp0] at H3 ⊢
 clear hp0
 have HBW : Hid (w2.heap.size <= B) := Nat.le_of_eq hBQ
 clear hBQ
 have e1 := (H3.out.2.1).cellOf a0 (by simp)
 have hnu := refnum8 W (by omega) x0
 go_upto_region 5 with (first
  | (go_at_call 55; refine hnu.mono ?_; rintro r z1 ⟨m1, s1, sc1, hm1, hm5, rfl, hsl, hs0, hkz⟩; obtain ⟨p1, c1, x1, hrun, hoj, hkj⟩ := app18 (H3.out.1.kept hkz (by simp)) (Nat.le_trans H3.out.2.2 hkz.size) s1 m1 sc1 (Pure.enc W) hm1 hsl hs0 (by omega); have HX : Hid (OwnB x1 B (.slice p1 (1 + m1) c1) ([83] ++ Pure.enc W) ∧ Kept [] w2 x1 ∧ B <= x1.heap.size) := (ai hoj (ai (own_far (H3.out.1.kept hkz (by simp)) (H3.out.2.1.tr hkz) HBW.out hkj) (Nat.le_trans H3.out.2.2 (Nat.le_trans hkz.size hkj.size)))); clear hnu hm1 hsl hs0 hkz hoj hkj)
  | (refine wpList_app_run rfl (.tmp 10) (.tmp 13) 27 27 rfl (.slice p0 1 1) (.slice s1 m1 sc1) rfl rfl (.slice p1 (1 + m1) c1) x1 hrun ?_; clear hrun))
 clear e1 H3
 obtain ⟨q1, hq1⟩ : ∃ q, 1 + m1 = q := ⟨_, rfl⟩
 have hqb1 : q1 <= 6 := by omega
 rw [hq1] at HX ⊢
 have H3 := HX
 clear HX hq1 hm5
 have e2 := (H3.out.2.1).cellOf a1 (by simp)
 have hnu := refnum8 Z hZ40 x1
 go_upto_region 6 with (first
  | (go_at_call 55; refine hnu.mono ?_; rintro r z2 ⟨m2, s2, sc2, hm2, hm5, rfl, hsl, hs0, hkz⟩; obtain ⟨p2, c2, x2, hrun, hoj, hkj⟩ := app18 (H3.out.1.kept hkz (by simp)) (Nat.le_trans H3.out.2.2 hkz.size) s2 m2 sc2 (Pure.enc Z) hm2 hsl hs0 (by omega); have HX : Hid (OwnB x2 B (.slice p2 (q1 + m2) c2) ([83] ++ Pure.enc W ++ Pure.enc Z) ∧ Kept [] w2 x2 ∧ B <= x2.heap.size) := (ai hoj (ai (own_far (H3.out.1.kept hkz (by simp)) (H3.out.2.1.tr hkz) HBW.out hkj) (Nat.le_trans H3.out.2.2 (Nat.le_trans hkz.size hkj.size)))); clear hnu hm2 hsl hs0 hkz hoj hkj)
  | (refine wpList_app_run rfl (.tmp 15) (.tmp 18) 27 27 rfl (.slice p1 q1 c1) (.slice s2 m2 sc2) rfl rfl (.slice p2 (q1 + m2) c2) x2 hrun ?_; clear hrun))
 clear e2 H3
 obtain ⟨q2, hq2⟩ : ∃ q, q1 + m2 = q := ⟨_, rfl⟩
 have hqb2 : q2 <= 11 := by omega
 rw [hq2] at HX ⊢
 have H3 := HX
 clear HX hq2 hm5
 have e3 := (H3.out.2.1).cellOf a2 (by simp)
 have hnu := refnum8 N hN13 x2
 go_upto_region 7 with (first
  | (go_at_call 55; refine hnu.mono ?_; rintro r z3 ⟨m3, s3, sc3, hm3, hm5, rfl, hsl, hs0, hkz⟩; obtain ⟨p3, c3, x3, hrun, hoj, hkj⟩ := app18 (H3.out.1.kept hkz (by simp)) (Nat.le_trans H3.out.2.2 hkz.size) s3 m3 sc3 (Pure.enc N) hm3 hsl hs0 (by omega); have HX : Hid (OwnB x3 B (.slice p3 (q2 + m3) c3) ([83] ++ Pure.enc W ++ Pure.enc Z ++ Pure.enc N) ∧ Kept [] w2 x3 ∧ B <= x3.heap.size) := (ai hoj (ai (own_far (H3.out.1.kept hkz (by simp)) (H3.out.2.1.tr hkz) HBW.out hkj) (Nat.le_trans H3.out.2.2 (Nat.le_trans hkz.size hkj.size)))); clear hnu hm3 hsl hs0 hkz hoj hkj)
  | (refine wpList_app_run rfl (.tmp 20) (.tmp 23) 27 27 rfl (.slice p2 q2 c2) (.slice s3 m3 sc3) rfl rfl (.slice p3 (q2 + m3) c3) x3 hrun ?_; clear hrun))
 clear e3 H3
 obtain ⟨q3, hq3⟩ : ∃ q, q2 + m3 = q := ⟨_, rfl⟩
 have hqb3 : q3 <= 16 := by omega
 rw [hq3] at HX ⊢
 have H3 := HX
 clear HX hq3 hm5
 have e4 := (H3.out.2.1).cellOf a0 (by simp)
 have hrb := (HA2.out.kept H3.out.2.1 (by simp)).base
 have hib := idlen s.hb
 have hpt := rpart_ok W s.base x3 hW32 s.hb
 go_upto_region 8 with (first
  | refine wpList_load_mid rfl 23 (.tmp 26) rfl A 3 rfl (bys s.base) _ hrb Tryz.underlying23 rfl hib ?_
  | (go_at_call 56; refine hpt.mono ?_; rintro r z4 ⟨⟨s4, sc4, rfl, hob⟩, hkz⟩; have hi4 := hob.in8; obtain ⟨p4, c4, x4, hrun, hoj, hkj⟩ := app18 (H3.out.1.kept hkz (by simp)) (Nat.le_trans H3.out.2.2 hkz.size) s4 W sc4 (s.base.take W) hi4.len hi4.sl hi4.nil (by omega); have HX : Hid (OwnB x4 B (.slice p4 (q3 + W) c4) ([83] ++ Pure.enc W ++ Pure.enc Z ++ Pure.enc N ++ s.base.take W) ∧ Kept [] w2 x4 ∧ B <= x4.heap.size) := (ai hoj (ai (own_far (H3.out.1.kept hkz (by simp)) (H3.out.2.1.tr hkz) HBW.out hkj) (Nat.le_trans H3.out.2.2 (Nat.le_trans hkz.size hkj.size)))); clear hpt hob hi4 hkz hoj hkj)
  | (refine wpList_app_run rfl (.tmp 25) (.tmp 30) 27 27 rfl (.slice p3 q3 c3) (.slice s4 W sc4) rfl rfl (.slice p4 (q3 + W) c4) x4 hrun ?_; clear hrun))
 clear e4 H3 hrb
 obtain ⟨q4, hq4⟩ : ∃ q, q3 + W = q := ⟨_, rfl⟩
 have hqb4 : q4 <= 48 := by omega
 rw [hq4] at HX ⊢
 have HHD : Hid ([83] ++ Pure.enc W ++ Pure.enc Z ++ Pure.enc N ++ s.base.take W = headS s) := by show _ = _; unfold headS; rw [HWT.out.1, HWT.out.2.1, HWT.out.2.2]
 rw [HHD.out] at HX
 clear hq4 hqb1 hqb2 hqb3
 have a5 := HA2.out.cell (Sig.cv _ _)
 have HNW := hide (ai a0 a5)
 clear a0 a1 a2 a5
 have HIN : Hid (OwnB x4 B (.slice p4 q4 c4) (headS s ++ (s.blocks.take 0).flatMap (encW W)) ∧ Kept [] w2 x4 ∧ B <= x4.heap.size) := by show _ ∧ _; simpa using HX.out
 clear HX
 go_wp2
 go_loopw [4, 5] (fun x y wr => ∃ (k q : Nat) (po : Option Addr) (pc : Nat), k <= n ∧ q <= 48 + k * 36 ∧ x = .slice po q pc ∧ y = .int .i64 k ∧ Hid (OwnB wr B (.slice po q pc) (headS s ++ (s.blocks.take k).flatMap (encW W)) ∧ Kept [] w2 wr ∧ B <= wr.heap.size)) (fun x y wr => n - (intOf y).toNat)
 case atStart => exact ⟨0, q4, p4, c4, Nat.zero_le _, by omega, rfl, rfl, HIN⟩
 case round =>
  clear HIN
  obtain ⟨k, q, po, pc, hk, hqb, rfl, rfl, HP⟩ := hrel
  have a0 := HP.out.2.1.cellOf HNW.out.1 (by simp)
  have a5 := HP.out.2.1.cellOf HNW.out.2 (by simp)
  by_cases hlt : k < n
  ·obtain ⟨ga, oa, rfl, hra⟩ := HI2.out.at_ k (by rw [HI2.out.len]; exact hlt)
   have hgl : ga < w2.heap.size := World.block_lt_of_cell? _ _ (hra 0 _ (s.blocks.getD k wk0).su)
   obtain ⟨e, he0⟩ := nm (s.blocks.getD k wk0)
   rw [he0] at hra
   have hke : s.blocks[k]? = some e := by rw [<-he0, List.getD_eq_getElem?_getD, List.getElem?_eq_getElem (by rw [HI2.out.len]; exact hlt), Option.getD_some]
   have HTK : Hid ((s.blocks.take (k + 1)).flatMap (encW W) = (s.blocks.take k).flatMap (encW W) ++ encW W e) := by
    obtain ⟨hkl, hkk⟩ := List.getElem?_eq_some_iff.1 hke
    show _ = _
    rw [List.take_succ_eq_append_getElem hkl, List.flatMap_append, hkk]
    simp
   have hmem : e ∈ s.blocks := List.mem_of_getElem? hke
   obtain ⟨hs0, hs4, _⟩ := HM.out.bks e hmem
   obtain ⟨sv, hsv⟩ := Int.eq_ofNat_of_zero_le hs0
   have hsv4 : sv < 256 ^ 4 := by omega
   have HEN : Hid (encW W e = Pure.fix sv 4 ++ e.id.take W) := by show _ = _; unfold encW; rw [hsv, Int.toNat_natCast]
   have HRA := hide hra
   have c0 := hra 0 _ e.su
   rw [hsv, Nat.add_zero] at c0
   have c0 := HP.out.2.1.cellOf c0 (by simp)
   have hfx := reffixed_ok sv 4 (by omega) (by omega) hsv4 wr
   have HGL := hide hgl
   clear he0 hke hmem hs0 hs4 hsv hsv4 hra hgl
   go_upto_region 12 with (first
    | (go_at_call 60; refine hfx.mono ?_; rintro r z5 ⟨s5, sc5, rfl, hfr, _, hkz⟩; obtain ⟨p5, c5, x5, hrun, hoj, hkj⟩ := app18 (HP.out.1.kept hkz (by simp)) (Nat.le_trans HP.out.2.2 hkz.size) s5 4 sc5 (Pure.fix sv 4) (Pure.fix_len _ _) hfr.1 hfr.2.2.1 (by omega); have HX : Hid (OwnB x5 B (.slice p5 (q + 4) c5) (headS s ++ (s.blocks.take k).flatMap (encW W) ++ Pure.fix sv 4) ∧ Kept [] w2 x5 ∧ B <= x5.heap.size) := (ai hoj (ai (own_far (HP.out.1.kept hkz (by simp)) (HP.out.2.1.tr hkz) HBW.out hkj) (Nat.le_trans HP.out.2.2 (Nat.le_trans hkz.size hkj.size)))); clear hfx hfr hkz hoj hkj)
    | (refine wpList_app_run rfl (.tmp 39) (.tmp 46) 27 27 rfl (.slice po q pc) (.slice s5 4 sc5) rfl rfl (.slice p5 (q + 4) c5) x5 hrun ?_; clear hrun))
   clear c0 a0 a5 HP
   obtain ⟨q5, hq5⟩ := nm (q + 4)
   have hqb5 : q5 <= 48 + k * 36 + 4 := by omega
   rw [hq5] at HX ⊢
   clear hq5
   have a0 := HX.out.2.1.cellOf HNW.out.1 (by simp)
   have a5 := HX.out.2.1.cellOf HNW.out.2 (by simp)
   have HRX : Hid (x5.rangeAt ga (oa + k * 33 + 1) (bys e.id)) := fun j u hu => HX.out.2.1.cellOf (wk_range HRA.out j u hu) (by simp)
   have hie := idlen e.hid
   have HNL : Hid (∀ i, i ∈ (Value.slice p5 q5 c5).ownBlock.toList -> B <= i) := fun i hi => (HX.out.1.far i (by simpa using hi)).1
   have HNA : Hid (A ∉ (Value.slice p5 q5 c5).ownBlock.toList) := fun h => by have := HNL.out _ h; have := HAB.out; omega
   have HNG : Hid (ga ∉ (Value.slice p5 q5 c5).ownBlock.toList) := fun h => by have := HNL.out _ h; have := HGL.out; have := HBW.out; omega
   obtain ⟨l5, hl5⟩ : ∃ l, (Value.slice p5 q5 c5).ownBlock.toList = l := ⟨_, rfl⟩
   rw [hl5] at HNA HNG HNL
   have k0 : Kept [] x5 (World.drew x5) := (Kept.refl [] x5).drew
   refine wp_region_held_drew (S := fun w' => Kept l5 x5 w') (by kernel_rfl) ((Kept.refl l5 x5).drew) (fun g0 => ?_)
   generalize World.drew x5 = y0 at g0 k0 ⊢
   refine t1 0 (.slice p5 q5 c5) g0 ?_
   simp only [zz]
   refine t1 1 (.pointer (some ⟨A, 35, none⟩)) g0 ?_
   simp only [zz]
   refine t2 2 (.slice (some ⟨ga, oa, none⟩) n cap) rfl g0 ?_ (fun w hSw => by have c0 := Kept.cellOf hSw a5 HNA.out; go_simp)
   simp only [zz]
   refine t1 3 (.int .i64 k) g0 ?_
   simp only [zz]
   refine t1 4 (.pointer (some ⟨ga, oa + k * 33, none⟩)) g0 ?_
   simp only [zz]
   refine t1 5 (.pointer (some ⟨ga, oa + k * 33 + 1, none⟩)) g0 ?_
   simp only [zz]
   refine t4 6 (.agg (bys e.id).toArray) rfl (yieldsIf_load_mid (by rfl) _ _ rfl ga (oa + k * 33 + 1) rfl (bys e.id) _ (fun W h j u hu => Kept.cellOf h (HRX.out j u hu) HNG.out) Tryz.underlying23 rfl hie) g0 ?_
   simp only [zz]
   refine t1 7 (.pointer (some ⟨A, 0, none⟩)) g0 ?_
   simp only [zz]
   refine t2 8 (.int .i64 W) rfl g0 ?_ (fun w hSw => by have c0 := Kept.cellOf hSw a0 HNA.out; go_simp)
   simp only [zz]
   refine rd 9 fun K hK => ?_
   go_simp
   refine (rpart_ok W e.id y0 hW32 e.hid).mono ?_
   rintro e y1 ⟨⟨s6, sc6, rfl, hob⟩, hkz⟩
   have k1 : Kept [] x5 y1 := k0.tr hkz
   refine hK.out _ _ (g0.tr hkz) (fun g1 => ?_)
   clear hK K
   try simp only [zz]
   clear hkz k0
   have hi6 := hob.in8
   obtain ⟨p6, c6, x6, hrun, hoj, hkj⟩ := app18 (HX.out.1.kept k1 (by simp)) (Nat.le_trans HX.out.2.2 k1.size) s6 W sc6 (e.id.take W) hi6.len hi6.sl hi6.nil (by omega)
   have HX6 : Hid (OwnB x6 B (.slice p6 (q5 + W) c6) (headS s ++ (s.blocks.take k).flatMap (encW W) ++ Pure.fix sv 4 ++ e.id.take W) ∧ Kept [] w2 x6 ∧ B <= x6.heap.size) := ⟨hoj, own_far (HX.out.1.kept k1 (by simp)) (HX.out.2.1.tr k1) HBW.out hkj, Nat.le_trans HX.out.2.2 (Nat.le_trans k1.size hkj.size)⟩
   rw [hl5] at hkj
   refine rd 10 fun K hK => ?_
   refine wp_append_run8 _ (.tmp 48) (.tmp 57) 27 rfl (.slice p5 q5 c5) (.slice s6 W sc6) rfl rfl hrun ?_
   refine hK.out _ _ (g1.trans hkj (fun i hi _ => hi)) (fun g2 => ?_)
   clear hK K g1 hkj hoj hi6 hob hrun k1
   try simp only [zz]
   refine t1 11 (.slice p6 (q5 + W) c6) g2 ?_
   simp only [zz]
   refine qd ?_
   obtain ⟨q6, hq6⟩ := nm (q5 + W)
   have hqb6 : q6 <= 48 + (k + 1) * 36 := by omega
   rw [hq6] at HX6 ⊢
   have HPF : Hid (OwnB x6 B (.slice p6 q6 c6) (headS s ++ (s.blocks.take (k + 1)).flatMap (encW W)) ∧ Kept [] w2 x6 ∧ B <= x6.heap.size) := by rw [HTK.out, HEN.out, <-List.append_assoc, <-List.append_assoc]; exact HX6.out
   clear g2 HX6 hq6 HX HRX HNL HNA HNG hl5 a0 a5 hie HTK HEN HRA HGL hqb5
   go_wp2
   go_roundw
   case rel => exact ⟨k + 1, q6, p6, c6, by omega, by omega, rfl, by go_num, HPF⟩
   case measure => simp [intOf]; omega
  ·obtain rfl : k = n := by omega
   have ho := HP.out.1
   rw [List.take_of_length_le (by rw [HI2.out.len]; exact Nat.le_refl _)] at ho
   have HBD : Hid (headS s ++ s.blocks.flatMap (encW W) = bodyS s) := by show _ = _; unfold bodyS; rw [HWT.out.1]
   rw [HBD.out] at ho
   have hse := rsealed_ok B po q pc (bodyS s) wr ho HP.out.2.2 (by omega)
   have HO := hide ho
   have HKw := hide HP.out.2
   clear HP ho a0
   go_wp2_with (go_at_call 58; refine hse.mono ?_; rintro r wz ⟨⟨eo, ec, rfl, hoz⟩, hkz⟩; have HZ := hide (ai hoz hkz); clear hse hoz hkz)
   go_ret2
   have hle : (encS s).length = q + 4 := own_len (xs := encS s) HZ.out.1
   refine ⟨⟨eo, ec, by rw [hle]; rfl, ?_⟩, HK2.out.tr (own_far HO.out HKw.out.1 HBW.out HZ.out.2)⟩
   rw [hle]
   have := HZ.out.1
   unfold OwnB at this
   rw [show (sealed (bodyS s)).length = q + 4 from hle] at this
   exact own_base this HAB.out.2.1
theorem rencode_ok (s : Sig) (ao : Option Addr) (n cap : Nat) (w : World) (hI : SigIn w s ao n cap) :
  Calls Tryz.prog 24 #[.agg (s.cells (.slice ao n cap)).toArray] w fun e w' => TellB w w' e (okE (may s)) (encodeS s) ∧ Kept [] w w' := by
 cases hm : may s with
 | false =>
  have e : encodeS s = [] := by unfold encodeS; rw [hm]; rfl
  rw [e]; exact rencode_no s ao n cap w hI hm
 | true =>
  have e : encodeS s = encS s := by unfold encodeS; rw [hm]; rfl
  rw [e]; exact rencode_yes s ao n cap w hI hm
end

section
open Dlt
def wm (i : Nat) : Wk := ⟨-7 - (i % 40 : Nat), List.replicate 32 0, by simp, wf64 (by omega) (by omega)⟩
theorem Tryz.builtWz (x : Int) (W : World) : (Instr.build 62 #[(0, .int .i64 x)]).run Tryz.prog W = .ok (.agg (.int .i64 x :: bys (List.replicate 32 0)).toArray) W := by kernel_rfl
end

section
open Dlt
theorem wpList_buildRunW {ops : Array Oper} {rest : List Oper} {o : Oper} {a : Act} {w : World} {Q : Exit -> Act -> World -> Prop} (t : TypeId) (parts : Array (Nat × Operand)) (ho : o.op = .build t parts) (vals : Array (Nat × Value)) (hv : (parts.map fun (i, x) => (i, a.eval x)) = vals) (v : Value) (hrun : (Instr.build t vals).run Tryz.prog w = .ok v w) (hw : Region.wanted o (yielded ops a.tmps) = true)
  (h : wpList Tryz.prog ops Q rest (a.put o.dst v) w) : wpList Tryz.prog ops Q (o :: rest) a w :=
 BigFrame.wpList_want hw fun _ hK => by
  unfold Oper.wp execOp
  simp only [ho, hv, Sem.run_bind, hrun, Result.andThen_ok]
  exact hK _ _ h
theorem rowIs18_ok (ao : Option Addr) (N cap i n : Nat) (xs : List UInt8) (w : World) (hN : xs.length = N) (hm : N <= 140737488355328) (hi : i < 100) (hn : n <= N) (hS : Sl w ao xs) (h1 : ∀ k, k < n -> (xs.getD k 0).toNat = i) (h2 : ∀ k, n <= k -> k < N -> (xs.getD k 0).toNat = 100 + i) :
  Calls Tryz.prog 62 #[.slice ao N cap, .int .i64 i, .int .i64 n] w fun r w' => r = .returned (.bool true) ∧ Kept [] w w' := by
 have HS := hide hS
 have H1 := hide h1
 have H2 := hide h2
 have HN := hide hN
 have w1 : IntKind.u8.wrap (i : Int) = i := by rw [IntKind.wrap_u8]; omega
 have w2 : IntKind.u8.wrap (100 + (i : Int)) = 100 + (i : Int) := by rw [IntKind.wrap_u8]; omega
 clear hS h1 h2 hN
 go_enter Tryz.func62, Tryz.ntmps62
 go_wp2
 go_loopw [7] (fun x wr => ∃ k : Nat, k <= N ∧ x = .int .i64 k ∧ Hid (Kept [] w wr)) (fun x wr => N - (intOf x).toNat)
 case atStart => exact ⟨0, Nat.zero_le _, rfl, Kept.refl _ _⟩
 case round =>
  obtain ⟨k, hk, rfl, HK⟩ := hrel
  by_cases hlt : k < N
  ·obtain ⟨b, off, rfl, hb, hc⟩ := HS.out.open (by rintro rfl; have := HN.out; simp at this; omega)
   have ck : wr.cell? ⟨b, off + k, none⟩ = some (.int .u8 (xs.getD k 0).toNat) := HK.out.cellOf (hc k (by rw [HN.out]; exact hlt)) (by simp)
   clear hc hb
   by_cases hkn : k < n
   ·rw [H1.out k hkn] at ck
    have q1 : ((i : Int) != (i : Int)) = false := by simp
    have q2 : ¬ ((n : Int) <= (k : Int)) := by omega
    go_wp2
    go_roundw
    case rel => exact ⟨k + 1, by omega, by go_num, HK.out⟩
    case measure => simp [intOf]; omega
   ·have e2 := H2.out k (by omega) hlt
    rw [e2] at ck
    have e3 : ((100 + i : Nat) : Int) = 100 + (i : Int) := by omega
    rw [e3] at ck
    clear e2 e3
    have q1 : ((100 + (i : Int)) != (100 + (i : Int))) = false := by simp
    have q2 : ((n : Int) <= (k : Int)) := by omega
    have q3 : ¬ ((k : Int) < (n : Int)) := by omega
    go_wp2
    go_roundw
    case rel => exact ⟨k + 1, by omega, by go_num, HK.out⟩
    case measure => simp [intOf]; omega
  ·go_wp2
   go_ret
   exact ⟨rfl, HK.out⟩
theorem listIs18_ok (ao : Option Addr) (N cap i n : Nat) (L : List Wk) (w : World) (hN : L.length = N) (hm : N <= 1000000) (hi : i < 100) (hn : n <= N) (hE : Wks w ao L) (h1 : ∀ k, k < n -> L.getD k wk0 = wro i k) (h2 : ∀ k, n <= k -> k < N -> L.getD k wk0 = wpu i) :
  Calls Tryz.prog 63 #[.slice ao N cap, .int .i64 i, .int .i64 n] w fun r w' => r = .returned (.bool true) ∧ Kept [] w w' := by
 have HE := hide hE
 have H1 := hide h1
 have H2 := hide h2
 have HN := hide hN
 have wsub : IntKind.i64.wrap (-1 - (i : Int)) = -1 - (i : Int) := wrap64 (by omega) (by omega)
 have wmul : IntKind.i64.wrap (10000 * (i : Int)) = 10000 * (i : Int) := wrap64 (by omega) (by omega)
 clear hE h1 h2 hN
 go_enter Tryz.func63, Tryz.ntmps63
 go_wp2
 go_loopw [7] (fun x wr => ∃ k : Nat, k <= N ∧ x = .int .i64 k ∧ Hid (Kept [] w wr)) (fun x wr => N - (intOf x).toNat)
 case atStart => exact ⟨0, Nat.zero_le _, rfl, Kept.refl _ _⟩
 case round =>
  obtain ⟨k, hk, rfl, HK⟩ := hrel
  by_cases hlt : k < N
  ·obtain ⟨b, off, rfl, hrg⟩ := (HE.out.kept HK.out (by simp)) k (by rw [HN.out]; exact hlt)
   have n1 : (k : Int) < (N : Int) := by omega
   by_cases hkn : k < n
   ·rw [H1.out k hkn] at hrg
    have wadd : IntKind.i64.wrap (10000 * (i : Int) + (k : Int)) = 10000 * (i : Int) + (k : Int) := wrap64 (by omega) (by omega)
    have hb := Tryz.builtWz (10000 * (i : Int) + (k : Int))
    rw [<-wkOf_cells (v := 10000 * (i : Int) + (k : Int)) (by omega) (by omega), show wkOf (10000 * (i : Int) + (k : Int)) = wro i k from rfl] at hb
    obtain ⟨e, he⟩ := nm (wro i k)
    rw [he] at hb hrg
    have heq : ∀ W, (Op.equalIn 10000 62 (.agg e.cells.toArray) (.agg e.cells.toArray)).run Tryz.prog W = .ok true W := fun W => by rw [Tryz.eqlWk e e W, wkEq_iff.2 rfl]
    have hiw := Tryz.infoWk e
    have q2 : ¬ ((n : Int) <= (k : Int)) := by omega
    have q3 : ((k : Int) < (n : Int)) := by omega
    clear he
    go_wp2_with (first
     | refine wpList_load_midW 62 (.tmp 20) rfl b (off + k * 33) rfl e.cells _ hrg Tryz.underlying62 rfl hiw (by kernel_rfl) ?_
     | refine wpList_buildRunW 62 #[(0, .tmp 25)] rfl #[(0, .int .i64 (10000 * (i : Int) + (k : Int)))] (by simp [Act.eval, Act.put]) _ (hb _) (by kernel_rfl) ?_)
    go_roundw
    case rel => exact ⟨k + 1, by omega, by go_num, HK.out⟩
    case measure => simp [intOf]; omega
   ·rw [H2.out k (by omega) hlt] at hrg
    have hb := Tryz.builtWz (-1 - (i : Int))
    rw [<-wkOf_cells (v := -1 - (i : Int)) (by omega) (by omega), show wkOf (-1 - (i : Int)) = wpu i from rfl] at hb
    obtain ⟨e, he⟩ := nm (wpu i)
    rw [he] at hb hrg
    have heq : ∀ W, (Op.equalIn 10000 62 (.agg e.cells.toArray) (.agg e.cells.toArray)).run Tryz.prog W = .ok true W := fun W => by rw [Tryz.eqlWk e e W, wkEq_iff.2 rfl]
    have hiw := Tryz.infoWk e
    have q2 : ((n : Int) <= (k : Int)) := by omega
    have q3 : ¬ ((k : Int) < (n : Int)) := by omega
    clear he
    go_wp2_with (first
     | refine wpList_load_midW 62 (.tmp 36) rfl b (off + k * 33) rfl e.cells _ hrg Tryz.underlying62 rfl hiw (by kernel_rfl) ?_
     | refine wpList_buildRunW 62 #[(0, .tmp 39)] rfl #[(0, .int .i64 (-1 - (i : Int)))] (by simp [Act.eval, Act.put]) _ (hb _) (by kernel_rfl) ?_)
    go_roundw
    case rel => exact ⟨k + 1, by omega, by go_num, HK.out⟩
    case measure => simp [intOf]; omega
  ·go_wp2
   go_ret
   exact ⟨rfl, HK.out⟩
end

end Go.Proofs.YtmklodligplbaabGreat
