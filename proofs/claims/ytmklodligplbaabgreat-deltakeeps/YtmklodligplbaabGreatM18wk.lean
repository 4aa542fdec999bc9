import Derived.Test.YtmklodligplbaabGreatM18kk
open Go.RowKit
set_option linter.unusedVariables false
set_option linter.unusedSimpArgs false
set_option maxRecDepth 100000
set_option maxHeartbeats 0
namespace Go.Proofs.YtmklodligplbaabGreat
open Dlt
theorem rwritten_ok (W Z N M : Nat) (bid tid : List UInt8) (lo : Option Addr) (n lc : Nat) (T : List Tr) (w : World) (hW : W <= 32) (hZ : Z <= 2147483647) (hN : N <= 2147483647) (hM : M <= 2147483647) (hbl : bid.length = 32) (htl : tid.length = 32) (hTl : T.length = n) (hn : n <= 100000000) (hT : TrsAt w lo T) (hE : (encT T).length <= 500000000) :
  Calls Tryz.prog 19 #[.int .i64 W, .int .i64 Z, .int .i64 N, .agg (bys bid).toArray, .int .i64 M, .agg (bys tid).toArray, .slice lo n lc] w fun e w' => (∃ ao m cap, e = .returned (.slice ao m cap) ∧ OwnB w' w.heap.size (.slice ao m cap) (writtenB W Z N bid M tid T)) ∧ Kept [] w w' := by
 have k1 := ka w (.cells (bys bid).toArray 23)
 have k2 : Kept [] (w.alloc (.cells (bys bid).toArray 23)) ((w.alloc (.cells (bys bid).toArray 23)).alloc (.cells (bys tid).toArray 23)) := (Kept.refl [] _).alloc _
 have hb1 : ((w.alloc (.cells (bys bid).toArray 23)).alloc (.cells (bys tid).toArray 23)).heap[w.heap.size]? = some (.cells (bys bid).toArray 23 (0, 0)) := heap_alloc2_old _ _ _
 have ht1 : ((w.alloc (.cells (bys bid).toArray 23)).alloc (.cells (bys tid).toArray 23)).heap[w.heap.size + 1]? = some (.cells (bys tid).toArray 23 (0, 0)) := heap_alloc2_new _ _ _
 obtain ⟨A, hAe⟩ := nm (w.heap.size)
 obtain ⟨A2, hAe2⟩ := nm (A + 1)
 rw [hAe] at hb1 ht1
 rw [hAe2] at ht1
 have HK2 := hide (k1.tr k2)
 have HT := hide hT
 have HE := hide hE
 have HTL := hide hTl
 clear hT hE hTl k1 k2
 go_enter Tryz.func19, Tryz.ntmps19
 go_upto_region 1 with (fail)
 try rw [hAe]
 try rw [hAe2]
 have HAW : Hid (w.heap.size <= A) := Nat.le_of_eq hAe
 clear hAe hAe2
 generalize (w.alloc (.cells (bys bid).toArray 23)).alloc (.cells (bys tid).toArray 23) = w2 at *
 have hrb : w2.rangeAt A 0 (bys bid) := fun j u hu => by rw [Nat.zero_add, cell_of_row _ _ _ _ _ _ hb1]; simpa using hu
 have hrt : w2.rangeAt A2 0 (bys tid) := fun j u hu => by rw [Nat.zero_add, cell_of_row _ _ _ _ _ _ ht1]; simpa using hu
 have HRB := hide hrb
 have HRT := hide hrt
 clear hb1 ht1 hrb hrt
 obtain ⟨B, hB⟩ := nm (w2.heap.size)
 have HAB : Hid (w.heap.size <= B) := by show _ <= _; rw [<-hB]; exact HK2.out.size
 have ho3 : OwnB (w2.alloc (.cells #[.int .u8 68] 5)) B (.slice (some ⟨B, 0, none⟩) 1 1) [68] := by rw [<-hB]; exact own_one9 w2 68
 have hk3 := ka w2 (.cells #[.int .u8 68] 5)
 go_upto_region 2 with (fail)
 try rw [hB]
 have H3 : Hid (OwnB (w2.alloc (.cells #[.int .u8 68] 5)) B (.slice (some ⟨B, 0, none⟩) 1 1) [68] ∧ Kept [] w2 (w2.alloc (.cells #[.int .u8 68] 5)) ∧ B <= (w2.alloc (.cells #[.int .u8 68] 5)).heap.size) := ⟨ho3, hk3, by rw [<-hB]; exact hk3.size⟩
 have HBW : Hid (w2.heap.size <= B) := Nat.le_of_eq hB
 clear ho3 hk3 hB
 generalize w2.alloc (.cells #[.int .u8 68] 5) = x0 at *
 obtain ⟨p0, hp0⟩ : ∃ p0 : Option Addr, some (⟨B, 0, none⟩ : Addr) = p0 := ⟨_, rfl⟩
 rw [hp0] at H3 ⊢
 clear hp0
 have hnu := refnum8 W (by omega) x0
 go_upto_region 3 with (first
  | (go_at_call 55; refine hnu.mono ?_; rintro r z1 ⟨m1, s1, sc1, hm1, hb5, rfl, hsl, hs0, hkz⟩; obtain ⟨p1, c1, x1, hrun, hoj, hkj⟩ := app18 (H3.out.1.kept hkz (by simp)) (Nat.le_trans H3.out.2.2 hkz.size) s1 m1 sc1 (Pure.enc W) hm1 hsl hs0 (by omega); have HX : Hid (OwnB x1 B (.slice p1 (1 + m1) c1) ([68] ++ Pure.enc W) ∧ Kept [] w2 x1 ∧ B <= x1.heap.size) := (ai hoj (ai (own_far (H3.out.1.kept hkz (by simp)) (H3.out.2.1.tr hkz) HBW.out hkj) (Nat.le_trans H3.out.2.2 (Nat.le_trans hkz.size hkj.size)))); clear hnu hm1 hsl hs0 hkz hoj hkj)
  | (refine wpList_app_run rfl (.tmp 18) (.tmp 20) 27 27 rfl (.slice p0 1 1) (.slice s1 m1 sc1) rfl rfl (.slice p1 (1 + m1) c1) x1 hrun ?_; clear hrun; try simp only [z4, z5, z6, z7, z8]))
 clear H3
 obtain ⟨q1, hq1⟩ : ∃ q, 1 + m1 = q := ⟨_, rfl⟩
 have hqb1 : q1 <= 6 := by omega
 rw [hq1] at HX ⊢
 have H3 := HX
 clear HX hq1 hb5
 have hnu := refnum8 Z hZ x1
 go_upto_region 4 with (first
  | (go_at_call 55; refine hnu.mono ?_; rintro r z2 ⟨m2, s2, sc2, hm2, hb5, rfl, hsl, hs0, hkz⟩; obtain ⟨p2, c2, x2, hrun, hoj, hkj⟩ := app18 (H3.out.1.kept hkz (by simp)) (Nat.le_trans H3.out.2.2 hkz.size) s2 m2 sc2 (Pure.enc Z) hm2 hsl hs0 (by omega); have HX : Hid (OwnB x2 B (.slice p2 (q1 + m2) c2) ([68] ++ Pure.enc W ++ Pure.enc Z) ∧ Kept [] w2 x2 ∧ B <= x2.heap.size) := (ai hoj (ai (own_far (H3.out.1.kept hkz (by simp)) (H3.out.2.1.tr hkz) HBW.out hkj) (Nat.le_trans H3.out.2.2 (Nat.le_trans hkz.size hkj.size)))); clear hnu hm2 hsl hs0 hkz hoj hkj)
  | (refine wpList_app_run rfl (.tmp 22) (.tmp 24) 27 27 rfl (.slice p1 q1 c1) (.slice s2 m2 sc2) rfl rfl (.slice p2 (q1 + m2) c2) x2 hrun ?_; clear hrun; try simp only [z4, z5, z6, z7, z8]))
 clear H3
 obtain ⟨q2, hq2⟩ : ∃ q, q1 + m2 = q := ⟨_, rfl⟩
 have hqb2 : q2 <= 11 := by omega
 rw [hq2] at HX ⊢
 have H3 := HX
 clear HX hq2 hb5 hqb1
 have hnu := refnum8 N hN x2
 go_upto_region 5 with (first
  | (go_at_call 55; refine hnu.mono ?_; rintro r z3 ⟨m3, s3, sc3, hm3, hb5, rfl, hsl, hs0, hkz⟩; obtain ⟨p3, c3, x3, hrun, hoj, hkj⟩ := app18 (H3.out.1.kept hkz (by simp)) (Nat.le_trans H3.out.2.2 hkz.size) s3 m3 sc3 (Pure.enc N) hm3 hsl hs0 (by omega); have HX : Hid (OwnB x3 B (.slice p3 (q2 + m3) c3) ([68] ++ Pure.enc W ++ Pure.enc Z ++ Pure.enc N) ∧ Kept [] w2 x3 ∧ B <= x3.heap.size) := (ai hoj (ai (own_far (H3.out.1.kept hkz (by simp)) (H3.out.2.1.tr hkz) HBW.out hkj) (Nat.le_trans H3.out.2.2 (Nat.le_trans hkz.size hkj.size)))); clear hnu hm3 hsl hs0 hkz hoj hkj)
  | (refine wpList_app_run rfl (.tmp 26) (.tmp 28) 27 27 rfl (.slice p2 q2 c2) (.slice s3 m3 sc3) rfl rfl (.slice p3 (q2 + m3) c3) x3 hrun ?_; clear hrun; try simp only [z4, z5, z6, z7, z8]))
 clear H3
 obtain ⟨q3, hq3⟩ : ∃ q, q2 + m3 = q := ⟨_, rfl⟩
 have hqb3 : q3 <= 16 := by omega
 rw [hq3] at HX ⊢
 have H3 := HX
 clear HX hq3 hb5 hqb2
 have hrb : x3.rangeAt A 0 (bys bid) := fun j u hu => H3.out.2.1.cellOf (HRB.out j u hu) (by simp)
 have hib := idlen hbl
 have hpt := rpart_ok W bid x3 hW hbl
 go_upto_region 6 with (first
  | (refine wpList_load_mid rfl 23 (.tmp 10) rfl A 0 rfl (bys bid) _ hrb Tryz.underlying23 rfl hib ?_; try simp only [z4, z5, z6, z7, z8])
  | (go_at_call 56; refine hpt.mono ?_; rintro r z4 ⟨⟨s4, sc4, rfl, hob⟩, hkz⟩; have hi4 := hob.in8; obtain ⟨p4, c4, x4, hrun, hoj, hkj⟩ := app18 (H3.out.1.kept hkz (by simp)) (Nat.le_trans H3.out.2.2 hkz.size) s4 W sc4 (bid.take W) hi4.len hi4.sl hi4.nil (by omega); have HX : Hid (OwnB x4 B (.slice p4 (q3 + W) c4) ([68] ++ Pure.enc W ++ Pure.enc Z ++ Pure.enc N ++ bid.take W) ∧ Kept [] w2 x4 ∧ B <= x4.heap.size) := (ai hoj (ai (own_far (H3.out.1.kept hkz (by simp)) (H3.out.2.1.tr hkz) HBW.out hkj) (Nat.le_trans H3.out.2.2 (Nat.le_trans hkz.size hkj.size)))); clear hpt hob hi4 hkz hoj hkj)
  | (refine wpList_app_run rfl (.tmp 30) (.tmp 33) 27 27 rfl (.slice p3 q3 c3) (.slice s4 W sc4) rfl rfl (.slice p4 (q3 + W) c4) x4 hrun ?_; clear hrun; try simp only [z4, z5, z6, z7, z8]))
 clear hrb hib
 clear H3
 obtain ⟨q4, hq4⟩ : ∃ q, q3 + W = q := ⟨_, rfl⟩
 have hqb4 : q4 <= 48 := by omega
 rw [hq4] at HX ⊢
 have H3 := HX
 clear HX hq4 hqb3
 have hnu := refnum8 M hM x4
 go_upto_region 7 with (first
  | (go_at_call 55; refine hnu.mono ?_; rintro r z5 ⟨m5, s5, sc5, hm5, hb5, rfl, hsl, hs0, hkz⟩; obtain ⟨p5, c5, x5, hrun, hoj, hkj⟩ := app18 (H3.out.1.kept hkz (by simp)) (Nat.le_trans H3.out.2.2 hkz.size) s5 m5 sc5 (Pure.enc M) hm5 hsl hs0 (by omega); have HX : Hid (OwnB x5 B (.slice p5 (q4 + m5) c5) ([68] ++ Pure.enc W ++ Pure.enc Z ++ Pure.enc N ++ bid.take W ++ Pure.enc M) ∧ Kept [] w2 x5 ∧ B <= x5.heap.size) := (ai hoj (ai (own_far (H3.out.1.kept hkz (by simp)) (H3.out.2.1.tr hkz) HBW.out hkj) (Nat.le_trans H3.out.2.2 (Nat.le_trans hkz.size hkj.size)))); clear hnu hm5 hsl hs0 hkz hoj hkj)
  | (refine wpList_app_run rfl (.tmp 35) (.tmp 37) 27 27 rfl (.slice p4 q4 c4) (.slice s5 m5 sc5) rfl rfl (.slice p5 (q4 + m5) c5) x5 hrun ?_; clear hrun; try simp only [z4, z5, z6, z7, z8]))
 clear H3
 obtain ⟨q5, hq5⟩ : ∃ q, q4 + m5 = q := ⟨_, rfl⟩
 have hqb5 : q5 <= 53 := by omega
 rw [hq5] at HX ⊢
 have H3 := HX
 clear HX hq5 hb5 hqb4
 have hrb : x5.rangeAt A2 0 (bys tid) := fun j u hu => H3.out.2.1.cellOf (HRT.out j u hu) (by simp)
 have hib := idlen htl
 have hpt := rpart_ok W tid x5 hW htl
 go_upto_region 8 with (first
  | (refine wpList_load_mid rfl 23 (.tmp 12) rfl A2 0 rfl (bys tid) _ hrb Tryz.underlying23 rfl hib ?_; try simp only [z4, z5, z6, z7, z8])
  | (go_at_call 56; refine hpt.mono ?_; rintro r z6 ⟨⟨s6, sc6, rfl, hob⟩, hkz⟩; have hi4 := hob.in8; obtain ⟨p6, c6, x6, hrun, hoj, hkj⟩ := app18 (H3.out.1.kept hkz (by simp)) (Nat.le_trans H3.out.2.2 hkz.size) s6 W sc6 (tid.take W) hi4.len hi4.sl hi4.nil (by omega); have HX : Hid (OwnB x6 B (.slice p6 (q5 + W) c6) ([68] ++ Pure.enc W ++ Pure.enc Z ++ Pure.enc N ++ bid.take W ++ Pure.enc M ++ tid.take W) ∧ Kept [] w2 x6 ∧ B <= x6.heap.size) := (ai hoj (ai (own_far (H3.out.1.kept hkz (by simp)) (H3.out.2.1.tr hkz) HBW.out hkj) (Nat.le_trans H3.out.2.2 (Nat.le_trans hkz.size hkj.size)))); clear hpt hob hi4 hkz hoj hkj)
  | (refine wpList_app_run rfl (.tmp 39) (.tmp 42) 27 27 rfl (.slice p5 q5 c5) (.slice s6 W sc6) rfl rfl (.slice p6 (q5 + W) c6) x6 hrun ?_; clear hrun; try simp only [z4, z5, z6, z7, z8]))
 clear hrb hib
 clear H3
 obtain ⟨q6, hq6⟩ : ∃ q, q5 + W = q := ⟨_, rfl⟩
 have hqb6 : q6 <= 85 := by omega
 rw [hq6] at HX ⊢
 have H3 := HX
 clear HX hq6 hqb5
 have hnu := refnum8 n (by omega) x6
 go_upto_region 9 with (first
  | (go_at_call 55; refine hnu.mono ?_; rintro r z7 ⟨m7, s7, sc7, hm7, hb5, rfl, hsl, hs0, hkz⟩; obtain ⟨p7, c7, x7, hrun, hoj, hkj⟩ := app18 (H3.out.1.kept hkz (by simp)) (Nat.le_trans H3.out.2.2 hkz.size) s7 m7 sc7 (Pure.enc n) hm7 hsl hs0 (by omega); have HX : Hid (OwnB x7 B (.slice p7 (q6 + m7) c7) ([68] ++ Pure.enc W ++ Pure.enc Z ++ Pure.enc N ++ bid.take W ++ Pure.enc M ++ tid.take W ++ Pure.enc n) ∧ Kept [] w2 x7 ∧ B <= x7.heap.size) := (ai hoj (ai (own_far (H3.out.1.kept hkz (by simp)) (H3.out.2.1.tr hkz) HBW.out hkj) (Nat.le_trans H3.out.2.2 (Nat.le_trans hkz.size hkj.size)))); clear hnu hm7 hsl hs0 hkz hoj hkj)
  | (refine wpList_app_run rfl (.tmp 44) (.tmp 47) 27 27 rfl (.slice p6 q6 c6) (.slice s7 m7 sc7) rfl rfl (.slice p7 (q6 + m7) c7) x7 hrun ?_; clear hrun; try simp only [z4, z5, z6, z7, z8]))
 clear H3
 obtain ⟨q7, hq7⟩ : ∃ q, q6 + m7 = q := ⟨_, rfl⟩
 have hqb7 : q7 <= 90 := by omega
 rw [hq7] at HX ⊢
 have H3 := HX
 clear HX hq7 hb5 hqb6
 obtain ⟨hd, hhd⟩ : ∃ hd : List UInt8, [68] ++ Pure.enc W ++ Pure.enc Z ++ Pure.enc N ++ bid.take W ++ Pure.enc M ++ tid.take W ++ Pure.enc n = hd := ⟨_, rfl⟩
 rw [hhd] at H3
 have HHD := hide hhd
 have HIN : Hid (OwnB x7 B (.slice p7 q7 c7) (hd ++ encT (T.take 0)) ∧ Kept [] w2 x7 ∧ B <= x7.heap.size) := by show _ ∧ _; simpa [encT] using H3.out
 have HDL : Hid (hd.length = q7) := own_len H3.out.1
 clear H3 hhd
 go_wp2
 go_loopw [15, 16] (fun x y wr => ∃ (k q : Nat) (po : Option Addr) (pc : Nat), k <= n ∧ q <= 500000090 ∧ x = .slice po q pc ∧ y = .int .i64 k ∧ Hid (OwnB wr B (.slice po q pc) (hd ++ encT (T.take k)) ∧ Kept [] w2 wr ∧ B <= wr.heap.size)) (fun x y wr => n - (intOf y).toNat)
 case atStart => exact ⟨0, q7, p7, c7, Nat.zero_le _, by omega, rfl, rfl, HIN⟩
 case round =>
  clear HIN
  obtain ⟨k, q, po, pc, hk, hqb, rfl, rfl, HP⟩ := hrel
  by_cases hlt : k < n
  ·have hkt : k < T.length := by rw [HTL.out]; exact hlt
   obtain ⟨x, hx⟩ : ∃ x, T[k]? = some x := ⟨_, List.getElem?_eq_getElem hkt⟩
   obtain ⟨⟨ga, oa, rfl, hra⟩, hxo⟩ := (HT.out.kept HK2.out) k x hx
   have HRA := hide hra
   have HXO := hide hxo
   have HTK := hide (encT_take hx)
   have hql : q + (encI x.stp).length <= 500000090 := by
    have h1 := encT_le T (k + 1)
    have h2 := own_len HP.out.1
    rw [HTK.out, List.length_append] at h1
    rw [List.length_append, HDL.out] at h2
    have h3 := HE.out
    omega
   obtain ⟨f, hf⟩ := nm (x.f)
   obtain ⟨c, hc⟩ := nm (x.c)
   have hfb : f <= 2147483647 := by rw [<-hf]; exact hxo.f
   have hcb : c <= 2147483647 := by rw [<-hc]; exact hxo.c
   have a0 : wr.cell? ⟨ga, oa + k * 3, none⟩ = some (.int .i64 (f : Nat)) := by have := HP.out.2.1.cellOf (hra 0 _ rfl) (by simp); rw [hf] at this; simpa using this
   have a1 : wr.cell? ⟨ga, oa + k * 3 + 1, none⟩ = some (.int .i64 (c : Nat)) := by have := HP.out.2.1.cellOf (hra 1 _ rfl) (by simp); rw [hc] at this; exact this
   clear hra hxo hkt hx
   by_cases hcp : 0 < c
   ·have HEN : Hid (encI x.stp = [1] ++ Pure.enc f ++ Pure.enc c) := by
     show _ = _
     unfold Tr.stp
     rw [hc, if_pos hcp, hf]
     show Pure.fix 1 1 ++ _ = _
     rw [show Pure.fix 1 1 = [1] from rfl, List.append_assoc]
    have hcp1 : (0 : Int) < (c : Int) := by omega
    rw [HEN.out] at hql
    simp only [List.length_append, List.length_singleton] at hql
    have ka := ka wr (.cells #[.int .u8 1] 5)
    have hon : Sl (wr.alloc (.cells #[.int .u8 1] 5)) (some ⟨wr.heap.size, 0, none⟩) [1] := (own_in8 (own_one9 wr 1)).sl
    obtain ⟨p8, c8, x8, hrun, hoj, hkj⟩ := app18 (HP.out.1.kept ka (by simp)) (Nat.le_trans HP.out.2.2 ka.size) (some ⟨wr.heap.size, 0, none⟩) 1 1 [1] rfl hon (fun e => by cases e) (by omega)
    have HX : Hid (OwnB x8 B (.slice p8 (q + 1) c8) (hd ++ encT (T.take k) ++ [1]) ∧ Kept [] w2 x8 ∧ B <= x8.heap.size) := ⟨hoj, own_far (HP.out.1.kept ka (by simp)) (HP.out.2.1.tr ka) HBW.out hkj, Nat.le_trans HP.out.2.2 (Nat.le_trans ka.size hkj.size)⟩
    clear hoj hkj hon ka HP
    go_upto_region 14 with (refine wpList_app_run rfl (.tmp 61) (.tmp 62) 27 27 rfl (.slice po q pc) (.slice (some ⟨wr.heap.size, 0, none⟩) 1 1) rfl rfl (.slice p8 (q + 1) c8) x8 hrun ?_; clear hrun; try simp only [z4, z5, z6, z7, z8])
    clear a0 a1
    have a0 : x8.cell? ⟨ga, oa + k * 3, none⟩ = some (.int .i64 (f : Nat)) := by have := HX.out.2.1.cellOf (HRA.out 0 _ rfl) (by simp); rw [hf] at this; simpa using this
    obtain ⟨q8, hq8⟩ := nm (q + 1)
    rw [hq8] at HX ⊢
    have hnu := refnum8 f hfb x8
    go_upto_region 15 with (first
     | (go_at_call 55; refine hnu.mono ?_; rintro r z9 ⟨m9, s9, sc9, hm9, hm5, rfl, hsl, hs0, hkz⟩; obtain ⟨p9, c9, x9, hrun, hoj, hkj⟩ := app18 (HX.out.1.kept hkz (by simp)) (Nat.le_trans HX.out.2.2 hkz.size) s9 m9 sc9 (Pure.enc f) hm9 hsl hs0 (by omega); have H9 : Hid (OwnB x9 B (.slice p9 (q8 + m9) c9) (hd ++ encT (T.take k) ++ [1] ++ Pure.enc f) ∧ Kept [] w2 x9 ∧ B <= x9.heap.size) := (ai hoj (ai (own_far (HX.out.1.kept hkz (by simp)) (HX.out.2.1.tr hkz) HBW.out hkj) (Nat.le_trans HX.out.2.2 (Nat.le_trans hkz.size hkj.size)))); clear hnu hsl hs0 hkz hoj hkj)
     | (refine wpList_app_run rfl (.tmp 64) (.tmp 70) 27 27 rfl (.slice p8 q8 c8) (.slice s9 m9 sc9) rfl rfl (.slice p9 (q8 + m9) c9) x9 hrun ?_; clear hrun; try simp only [z4, z5, z6, z7, z8]))
    clear a0 HX
    have a1 : x9.cell? ⟨ga, oa + k * 3 + 1, none⟩ = some (.int .i64 (c : Nat)) := by have := H9.out.2.1.cellOf (HRA.out 1 _ rfl) (by simp); rw [hc] at this; exact this
    obtain ⟨q9, hq9⟩ := nm (q8 + m9)
    rw [hq9] at H9 ⊢
    have hnu := refnum8 c hcb x9
    go_wp2_with (first
     | (go_at_call 55; refine hnu.mono ?_; rintro r z10 ⟨m10, s10, sc10, hm10, hm55, rfl, hsl, hs0, hkz⟩; obtain ⟨p10, c10, x10, hrun, hoj, hkj⟩ := app18 (H9.out.1.kept hkz (by simp)) (Nat.le_trans H9.out.2.2 hkz.size) s10 m10 sc10 (Pure.enc c) hm10 hsl hs0 (by omega); obtain ⟨q10, hq10⟩ := nm (q9 + m10); rw [hq10] at hrun hoj; have HQ10 := hide hq10; have H10 : Hid (OwnB x10 B (.slice p10 q10 c10) (hd ++ encT (T.take k) ++ [1] ++ Pure.enc f ++ Pure.enc c) ∧ Kept [] w2 x10 ∧ B <= x10.heap.size) := (ai hoj (ai (own_far (H9.out.1.kept hkz (by simp)) (H9.out.2.1.tr hkz) HBW.out hkj) (Nat.le_trans H9.out.2.2 (Nat.le_trans hkz.size hkj.size)))); clear hnu hsl hs0 hkz hoj hkj hq10)
     | (refine wpList_app_run rfl (.tmp 72) (.tmp 78) 27 27 rfl (.slice p9 q9 c9) (.slice s10 m10 sc10) rfl rfl (.slice p10 q10 c10) x10 hrun ?_; clear hrun; try simp only [z4, z5, z6, z7, z8]))
    clear a1 H9
    have HPF : Hid (OwnB x10 B (.slice p10 q10 c10) (hd ++ encT (T.take (k + 1))) ∧ Kept [] w2 x10 ∧ B <= x10.heap.size) := by rw [HTK.out, HEN.out, <-List.append_assoc, <-List.append_assoc, <-List.append_assoc]; exact H10.out
    have hqq : q10 <= 500000090 := by have := HQ10.out; rw [hm9, hm10] at hql; omega
    clear H10 HTK HEN HRA HXO hq8 hq9 hql hm9 hm10 hm5 hm55
    go_roundw
    case rel => exact ⟨k + 1, q10, p10, c10, by omega, hqq, rfl, by go_num, HPF⟩
    case measure => simp [intOf]; omega
   ·obtain rfl : c = 0 := by omega
    have HEN : Hid (encI x.stp = [2] ++ (Pure.enc x.n ++ x.bs)) := by
     show _ = _
     unfold Tr.stp
     rw [hc, if_neg hcp]
     show Pure.fix 2 1 ++ _ = _
     rw [show Pure.fix 2 1 = [2] from rfl, HXO.out.inb.len]
    rw [HEN.out] at hql
    rw [List.length_append, List.length_singleton] at hql
    have ka := ka wr (.cells #[.int .u8 2] 5)
    have hon : Sl (wr.alloc (.cells #[.int .u8 2] 5)) (some ⟨wr.heap.size, 0, none⟩) [2] := (own_in8 (own_one9 wr 2)).sl
    obtain ⟨p8, c8, x8, hrun, hoj, hkj⟩ := app18 (HP.out.1.kept ka (by simp)) (Nat.le_trans HP.out.2.2 ka.size) (some ⟨wr.heap.size, 0, none⟩) 1 1 [2] rfl hon (fun e => by cases e) (by omega)
    have HX : Hid (OwnB x8 B (.slice p8 (q + 1) c8) (hd ++ encT (T.take k) ++ [2]) ∧ Kept [] w2 x8 ∧ B <= x8.heap.size) := ⟨hoj, own_far (HP.out.1.kept ka (by simp)) (HP.out.2.1.tr ka) HBW.out hkj, Nat.le_trans HP.out.2.2 (Nat.le_trans ka.size hkj.size)⟩
    clear hoj hkj hon ka HP
    go_upto_region 17 with (refine wpList_app_run rfl (.tmp 80) (.tmp 81) 27 27 rfl (.slice po q pc) (.slice (some ⟨wr.heap.size, 0, none⟩) 1 1) rfl rfl (.slice p8 (q + 1) c8) x8 hrun ?_; clear hrun; try simp only [z4, z5, z6, z7, z8])
    clear a0 a1
    have hxi := (HXO.out.kept HX.out.2.1).inb
    have hxn := HXO.out.n
    have a2 : x8.cell? ⟨ga, oa + k * 3 + 2, none⟩ = some (.slice x.ao x.n x.cap) := HX.out.2.1.cellOf (HRA.out 2 _ rfl) (by simp)
    obtain ⟨bs, hbs⟩ := nm (x.bs)
    obtain ⟨ao, hao⟩ := nm (x.ao)
    obtain ⟨xn, hxn2⟩ := nm (x.n)
    obtain ⟨xc, hxc⟩ := nm (x.cap)
    rw [hbs, hao, hxn2, hxc] at hxi
    rw [hao, hxn2, hxc] at a2
    rw [hbs, hxn2] at hql HEN
    rw [hxn2] at hxn
    clear hbs hao hxn2 hxc
    obtain ⟨q8, hq8⟩ := nm (q + 1)
    rw [hq8] at HX ⊢
    have htx := rtext_ok ao xn xc bs x8 hxi hxn
    go_wp2_with (first
     | (go_at_call 57; refine htx.mono ?_; rintro r z9 ⟨m9, s9, sc9, hm9, hm5, rfl, hsl, hs0, hkz⟩; obtain ⟨p9, c9, x9, hrun, hoj, hkj⟩ := app18 (HX.out.1.kept hkz (by simp)) (Nat.le_trans HX.out.2.2 hkz.size) s9 m9 sc9 (Pure.enc xn ++ bs) hm9 hsl hs0 (by omega); obtain ⟨q9, hq9⟩ := nm (q8 + m9); rw [hq9] at hrun hoj; have HQ9 := hide hq9; have H9 : Hid (OwnB x9 B (.slice p9 q9 c9) (hd ++ encT (T.take k) ++ [2] ++ (Pure.enc xn ++ bs)) ∧ Kept [] w2 x9 ∧ B <= x9.heap.size) := (ai hoj (ai (own_far (HX.out.1.kept hkz (by simp)) (HX.out.2.1.tr hkz) HBW.out hkj) (Nat.le_trans HX.out.2.2 (Nat.le_trans hkz.size hkj.size)))); clear htx hsl hs0 hkz hoj hkj hq9)
     | (refine wpList_app_run rfl (.tmp 83) (.tmp 89) 27 27 rfl (.slice p8 q8 c8) (.slice s9 m9 sc9) rfl rfl (.slice p9 q9 c9) x9 hrun ?_; clear hrun; try simp only [z4, z5, z6, z7, z8]))
    clear a2 HX
    have HPF : Hid (OwnB x9 B (.slice p9 q9 c9) (hd ++ encT (T.take (k + 1))) ∧ Kept [] w2 x9 ∧ B <= x9.heap.size) := by rw [HTK.out, HEN.out, <-List.append_assoc, <-List.append_assoc]; exact H9.out
    have hqq : q9 <= 500000090 := by have := HQ9.out; rw [hm9] at hql; omega
    clear H9 HTK HEN HRA HXO hq8 hql hm9 hm5 hxi hxn
    go_roundw
    case rel => exact ⟨k + 1, q9, p9, c9, by omega, hqq, rfl, by go_num, HPF⟩
    case measure => simp [intOf]; omega
  ·obtain rfl : k = n := by omega
   have ho := HP.out.1
   rw [List.take_of_length_le (by rw [HTL.out]; exact Nat.le_refl _)] at ho
   have hse := rsealed_ok B po q pc (hd ++ encT T) wr ho HP.out.2.2 (by omega)
   have HO := hide ho
   have HKw := hide HP.out.2
   have HWB : Hid (sealed (hd ++ encT T) = writtenB W Z N bid M tid T) := by show _ = _; unfold writtenB; rw [<-HHD.out, HTL.out]
   rw [HWB.out] at hse
   clear HP ho
   go_wp2_with (go_at_call 58; refine hse.mono ?_; rintro r wz ⟨⟨eo, ec, rfl, hoz⟩, hkz⟩; have HZ := hide (ai hoz hkz); clear hse hoz hkz)
   go_ret
   refine ⟨⟨eo, q + 4, ec, rfl, ?_⟩, HK2.out.tr (own_far HO.out HKw.out.1 HBW.out HZ.out.2)⟩
   have := HZ.out.1
   unfold OwnB at this ⊢
   exact own_base this HAB.out
end Go.Proofs.YtmklodligplbaabGreat
