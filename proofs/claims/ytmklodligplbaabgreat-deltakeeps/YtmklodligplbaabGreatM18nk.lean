import Derived.Test.YtmklodligplbaabGreatM18lk
import Derived.Test.YtmklodligplbaabGreatM18wk
open Go.RowKit
set_option linter.unusedVariables false
set_option linter.unusedSimpArgs false
set_option maxRecDepth 100000
set_option maxHeartbeats 0
namespace Go.Proofs.YtmklodligplbaabGreat
open Dlt
theorem rmake_no (s : Sig) (ao : Option Addr) (n cap : Nat) (bo : Option Addr) (m bc : Nat) (w : World) (hI : SigIn w s ao n cap) (hm : may s = false) :
  Calls Tryz.prog 25 #[.agg (s.cells (.slice ao n cap)).toArray, .slice bo m bc] w fun e w' => TellB w w' e 180 [] ∧ Kept [] w w' := by
 have k1 := ka w (.cells (s.cells (.slice ao n cap)).toArray 26)
 have hA := SigAt.new w s (.slice ao n cap)
 obtain ⟨A, hAe⟩ := nm (w.heap.size)
 rw [hAe] at hA
 have hmy := rmay_ok s ao n cap _ (hI.kept k1)
 rw [hm] at hmy
 have hr := hA.range
 have hil := Tryz.infoSig s (.slice ao n cap)
 have HK1 := hide k1
 clear hI hm k1 hA
 go_enter Tryz.func25, Tryz.ntmps25
 go_wp2_with (first
  | refine wpList_load_mid rfl 26 (.tmp 2) rfl A 0 rfl (s.cells (.slice ao n cap)) _ hr Tryz.underlying26 rfl hil ?_
  | (go_at_call 59; refine hmy.mono ?_; rintro r w2 ⟨rfl, hk2⟩; have H2 := hide hk2; clear hmy hk2))
 go_ret2
 exact ⟨⟨none, 0, rfl, World.ownsRow_nil _ _ _ _⟩, HK1.out.tr H2.out⟩
theorem rmake_long (s : Sig) (ao : Option Addr) (n cap : Nat) (bo : Option Addr) (m bc : Nat) (w : World) (hI : SigIn w s ao n cap) (hm : may s = true) (hl : 131072 < m) :
  Calls Tryz.prog 25 #[.agg (s.cells (.slice ao n cap)).toArray, .slice bo m bc] w fun e w' => TellB w w' e 2 [] ∧ Kept [] w w' := by
 have k1 := ka w (.cells (s.cells (.slice ao n cap)).toArray 26)
 have hA := SigAt.new w s (.slice ao n cap)
 obtain ⟨A, hAe⟩ := nm (w.heap.size)
 rw [hAe] at hA
 have hmy := rmay_ok s ao n cap _ (hI.kept k1)
 rw [hm] at hmy
 have hr := hA.range
 have hil := Tryz.infoSig s (.slice ao n cap)
 have HK1 := hide k1
 clear hI hm k1 hA
 go_enter Tryz.func25, Tryz.ntmps25
 go_wp2_with (first
  | refine wpList_load_mid rfl 26 (.tmp 2) rfl A 0 rfl (s.cells (.slice ao n cap)) _ hr Tryz.underlying26 rfl hil ?_
  | (go_at_call 59; refine hmy.mono ?_; rintro r w2 ⟨rfl, hk2⟩; have H2 := hide hk2; clear hmy hk2))
 go_ret2
 exact ⟨⟨none, 0, rfl, World.ownsRow_nil _ _ _ _⟩, HK1.out.tr H2.out⟩
theorem written_make {s : Sig} {ys : List UInt8} {W Z N m : Nat} {T : List Tr} (hW : s.width = (W : Int)) (hZ : s.size = (Z : Int)) (hN : s.length = (N : Int)) (hm : ys.length = m) (hT : T.map Tr.stp = insOf s ys) : writtenB W Z N s.base m (Sha.ident (W : Int) ys) T = makeX s ys := by
 have hl : T.length = (insOf s ys).length := by rw [<-hT, List.length_map]
 unfold writtenB makeX
 rw [encT_map, hT, hl, hW, hZ, hN, hm]
 simp only [Int.toNat_natCast, List.append_assoc, List.nil_append]
 rfl
theorem encT_ok {s : Sig} {ys : List UInt8} {T : List Tr} (hM : May s) (hm : ys.length <= 131072) (hT : T.map Tr.stp = insOf s ys) (hl : (insOf s ys).length <= 2048) : (encT T).length <= 500000000 := by
 obtain ⟨h1, h2⟩ := insF_ok (wd := s.width) (Z := s.size.toNat) (L := s.blocks) (by have := hM.z1; omega) (by have := hM.few; omega) ys.length [] ys (by omega) (by simp)
 rw [encT_map, hT]
 have h3 := flatI_len (insOf s ys) h1
 have h4 : litS (insOf s ys) <= litS [] + ys.length := h2
 have h5 : litS [] = 0 := rfl
 omega
theorem rmake_rest (s : Sig) (ao : Option Addr) (n cap : Nat) (bo : Option Addr) (m bc : Nat) (ys : List UInt8) (w : World) (hI : SigIn w s ao n cap) (hB : InB8 w bo m bc ys) (hm : may s = true) (hl : m <= 131072) :
  Calls Tryz.prog 25 #[.agg (s.cells (.slice ao n cap)).toArray, .slice bo m bc] w fun e w' => TellB w w' e (makeE s ys) (makeB s ys) ∧ Kept [] w w' := by
 have k1 := ka w (.cells (s.cells (.slice ao n cap)).toArray 26)
 have hA := SigAt.new w s (.slice ao n cap)
 obtain ⟨A, hAe⟩ := nm (w.heap.size)
 rw [hAe] at hA
 have hmy := rmay_ok s ao n cap _ (hI.kept k1)
 rw [hm] at hmy
 have hr := hA.range
 have hil := Tryz.infoSig s (.slice ao n cap)
 have HK1 := hide k1
 have HM := hide (may_iff.1 hm)
 have HI := hide (hI.kept k1)
 have HB := hide (hB.kept k1)
 have HMY := hide hm
 have hn20 : n <= 2048 := by rw [<-hI.len]; exact HM.out.few
 clear hI hm k1 hB
 have hl1 : ¬ 131072 < m := by omega
 obtain ⟨ce, hce⟩ : ∃ c, makeE s ys = c := ⟨_, rfl⟩
 obtain ⟨gt, hgt⟩ : ∃ c, makeB s ys = c := ⟨_, rfl⟩
 have HCE := hide (ai hce hgt)
 rw [hce, hgt]
 clear hce hgt
 go_enter Tryz.func25, Tryz.ntmps25
 go_upto_region 1 with (fail)
 have HAW : Hid (w.heap.size <= A) := Nat.le_of_eq hAe
 try rw [hAe]
 clear hAe
 generalize w.alloc (.cells (s.cells (.slice ao n cap)).toArray 26) = w1 at *
 go_upto_region 5 with (first
  | refine wpList_load_mid rfl 26 (.tmp 2) rfl A 0 rfl (s.cells (.slice ao n cap)) _ hr Tryz.underlying26 rfl hil ?_
  | (go_at_call 59; refine hmy.mono ?_; rintro r w2 ⟨rfl, hk2⟩; have H2 := hide hk2; clear hmy hk2))
 have HA2 := hide (hA.kept H2.out (by simp))
 have HI2 := hide (HI.out.kept H2.out)
 have HB2 := hide (HB.out.kept H2.out)
 have HK2 := hide (HK1.out.tr H2.out)
 clear hr hA HI HK1 H2 HB
 obtain ⟨W, hW⟩ := Int.eq_ofNat_of_zero_le (show 0 <= s.width by have := HM.out.w1; omega)
 obtain ⟨Z, hZ⟩ := Int.eq_ofNat_of_zero_le (show 0 <= s.size by have := HM.out.z1; omega)
 obtain ⟨N, hN⟩ := Int.eq_ofNat_of_zero_le HM.out.l1
 have hW32 : W <= 32 := by have := HM.out.w2; omega
 have hZ40 : Z <= 4096 ∧ 1 <= Z := ⟨by have := HM.out.z2; omega, by have := HM.out.z1; omega⟩
 have hN13 : N <= 2147483647 := by have := HM.out.l2; omega
 have hst := rsteps_ok s ao n cap bo m bc ys w2 HI2.out HB2.out Z hZ (by omega) (by omega) hl (by omega)
 have HWW := hide (ai hW (ai hZ hN))
 have hr := HA2.out.range
 clear hW hZ hN
 go_upto_region 6 with (first
  | refine wpList_load_mid rfl 26 (.tmp 2) rfl A 0 rfl (s.cells (.slice ao n cap)) _ hr Tryz.underlying26 rfl hil ?_
  | (go_at_call 61; refine hst.mono ?_; rintro r w3 ⟨T, lo, tn, lc, rfl, hTl, htn, hTr, hTm, hk3⟩; have HT := hide (ai hTl (ai hTr (ai hTm hk3))); clear hst hTl hTr hTm hk3))
 have HK3 := hide (HK2.out.tr HT.out.2.2.2)
 have HLN : Hid ((makeV s ys).length = tn) := by show _ = _; rw [<-HT.out.2.2.1, List.length_map]; exact HT.out.1
 clear hr
 by_cases h20 : 2048 < tn
 ·have HEE : Hid (makeE s ys = 183 ∧ makeB s ys = []) := by
   have h1 : 2048 < (insOf s ys).length := by
    apply Classical.byContradiction
    intro h
    have h2 := (makeV_eq s ys).1 (by omega)
    have h3 := HLN.out
    rw [h2] at h3
    omega
   have e1 : makeE s ys = 183 := by
    unfold makeE
    rw [HMY.out, if_neg (by simp), HB2.out.len, if_neg (by omega), if_pos h1]
   exact ⟨e1, by unfold makeB; rw [e1, if_neg (by decide)]⟩
  obtain rfl : ce = 183 := HCE.out.1.symm.trans HEE.out.1
  obtain rfl : gt = [] := HCE.out.2.symm.trans HEE.out.2
  clear HEE HCE HT HLN
  go_wp2
  go_ret2
  exact ⟨⟨none, 0, rfl, World.ownsRow_nil _ _ _ _⟩, HK3.out⟩
 ·have HL1 : Hid ((insOf s ys).length <= 2048) := by
   apply Classical.byContradiction
   intro h
   have h2 := (makeV_eq s ys).2 (Nat.lt_of_not_le h)
   have h3 := HLN.out
   omega
  have HTM : Hid (T.map Tr.stp = insOf s ys) := by
   show _ = _
   rw [HT.out.2.2.1]
   exact (makeV_eq s ys).1 HL1.out
  have HWX : Hid (writtenB W Z N s.base m (Sha.ident (W : Int) ys) T = makeX s ys) := written_make HWW.out.1 HWW.out.2.1 HWW.out.2.2 HB2.out.len HTM.out
  have hen := encT_ok HM.out (by rw [HB2.out.len]; exact hl) HTM.out HL1.out
  have HA3 := hide (HA2.out.kept HT.out.2.2.2 (by simp))
  have c0 := HA3.out.cell (Sig.c0 _ _)
  have c1 := HA3.out.cell (Sig.c1 _ _)
  have c2 := HA3.out.cell (Sig.c2 _ _)
  rw [HWW.out.1] at c0
  rw [HWW.out.2.1] at c1
  rw [HWW.out.2.2] at c2
  have hib := idlen s.hb
  have HB3 := hide (HB2.out.kept HT.out.2.2.2)
  have HOF := hide (fun X (hX : Kept [] w3 X) => rof_ok (W : Int) bo m bc ys X HB3.out.len (by omega) (HB3.out.sl.kept hX (by simp)) HB3.out.nil)
  obtain ⟨I1, hI1⟩ := nm (Sha.ident (W : Int) ys)
  have hI1l : I1.length = 32 := by rw [<-hI1]; exact Sha.ident_len _ _
  rw [hI1] at HOF HWX
  have HWR := hide (fun X (hX : Kept [] w3 X) => rwritten_ok W Z N m s.base I1 lo tn lc T X hW32 (by omega) hN13 (by omega) s.hb hI1l HT.out.1 (by omega) (HT.out.2.1.kept hX) hen)
  rw [HWX.out] at HWR
  clear hI1
  go_upto_region 8 with (fail)
  refine th w3 fun h0 => ?_
  generalize World.drew w3 = v0 at h0  ⊢
  refine t1 0 (.pointer (some ⟨A, 0, none⟩)) h0 ?_
  simp only [zz]
  refine t2 1 (.int .i64 (W : Nat)) rfl h0 ?_ (fun w h => by have c := qc h c0; go_simp)
  simp only [zz]
  refine t1 2 (.pointer (some ⟨A, 1, none⟩)) h0 ?_
  simp only [zz]
  refine t2 3 (.int .i64 (Z : Nat)) rfl h0 ?_ (fun w h => by have c := qc h c1; go_simp)
  simp only [zz]
  refine t1 4 (.pointer (some ⟨A, 2, none⟩)) h0 ?_
  simp only [zz]
  refine t2 5 (.int .i64 (N : Nat)) rfl h0 ?_ (fun w h => by have c := qc h c2; go_simp)
  simp only [zz]
  refine t1 6 (.pointer (some ⟨A, 3, none⟩)) h0 ?_
  simp only [zz]
  refine t4 7 (.agg (bys s.base).toArray) rfl (yieldsIf_load_mid (by rfl) _ _ rfl A 3 rfl (bys s.base) _ (fun W h => (HA3.out.kept h (by simp)).base) Tryz.underlying23 rfl hib) h0 ?_
  simp only [zz]
  refine t1 8 (.slice bo m bc) h0 ?_
  simp only [zz]
  refine t1 9 (.int .i64 (m : Nat)) h0 ?_
  simp only [zz]
  refine t1 10 (.pointer (some ⟨A, 0, none⟩)) h0 ?_
  simp only [zz]
  refine t2 11 (.int .i64 (W : Nat)) rfl h0 ?_ (fun w h => by have c := qc h c0; go_simp)
  simp only [zz]
  refine t1 12 (.slice bo m bc) h0 ?_
  simp only [zz]
  refine t1 14 (.slice lo tn lc) h0 ?_
  simp only [zz]
  refine rd 13 fun K hK => ?_
  go_simp
  refine (HOF.out v0 h0).mono ?_
  rintro e v1 ⟨rfl, hk13⟩
  refine hK.out _ _ (h0.tr hk13) (fun h1 => ?_)
  clear hK K
  try simp only [zz]
  clear hk13 h0
  refine rd 15 fun K hK => ?_
  go_simp
  refine (HWR.out v1 h1).mono ?_
  rintro e v2 ⟨⟨eo, en, ec, rfl, hob⟩, hk15⟩
  refine hK.out _ _ (h1.tr hk15) (fun h2 => ?_)
  clear hK K
  try simp only [zz]
  clear hk15
  refine t1 16 (.slice eo en ec) h2 ?_
  simp only [zz]
  refine qd ?_
  obtain ⟨cx, hcx⟩ := nm (makeX s ys)
  rw [hcx] at hob
  have hcl := own_len hob
  have HOB := hide (ai hob (Nat.le_trans HK3.out.size h1.size))
  have HKF := hide (HK3.out.tr h2)
  clear hob h1 h2 HOF HWR c0 c1 c2 HA3 hib
  by_cases hlx : 131072 < en
  ·have HEE : Hid (makeE s ys = 2 ∧ makeB s ys = []) := by
    have e1 : makeE s ys = 2 := by
     unfold makeE
     rw [HMY.out, if_neg (by simp), HB2.out.len, if_neg (by omega), if_neg (by have := HL1.out; omega), hcx, hcl, if_pos hlx]
    exact ⟨e1, by unfold makeB; rw [e1, if_neg (by decide)]⟩
   obtain rfl : ce = 2 := HCE.out.1.symm.trans HEE.out.1
   obtain rfl : gt = [] := HCE.out.2.symm.trans HEE.out.2
   clear HEE HCE HT HLN
   go_wp2
   go_ret2
   exact ⟨⟨none, 0, rfl, World.ownsRow_nil _ _ _ _⟩, HKF.out⟩
  ·have HEE : Hid (makeE s ys = 0 ∧ makeB s ys = cx) := by
    have e1 : makeE s ys = 0 := by
     unfold makeE
     rw [HMY.out, if_neg (by simp), HB2.out.len, if_neg (by omega), if_neg (by have := HL1.out; omega), hcx, hcl, if_neg hlx]
    exact ⟨e1, by unfold makeB; rw [e1, if_pos rfl, hcx]⟩
   obtain rfl : ce = 0 := HCE.out.1.symm.trans HEE.out.1
   obtain rfl : gt = cx := HCE.out.2.symm.trans HEE.out.2
   have HCL := hide hcl
   clear HEE HCE HT HLN hcl hcx
   go_wp2
   go_ret2
   refine ⟨⟨eo, ec, by rw [HCL.out]; rfl, ?_⟩, HKF.out⟩
   have h5 := HOB.out.1
   unfold OwnB at h5
   rw [HCL.out] at h5 ⊢
   exact own_base h5 HOB.out.2
theorem rmake_ok (s : Sig) (ao : Option Addr) (n cap : Nat) (bo : Option Addr) (m bc : Nat) (ys : List UInt8) (w : World) (hI : SigIn w s ao n cap) (hB : InB8 w bo m bc ys) :
  Calls Tryz.prog 25 #[.agg (s.cells (.slice ao n cap)).toArray, .slice bo m bc] w fun e w' => TellB w w' e (makeE s ys) (makeB s ys) ∧ Kept [] w w' := by
 cases hm : may s with
 | false =>
  have e1 : makeE s ys = 180 := by unfold makeE; rw [if_pos hm]
  have e2 : makeB s ys = [] := by unfold makeB; rw [e1, if_neg (by decide)]
  rw [e1, e2]
  exact rmake_no s ao n cap bo m bc w hI hm
 | true =>
  by_cases hl : 131072 < m
  ·have e1 : makeE s ys = 2 := by unfold makeE; rw [hm, if_neg (by simp), hB.len, if_pos hl]
   have e2 : makeB s ys = [] := by unfold makeB; rw [e1, if_neg (by decide)]
   rw [e1, e2]
   exact rmake_long s ao n cap bo m bc w hI hm hl
  ·exact rmake_rest s ao n cap bo m bc ys w hI hB hm (by omega)
end Go.Proofs.YtmklodligplbaabGreat
