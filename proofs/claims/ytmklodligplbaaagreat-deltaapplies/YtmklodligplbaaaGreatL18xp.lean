import Derived.Test.YtmklodligplbaaaGreatL18wp
import Derived.Test.YtmklodligplbaaaGreatEap
namespace Go.Proofs.YtmklodligplbaaaGreat
open Go.RowKit
open Dlt
set_option linter.unusedVariables false
set_option linter.unusedSimpArgs false
theorem Cy.in8 {w : World} {g n cap : Nat} {xs : List UInt8} (h : Cy w g n cap xs) (hc : cap ≤ 9223372036854775807) : InB8 w (some ⟨g, 0, none⟩) n cap xs := ⟨h.len, by have := h.cap; omega, by have := h.cap; omega, h.sl, fun e => by cases e⟩
theorem OwnB.cap {w : World} {base : Nat} {ao : Option Addr} {n cap : Nat} {xs : List UInt8} (h : OwnB w base (.slice ao n cap) xs) : cap ≤ 9223372036854775807 := by
 obtain ⟨_, _, e, _, _, _, h6, _⟩ := h.shape
 injection e with _ _ e
 subst e
 exact h6
theorem applyB_len (bs xs : List UInt8) : (applyB bs xs).length ≤ 4611686018427387904 := by
 unfold applyB
 split
 ·rename_i h0
  cases hd : decD xs with
  | none => simp
  | some d =>
   have hok := (decD_some hd).1
   unfold applyE at h0
   split at h0; · cases h0
   rw [hd] at h0
   simp only at h0
   split at h0
   ·rename_i hB
    show (doIs d.size bs d.steps).length ≤ _
    rw [doIs_len (by rw [hB.1]; exact hok.ins), hok.sum]
    have := hok.t2
    omega
   ·cases h0
 ·simp
set_option maxHeartbeats 12800000 in
set_option maxRecDepth 100000 in
theorem applies18_walk (ao : Option Addr) (n cap : Nat) (bo : Option Addr) (m bc : Nat) (at_ : Int) (xs ys : List UInt8) (w : World) (h1 : InB w ao n cap xs) (h2 : InB w bo m bc ys) (hat : (Lit.int .i64 at_).wf = true) :
  Calls Tryz.prog 5 #[.slice ao n cap, .slice bo m bc, .int .i64 at_] w fun e w' => e = .returned (.bool true) ∧ Below w.heap.size w w' := by
 have hkn := known18_ok w
 have hnm : n ≤ 140737488351232 := Nat.le_trans h1.le h1.max
 have hmm : m ≤ 140737488351232 := Nat.le_trans h2.le h2.max
 have H1 := hide h1
 have H2 := hide h2
 have HAT := hide hat
 clear h1 h2 hat
 go_enter Tryz.func5, Tryz.ntmps5
 go_upto_region 3 with (go_at_call 6; refine hkn.mono ?_; rintro r w1 ⟨rfl, hk1⟩; have HK1 := hide hk1; clear hkn hk1)
 obtain ⟨v2, w2, hrun2, ho2, hk2⟩ := run_freshB w1 xs ao n cap H1.out.len (H1.out.sl.kept HK1.out (by simp)) H1.out.nil (by omega)
 obtain ⟨wo, wc, rfl, hwc⟩ := own_shape ho2
 rw [H1.out.len] at ho2 hrun2
 go_upto_region 4 with (refine wpList_app_run rfl (.tmp 18) (.tmp 19) 22 22 rfl (.slice (some ⟨w1.heap.size, 0, none⟩) 0 0) (.slice ao n cap) rfl rfl (.slice wo n wc) w2 hrun2 ?_; clear hrun2)
 have hI2 := ho2.in8
 have hrm := roomy_ok wo n wc xs w2 H1.out.len hI2.sl hI2.nil hnm
 have HK2 := hide (HK1.out.trans hk2 (by simp))
 have HO2 := hide ho2
 have HB1 : Hid (w.heap.size ≤ w1.heap.size) := HK1.out.size
 have HBA : Hid (w1.heap.size ≤ w2.heap.size) := hk2.size
 clear ho2 hk2 hI2 hwc HK1
 go_upto_region 5 with (go_at_call 7; refine hrm.mono ?_; rintro r w3 ⟨⟨g, gc, rfl, ho3, hgc⟩, hk3⟩; have H3 := hide (And.intro ho3 hk3); clear hrm ho3 hk3)
 have HK3 := hide (HK2.out.trans H3.out.2 (by simp))
 obtain ⟨v4, w4, hrun4, ho4, hk4⟩ := run_freshB w3 ys bo m bc H2.out.len (H2.out.sl.kept HK3.out (by simp)) H2.out.nil (by omega)
 obtain ⟨ro, rc, rfl, hrc⟩ := own_shape ho4
 rw [H2.out.len] at ho4 hrun4
 go_upto_region 6 with (refine wpList_app_run rfl (.tmp 23) (.tmp 24) 22 22 rfl (.slice (some ⟨w3.heap.size, 0, none⟩) 0 0) (.slice bo m bc) rfl rfl (.slice ro m rc) w4 hrun4 ?_; clear hrun4)
 have hI4 := ho4.in8
 have hrm := roomy_ok ro m rc ys w4 H2.out.len hI4.sl hI4.nil hmm
 have HK4 := hide (HK3.out.trans hk4 (by simp))
 have HO4 := hide (And.intro ho4 hk4)
 clear ho4 hk4 hI4 hrc
 go_upto_region 7 with (go_at_call 7; refine hrm.mono ?_; rintro r w5 ⟨⟨g2, gc2, rfl, ho5, hgc2⟩, hk5⟩; have H5 := hide (And.intro ho5 hk5); clear hrm ho5 hk5)
 obtain ⟨B1, hB1⟩ : ∃ B, w1.heap.size = B := ⟨_, rfl⟩
 obtain ⟨B2, hB2⟩ : ∃ B, w2.heap.size = B := ⟨_, rfl⟩
 obtain ⟨B3, hB3⟩ : ∃ B, w3.heap.size = B := ⟨_, rfl⟩
 obtain ⟨B4, hB4⟩ : ∃ B, w4.heap.size = B := ⟨_, rfl⟩
 have HW1 : Hid (∀ j, (Value.slice wo n wc).ownBlock = some j → B1 ≤ j ∧ j < B2) := fun j hj => by
  have h1 := HO2.out.far j hj; rw [hB1, hB2] at h1; exact h1
 have HG1 : Hid (B2 ≤ g ∧ g < B3) := by have h1 := H3.out.1.far g rfl; rw [hB2, hB3] at h1; exact h1
 have HW2 : Hid (∀ j, (Value.slice ro m rc).ownBlock = some j → B3 ≤ j ∧ j < B4) := fun j hj => by
  have h1 := HO4.out.1.far j hj; rw [hB3, hB4] at h1; exact h1
 have HG2 : Hid (B4 ≤ g2) := by have h1 := (H5.out.1.far g2 rfl).1; rw [hB4] at h1; exact h1
 have HBW : Hid (w.heap.size ≤ B1 ∧ B1 ≤ B2 ∧ B2 ≤ B3 ∧ B3 ≤ B4) := by
  have h0 := HB1.out
  have h3 := H3.out.2.size
  have h4 := HO4.out.2.size
  refine ⟨by omega, ?_, by omega, by omega⟩
  have := HO2.out
  have h5 := HBA.out
  omega
 have HIN : Hid (OwnB w5 B1 (.slice wo n wc) xs ∧ OwnB w5 B2 (.slice (some ⟨g, 0, none⟩) (n + 40) gc) (xs ++ bms) ∧ OwnB w5 B3 (.slice ro m rc) ys ∧ OwnB w5 B4 (.slice (some ⟨g2, 0, none⟩) (m + 40) gc2) (ys ++ bms) ∧ Kept [] w w5) := by
  have k35 : Kept [] w3 w5 := HO4.out.2.trans H5.out.2 (by simp)
  refine ⟨?_, ?_, ?_, ?_, HK4.out.trans H5.out.2 (by simp)⟩
  ·rw [← hB1]; exact (HO2.out.kept H3.out.2 (by simp)).kept k35 (by simp)
  ·rw [← hB2]; exact H3.out.1.kept k35 (by simp)
  ·rw [← hB3]; exact HO4.out.1.kept H5.out.2 (by simp)
  ·rw [← hB4]; exact H5.out.1
 clear H3 HO2 HK2 HK3 HK4 HO4 H5 HB1 hB1 hB2 hB3 hB4 HBA
 go_wp2
 go_loopw [11] (fun x wr => ∃ (i : Nat) (zs us : List UInt8), i ≤ 4 ∧ x = .int .i64 i ∧ Hid (OwnB wr B1 (.slice wo n wc) zs ∧ OwnB wr B2 (.slice (some ⟨g, 0, none⟩) (n + 40) gc) (zs ++ bms) ∧ OwnB wr B3 (.slice ro m rc) us ∧ OwnB wr B4 (.slice (some ⟨g2, 0, none⟩) (m + 40) gc2) (us ++ bms) ∧ Kept [] w wr)) (fun x wr => 4 - (intOf x).toNat)
 case atStart => exact ⟨0, xs, ys, by omega, rfl, HIN⟩
 case round =>
  clear HIN H1 H2
  obtain ⟨i, zs, us, hi, rfl, HP⟩ := hrel
  by_cases hlt : i < 4
  ·obtain ⟨hW, hA, hR, hE, hK⟩ := HP.out
   clear HP
   have hzl := own_len hW
   have hul := own_len hR
   have hCy := cy_of hA hzl hgc
   have hCz := cy_of hE hul hgc2
   obtain ⟨c, hcc⟩ : ∃ c, applyE zs us = c := ⟨_, rfl⟩
   obtain ⟨gt, hgt⟩ : ∃ gt, applyB zs us = gt := ⟨_, rfl⟩
   obtain ⟨gn, hgn⟩ : ∃ gn, gt.length = gn := ⟨_, rfl⟩
   have hgl : gn ≤ 4611686018427387904 := by
    rw [← hgn, ← hgt]
    exact applyB_len zs us
   have hP := apply_ok (some ⟨g, 0, none⟩) n gc zs (some ⟨g2, 0, none⟩) m gc2 us wr (hCy.in8 hA.cap) (hCz.in8 hE.cap)
   have HR2 := hide (fun W (hW2 : Kept [] wr W) => rapply_ok wo n wc zs ro m rc us W (hW.in8.kept hW2) (hR.in8.kept hW2))
   rw [hcc, hgt] at hP HR2
   have HGN := hide hgn
   have HW := hide hW
   have HA := hide hA
   have HR := hide hR
   have HE := hide hE
   have HKw := hide hK
   have HCY := hide hCy
   have HCZ := hide hCz
   have HZL := hide hzl
   have HUL := hide hul
   clear hcc hgt hgn hW hA hR hE hK hCy hCz hzl hul
   go_upto_region 11 with (go_at_call 18; refine hP.mono ?_; rintro r wa ⟨⟨so, sc, rfl, hoa⟩, hka⟩; rw [HGN.out] at hoa ⊢; have Ha := hide (And.intro hoa hka); have hP2 := HR2.out wa hka; clear hP hoa hka HR2)
   go_upto_region 12 with (go_at_call 19; refine hP2.mono ?_; rintro r wb ⟨⟨po, pc, rfl, hob⟩, hkb⟩; rw [HGN.out] at hob ⊢; have Hb := hide (And.intro hob hkb); clear hP2 hob hkb)
   have Kb := hide (Ha.out.2.trans Hb.out.2 (by simp))
   have hsm := same_yes so po gn sc pc gt wb HGN.out hgl (own_sl9 (own_kept9 Ha.out.1 Hb.out.2 (by simp))) (own_sl9 Hb.out.1)
   have HS1 := hide (fun W (hW2 : Kept [] wb W) => stands_ok g n gc zs wo wc W (HCY.out.kept (Kb.out.trans hW2 (by simp)) (by simp)) (HW.out.in8.sl.kept (Kb.out.trans hW2 (by simp)) (by simp)) hnm)
   have HS2 := hide (fun W (hW2 : Kept [] wb W) => stands_ok g2 m gc2 us ro rc W (HCZ.out.kept (Kb.out.trans hW2 (by simp)) (by simp)) (HR.out.in8.sl.kept (Kb.out.trans hW2 (by simp)) (by simp)) hmm)
   clear Ha Hb
   go_upto_region 14 with (first
    | (go_at_call 16; refine hsm.mono ?_; rintro r wc1 ⟨rfl, nf, hwf⟩; have Hc := hide (show Kept [] wb wc1 by rw [hwf]; exact (Kept.refl _ _).drewN nf); have hst1 := HS1.out wc1 Hc.out; clear hsm hwf HS1)
    | (go_at_call 11; refine hst1.mono ?_; rintro r wd ⟨rfl, hkd⟩; have Hd := hide (Hc.out.trans hkd (by simp)); have hst2 := HS2.out wd Hd.out; clear hst1 hkd HS2)
    | (go_at_call 11; refine hst2.mono ?_; rintro r wh ⟨rfl, hkh⟩; have Hh := hide (Hd.out.trans hkh (by simp)); clear hst2 hkh))
   have Kh := hide (Kb.out.trans Hh.out (by simp))
   have HKh := hide (HKw.out.trans Kh.out (by simp))
   have HWh := hide (HW.out.kept Kh.out (by simp))
   have HAh := hide (HA.out.kept Kh.out (by simp))
   have HRh := hide (HR.out.kept Kh.out (by simp))
   have HEh := hide (HE.out.kept Kh.out (by simp))
   clear Kb Hc Hd Hh Kh HW HA HR HE HKw HCY HCZ hgl HGN
   by_cases hi2 : i < 2
   ·by_cases hn0 : n = 0
    ·subst hn0
     have htn := turned18_none (some ⟨g, 0, none⟩) gc wo wc at_ wh
     go_wp2_with (go_at_call 12; refine htn.mono ?_; rintro r wk ⟨rfl, hwk⟩; obtain rfl := hwk.symm; clear htn)
     go_roundw
     case rel => exact ⟨i + 1, zs, us, by omega, by go_num, HWh.out, HAh.out, HRh.out, HEh.out, HKh.out⟩
     case measure => simp [intOf]; omega
    ·obtain ⟨h, wc', e, _, _⟩ := own_head (by have := HWh.out; unfold OwnB at this; exact this) (by rw [HZL.out]; exact hn0)
     injection e with e1 e2 e3
     subst e1
     clear e2 e3
     have hgh : g ≠ h := by have := HW1.out h rfl; have := HG1.out; omega
     have htn := turned18_ok g h n gc wc B2 B1 at_ zs wh HAh.out HWh.out hgh HZL.out hnm hn0 HAT.out
     go_wp2_with (go_at_call 12; refine htn.mono ?_; rintro r wk ⟨rfl, ⟨vs, hyl, hay, hwy⟩, hkk⟩; have HF : Hid (OwnB wk B1 (.slice (some ⟨h, 0, none⟩) n wc) vs ∧ OwnB wk B2 (.slice (some ⟨g, 0, none⟩) (n + 40) gc) (vs ++ bms) ∧ OwnB wk B3 (.slice ro m rc) us ∧ OwnB wk B4 (.slice (some ⟨g2, 0, none⟩) (m + 40) gc2) (us ++ bms) ∧ Kept [] w wk) := (And.intro hwy (And.intro hay (And.intro (HRh.out.kept hkk (fun j hj hm => by have hf := HRh.out.far j hj; simp only [List.mem_cons, List.not_mem_nil, or_false] at hm; have := HW1.out h rfl; have := HG1.out; have := HBW.out; omega)) (And.intro (HEh.out.kept hkk (fun j hj hm => by have hf := HEh.out.far j hj; simp only [List.mem_cons, List.not_mem_nil, or_false] at hm; have := HW1.out h rfl; have := HG1.out; have := HBW.out; omega)) (HKh.out.trans hkk (fun j hj hl => by simp only [List.mem_cons, List.not_mem_nil, or_false] at hj; have := HW1.out h rfl; have := HG1.out; have := HBW.out; omega)))))); clear htn hyl hay hwy hkk)
     go_roundw
     case rel => exact ⟨i + 1, vs, us, by omega, by go_num, HF⟩
     case measure => simp [intOf]; omega
   ·by_cases hm0 : m = 0
    ·subst hm0
     have htn := turned18_none (some ⟨g2, 0, none⟩) gc2 ro rc at_ wh
     go_wp2_with (go_at_call 12; refine htn.mono ?_; rintro r wk ⟨rfl, hwk⟩; obtain rfl := hwk.symm; clear htn)
     go_roundw
     case rel => exact ⟨i + 1, zs, us, by omega, by go_num, HWh.out, HAh.out, HRh.out, HEh.out, HKh.out⟩
     case measure => simp [intOf]; omega
    ·obtain ⟨h, wc', e, _, _⟩ := own_head (by have := HRh.out; unfold OwnB at this; exact this) (by rw [HUL.out]; exact hm0)
     injection e with e1 e2 e3
     subst e1
     clear e2 e3
     have hgh : g2 ≠ h := by have := HW2.out h rfl; have := HG2.out; omega
     have htn := turned18_ok g2 h m gc2 rc B4 B3 at_ us wh HEh.out HRh.out hgh HUL.out hmm hm0 HAT.out
     go_wp2_with (go_at_call 12; refine htn.mono ?_; rintro r wk ⟨rfl, ⟨vs, hyl, hay, hwy⟩, hkk⟩; have HF : Hid (OwnB wk B1 (.slice wo n wc) zs ∧ OwnB wk B2 (.slice (some ⟨g, 0, none⟩) (n + 40) gc) (zs ++ bms) ∧ OwnB wk B3 (.slice (some ⟨h, 0, none⟩) m rc) vs ∧ OwnB wk B4 (.slice (some ⟨g2, 0, none⟩) (m + 40) gc2) (vs ++ bms) ∧ Kept [] w wk) := (And.intro (HWh.out.kept hkk (fun j hj hm => by have := HW1.out j hj; have := HW2.out h rfl; have := HG2.out; have := HBW.out; simp only [List.mem_cons, List.not_mem_nil, or_false] at hm; omega)) (And.intro (HAh.out.kept hkk (fun j hj hm => by injection hj with hj; subst hj; simp only [List.mem_cons, List.not_mem_nil, or_false] at hm; have := HW2.out h rfl; have := HG1.out; have := HG2.out; have := HBW.out; omega)) (And.intro hwy (And.intro hay (HKh.out.trans hkk (fun j hj hl => by simp only [List.mem_cons, List.not_mem_nil, or_false] at hj; have := HW2.out h rfl; have := HG2.out; have := HBW.out; omega)))))); clear htn hyl hay hwy hkk)
     go_roundw
     case rel => exact ⟨i + 1, zs, vs, by omega, by go_num, HF⟩
     case measure => simp [intOf]; omega
  ·obtain rfl : i = 4 := by omega
   have HKF := hide HP.out.2.2.2.2
   clear HP
   go_wp2
   go_ret
   exact ⟨rfl, HKF.out.below0⟩
end Go.Proofs.YtmklodligplbaaaGreat
