import Derived.Test.YtmklodligplbaaaGreatL18yd
import Derived.Test.YtmklodligplbaaaGreatEad
namespace Go.Proofs.YtmklodligplbaaaGreat
open Go.RowKit
open Dlt
set_option linter.unusedVariables false
set_option linter.unusedSimpArgs false
theorem Cy.in8 {w : World} {g n cap : Nat} {xs : List UInt8} (h : Cy w g n cap xs) (hc : cap ≤ 9223372036854775807) : InB8 w (some ⟨g, 0, none⟩) n cap xs := ⟨h.len, by have := h.cap; omega, by have := h.cap; omega, h.sl, fun e => by cases e⟩
theorem OwnB.cap {w : World} {base : Nat} {ao : Option Addr} {n cap : Nat} {xs : List UInt8} (h : OwnB w base (.slice ao n cap) xs) : cap ≤ 9223372036854775807 := by
 obtain ⟨_, _, e, _, _, _, h6, _⟩ := h.shape
 injection e with _ _ e
 subst e
 exact h6
def decC (xs : List UInt8) : Int := match decS xs with | none => 180 | some _ => 0
def decV (xs : List UInt8) : Sig := match decS xs with | none => sig0 | some s => s
theorem decode_k (ao : Option Addr) (n cap : Nat) (xs : List UInt8) (w : World) (h : InB8 w ao n cap xs) :
  Calls Tryz.prog 8 #[.slice ao n cap] w fun e w' => TellS w w' e (decC xs) (decV xs) ∧ Kept [] w w' := by
 have hd := decode_ok ao n cap xs w h
 unfold decC decV
 cases hh : decS xs with
 | none => rw [hh] at hd; exact hd
 | some s => rw [hh] at hd; exact hd
theorem rdecode_k (ao : Option Addr) (n cap : Nat) (xs : List UInt8) (w : World) (h : InB8 w ao n cap xs) :
  Calls Tryz.prog 9 #[.slice ao n cap] w fun e w' => TellS w w' e (decC xs) (decV xs) ∧ Kept [] w w' := by
 have hd := rdecode_ok ao n cap xs w h
 unfold decC decV
 cases hh : decS xs with
 | none => rw [hh] at hd; exact hd
 | some s => rw [hh] at hd; exact hd
set_option maxHeartbeats 12800000 in
set_option maxRecDepth 100000 in
theorem decodes18_walk (ao : Option Addr) (n cap : Nat) (at_ : Int) (xs : List UInt8) (w : World) (h1 : InB w ao n cap xs) (hat : (Lit.int .i64 at_).wf = true) :
  Calls Tryz.prog 3 #[.slice ao n cap, .int .i64 at_] w fun e w' => e = .returned (.bool true) ∧ Below w.heap.size w w' := by
 have hz := Tryz.zeroSig
 have hkn := known18_ok w
 have hnm : n ≤ 140737488351232 := Nat.le_trans h1.le h1.max
 have H1 := hide h1
 have HAT := hide hat
 clear h1 hat
 go_enter Tryz.func3, Tryz.ntmps3
 go_upto_region 3 with (go_at_call 6; refine hkn.mono ?_; rintro r w1 ⟨rfl, hk1⟩; have HK1 := hide hk1; clear hkn hk1)
 obtain ⟨v2, w2, hrun2, ho2, hk2⟩ := run_freshB w1 xs ao n cap H1.out.len (H1.out.sl.kept HK1.out (by simp)) H1.out.nil (by omega)
 obtain ⟨wo, wc, rfl, hwc⟩ := own_shape ho2
 rw [H1.out.len] at ho2 hrun2
 go_upto_region 4 with (refine wpList_app_run rfl (.tmp 14) (.tmp 15) 22 22 rfl (.slice (some ⟨w1.heap.size, 0, none⟩) 0 0) (.slice ao n cap) rfl rfl (.slice wo n wc) w2 hrun2 ?_; clear hrun2)
 have hI2 := ho2.in8
 have hrm := roomy_ok wo n wc xs w2 H1.out.len hI2.sl hI2.nil hnm
 have HK2 := hide (HK1.out.trans hk2 (by simp))
 have HO2 := hide ho2
 have HWS := hide HK1.out.size
 clear ho2 hk2 hI2 hwc HK1
 go_upto_region 5 with (go_at_call 7; refine hrm.mono ?_; rintro r w3 ⟨⟨g, gc, rfl, ho3, hgc⟩, hk3⟩; have H3 := hide (And.intro ho3 hk3); clear hrm ho3 hk3)
 obtain ⟨B, hB⟩ : ∃ B, w1.heap.size = B := ⟨_, rfl⟩
 obtain ⟨B2, hB2⟩ : ∃ B2, w2.heap.size = B2 := ⟨_, rfl⟩
 have HGW : Hid (∀ h, wo = some ⟨h, 0, none⟩ → h < B2 ∧ w.heap.size ≤ h) := fun h hh => by
  subst hh
  have h1 := HO2.out.far h rfl
  rw [hB2] at h1
  exact ⟨h1.2, Nat.le_trans HWS.out h1.1⟩
 have HG2 : Hid (B2 ≤ g) := by have h1 := (H3.out.1.far g rfl).1; rw [hB2] at h1; exact h1
 have HIN : Hid (OwnB w3 B (.slice wo n wc) xs ∧ OwnB w3 B2 (.slice (some ⟨g, 0, none⟩) (n + 40) gc) (xs ++ bms) ∧ Kept [] w w3) := ⟨by rw [← hB]; exact HO2.out.kept H3.out.2 (by simp), by rw [← hB2]; exact H3.out.1, HK2.out.trans H3.out.2 (by simp)⟩
 have HB2 : Hid (w.heap.size ≤ B2) := by show _ ≤ _; rw [← hB2]; exact HK2.out.size
 clear H3 HO2 HK2 hB hB2
 go_wp2
 go_loopw [7] (fun x wr => ∃ (i : Nat) (zs : List UInt8), i ≤ 2 ∧ x = .int .i64 i ∧ Hid (OwnB wr B (.slice wo n wc) zs ∧ OwnB wr B2 (.slice (some ⟨g, 0, none⟩) (n + 40) gc) (zs ++ bms) ∧ Kept [] w wr)) (fun x wr => 2 - (intOf x).toNat)
 case atStart => exact ⟨0, xs, by omega, rfl, HIN⟩
 case round =>
  clear HIN H1
  obtain ⟨i, zs, hi, rfl, HP⟩ := hrel
  by_cases hlt : i < 2
  ·obtain ⟨hW, hA, hK⟩ := HP.out
   clear HP
   have hzl := own_len hW
   have hCy := cy_of hA hzl hgc
   obtain ⟨c, hcc⟩ : ∃ c, decC zs = c := ⟨_, rfl⟩
   obtain ⟨sg, hsg⟩ : ∃ sg, decV zs = sg := ⟨_, rfl⟩
   obtain ⟨sn, hsn⟩ : ∃ sn, sg.blocks.length = sn := ⟨_, rfl⟩
   have hS1 := decode_k (some ⟨g, 0, none⟩) n gc zs wr (hCy.in8 hA.cap)
   have HR2 := hide (fun W (hW2 : Kept [] wr W) => rdecode_k wo n wc zs W (hW.in8.kept hW2))
   rw [hcc, hsg] at hS1 HR2
   have HQS := hide hsn
   have HW := hide hW
   have HA := hide hA
   have HKw := hide hK
   have HCY := hide hCy
   have HZL := hide hzl
   clear hcc hsg hsn hW hA hK hCy hzl
   go_upto_region 9 with (first
    | (go_at_call 8; refine hS1.mono ?_; rintro r wa ⟨hta, hka⟩; obtain ⟨so, sc, rfl, hsi, hsb⟩ := TellS.open hta; rw [HQS.out] at hsi ⊢; have Ha := hide (And.intro hka hsi); have hoza := heap_new wa (.cells zeroS 29); have hia := Tryz.infoSigA sg (.slice so sn sc); have hzs : zeroS.size = (sg.cells (.slice so sn sc)).toArray.size := (by rw [sig_size]; exact sig_size _ _); have hal := sig_one sg (.slice so sn sc) rfl; clear hS1 hta hka hsi hsb)
    | refine wpList_store_rowTo rfl 29 (.tmp 8) (.tmp 26) rfl rfl wa.heap.size (sg.cells (.slice so sn sc)).toArray rfl rfl 29 zeroS hoza hia hzs hal ?_)
   have kb : Kept [] wa ((wa.alloc (.cells zeroS 29)).setRow wa.heap.size (sg.cells (.slice so sn sc)).toArray) := ((Kept.refl [] wa).alloc _).trans (kept_row _ wa.heap.size _) (fun i hi hl => by simp only [List.mem_singleton] at hi; omega)
   have hA1 : SigAt ((wa.alloc (.cells zeroS 29)).setRow wa.heap.size (sg.cells (.slice so sn sc)).toArray) wa.heap.size sg (.slice so sn sc) := ⟨setRow_heap _ _ _ _ _ _ hoza⟩
   obtain ⟨O, hO⟩ : ∃ O, wa.heap.size = O := ⟨_, rfl⟩
   rw [hO] at kb hA1 ⊢
   have Kb := hide (Ha.out.1.trans kb (by simp))
   have HIb := hide (Ha.out.2.kept kb)
   clear hO hoza hia hzs hal kb Ha
   generalize (wa.alloc (.cells zeroS 29)).setRow O (sg.cells (.slice so sn sc)).toArray = wb at hA1 Kb HIb ⊢
   have HA1 := hide hA1
   have hS2 := HR2.out wb Kb.out
   clear hA1 HR2
   go_upto_region 10 with (first
    | (go_at_call 9; refine hS2.mono ?_; rintro r wd ⟨htd, hkd⟩; obtain ⟨po, pc, rfl, hpi, hpb⟩ := TellS.open htd; rw [HQS.out] at hpi ⊢; have Hd := hide (And.intro hkd hpi); have hozd := heap_new wd (.cells zeroS 29); have hiad := Tryz.infoSigA sg (.slice po sn pc); have hzsd : zeroS.size = (sg.cells (.slice po sn pc)).toArray.size := (by rw [sig_size]; exact sig_size _ _); have hald := sig_one sg (.slice po sn pc) rfl; clear hS2 htd hkd hpi hpb)
    | refine wpList_store_rowTo rfl 29 (.tmp 10) (.tmp 31) rfl rfl wd.heap.size (sg.cells (.slice po sn pc)).toArray rfl rfl 29 zeroS hozd hiad hzsd hald ?_)
   have ke : Kept [] wd ((wd.alloc (.cells zeroS 29)).setRow wd.heap.size (sg.cells (.slice po sn pc)).toArray) := ((Kept.refl [] wd).alloc _).trans (kept_row _ wd.heap.size _) (fun i hi hl => by simp only [List.mem_singleton] at hi; omega)
   have hA2 : SigAt ((wd.alloc (.cells zeroS 29)).setRow wd.heap.size (sg.cells (.slice po sn pc)).toArray) wd.heap.size sg (.slice po sn pc) := ⟨setRow_heap _ _ _ _ _ _ hozd⟩
   obtain ⟨O2, hO2⟩ : ∃ O2, wd.heap.size = O2 := ⟨_, rfl⟩
   rw [hO2] at ke hA2 ⊢
   have kbe := hide (Hd.out.1.trans ke (by simp))
   have hJ2 := Hd.out.2.kept ke
   clear hO2 hozd hiad hzsd hald ke Hd
   generalize (wd.alloc (.cells zeroS 29)).setRow O2 (sg.cells (.slice po sn pc)).toArray = we at hA2 kbe hJ2 ⊢
   have hal := alike_yes sg so sn sc po pc we (HIb.out.kept kbe.out) hJ2
   have hr1 := (HA1.out.kept kbe.out (by simp)).range
   have hr2 := hA2.range
   have hil := Tryz.infoSig sg (.slice so sn sc)
   have hil2 := Tryz.infoSig sg (.slice po sn pc)
   have Ke := hide (Kb.out.trans kbe.out (by simp))
   have HST := hide (fun W (hW2 : Kept [] we W) => stands_ok g n gc zs wo wc W (HCY.out.kept (Ke.out.trans hW2 (by simp)) (by simp)) (HW.out.in8.sl.kept (Ke.out.trans hW2 (by simp)) (by simp)) hnm)
   clear hA2 hJ2 HA1 HIb Kb kbe
   go_upto_region 12 with (first
    | refine wpList_load_midW 29 (.tmp 8) rfl O 0 rfl (sg.cells (.slice so sn sc)) _ hr1 Tryz.underlying29 rfl hil (by kernel_rfl) ?_
    | refine wpList_load_midW 29 (.tmp 10) rfl O2 0 rfl (sg.cells (.slice po sn pc)) _ hr2 Tryz.underlying29 rfl hil2 (by kernel_rfl) ?_
    | (go_at_call 10; refine hal.mono ?_; rintro r wg ⟨rfl, hkg⟩; have Hg := hide hkg; have hst := HST.out wg hkg; clear hal hkg HST)
    | (go_at_call 11; refine hst.mono ?_; rintro r wh ⟨rfl, hkh⟩; have Hh := hide hkh; clear hst hkh))
   have Kh := hide ((Ke.out.trans Hg.out (by simp)).trans Hh.out (by simp))
   have HKh := hide (HKw.out.trans Kh.out (by simp))
   have HWh := hide (HW.out.kept Kh.out (by simp))
   have HAh := hide (HA.out.kept Kh.out (by simp))
   clear hr1 hr2 hil hil2 Ke Hg Hh Kh HW HA HKw HCY
   by_cases hn0 : n = 0
   ·subst hn0
    have htn := turned18_none (some ⟨g, 0, none⟩) gc wo wc at_ wh
    go_wp2_with (go_at_call 12; refine htn.mono ?_; rintro r wk ⟨rfl, hwk⟩; obtain rfl := hwk.symm; clear htn)
    go_ret
    exact ⟨rfl, HKh.out.below0⟩
   ·obtain ⟨h, wc', e, _, _⟩ := own_head (by have := HWh.out; unfold OwnB at this; exact this) (by rw [HZL.out]; exact hn0)
    injection e with e1 e2 e3
    subst e1
    clear e2 e3
    have hgh : g ≠ h := by have := HGW.out h rfl; have := HG2.out; omega
    have htn := turned18_ok g h n gc wc B2 B at_ zs wh HAh.out HWh.out hgh HZL.out hnm hn0 HAT.out
    go_wp2_with (go_at_call 12; refine htn.mono ?_; rintro r wk ⟨rfl, ⟨ys, hyl, hay, hwy⟩, hkk⟩; have HF : Hid (OwnB wk B (.slice (some ⟨h, 0, none⟩) n wc) ys ∧ OwnB wk B2 (.slice (some ⟨g, 0, none⟩) (n + 40) gc) (ys ++ bms) ∧ Kept [] w wk) := (And.intro hwy (And.intro hay (HKh.out.trans hkk (fun j hj hl => by simp only [List.mem_cons, List.not_mem_nil, or_false] at hj; have := HGW.out h rfl; have := HG2.out; have := HB2.out; omega)))); clear htn hyl hay hwy hkk)
    go_roundw
    case rel => exact ⟨i + 1, ys, by omega, by go_num, HF⟩
    case measure => simp [intOf]; omega
  ·obtain rfl : i = 2 := by omega
   have HKF := hide HP.out.2.2
   clear HP
   go_wp2
   go_ret
   exact ⟨rfl, HKF.out.below0⟩
end Go.Proofs.YtmklodligplbaaaGreat
