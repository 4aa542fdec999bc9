/-
  The walk of DeltaThere. (Written by tools/l18q.py.)
-/
import Derived.Test.YtmklodligplbaabEap
namespace Go.Proofs.Ytmklodligplbaab
open Go.RowKit
open Dlt
set_option linter.unusedVariables false
set_option linter.unusedSimpArgs false

set_option maxHeartbeats 12800000 in
set_option maxRecDepth 100000 in
theorem there18_no (width : Int) (ao : Option Addr) (n cap : Nat) (size : Int) (bo : Option Addr) (m bc : Nat) (xs ys : List UInt8) (w : World) (h1 : InB w ao n cap xs) (h2 : InB w bo m bc ys) (hc : signE width n size ≠ 0) :
    Calls Try.prog 3 #[.int .i64 width, .slice ao n cap, .int .i64 size, .slice bo m bc] w fun e w' => e = .returned (.bool true) ∧ Below w.heap.size w w' := by
  have hz := Try.zeroSig
  have hkn := known18_ok w
  have H1 := hide h1
  have H2 := hide h2
  clear h1 h2
  have hS := fun W (hW : Kept [] w W) => sign_ok width ao n cap size xs W H1.out.len H1.out.le (H1.out.sl.kept hW (by simp)) (by have := H1.out.in8.max; omega)
  obtain ⟨c, hcc⟩ : ∃ c, signE width n size = c := ⟨_, rfl⟩
  obtain ⟨sg, hsg⟩ : ∃ sg, signS width xs size = sg := ⟨_, rfl⟩
  obtain ⟨sn, hsn⟩ : ∃ sn, sg.blocks.length = sn := ⟨_, rfl⟩
  have HQS := hide hsn
  rw [hcc] at hc hS
  rw [hsg] at hS
  have hc0 : (c == 0) = false := by simpa using hc
  clear hcc hsg hsn hc
  go_enter Try.func3, Try.ntmps3
  go_upto_region 3 with (go_at_call 5; refine hkn.mono ?_; rintro r w1 ⟨rfl, hk1⟩; have HK1 := hide hk1; have hS1 := hS w1 hk1; clear hkn hk1 hS)
  go_upto_region 4 with (first
    | (go_at_call 6; refine hS1.mono ?_; rintro r wa ⟨hta, hka⟩; obtain ⟨so, sc, rfl, hsi, hsb⟩ := TellS.open hta; rw [HQS.out] at hsi ⊢; have Ha := hide (And.intro hka hsi); have hoza := heap_new wa (.cells zeroS 28); have hia := Try.infoSigA sg (.slice so sn sc); have hzs : zeroS.size = (sg.cells (.slice so sn sc)).toArray.size := (by rw [sig_size]; exact sig_size _ _); have hal := sig_one sg (.slice so sn sc) rfl; clear hS1 hta hka hsi hsb)
    | refine wpList_store_rowTo rfl 28 (.tmp 9) (.tmp 20) rfl rfl wa.heap.size (sg.cells (.slice so sn sc)).toArray rfl rfl 28 zeroS hoza hia hzs hal ?_)
  have kb : Kept [] wa ((wa.alloc (.cells zeroS 28)).setRow wa.heap.size (sg.cells (.slice so sn sc)).toArray) := ((Kept.refl [] wa).alloc _).trans (kept_row _ wa.heap.size _) (fun i hi hl => by simp only [List.mem_singleton] at hi; omega)
  have hA : SigAt ((wa.alloc (.cells zeroS 28)).setRow wa.heap.size (sg.cells (.slice so sn sc)).toArray) wa.heap.size sg (.slice so sn sc) := ⟨setRow_heap _ _ _ _ _ _ hoza⟩
  obtain ⟨O, hO⟩ : ∃ O, wa.heap.size = O := ⟨_, rfl⟩
  rw [hO] at kb hA ⊢
  have HKb := hide ((HK1.out.trans Ha.out.1 (by simp)).trans kb (by simp))
  have HIb := hide (Ha.out.2.kept kb)
  clear hO hoza hia hzs hal kb Ha HK1
  generalize (wa.alloc (.cells zeroS 28)).setRow O (sg.cells (.slice so sn sc)).toArray = wb at hA HKb HIb ⊢
  have HKF := hide HKb.out
  clear hA HKb HIb
  go_wp2
  go_ret
  exact ⟨rfl, HKF.out.below0⟩

set_option maxHeartbeats 12800000 in
set_option maxRecDepth 100000 in
theorem there18_bad (width : Int) (ao : Option Addr) (n cap Z : Nat) (bo : Option Addr) (m bc : Nat) (xs ys : List UInt8) (w : World) (h1 : InB w ao n cap xs) (h2 : InB w bo m bc ys) (hc : signE width n (Z : Int) = 0) (hm : makeE (sign width xs Z) ys ≠ 0) :
    Calls Try.prog 3 #[.int .i64 width, .slice ao n cap, .int .i64 Z, .slice bo m bc] w fun e w' => e = .returned (.bool true) ∧ Below w.heap.size w w' := by
  have hz := Try.zeroSig
  have hkn := known18_ok w
  have H1 := hide h1
  have H2 := hide h2
  clear h1 h2
  have hS := fun W (hW : Kept [] w W) => sign_ok width ao n cap (Z : Int) xs W H1.out.len H1.out.le (H1.out.sl.kept hW (by simp)) (by have := H1.out.in8.max; omega)
  have e2 : signS width xs (Z : Int) = sign width xs Z := by unfold signS; rw [H1.out.len, hc, if_pos rfl, Int.toNat_natCast]
  rw [hc, e2] at hS
  clear e2
  obtain ⟨sg, hsg⟩ : ∃ sg, sign width xs Z = sg := ⟨_, rfl⟩
  obtain ⟨sn, hsn⟩ : ∃ sn, sg.blocks.length = sn := ⟨_, rfl⟩
  have HQS := hide hsn
  rw [hsg] at hS
  rw [hsg] at hm
  clear hsg hsn hc
  go_enter Try.func3, Try.ntmps3
  go_upto_region 3 with (go_at_call 5; refine hkn.mono ?_; rintro r w1 ⟨rfl, hk1⟩; have HK1 := hide hk1; have hS1 := hS w1 hk1; clear hkn hk1 hS)
  go_upto_region 4 with (first
    | (go_at_call 6; refine hS1.mono ?_; rintro r wa ⟨hta, hka⟩; obtain ⟨so, sc, rfl, hsi, hsb⟩ := TellS.open hta; rw [HQS.out] at hsi ⊢; have Ha := hide (And.intro hka hsi); have hoza := heap_new wa (.cells zeroS 28); have hia := Try.infoSigA sg (.slice so sn sc); have hzs : zeroS.size = (sg.cells (.slice so sn sc)).toArray.size := (by rw [sig_size]; exact sig_size _ _); have hal := sig_one sg (.slice so sn sc) rfl; clear hS1 hta hka hsi hsb)
    | refine wpList_store_rowTo rfl 28 (.tmp 9) (.tmp 20) rfl rfl wa.heap.size (sg.cells (.slice so sn sc)).toArray rfl rfl 28 zeroS hoza hia hzs hal ?_)
  have kb : Kept [] wa ((wa.alloc (.cells zeroS 28)).setRow wa.heap.size (sg.cells (.slice so sn sc)).toArray) := ((Kept.refl [] wa).alloc _).trans (kept_row _ wa.heap.size _) (fun i hi hl => by simp only [List.mem_singleton] at hi; omega)
  have hA : SigAt ((wa.alloc (.cells zeroS 28)).setRow wa.heap.size (sg.cells (.slice so sn sc)).toArray) wa.heap.size sg (.slice so sn sc) := ⟨setRow_heap _ _ _ _ _ _ hoza⟩
  obtain ⟨O, hO⟩ : ∃ O, wa.heap.size = O := ⟨_, rfl⟩
  rw [hO] at kb hA ⊢
  have HKb := hide ((HK1.out.trans Ha.out.1 (by simp)).trans kb (by simp))
  have HIb := hide (Ha.out.2.kept kb)
  clear hO hoza hia hzs hal kb Ha HK1
  generalize (wa.alloc (.cells zeroS 28)).setRow O (sg.cells (.slice so sn sc)).toArray = wb at hA HKb HIb ⊢
  have hM := make_ok sg so sn sc bo m bc ys wb HIb.out H2.out.len H2.out.le (H2.out.sl.kept HKb.out (by simp)) (by have := H2.out.in8.max; have := H2.out.le; have := H2.out.max; omega)
  obtain ⟨mb, hmb⟩ : ∃ mb, makeB sg ys = mb := ⟨_, rfl⟩
  obtain ⟨dn, hdn⟩ : ∃ dn, mb.length = dn := ⟨_, rfl⟩
  rw [hmb] at hM
  obtain ⟨c2, hc2⟩ : ∃ c2, makeE sg ys = c2 := ⟨_, rfl⟩
  have HDN0 : Hid (dn = 0) := by show _ = _; rw [← hdn, ← hmb]; unfold makeB; rw [if_neg hm]; rfl
  rw [hc2] at hM hm
  have hc20 : (c2 == 0) = false := by simpa using hm
  clear hc2 hm hmb
  have HDN := hide hdn
  have hrz := hA.range
  have hil := Try.infoSig sg (.slice so sn sc)
  clear hA hdn
  go_upto_region 7 with (first
    | refine wpList_load_mid rfl 28 (.tmp 9) rfl O 0 rfl (sg.cells (.slice so sn sc)) _ hrz Try.underlying28 rfl hil ?_
    | (go_at_call 7; refine hM.mono ?_; rintro r wc ⟨⟨dO, dc, rfl, hod⟩, hkc⟩; rw [HDN.out]; have Hc := hide hkc; clear hM hod hkc))
  obtain rfl := HDN0.out
  clear hrz hil HDN0
  go_wp2
  go_ret
  exact ⟨rfl, (HKb.out.trans Hc.out (by simp)).below0⟩

set_option maxHeartbeats 12800000 in
set_option maxRecDepth 100000 in
theorem there18_ok (width : Int) (ao : Option Addr) (n cap Z : Nat) (bo : Option Addr) (m bc : Nat) (xs ys : List UInt8) (w : World) (h1 : InB w ao n cap xs) (h2 : InB w bo m bc ys) (hc : signE width n (Z : Int) = 0) (hm : makeE (sign width xs Z) ys = 0) :
    Calls Try.prog 3 #[.int .i64 width, .slice ao n cap, .int .i64 Z, .slice bo m bc] w fun e w' => e = .returned (.bool true) ∧ Below w.heap.size w w' := by
  have hz := Try.zeroSig
  have hkn := known18_ok w
  have H1 := hide h1
  have H2 := hide h2
  clear h1 h2
  have hS := fun W (hW : Kept [] w W) => sign_ok width ao n cap (Z : Int) xs W H1.out.len H1.out.le (H1.out.sl.kept hW (by simp)) (by have := H1.out.in8.max; omega)
  have e2 : signS width xs (Z : Int) = sign width xs Z := by unfold signS; rw [H1.out.len, hc, if_pos rfl, Int.toNat_natCast]
  rw [hc, e2] at hS
  clear e2
  have hs0 : signE width xs.length (Z : Int) = 0 := by rw [H1.out.len]; exact hc
  have HT := hide (there_ok hs0 hm)
  have HZ : Hid (16 ≤ Z ∧ Z ≤ 4096 ∧ n ≤ 131072 ∧ m ≤ 131072) := by
    have hM := sign_may hs0
    have a1 := hM.z1
    have a2 := hM.z2
    have a3 := hM.l2
    have e1 : (sign width xs Z).size = (Z : Nat) := rfl
    have e2 : (sign width xs Z).length = (xs.length : Nat) := rfl
    have e3 := H1.out.len
    have e4 := H2.out.len
    have a4 : ¬ 131072 < ys.length := fun hh => by
      unfold makeE at hm
      rw [may_iff.2 hM, if_neg (by simp), if_pos hh] at hm
      exact absurd hm (by decide)
    exact ⟨by omega, by omega, by omega, by omega⟩
  obtain ⟨sg, hsg⟩ : ∃ sg, sign width xs Z = sg := ⟨_, rfl⟩
  obtain ⟨sn, hsn⟩ : ∃ sn, sg.blocks.length = sn := ⟨_, rfl⟩
  have HQS := hide hsn
  rw [hsg] at hS
  rw [hsg] at hm HT
  clear hsg hsn hc
  go_enter Try.func3, Try.ntmps3
  go_upto_region 3 with (go_at_call 5; refine hkn.mono ?_; rintro r w1 ⟨rfl, hk1⟩; have HK1 := hide hk1; have hS1 := hS w1 hk1; clear hkn hk1 hS)
  go_upto_region 4 with (first
    | (go_at_call 6; refine hS1.mono ?_; rintro r wa ⟨hta, hka⟩; obtain ⟨so, sc, rfl, hsi, hsb⟩ := TellS.open hta; rw [HQS.out] at hsi ⊢; have Ha := hide (And.intro hka hsi); have hoza := heap_new wa (.cells zeroS 28); have hia := Try.infoSigA sg (.slice so sn sc); have hzs : zeroS.size = (sg.cells (.slice so sn sc)).toArray.size := (by rw [sig_size]; exact sig_size _ _); have hal := sig_one sg (.slice so sn sc) rfl; clear hS1 hta hka hsi hsb)
    | refine wpList_store_rowTo rfl 28 (.tmp 9) (.tmp 20) rfl rfl wa.heap.size (sg.cells (.slice so sn sc)).toArray rfl rfl 28 zeroS hoza hia hzs hal ?_)
  have kb : Kept [] wa ((wa.alloc (.cells zeroS 28)).setRow wa.heap.size (sg.cells (.slice so sn sc)).toArray) := ((Kept.refl [] wa).alloc _).trans (kept_row _ wa.heap.size _) (fun i hi hl => by simp only [List.mem_singleton] at hi; omega)
  have hA : SigAt ((wa.alloc (.cells zeroS 28)).setRow wa.heap.size (sg.cells (.slice so sn sc)).toArray) wa.heap.size sg (.slice so sn sc) := ⟨setRow_heap _ _ _ _ _ _ hoza⟩
  obtain ⟨O, hO⟩ : ∃ O, wa.heap.size = O := ⟨_, rfl⟩
  rw [hO] at kb hA ⊢
  have HKb := hide ((HK1.out.trans Ha.out.1 (by simp)).trans kb (by simp))
  have HIb := hide (Ha.out.2.kept kb)
  clear hO hoza hia hzs hal kb Ha HK1
  generalize (wa.alloc (.cells zeroS 28)).setRow O (sg.cells (.slice so sn sc)).toArray = wb at hA HKb HIb ⊢
  have hM := make_ok sg so sn sc bo m bc ys wb HIb.out H2.out.len H2.out.le (H2.out.sl.kept HKb.out (by simp)) (by have := H2.out.in8.max; have := H2.out.le; have := H2.out.max; omega)
  obtain ⟨mb, hmb⟩ : ∃ mb, makeB sg ys = mb := ⟨_, rfl⟩
  obtain ⟨dn, hdn⟩ : ∃ dn, mb.length = dn := ⟨_, rfl⟩
  rw [hmb] at hM
  rw [hm] at hM
  rw [hmb] at HT
  clear hm hmb
  have HDN := hide hdn
  have hrz := hA.range
  have hil := Try.infoSig sg (.slice so sn sc)
  clear hA hdn
  go_upto_region 7 with (first
    | refine wpList_load_mid rfl 28 (.tmp 9) rfl O 0 rfl (sg.cells (.slice so sn sc)) _ hrz Try.underlying28 rfl hil ?_
    | (go_at_call 7; refine hM.mono ?_; rintro r wc ⟨⟨dO, dc, rfl, hod⟩, hkc⟩; rw [HDN.out] at hod ⊢; have Hc := hide (And.intro hod hkc); clear hM hod hkc))
  clear hrz hil
  have HKc := hide (HKb.out.trans Hc.out.2 (by simp))
  have hP := apply_ok ao n cap xs dO dn dc mb wc (H1.out.in8.kept HKc.out) (own_in8 Hc.out.1)
  obtain ⟨gt, hgt⟩ : ∃ gt, applyB xs mb = gt := ⟨_, rfl⟩
  obtain ⟨gn, hgn⟩ : ∃ gn, gt.length = gn := ⟨_, rfl⟩
  rw [hgt] at hP HT
  have HGN := hide hgn
  clear hgt hgn HIb
  rcases HT.out with ⟨he, hor⟩ | ⟨he, hnil, hnc⟩
  · rw [he] at hP
    clear he HT
    go_upto_region 11 with (go_at_call 8; refine hP.mono ?_; rintro r wp ⟨⟨gO, gc, rfl, hog⟩, hkp⟩; rw [HGN.out] at hog ⊢; have Hp := hide (And.intro hog hkp); clear hP hog hkp)
    have HKp := hide (HKc.out.trans Hp.out.2 (by simp))
    have HGI := hide (own_in8 Hp.out.1)
    have hgm : gn ≤ 4611686018427387904 := by
      have h3 := H2.out.le
      have h4 := H2.out.max
      have h5 := H2.out.len
      have h6 := HGN.out
      rcases hor with h' | h'
      · rw [h'] at h6; omega
      · have := h'.1; omega
    have hsa := same_any gO bo gn gc m bc gt ys wp HGN.out H2.out.len hgm HGI.out.sl (H2.out.sl.kept HKp.out (by simp))
    by_cases hsame : gt = ys
    · rw [decide_eq_true hsame] at hsa
      clear hor hsame
      go_wp2_with (go_at_call 9; refine hsa.mono ?_; rintro r wf ⟨rfl, nf, hwf⟩; obtain rfl := hwf; clear hsa)
      go_ret
      exact ⟨rfl, (HKp.out.drewN nf).below0⟩
    · rw [decide_eq_false hsame] at hsa
      rcases hor with hor | ⟨hl, hid, hnc⟩
      · exact absurd hor hsame
      · obtain rfl : gn = m := by rw [← HGN.out, hl, H2.out.len]
        have HO1 := hide (fun W (h : Kept [] wp W) => rof_ok width gO gn gc gt W HGN.out (by have := H2.out.le; have := H2.out.max; omega) (HGI.out.sl.kept h (by simp)) HGI.out.nil)
        have HO2 := hide (fun W (h : Kept [] w W) => rof_ok width bo gn bc ys W H2.out.len (by have := H2.out.le; have := H2.out.max; omega) (H2.out.sl.kept h (by simp)) H2.out.nil)
        have HCL := hide (fun W (h : Kept [] w W) => clash_ok width Z ao n cap xs bo gn bc ys W (H1.out.in8.kept h) (H2.out.in8.kept h) HZ.out.1 HZ.out.2.1 HZ.out.2.2.1 HZ.out.2.2.2 hnc)
        have heqi : ∀ W, (Op.equalIn 10000 25 (.agg (bys (Sha.ident width gt)).toArray) (.agg (bys (Sha.ident width ys)).toArray)).run Try.prog W = .ok true W := fun W => by rw [Try.eqlID _ _ (Sha.ident_len _ _) (Sha.ident_len _ _) W, hid, decide_eq_true rfl]
        clear hsame hl hid hnc
        generalize Sha.ident width gt = I1 at heqi HO1
        generalize Sha.ident width ys = I2 at heqi HO2
        go_wp2_with (first
          | (go_at_call 9; refine hsa.mono ?_; rintro r wf ⟨rfl, nf, hwf⟩; have HKf : Hid (Kept [] wp wf) := (by show Kept _ _ _; rw [hwf]; exact (Kept.refl _ _).drewN nf); have ho1 := HO1.out wf HKf.out; clear hsa hwf HO1)
          | (go_at_call 10; refine ho1.mono ?_; rintro r wz ⟨rfl, hkz⟩; have HKZ := hide ((HKp.out.trans HKf.out (by simp)).trans hkz (by simp)); have ho2 := HO2.out wz HKZ.out; clear ho1 hkz HO2)
          | (go_at_call 10; refine ho2.mono ?_; rintro r wv ⟨rfl, hkv⟩; have HKV := hide (HKZ.out.trans hkv (by simp)); have hcl := HCL.out wv HKV.out; clear ho2 hkv HCL)
          | (go_at_call 11; refine hcl.mono ?_; rintro r wu ⟨rfl, hku⟩; have HKU := hide (HKV.out.trans hku (by simp)); clear hcl hku))
        go_ret
        exact ⟨rfl, HKU.out.below0⟩
  · rw [he] at hP
    obtain rfl : gn = 0 := by rw [← HGN.out, hnil]; rfl
    clear he HT
    have HCL := hide (fun W (h : Kept [] w W) => clash_ok width Z ao n cap xs bo m bc ys W (H1.out.in8.kept h) (H2.out.in8.kept h) HZ.out.1 HZ.out.2.1 HZ.out.2.2.1 HZ.out.2.2.2 hnc)
    clear hnil hnc
    go_wp2_with (first
      | (go_at_call 8; refine hP.mono ?_; rintro r wp ⟨⟨gO, gc, rfl, hog⟩, hkp⟩; rw [HGN.out] at hog ⊢; have Hp := hide hkp; have hcl := HCL.out wp (HKc.out.trans hkp (by simp)); clear hP hog hkp HCL)
      | (go_at_call 11; refine hcl.mono ?_; rintro r wu ⟨rfl, hku⟩; have HKU := hide ((HKc.out.trans Hp.out (by simp)).trans hku (by simp)); clear hcl hku))
    go_ret
    exact ⟨rfl, HKU.out.below0⟩

theorem there18_walk (width : Int) (ao : Option Addr) (n cap : Nat) (size : Int) (bo : Option Addr) (m bc : Nat) (xs ys : List UInt8) (w : World) (h1 : InB w ao n cap xs) (h2 : InB w bo m bc ys) (_ : (Lit.int .i64 width).wf = true) (_ : (Lit.int .i64 size).wf = true) :
    Calls Try.prog 3 #[.int .i64 width, .slice ao n cap, .int .i64 size, .slice bo m bc] w fun e w' => e = .returned (.bool true) ∧ Below w.heap.size w w' := by
  by_cases hc : signE width n size = 0
  · have hz2 : isZ size = true := by
      cases hh : isZ size with
      | true => rfl
      | false => unfold signE at hc; rw [hh, Bool.and_false, if_pos rfl] at hc; exact absurd hc (by decide)
    obtain ⟨Z, hZ⟩ := Int.eq_ofNat_of_zero_le (show 0 ≤ size by have := (Dlt.within_iff.1 (show Dlt.within size 16 4096 = true from hz2)).1; omega)
    subst hZ
    by_cases hm : makeE (sign width xs Z) ys = 0
    · exact there18_ok width ao n cap Z bo m bc xs ys w h1 h2 hc hm
    · exact there18_bad width ao n cap Z bo m bc xs ys w h1 h2 hc hm
  · exact there18_no width ao n cap size bo m bc xs ys w h1 h2 hc

end Go.Proofs.Ytmklodligplbaab
