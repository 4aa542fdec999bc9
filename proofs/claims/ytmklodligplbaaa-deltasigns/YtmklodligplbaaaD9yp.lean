/-
  The walk of DeltaReturns. (Written by tools/d9y.py.)
-/
import Derived.Test.YtmklodligplbaaaD9vp
import Derived.Test.YtmklodligplbaaaEap
namespace Go.Proofs.Ytmklodligplbaaa
open Go.RowKit
open Dlt
set_option linter.unusedVariables false
set_option linter.unusedSimpArgs false

theorem InB.in8 {w : World} {ao : Option Addr} {n cap : Nat} {xs : List UInt8} (h : InB w ao n cap xs) : InB8 w ao n cap xs := ⟨h.len, h.le, by have := h.le; have := h.max; omega, h.sl, h.nil⟩
/-- A signature that a call told, opened. -/
theorem TellS.open {w w' : World} {e : Ending} {c : Int} {s : Sig} (h : TellS w w' e c s) : ∃ so sc, e = .returned (.tuple #[.agg (s.cells (.slice so s.blocks.length sc)).toArray, .int .i64 c]) ∧ SigIn w' s so s.blocks.length sc ∧ (s.blocks ≠ [] → ∀ a, so = some a → w.heap.size ≤ a.block) := by
  obtain ⟨v, rfl, ho⟩ := h
  obtain ⟨so, sc, rfl, hsc, hwk, hb, hm⟩ := OwnW.wks ho
  refine ⟨so, sc, rfl, ⟨rfl, hsc, hm, hwk⟩, fun _ a ha => ?_⟩
  obtain ⟨g, rfl, hg, _⟩ := hb a ha
  exact hg
theorem SigIn.row {w : World} {s : Sig} {so : Option Addr} {n sc O : Nat} {cs : Array Value} (h : SigIn w s so n sc) (hO : s.blocks ≠ [] → ∀ a, so = some a → a.block ≠ O) : SigIn (w.setRow O cs) s so n sc := ⟨h.len, h.le, h.max, h.at_.kept (kept_row w O cs) (fun hn a ha => by simpa using hO hn a ha)⟩

set_option maxHeartbeats 12800000 in
set_option maxRecDepth 100000 in
theorem returns18_no (width : Int) (ao : Option Addr) (n cap : Nat) (size : Int) (bo : Option Addr) (m bc : Nat) (xs ys : List UInt8) (w : World) (h1 : InB w ao n cap xs) (h2 : InB w bo m bc ys) (hc : signE width n size ≠ 0) :
    Calls Try.prog 5 #[.int .i64 width, .slice ao n cap, .int .i64 size, .slice bo m bc] w fun e w' => e = .returned (.bool true) ∧ Below w.heap.size w w' := by
  have hz := Try.zeroSig
  have hkn := known18_ok w
  have H1 := hide h1
  have H2 := hide h2
  clear h1 h2
  have hS := fun W (hW : Kept [] w W) => sign_ok width ao n cap size xs W H1.out.len H1.out.le (H1.out.sl.kept hW (by simp)) (by have := H1.out.in8.max; omega)
  obtain ⟨c, hcc⟩ : ∃ c, signE width n size = c := ⟨_, rfl⟩
  obtain ⟨sg, hsg⟩ : ∃ sg, signS width xs size = sg := ⟨_, rfl⟩
  obtain ⟨sn, hsn⟩ : ∃ sn, sg.blocks.length = sn := ⟨_, rfl⟩
  have HQS := hide hsn
  rw [hcc] at hc hS
  rw [hsg] at hS
  have hc0 : (c == 0) = false := by simpa using hc
  clear hcc hsg hsn hc
  go_enter Try.func5, Try.ntmps5
  go_upto_region 3 with (go_at_call 6; refine hkn.mono ?_; rintro r w1 ⟨rfl, hk1⟩; have HK1 := hide hk1; have hS1 := hS w1 hk1; clear hkn hk1 hS)
  go_upto_region 4 with (first
    | (go_at_call 8; refine hS1.mono ?_; rintro r wa ⟨hta, hka⟩; obtain ⟨so, sc, rfl, hsi, hsb⟩ := TellS.open hta; rw [HQS.out] at hsi ⊢; have Ha := hide (And.intro hka hsi); have hoza := heap_new wa (.cells zeroS 29); have hia := Try.infoSigA sg (.slice so sn sc); have hzs : zeroS.size = (sg.cells (.slice so sn sc)).toArray.size := (by rw [sig_size]; exact sig_size _ _); have hal := sig_one sg (.slice so sn sc) rfl; clear hS1 hta hka hsi hsb)
    | refine wpList_store_rowTo rfl 29 (.tmp 9) (.tmp 24) rfl rfl wa.heap.size (sg.cells (.slice so sn sc)).toArray rfl rfl 29 zeroS hoza hia hzs hal ?_)
  have kb : Kept [] wa ((wa.alloc (.cells zeroS 29)).setRow wa.heap.size (sg.cells (.slice so sn sc)).toArray) := ((Kept.refl [] wa).alloc _).trans (kept_row _ wa.heap.size _) (fun i hi hl => by simp only [List.mem_singleton] at hi; omega)
  have hA : SigAt ((wa.alloc (.cells zeroS 29)).setRow wa.heap.size (sg.cells (.slice so sn sc)).toArray) wa.heap.size sg (.slice so sn sc) := ⟨setRow_heap _ _ _ _ _ _ hoza⟩
  obtain ⟨O, hO⟩ : ∃ O, wa.heap.size = O := ⟨_, rfl⟩
  have HOW : Hid (w.heap.size ≤ O) := by show _ ≤ _; rw [← hO]; exact Nat.le_trans HK1.out.size Ha.out.1.size
  rw [hO] at kb hA ⊢
  have HKb := hide ((HK1.out.trans Ha.out.1 (by simp)).trans kb (by simp))
  have HIb := hide (Ha.out.2.kept kb)
  clear hO hoza hia hzs hal kb Ha HK1
  generalize (wa.alloc (.cells zeroS 29)).setRow O (sg.cells (.slice so sn sc)).toArray = wb at hA HKb HIb ⊢
  have HAX := hide hA
  have HKX := hide HKb.out
  have HOG : Hid (w.heap.size ≤ O ∧ O < wb.heap.size) := ⟨HOW.out, hA.lt⟩
  clear hA HKb HIb HOW
  have hoz := HAX.out.row
  have hD := decode_ok bo m bc ys wb (H2.out.in8.kept HKX.out)
  have HMX := hide (H2.out.in8.kept HKX.out)
  cases hd : decS ys with
  | none =>
    have hD : Calls Try.prog 18 #[.slice bo m bc] wb fun e w' => TellS wb w' e 180 sig0 ∧ Kept [] wb w' := by rw [hd] at hD; exact hD
    clear hd
    go_upto_region 10 with (first
      | (go_at_call 18; refine hD.mono ?_; rintro r wy ⟨hty, hky⟩; obtain ⟨yo, yc, rfl, hyi, hyb⟩ := TellS.open hty; rw [show sig0.blocks.length = 0 from rfl]; have hozy := (hky.block O HOG.out.2 (by simp)).trans hoz; have hia := Try.infoSigA sig0 (.slice yo 0 yc); have hzs : (sg.cells (.slice so sn sc)).toArray.size = (sig0.cells (.slice yo 0 yc)).toArray.size := (by rw [sig_size, sig_size]); have hal := sig_one sig0 (.slice yo 0 yc) rfl; have Hy := hide hky; clear hD hty hky hyi hyb hoz)
      | refine wpList_store_rowTo rfl 29 (.tmp 9) (.tmp 58) rfl rfl O (sig0.cells (.slice yo 0 yc)).toArray rfl rfl 29 (sg.cells (.slice so sn sc)).toArray hozy hia hzs hal ?_)
    have cv := (show SigAt (wy.setRow O (sig0.cells (.slice yo 0 yc)).toArray) O sig0 (.slice yo 0 yc) from ⟨setRow_heap _ _ _ _ _ _ hozy⟩).cell (Sig.cv _ _)
    have HKF : Hid (Kept [] w (wy.setRow O (sig0.cells (.slice yo 0 yc)).toArray)) := (HKX.out.trans Hy.out (by simp)).trans (kept_row wy O _) (fun i hi hl => by simp only [List.mem_singleton] at hi; have := HOG.out; omega)
    clear hozy hia hzs hal Hy
    generalize wy.setRow O (sig0.cells (.slice yo 0 yc)).toArray = wz at cv HKF ⊢
    go_wp2
    go_ret
    exact ⟨rfl, HKF.out.below0⟩
  | some s2 =>
    obtain ⟨hmay, henc⟩ := decS_some hd
    have hD : Calls Try.prog 18 #[.slice bo m bc] wb fun e w' => TellS wb w' e 0 s2 ∧ Kept [] wb w' := by rw [hd] at hD; exact hD
    have HMAY := hide hmay
    have HENC := hide henc
    clear hd hmay henc
    obtain ⟨q, hq⟩ : ∃ q, s2.blocks.length = q := ⟨_, rfl⟩
    have HQ := hide hq
    clear hq
    go_upto_region 10 with (first
      | (go_at_call 18; refine hD.mono ?_; rintro r wy ⟨hty, hky⟩; obtain ⟨yo, yc, rfl, hyi, hyb⟩ := TellS.open hty; rw [HQ.out] at hyi ⊢; have hozy := (hky.block O HOG.out.2 (by simp)).trans hoz; have hia := Try.infoSigA s2 (.slice yo q yc); have hzs : (sg.cells (.slice so sn sc)).toArray.size = (s2.cells (.slice yo q yc)).toArray.size := (by rw [sig_size, sig_size]); have hal := sig_one s2 (.slice yo q yc) rfl; have Hy := hide (And.intro hky (And.intro hyi hyb)); clear hD hty hky hyi hyb hoz)
      | refine wpList_store_rowTo rfl 29 (.tmp 9) (.tmp 58) rfl rfl O (s2.cells (.slice yo q yc)).toArray rfl rfl 29 (sg.cells (.slice so sn sc)).toArray hozy hia hzs hal ?_)
    have hA9 : SigAt (wy.setRow O (s2.cells (.slice yo q yc)).toArray) O s2 (.slice yo q yc) := ⟨setRow_heap _ _ _ _ _ _ hozy⟩
    have kO := kept_row wy O (s2.cells (.slice yo q yc)).toArray
    have HKF : Hid (Kept [] w (wy.setRow O (s2.cells (.slice yo q yc)).toArray)) := (HKX.out.trans Hy.out.1 (by simp)).trans kO (fun i hi hl => by simp only [List.mem_singleton] at hi; have := HOG.out; omega)
    have hI9 : SigIn (wy.setRow O (s2.cells (.slice yo q yc)).toArray) s2 yo q yc := Hy.out.2.1.row (fun hn a ha => by have := Hy.out.2.2 hn a ha; have := HOG.out; omega)
    clear hozy hia hzs hal Hy kO
    generalize wy.setRow O (s2.cells (.slice yo q yc)).toArray = wz at hA9 HKF hI9 ⊢
    have hE : Calls Try.prog 14 #[.agg (s2.cells (.slice yo q yc)).toArray] wz fun e w' => TellB wz w' e 0 ys ∧ Kept [] wz w' := by
      have h := encode_ok s2 yo q yc wz hI9
      rw [may_iff.2 HMAY.out, encodeS, if_pos (may_iff.2 HMAY.out), ← HENC.out] at h
      exact h
    have hrz := hA9.range
    have hil := Try.infoSig s2 (.slice yo q yc)
    have hyl := H2.out.len
    clear hA9 hI9
    go_upto_region 13 with (first
      | refine wpList_load_mid rfl 29 (.tmp 9) rfl O 0 rfl (s2.cells (.slice yo q yc)) _ hrz Try.underlying29 rfl hil ?_
      | (go_at_call 14; refine hE.mono ?_; rintro r wq ⟨⟨qo, qc, rfl, hoq⟩, hkq⟩; rw [hyl] at hoq ⊢; have Hq := hide (And.intro hoq hkq); clear hE hoq hkq))
    have hsm := same_yes qo bo m qc bc ys wq H2.out.len (by have h1 := H2.out.le; have h2 := H2.out.max; omega) (own_sl9 Hq.out.1) (H2.out.sl.kept (HKF.out.trans Hq.out.2 (by simp)) (by simp))
    clear hrz hil hyl
    go_wp2_with (go_at_call 16; refine hsm.mono ?_; rintro r wf ⟨rfl, nf, hwf⟩; obtain rfl := hwf; clear hsm)
    go_ret
    exact ⟨rfl, ((HKF.out.trans Hq.out.2 (by simp)).drewN nf).below0⟩

set_option maxHeartbeats 12800000 in
set_option maxRecDepth 100000 in
theorem returns18_yes (width : Int) (ao : Option Addr) (n cap : Nat) (size : Int) (bo : Option Addr) (m bc : Nat) (xs ys : List UInt8) (w : World) (h1 : InB w ao n cap xs) (h2 : InB w bo m bc ys) (hc : signE width n size = 0) :
    Calls Try.prog 5 #[.int .i64 width, .slice ao n cap, .int .i64 size, .slice bo m bc] w fun e w' => e = .returned (.bool true) ∧ Below w.heap.size w w' := by
  have hz := Try.zeroSig
  have hkn := known18_ok w
  have H1 := hide h1
  have H2 := hide h2
  clear h1 h2
  have hS := fun W (hW : Kept [] w W) => sign_ok width ao n cap size xs W H1.out.len H1.out.le (H1.out.sl.kept hW (by simp)) (by have := H1.out.in8.max; omega)
  obtain ⟨sg, hsg⟩ : ∃ sg, signS width xs size = sg := ⟨_, rfl⟩
  obtain ⟨sn, hsn⟩ : ∃ sn, sg.blocks.length = sn := ⟨_, rfl⟩
  have HQS := hide hsn
  have HMY : Hid (May sg) := by
    rw [← hsg]
    have hl := H1.out.len
    show May _
    have hz2 : isZ size = true := by
      cases hh : isZ size with
      | true => rfl
      | false => unfold signE at hc; rw [hh, Bool.and_false, if_pos rfl] at hc; exact absurd hc (by decide)
    obtain ⟨Z, hZ⟩ := Int.eq_ofNat_of_zero_le (show 0 ≤ size by have := (Dlt.within_iff.1 (show Dlt.within size 16 4096 = true from hz2)).1; omega)
    subst hZ
    unfold signS
    rw [hl, if_pos hc, Int.toNat_natCast]
    exact sign_may (by rw [hl]; exact hc)
  rw [hc, hsg] at hS
  clear hsg hsn hc
  go_enter Try.func5, Try.ntmps5
  go_upto_region 3 with (go_at_call 6; refine hkn.mono ?_; rintro r w1 ⟨rfl, hk1⟩; have HK1 := hide hk1; have hS1 := hS w1 hk1; clear hkn hk1 hS)
  go_upto_region 4 with (first
    | (go_at_call 8; refine hS1.mono ?_; rintro r wa ⟨hta, hka⟩; obtain ⟨so, sc, rfl, hsi, hsb⟩ := TellS.open hta; rw [HQS.out] at hsi ⊢; have Ha := hide (And.intro hka hsi); have hoza := heap_new wa (.cells zeroS 29); have hia := Try.infoSigA sg (.slice so sn sc); have hzs : zeroS.size = (sg.cells (.slice so sn sc)).toArray.size := (by rw [sig_size]; exact sig_size _ _); have hal := sig_one sg (.slice so sn sc) rfl; clear hS1 hta hka hsi hsb)
    | refine wpList_store_rowTo rfl 29 (.tmp 9) (.tmp 24) rfl rfl wa.heap.size (sg.cells (.slice so sn sc)).toArray rfl rfl 29 zeroS hoza hia hzs hal ?_)
  have kb : Kept [] wa ((wa.alloc (.cells zeroS 29)).setRow wa.heap.size (sg.cells (.slice so sn sc)).toArray) := ((Kept.refl [] wa).alloc _).trans (kept_row _ wa.heap.size _) (fun i hi hl => by simp only [List.mem_singleton] at hi; omega)
  have hA : SigAt ((wa.alloc (.cells zeroS 29)).setRow wa.heap.size (sg.cells (.slice so sn sc)).toArray) wa.heap.size sg (.slice so sn sc) := ⟨setRow_heap _ _ _ _ _ _ hoza⟩
  obtain ⟨O, hO⟩ : ∃ O, wa.heap.size = O := ⟨_, rfl⟩
  have HOW : Hid (w.heap.size ≤ O) := by show _ ≤ _; rw [← hO]; exact Nat.le_trans HK1.out.size Ha.out.1.size
  rw [hO] at kb hA ⊢
  have HKb := hide ((HK1.out.trans Ha.out.1 (by simp)).trans kb (by simp))
  have HIb := hide (Ha.out.2.kept kb)
  clear hO hoza hia hzs hal kb Ha HK1
  generalize (wa.alloc (.cells zeroS 29)).setRow O (sg.cells (.slice so sn sc)).toArray = wb at hA HKb HIb ⊢
  obtain ⟨eb, heb⟩ : ∃ eb, encS sg = eb := ⟨_, rfl⟩
  have heln := encS_len HMY.out
  have hdec := decS_enc HMY.out
  rw [heb] at heln hdec
  obtain ⟨en, hen⟩ : ∃ en, eb.length = en := ⟨_, rfl⟩
  have hen7 : en ≤ 73780 := by rw [← hen]; exact heln
  have HEN := hide hen
  have hE : Calls Try.prog 14 #[.agg (sg.cells (.slice so sn sc)).toArray] wb fun e w' => TellB wb w' e 0 eb ∧ Kept [] wb w' := by
    have h := encode_ok sg so sn sc wb HIb.out
    rw [may_iff.2 HMY.out, encodeS, if_pos (may_iff.2 HMY.out), heb] at h
    exact h
  have HDEC := hide hdec
  clear heb heln hdec hen
  have hrz := hA.range
  have hil := Try.infoSig sg (.slice so sn sc)
  have HAb := hide hA
  clear hA
  go_upto_region 6 with (first
    | refine wpList_load_mid rfl 29 (.tmp 9) rfl O 0 rfl (sg.cells (.slice so sn sc)) _ hrz Try.underlying29 rfl hil ?_
    | (go_at_call 14; refine hE.mono ?_; rintro r wc ⟨⟨eo, ec, rfl, hoe⟩, hkc⟩; rw [HEN.out] at hoe ⊢; have Hc := hide (And.intro hoe hkc); clear hE hoe hkc))
  have hD1 : Calls Try.prog 18 #[.slice eo en ec] wc fun e w' => TellS wc w' e 0 sg ∧ Kept [] wc w' := by
    have h := decode_ok eo en ec eb wc (own_in8 Hc.out.1)
    rw [HDEC.out] at h
    exact h
  clear hrz
  go_upto_region 7 with (first
    | (go_at_call 18; refine hD1.mono ?_; rintro r wd ⟨htd, hkd⟩; obtain ⟨po, pc, rfl, hpi, hpb⟩ := TellS.open htd; rw [HQS.out] at hpi ⊢; have Hd := hide (And.intro hkd hpi); have hozd := heap_new wd (.cells zeroS 29); have hiad := Try.infoSigA sg (.slice po sn pc); have hzsd : zeroS.size = (sg.cells (.slice po sn pc)).toArray.size := (by rw [sig_size]; exact sig_size _ _); have hald := sig_one sg (.slice po sn pc) rfl; clear hD1 htd hkd hpi hpb)
    | refine wpList_store_rowTo rfl 29 (.tmp 13) (.tmp 36) rfl rfl wd.heap.size (sg.cells (.slice po sn pc)).toArray rfl rfl 29 zeroS hozd hiad hzsd hald ?_)
  have ke : Kept [] wd ((wd.alloc (.cells zeroS 29)).setRow wd.heap.size (sg.cells (.slice po sn pc)).toArray) := ((Kept.refl [] wd).alloc _).trans (kept_row _ wd.heap.size _) (fun i hi hl => by simp only [List.mem_singleton] at hi; omega)
  have hA2 : SigAt ((wd.alloc (.cells zeroS 29)).setRow wd.heap.size (sg.cells (.slice po sn pc)).toArray) wd.heap.size sg (.slice po sn pc) := ⟨setRow_heap _ _ _ _ _ _ hozd⟩
  obtain ⟨O2, hO2⟩ : ∃ O2, wd.heap.size = O2 := ⟨_, rfl⟩
  rw [hO2] at ke hA2 ⊢
  have kbe := hide ((Hc.out.2.trans Hd.out.1 (by simp)).trans ke (by simp))
  have hJ2 := Hd.out.2.kept ke
  clear hO2 hozd hiad hzsd hald ke Hd Hc
  generalize (wd.alloc (.cells zeroS 29)).setRow O2 (sg.cells (.slice po sn pc)).toArray = we at hA2 kbe hJ2 ⊢
  have HAe := hide (HAb.out.kept kbe.out (by simp))
  have hal := alike_yes sg po sn pc so sc we hJ2 (HIb.out.kept kbe.out)
  have hr1 := HAe.out.range
  have hr2 := hA2.range
  have hil2 := Try.infoSig sg (.slice po sn pc)
  have hOl := HAe.out.lt
  have HKe := hide (HKb.out.trans kbe.out (by simp))
  clear hA2 hJ2 HAb HIb HKb kbe
  go_upto_region 9 with (first
    | refine wpList_load_midW 29 (.tmp 13) rfl O2 0 rfl (sg.cells (.slice po sn pc)) _ hr2 Try.underlying29 rfl hil2 (by kernel_rfl) ?_
    | refine wpList_load_midW 29 (.tmp 9) rfl O 0 rfl (sg.cells (.slice so sn sc)) _ hr1 Try.underlying29 rfl hil (by kernel_rfl) ?_
    | (go_at_call 10; refine hal.mono ?_; rintro r wg ⟨rfl, hkg⟩; have Hg := hide hkg; clear hal hkg))
  have HAX := hide (HAe.out.kept Hg.out (by simp))
  have HKX := hide (HKe.out.trans Hg.out (by simp))
  have HOG : Hid (w.heap.size ≤ O ∧ O < wg.heap.size) := ⟨HOW.out, Nat.lt_of_lt_of_le hOl Hg.out.size⟩
  clear HAe HKe Hg hr1 hr2 hil hil2 hOl HOW HMY HDEC HEN hen7
  have hoz := HAX.out.row
  have hD := decode_ok bo m bc ys wg (H2.out.in8.kept HKX.out)
  have HMX := hide (H2.out.in8.kept HKX.out)
  cases hd : decS ys with
  | none =>
    have hD : Calls Try.prog 18 #[.slice bo m bc] wg fun e w' => TellS wg w' e 180 sig0 ∧ Kept [] wg w' := by rw [hd] at hD; exact hD
    clear hd
    go_upto_region 10 with (first
      | (go_at_call 18; refine hD.mono ?_; rintro r wy ⟨hty, hky⟩; obtain ⟨yo, yc, rfl, hyi, hyb⟩ := TellS.open hty; rw [show sig0.blocks.length = 0 from rfl]; have hozy := (hky.block O HOG.out.2 (by simp)).trans hoz; have hia := Try.infoSigA sig0 (.slice yo 0 yc); have hzs : (sg.cells (.slice so sn sc)).toArray.size = (sig0.cells (.slice yo 0 yc)).toArray.size := (by rw [sig_size, sig_size]); have hal := sig_one sig0 (.slice yo 0 yc) rfl; have Hy := hide hky; clear hD hty hky hyi hyb hoz)
      | refine wpList_store_rowTo rfl 29 (.tmp 9) (.tmp 58) rfl rfl O (sig0.cells (.slice yo 0 yc)).toArray rfl rfl 29 (sg.cells (.slice so sn sc)).toArray hozy hia hzs hal ?_)
    have cv := (show SigAt (wy.setRow O (sig0.cells (.slice yo 0 yc)).toArray) O sig0 (.slice yo 0 yc) from ⟨setRow_heap _ _ _ _ _ _ hozy⟩).cell (Sig.cv _ _)
    have HKF : Hid (Kept [] w (wy.setRow O (sig0.cells (.slice yo 0 yc)).toArray)) := (HKX.out.trans Hy.out (by simp)).trans (kept_row wy O _) (fun i hi hl => by simp only [List.mem_singleton] at hi; have := HOG.out; omega)
    clear hozy hia hzs hal Hy
    generalize wy.setRow O (sig0.cells (.slice yo 0 yc)).toArray = wz at cv HKF ⊢
    go_wp2
    go_ret
    exact ⟨rfl, HKF.out.below0⟩
  | some s2 =>
    obtain ⟨hmay, henc⟩ := decS_some hd
    have hD : Calls Try.prog 18 #[.slice bo m bc] wg fun e w' => TellS wg w' e 0 s2 ∧ Kept [] wg w' := by rw [hd] at hD; exact hD
    have HMAY := hide hmay
    have HENC := hide henc
    clear hd hmay henc
    obtain ⟨q, hq⟩ : ∃ q, s2.blocks.length = q := ⟨_, rfl⟩
    have HQ := hide hq
    clear hq
    go_upto_region 10 with (first
      | (go_at_call 18; refine hD.mono ?_; rintro r wy ⟨hty, hky⟩; obtain ⟨yo, yc, rfl, hyi, hyb⟩ := TellS.open hty; rw [HQ.out] at hyi ⊢; have hozy := (hky.block O HOG.out.2 (by simp)).trans hoz; have hia := Try.infoSigA s2 (.slice yo q yc); have hzs : (sg.cells (.slice so sn sc)).toArray.size = (s2.cells (.slice yo q yc)).toArray.size := (by rw [sig_size, sig_size]); have hal := sig_one s2 (.slice yo q yc) rfl; have Hy := hide (And.intro hky (And.intro hyi hyb)); clear hD hty hky hyi hyb hoz)
      | refine wpList_store_rowTo rfl 29 (.tmp 9) (.tmp 58) rfl rfl O (s2.cells (.slice yo q yc)).toArray rfl rfl 29 (sg.cells (.slice so sn sc)).toArray hozy hia hzs hal ?_)
    have hA9 : SigAt (wy.setRow O (s2.cells (.slice yo q yc)).toArray) O s2 (.slice yo q yc) := ⟨setRow_heap _ _ _ _ _ _ hozy⟩
    have kO := kept_row wy O (s2.cells (.slice yo q yc)).toArray
    have HKF : Hid (Kept [] w (wy.setRow O (s2.cells (.slice yo q yc)).toArray)) := (HKX.out.trans Hy.out.1 (by simp)).trans kO (fun i hi hl => by simp only [List.mem_singleton] at hi; have := HOG.out; omega)
    have hI9 : SigIn (wy.setRow O (s2.cells (.slice yo q yc)).toArray) s2 yo q yc := Hy.out.2.1.row (fun hn a ha => by have := Hy.out.2.2 hn a ha; have := HOG.out; omega)
    clear hozy hia hzs hal Hy kO
    generalize wy.setRow O (s2.cells (.slice yo q yc)).toArray = wz at hA9 HKF hI9 ⊢
    have hE : Calls Try.prog 14 #[.agg (s2.cells (.slice yo q yc)).toArray] wz fun e w' => TellB wz w' e 0 ys ∧ Kept [] wz w' := by
      have h := encode_ok s2 yo q yc wz hI9
      rw [may_iff.2 HMAY.out, encodeS, if_pos (may_iff.2 HMAY.out), ← HENC.out] at h
      exact h
    have hrz := hA9.range
    have hil := Try.infoSig s2 (.slice yo q yc)
    have hyl := H2.out.len
    clear hA9 hI9
    go_upto_region 13 with (first
      | refine wpList_load_mid rfl 29 (.tmp 9) rfl O 0 rfl (s2.cells (.slice yo q yc)) _ hrz Try.underlying29 rfl hil ?_
      | (go_at_call 14; refine hE.mono ?_; rintro r wq ⟨⟨qo, qc, rfl, hoq⟩, hkq⟩; rw [hyl] at hoq ⊢; have Hq := hide (And.intro hoq hkq); clear hE hoq hkq))
    have hsm := same_yes qo bo m qc bc ys wq H2.out.len (by have h1 := H2.out.le; have h2 := H2.out.max; omega) (own_sl9 Hq.out.1) (H2.out.sl.kept (HKF.out.trans Hq.out.2 (by simp)) (by simp))
    clear hrz hil hyl
    go_wp2_with (go_at_call 16; refine hsm.mono ?_; rintro r wf ⟨rfl, nf, hwf⟩; obtain rfl := hwf; clear hsm)
    go_ret
    exact ⟨rfl, ((HKF.out.trans Hq.out.2 (by simp)).drewN nf).below0⟩

theorem returns18_walk (width : Int) (ao : Option Addr) (n cap : Nat) (size : Int) (bo : Option Addr) (m bc : Nat) (xs ys : List UInt8) (w : World) (h1 : InB w ao n cap xs) (h2 : InB w bo m bc ys) (_ : (Lit.int .i64 width).wf = true) (_ : (Lit.int .i64 size).wf = true) :
    Calls Try.prog 5 #[.int .i64 width, .slice ao n cap, .int .i64 size, .slice bo m bc] w fun e w' => e = .returned (.bool true) ∧ Below w.heap.size w w' := by
  by_cases hc : signE width n size = 0
  · exact returns18_yes width ao n cap size bo m bc xs ys w h1 h2 hc
  · exact returns18_no width ao n cap size bo m bc xs ys w h1 h2 hc

end Go.Proofs.Ytmklodligplbaaa
