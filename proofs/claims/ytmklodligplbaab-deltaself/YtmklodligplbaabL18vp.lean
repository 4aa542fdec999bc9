/-
  The walk of DeltaSelf. (Written by tools/l18v.py.)
-/
import Derived.Test.YtmklodligplbaabL18up
import Derived.Test.YtmklodligplbaabL18jp
namespace Go.Proofs.Ytmklodligplbaab
open Go.RowKit
open Dlt
set_option linter.unusedVariables false
set_option linter.unusedSimpArgs false

set_option maxHeartbeats 12800000 in
set_option maxRecDepth 100000 in
theorem self18_no (width : Int) (ao : Option Addr) (n cap : Nat) (size : Int) (xs : List UInt8) (w : World) (h1 : InB w ao n cap xs) (hc : signE width n size ≠ 0) :
    Calls Try.prog 4 #[.int .i64 width, .slice ao n cap, .int .i64 size] w fun e w' => e = .returned (.bool true) ∧ Below w.heap.size w w' := by
  have hz := Try.zeroSig
  have hkn := known18_ok w
  have H1 := hide h1
  clear h1
  have hS := fun W (hW : Kept [] w W) => sign_ok width ao n cap size xs W H1.out.len H1.out.le (H1.out.sl.kept hW (by simp)) (by have := H1.out.in8.max; omega)
  obtain ⟨c, hcc⟩ : ∃ c, signE width n size = c := ⟨_, rfl⟩
  obtain ⟨sg, hsg⟩ : ∃ sg, signS width xs size = sg := ⟨_, rfl⟩
  obtain ⟨sn, hsn⟩ : ∃ sn, sg.blocks.length = sn := ⟨_, rfl⟩
  have HQS := hide hsn
  rw [hcc] at hc hS
  rw [hsg] at hS
  have hc0 : (c == 0) = false := by simpa using hc
  clear hcc hsg hsn hc
  go_enter Try.func4, Try.ntmps4
  go_upto_region 3 with (go_at_call 5; refine hkn.mono ?_; rintro r w1 ⟨rfl, hk1⟩; have HK1 := hide hk1; have hS1 := hS w1 hk1; clear hkn hk1 hS)
  go_upto_region 4 with (first
    | (go_at_call 6; refine hS1.mono ?_; rintro r wa ⟨hta, hka⟩; obtain ⟨so, sc, rfl, hsi, hsb⟩ := TellS.open hta; rw [HQS.out] at hsi ⊢; have Ha := hide (And.intro hka hsi); have hoza := heap_new wa (.cells zeroS 28); have hia := Try.infoSigA sg (.slice so sn sc); have hzs : zeroS.size = (sg.cells (.slice so sn sc)).toArray.size := (by rw [sig_size]; exact sig_size _ _); have hal := sig_one sg (.slice so sn sc) rfl; clear hS1 hta hka hsi hsb)
    | refine wpList_store_rowTo rfl 28 (.tmp 7) (.tmp 23) rfl rfl wa.heap.size (sg.cells (.slice so sn sc)).toArray rfl rfl 28 zeroS hoza hia hzs hal ?_)
  have kb : Kept [] wa ((wa.alloc (.cells zeroS 28)).setRow wa.heap.size (sg.cells (.slice so sn sc)).toArray) := ((Kept.refl [] wa).alloc _).trans (kept_row _ wa.heap.size _) (fun i hi hl => by simp only [List.mem_singleton] at hi; omega)
  have hA : SigAt ((wa.alloc (.cells zeroS 28)).setRow wa.heap.size (sg.cells (.slice so sn sc)).toArray) wa.heap.size sg (.slice so sn sc) := ⟨setRow_heap _ _ _ _ _ _ hoza⟩
  obtain ⟨O, hO⟩ : ∃ O, wa.heap.size = O := ⟨_, rfl⟩
  rw [hO] at kb hA ⊢
  have HKb := hide ((HK1.out.trans Ha.out.1 (by simp)).trans kb (by simp))
  have HIb := hide (Ha.out.2.kept kb)
  clear hO hoza hia hzs hal kb Ha HK1
  generalize (wa.alloc (.cells zeroS 28)).setRow O (sg.cells (.slice so sn sc)).toArray = wb at hA HKb HIb ⊢
  have HKF := hide HKb.out
  clear hA HKb HIb
  go_wp2
  go_ret
  exact ⟨rfl, HKF.out.below0⟩

set_option maxHeartbeats 12800000 in
set_option maxRecDepth 100000 in
theorem self18_ok (width : Int) (ao : Option Addr) (n cap Z : Nat) (xs : List UInt8) (w : World) (h1 : InB w ao n cap xs) (hc : signE width n (Z : Int) = 0) :
    Calls Try.prog 4 #[.int .i64 width, .slice ao n cap, .int .i64 Z] w fun e w' => e = .returned (.bool true) ∧ Below w.heap.size w w' := by
  have hz := Try.zeroSig
  have hkn := known18_ok w
  have H1 := hide h1
  clear h1
  have hS := fun W (hW : Kept [] w W) => sign_ok width ao n cap (Z : Int) xs W H1.out.len H1.out.le (H1.out.sl.kept hW (by simp)) (by have := H1.out.in8.max; omega)
  have e2 : signS width xs (Z : Int) = sign width xs Z := by unfold signS; rw [H1.out.len, hc, if_pos rfl, Int.toNat_natCast]
  rw [hc, e2] at hS
  clear e2
  have hs0 : signE width xs.length (Z : Int) = 0 := by rw [H1.out.len]; exact hc
  obtain ⟨hm, hdc, hmx, hae, hab⟩ := self_ok hs0
  have HIS := hide (self_ins (wd := width) (base := xs) (Z := Z) (by
    have hM := sign_may hs0
    have a1 := hM.z1
    have e1 : (sign width xs Z).size = (Z : Nat) := rfl
    omega))
  have HZ : Hid (16 ≤ Z ∧ Z ≤ 4096 ∧ n ≤ 131072) := by
    have hM := sign_may hs0
    have a1 := hM.z1
    have a2 := hM.z2
    have a3 := hM.l2
    have e1 : (sign width xs Z).size = (Z : Nat) := rfl
    have e2 : (sign width xs Z).length = (xs.length : Nat) := rfl
    have e3 := H1.out.len
    exact ⟨by omega, by omega, by omega⟩
  obtain ⟨dt, hdt⟩ : ∃ dt, makeD (sign width xs Z) xs = dt := ⟨_, rfl⟩
  have HST : Hid (dt.steps = selfI Z xs ∧ dt.tlen = n) := ⟨by rw [← hdt, ← HIS.out]; rfl, by rw [← hdt]; exact H1.out.len⟩
  rw [hdt] at hdc
  clear hdt HIS hs0
  obtain ⟨sg, hsg⟩ : ∃ sg, sign width xs Z = sg := ⟨_, rfl⟩
  obtain ⟨sn, hsn⟩ : ∃ sn, sg.blocks.length = sn := ⟨_, rfl⟩
  have HQS := hide hsn
  rw [hsg] at hS
  rw [hsg] at hm hdc hmx hae hab
  clear hsg hsn hc
  go_enter Try.func4, Try.ntmps4
  go_upto_region 3 with (go_at_call 5; refine hkn.mono ?_; rintro r w1 ⟨rfl, hk1⟩; have HK1 := hide hk1; have hS1 := hS w1 hk1; clear hkn hk1 hS)
  go_upto_region 4 with (first
    | (go_at_call 6; refine hS1.mono ?_; rintro r wa ⟨hta, hka⟩; obtain ⟨so, sc, rfl, hsi, hsb⟩ := TellS.open hta; rw [HQS.out] at hsi ⊢; have Ha := hide (And.intro hka hsi); have hoza := heap_new wa (.cells zeroS 28); have hia := Try.infoSigA sg (.slice so sn sc); have hzs : zeroS.size = (sg.cells (.slice so sn sc)).toArray.size := (by rw [sig_size]; exact sig_size _ _); have hal := sig_one sg (.slice so sn sc) rfl; clear hS1 hta hka hsi hsb)
    | refine wpList_store_rowTo rfl 28 (.tmp 7) (.tmp 23) rfl rfl wa.heap.size (sg.cells (.slice so sn sc)).toArray rfl rfl 28 zeroS hoza hia hzs hal ?_)
  have kb : Kept [] wa ((wa.alloc (.cells zeroS 28)).setRow wa.heap.size (sg.cells (.slice so sn sc)).toArray) := ((Kept.refl [] wa).alloc _).trans (kept_row _ wa.heap.size _) (fun i hi hl => by simp only [List.mem_singleton] at hi; omega)
  have hA : SigAt ((wa.alloc (.cells zeroS 28)).setRow wa.heap.size (sg.cells (.slice so sn sc)).toArray) wa.heap.size sg (.slice so sn sc) := ⟨setRow_heap _ _ _ _ _ _ hoza⟩
  obtain ⟨O, hO⟩ : ∃ O, wa.heap.size = O := ⟨_, rfl⟩
  rw [hO] at kb hA ⊢
  have HKb := hide ((HK1.out.trans Ha.out.1 (by simp)).trans kb (by simp))
  have HIb := hide (Ha.out.2.kept kb)
  clear hO hoza hia hzs hal kb Ha HK1
  generalize (wa.alloc (.cells zeroS 28)).setRow O (sg.cells (.slice so sn sc)).toArray = wb at hA HKb HIb ⊢
  have hM := make_ok sg so sn sc ao n cap xs wb HIb.out H1.out.len H1.out.le (H1.out.sl.kept HKb.out (by simp)) (by have := H1.out.in8.max; have := H1.out.le; have := H1.out.max; omega)
  obtain ⟨mb, hmb⟩ : ∃ mb, makeB sg xs = mb := ⟨_, rfl⟩
  obtain ⟨dn, hdn⟩ : ∃ dn, mb.length = dn := ⟨_, rfl⟩
  rw [hmb] at hM
  rw [hm] at hM
  rw [hmb] at hdc hmx hae hab
  clear hmb
  have HDN := hide hdn
  have hrz := hA.range
  have hil := Try.infoSig sg (.slice so sn sc)
  clear hA hdn
  go_upto_region 7 with (first
    | refine wpList_load_mid rfl 28 (.tmp 7) rfl O 0 rfl (sg.cells (.slice so sn sc)) _ hrz Try.underlying28 rfl hil ?_
    | (go_at_call 7; refine hM.mono ?_; rintro r wc ⟨⟨dO, dc, rfl, hod⟩, hkc⟩; rw [HDN.out] at hod ⊢; have Hc := hide (And.intro hod hkc); clear hM hod hkc))
  clear hrz hil HIb
  have HKc := hide (HKb.out.trans Hc.out.2 (by simp))
  have hrd := rread_ok dO dn dc mb wc (own_in8 Hc.out.1)
  rw [hdc] at hrd
  obtain ⟨q, hq⟩ : ∃ q, dt.steps.length = q := ⟨_, rfl⟩
  have HQ := hide hq
  have HTL := hide HST.out.2
  clear hdc hq
  have hzd := Try.zeroDlt
  go_upto_region 8 with (first
    | (go_at_call 12; refine hrd.mono ?_; rintro r wd ⟨⟨T, lo, lc, hTm, hA, rfl⟩, hkd⟩; rw [HTL.out, HQ.out]; have hox := heap_new wd (.cells zeroD 40); have hiD := Try.infoDltA (W := ((dt.width : Nat) : Int)) (Z := ((dt.size : Nat) : Int)) (L := ((dt.blen : Nat) : Int)) (N := ((n : Nat) : Int)) (v := .slice lo q lc) dt.hb dt.ht; have haD : (dltC ((dt.width : Nat) : Int) ((dt.size : Nat) : Int) ((dt.blen : Nat) : Int) ((n : Nat) : Int) dt.bid dt.tid (.slice lo q lc)).toArray.all (·.oneCell') = true := dltC_one rfl; have hzs : zeroD.size = (dltC ((dt.width : Nat) : Int) ((dt.size : Nat) : Int) ((dt.blen : Nat) : Int) ((n : Nat) : Int) dt.bid dt.tid (.slice lo q lc)).toArray.size := (by rw [dltC_size dt.hb dt.ht]; exact dltC_size z32_len z32_len); have Hd := hide (And.intro hTm (And.intro hA hkd)); clear hrd hTm hA hkd)
    | refine wpList_store_rowTo rfl 40 (.tmp 10) (.tmp 36) rfl rfl wd.heap.size (dltC ((dt.width : Nat) : Int) ((dt.size : Nat) : Int) ((dt.blen : Nat) : Int) ((n : Nat) : Int) dt.bid dt.tid (.slice lo q lc)).toArray rfl rfl 40 zeroD hox hiD hzs haD ?_)
  have ke : Kept [] wd ((wd.alloc (.cells zeroD 40)).setRow wd.heap.size (dltC ((dt.width : Nat) : Int) ((dt.size : Nat) : Int) ((dt.blen : Nat) : Int) ((n : Nat) : Int) dt.bid dt.tid (.slice lo q lc)).toArray) := ((Kept.refl [] wd).alloc _).trans (kept_row _ wd.heap.size _) (fun i hi hl => by simp only [List.mem_singleton] at hi; omega)
  have hD : DltAt ((wd.alloc (.cells zeroD 40)).setRow wd.heap.size (dltC ((dt.width : Nat) : Int) ((dt.size : Nat) : Int) ((dt.blen : Nat) : Int) ((n : Nat) : Int) dt.bid dt.tid (.slice lo q lc)).toArray) wd.heap.size ((dt.width : Nat) : Int) ((dt.size : Nat) : Int) ((dt.blen : Nat) : Int) ((n : Nat) : Int) dt.bid dt.tid (.slice lo q lc) := ⟨setRow_heap _ _ _ _ _ _ hox, dt.hb, dt.ht⟩
  obtain ⟨D, hDD⟩ : ∃ D, wd.heap.size = D := ⟨_, rfl⟩
  rw [hDD] at ke hD ⊢
  have HKe := hide ((HKc.out.trans Hd.out.2.2 (by simp)).trans ke (by simp))
  have hAe := Hd.out.2.1.kept ke (by simp)
  rw [HQ.out] at hAe
  have HOD : Hid ((show World from (wd.alloc (.cells zeroD 40)).setRow D (dltC ((dt.width : Nat) : Int) ((dt.size : Nat) : Int) ((dt.blen : Nat) : Int) ((n : Nat) : Int) dt.bid dt.tid (.slice lo q lc)).toArray).ownsRow wb.heap.size 5 1 (.slice dO dn dc) dn (bys mb)) := own_kept9 (own_kept9 Hc.out.1 Hd.out.2.2 (by simp)) ke (by simp)
  clear hDD hox hiD haD hzs ke hzd
  generalize (wd.alloc (.cells zeroD 40)).setRow D (dltC ((dt.width : Nat) : Int) ((dt.size : Nat) : Int) ((dt.blen : Nat) : Int) ((n : Nat) : Int) dt.bid dt.tid (.slice lo q lc)).toArray = we at hD HKe hAe HOD ⊢
  have c3 := hD.c (j := 3) rfl
  have cv := hD.cv
  have hP := apply_ok ao n cap xs dO dn dc mb we (H1.out.in8.kept HKe.out) (own_in8 HOD.out)
  rw [hae, hab] at hP
  have hxl := H1.out.len
  obtain ⟨N, hN⟩ : ∃ N, n / Z = N := ⟨_, rfl⟩
  have hdiv : (n : Int).tdiv (Z : Int) = (N : Int) := by rw [← hN, Int.ofNat_tdiv]
  have hN13 : N ≤ 131072 := by rw [← hN]; exact Nat.le_trans (Nat.div_le_self _ _) HZ.out.2.2
  have hNw : IntKind.i64.wrap (N : Int) = (N : Int) := wrap64 (by omega) (by omega)
  have hz0 : ((Z : Int) == 0) = false := by have := HZ.out.1; simp; omega
  have hzn : ¬ Z = 0 := by have := HZ.out.1; omega
  obtain ⟨NZ, hNZ⟩ : ∃ NZ, N * Z = NZ := ⟨_, rfl⟩
  have hle : NZ ≤ n := by rw [← hNZ, ← hN]; exact Nat.div_mul_le_self n Z
  have hNZw : IntKind.i64.wrap ((N : Int) * (Z : Int)) = (NZ : Int) := by
    have := HZ.out.2.2
    rw [← hNZ, ← Int.natCast_mul]
    exact wrap64 (by omega) (by rw [hNZ]; omega)
  have htl : (tailB Z xs).length = n - NZ := by unfold tailB; rw [List.length_drop, hxl, hN, hNZ]
  have hqv : q = (if 0 < N then 1 else 0) + (if tailB Z xs = [] then 0 else 1) := by
    rw [← HQ.out, HST.out.1, selfI_len, hxl, hN]
  have HS1 : Hid (0 < N → ∃ x, T[0]? = some x ∧ x.s = .copy 0 N) := fun hp => by
    have h1 := Hd.out.1
    rw [HST.out.1] at h1
    have h2 : (T.map Stc.s)[0]? = some (.copy 0 N) := by
      rw [h1]; unfold selfI; rw [hxl, hN, if_pos hp]; rfl
    rw [List.getElem?_map] at h2
    cases hT : T[0]? with
    | none => rw [hT] at h2; cases h2
    | some x => rw [hT] at h2; injection h2 with h2; exact ⟨x, rfl, h2⟩
  have HSA : Hid (∀ W, Kept [] we W → ∀ gO gc, W.ownsRow we.heap.size 5 1 (.slice gO n gc) n (bys xs) → Calls Try.prog 9 #[.slice gO n gc, .slice ao n cap] W fun e w' => e = .returned (.bool true) ∧ ∃ k, w' = W.drewN k) := fun W hW gO gc ho => same_yes gO ao n gc cap xs W hxl (by have := HZ.out.2.2; omega) (own_sl9 ho) (H1.out.sl.kept (HKe.out.trans hW (by simp)) (by simp))
  have HTE : Hid (tailB Z xs = [] ↔ NZ = n) := by
    show _ ↔ _
    constructor
    · intro h; rw [h] at htl; simp at htl; omega
    · intro h; exact List.length_eq_zero_iff.1 (by omega)
  have HXL := hide hxl
  have hZ2 := HZ.out
  clear hD hae hab hm hmx HOD Hd htl hN hNZ hxl
  by_cases hp : 0 < N
  · obtain ⟨x, hx, hxs⟩ := HS1.out hp
    obtain ⟨g, rfl, hgb, hgl, hrg⟩ := hAe.cell hx
    have hp1 : (0 : Int) < (N : Int) := by omega
    have s0 : we.cell? ⟨g, 0, none⟩ = some (.int .i64 0) := by have := hrg 0 (.int .i64 0) (by unfold Stc.cells; rw [hxs]; rfl); simpa using this
    have s1 : we.cell? ⟨g, 1, none⟩ = some (.int .i64 (N : Int)) := by have := hrg 1 (.int .i64 (N : Int)) (by unfold Stc.cells; rw [hxs]; rfl); simpa using this
    rw [if_pos hp] at hqv
    clear hx hxs hrg hAe HS1 hgb hgl
    by_cases ht : NZ = n
    · rw [if_pos (HTE.out.2 ht)] at hqv
      have hq1 : q = 1 := hqv
      subst hq1
      have ht1 : ¬ (NZ : Int) < (n : Int) := by omega
      clear hqv ht
      go_wp2_with (first
        | (go_at_call 8; refine hP.mono ?_; rintro r wp ⟨⟨gO, gc, rfl, hog⟩, hkp⟩; rw [HXL.out] at hog ⊢; have hsa := HSA.out wp hkp gO gc hog; have Hp := hide hkp; clear hP hog hkp HSA)
        | (go_at_call 9; refine hsa.mono ?_; rintro r wf ⟨rfl, nf, hwf⟩; obtain rfl := hwf; clear hsa))
      go_ret
      exact ⟨rfl, ((HKe.out.trans Hp.out (by simp)).drewN nf).below0⟩
    · rw [if_neg (fun h => ht (HTE.out.1 h))] at hqv
      have hq2 : q = 2 := hqv
      subst hq2
      have ht1 : (NZ : Int) < (n : Int) := by omega
      clear hqv ht
      go_wp2_with (first
        | (go_at_call 8; refine hP.mono ?_; rintro r wp ⟨⟨gO, gc, rfl, hog⟩, hkp⟩; rw [HXL.out] at hog ⊢; have hsa := HSA.out wp hkp gO gc hog; have Hp := hide hkp; clear hP hog hkp HSA)
        | (go_at_call 9; refine hsa.mono ?_; rintro r wf ⟨rfl, nf, hwf⟩; obtain rfl := hwf; clear hsa))
      go_ret
      exact ⟨rfl, ((HKe.out.trans Hp.out (by simp)).drewN nf).below0⟩
  · have hN0 : N = 0 := by omega
    have hp1 : ¬ (0 : Int) < (N : Int) := by omega
    rw [if_neg hp] at hqv
    clear hAe HS1
    by_cases ht : NZ = n
    · rw [if_pos (HTE.out.2 ht)] at hqv
      have hq0 : q = 0 := hqv
      subst hq0
      have ht1 : ¬ (NZ : Int) < (n : Int) := by omega
      clear hqv ht hN0
      go_wp2_with (first
        | (go_at_call 8; refine hP.mono ?_; rintro r wp ⟨⟨gO, gc, rfl, hog⟩, hkp⟩; rw [HXL.out] at hog ⊢; have hsa := HSA.out wp hkp gO gc hog; have Hp := hide hkp; clear hP hog hkp HSA)
        | (go_at_call 9; refine hsa.mono ?_; rintro r wf ⟨rfl, nf, hwf⟩; obtain rfl := hwf; clear hsa))
      go_ret
      exact ⟨rfl, ((HKe.out.trans Hp.out (by simp)).drewN nf).below0⟩
    · rw [if_neg (fun h => ht (HTE.out.1 h))] at hqv
      have hq1 : q = 1 := hqv
      subst hq1
      have ht1 : (NZ : Int) < (n : Int) := by omega
      clear hqv ht hN0
      go_wp2_with (first
        | (go_at_call 8; refine hP.mono ?_; rintro r wp ⟨⟨gO, gc, rfl, hog⟩, hkp⟩; rw [HXL.out] at hog ⊢; have hsa := HSA.out wp hkp gO gc hog; have Hp := hide hkp; clear hP hog hkp HSA)
        | (go_at_call 9; refine hsa.mono ?_; rintro r wf ⟨rfl, nf, hwf⟩; obtain rfl := hwf; clear hsa))
      go_ret
      exact ⟨rfl, ((HKe.out.trans Hp.out (by simp)).drewN nf).below0⟩

theorem self18_walk (width : Int) (ao : Option Addr) (n cap : Nat) (size : Int) (xs : List UInt8) (w : World) (h1 : InB w ao n cap xs) (_ : (Lit.int .i64 width).wf = true) (_ : (Lit.int .i64 size).wf = true) :
    Calls Try.prog 4 #[.int .i64 width, .slice ao n cap, .int .i64 size] w fun e w' => e = .returned (.bool true) ∧ Below w.heap.size w w' := by
  by_cases hc : signE width n size = 0
  · have hz2 : isZ size = true := by
      cases hh : isZ size with
      | true => rfl
      | false => unfold signE at hc; rw [hh, Bool.and_false, if_pos rfl] at hc; exact absurd hc (by decide)
    obtain ⟨Z, hZ⟩ := Int.eq_ofNat_of_zero_le (show 0 ≤ size by have := (Dlt.within_iff.1 (show Dlt.within size 16 4096 = true from hz2)).1; omega)
    subst hZ
    exact self18_ok width ao n cap Z xs w h1 hc
  · exact self18_no width ao n cap size xs w h1 hc

end Go.Proofs.Ytmklodligplbaab
