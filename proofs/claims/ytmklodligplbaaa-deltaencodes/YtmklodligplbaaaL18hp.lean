/-
  The walk of DeltaEncodes. (Written by tools/l18h.py.)
-/
import Derived.Test.YtmklodligplbaaaL18gp
namespace Go.Proofs.Ytmklodligplbaaa
open Go.RowKit
open Dlt
set_option linter.unusedVariables false
set_option linter.unusedSimpArgs false

/-- The first block of a signature with another sum. -/
def Dlt.Sig.turn (s : Sig) (y : Int) (hy : (Lit.int .i64 y).wf = true) : Sig := { s with blocks := match s.blocks with | [] => [] | e :: L => ⟨y, e.id, e.hid, hy⟩ :: L }
theorem Cpd.turn {w : World} {B : Nat} {s : Sig} {g n gc : Nat} (h : Cpd w B s g n gc) (hn : n ≠ 0) :
    ∃ x : Int, (Lit.int .i64 x).wf = true ∧ (∀ e L, s.blocks = e :: L → x = e.sum) ∧ w.cell? ⟨g, 0, none⟩ = some (.int .i64 x) ∧ w.frozen? ⟨g, 0, none⟩ = false ∧ ∀ y (hy : (Lit.int .i64 y).wf = true), Cpd (w.setCell ⟨g, 0, none⟩ (.int .i64 y)) B (s.turn y hy) g n gc := by
  have hl := h.len
  cases hb : s.blocks with
  | nil => rw [hb] at hl; exact absurd hl.symm hn
  | cons e L =>
    have ho := h.own
    rcases ho.2 with ⟨e1, _⟩ | ⟨g', gc', cur, e1, hB, hg, hnn, hc, hs, ht⟩
    · cases e1
    · injection e1 with e1 e2 e3
      injection e1 with e1
      injection e1 with e1
      subst e1; subst e3
      have hcur : cur.toList.take ((s.blocks ++ wms).length * 33) = wrows (s.blocks ++ wms) := ht
      have hw : wrows (s.blocks ++ wms) = .int .i64 e.sum :: (bys e.id ++ wrows (L ++ wms)) := by rw [hb]; simp [wrows, Wk.cells]
      have h0 : cur[0]? = some (.int .i64 e.sum) := by
        have : (cur.toList.take ((s.blocks ++ wms).length * 33))[0]? = some (.int .i64 e.sum) := by rw [hcur, hw]; rfl
        rw [List.getElem?_take_of_lt (by rw [List.length_append, wms_len]; omega)] at this
        simpa using this
      refine ⟨e.sum, e.hs, fun e' L' h => by injection h with h1 _; rw [h1], by rw [cell_of_row _ _ _ _ _ _ hg]; exact h0, frozen_of_row _ _ _ _ _ hg, fun y hy => ⟨?_, ?_⟩⟩
      · have hbl : (s.turn y hy).blocks = ⟨y, e.id, e.hid, hy⟩ :: L := by show (match s.blocks with | [] => [] | e :: L => _) = _; rw [hb]
        have hll : ((s.turn y hy).blocks ++ wms).length = (s.blocks ++ wms).length := by rw [hbl, hb]; simp
        unfold OwnW
        rw [hll]
        refine ⟨by rw [wrows_len, hll], .inr ⟨g, gc, cur.setIfInBounds 0 (.int .i64 y), rfl.trans (by rw [← e2]), hB, heap_setCell_same w _ _ _ _ _ hg, hnn, hc, by rw [Array.size_setIfInBounds]; exact hs, ?_⟩⟩
        rw [Array.toList_setIfInBounds, List.take_set, hcur, hw, hbl]
        simp [wrows, Wk.cells]
      · show (s.turn y hy).blocks.length = n
        rw [← hl]
        show (match s.blocks with | [] => [] | e :: L => _).length = _
        rw [hb]
        rfl
theorem SigAt.turn {w : World} {O : Nat} {s : Sig} {v : Value} (h : SigAt w O s v) (y : Int) (hy : (Lit.int .i64 y).wf = true) : SigAt w O (s.turn y hy) v := ⟨h.row⟩

theorem bits_wf (x : Int) : (Lit.int .i64 (bits .xor .i64 x 1)).wf = true := by
  have h : ∀ z : Int, (Lit.int .i64 (IntKind.i64.wrap z)).wf = true := fun z => by
    apply wf64 <;> (rw [IntKind.wrap_i64]; omega)
  exact h _
set_option maxHeartbeats 12800000 in
set_option maxRecDepth 100000 in
theorem encodes18_walk (s : Sig) (ao : Option Addr) (n cap : Nat) (w : World) (hI : SigIn w s ao n cap) (h0 : ao = none → n = 0 ∧ cap = 0) (hm : n ≤ 3518437208782) :
    Calls Try.prog 4 #[.agg (s.cells (.slice ao n cap)).toArray] w fun e w' => e = .returned (.bool true) ∧ Below w.heap.size w w' := by
  have hz := Try.zeroSig
  have kA : Kept [] w (w.alloc (.cells (s.cells (.slice ao n cap)).toArray 29)) := (Kept.refl [] w).alloc _
  have hA := SigAt.new w s (.slice ao n cap)
  have hkn := known18_ok (w.alloc (.cells (s.cells (.slice ao n cap)).toArray 29))
  obtain ⟨A, hAe⟩ : ∃ A, w.heap.size = A := ⟨_, rfl⟩
  rw [hAe] at hA
  have HI := hide (hI.kept kA)
  have H0 := hide h0
  have HK0 := hide kA
  have hil := Try.infoSig s (.slice ao n cap)
  clear hI h0 kA
  go_enter Try.func4, Try.ntmps4
  go_upto_region 1 with (fail)
  clear hAe
  generalize w.alloc (.cells (s.cells (.slice ao n cap)).toArray 29) = w0 at *
  go_upto_region 3 with (go_at_call 6; refine hkn.mono ?_; rintro r w1 ⟨rfl, hk1⟩; have HK1 := hide hk1; clear hkn hk1)
  have HA1 := hide (hA.kept HK1.out (by simp))
  have HI1 := hide (HI.out.kept HK1.out)
  have HKw1 := hide (HK0.out.trans HK1.out (by simp))
  have hr := HA1.out.range
  have hcp := copied_ok s ao n cap w1 HI1.out H0.out hm
  clear hA HI HK0 HK1
  go_upto_region 4 with (first
    | refine wpList_load_mid rfl 29 (.tmp 1) rfl A 0 rfl (s.cells (.slice ao n cap)) _ hr Try.underlying29 rfl hil ?_
    | (go_at_call 13; refine hcp.mono ?_; rintro r y3 ⟨⟨g1, c1, rfl, hog⟩, hky⟩; have Hy := hide (And.intro hog hky); have hozy := heap_new y3 (.cells zeroS 29); have hia := Try.infoSigA s (.slice (some ⟨g1, 0, none⟩) n c1); have hzs : zeroS.size = (s.cells (.slice (some ⟨g1, 0, none⟩) n c1)).toArray.size := (by rw [sig_size]; exact sig_size _ _); have hal := sig_one s (.slice (some ⟨g1, 0, none⟩) n c1) rfl; clear hcp hog hky)
    | refine wpList_store_rowTo rfl 29 (.tmp 3) (.tmp 13) rfl rfl y3.heap.size (s.cells (.slice (some ⟨g1, 0, none⟩) n c1)).toArray rfl rfl 29 zeroS hozy hia hzs hal ?_)
  have ky : Kept [] y3 ((y3.alloc (.cells zeroS 29)).setRow y3.heap.size (s.cells (.slice (some ⟨g1, 0, none⟩) n c1)).toArray) := ((Kept.refl [] y3).alloc _).trans (kept_row _ y3.heap.size _) (fun i hi hl => by simp only [List.mem_singleton] at hi; omega)
  have hAy : SigAt ((y3.alloc (.cells zeroS 29)).setRow y3.heap.size (s.cells (.slice (some ⟨g1, 0, none⟩) n c1)).toArray) y3.heap.size s (.slice (some ⟨g1, 0, none⟩) n c1) := ⟨setRow_heap _ _ _ _ _ _ hozy⟩
  have HS3 : Hid (w1.heap.size ≤ g1 ∧ g1 < y3.heap.size) := ⟨OwnW.ge Hy.out.1 rfl, (own_blk Hy.out.1 rfl).2.1⟩
  obtain ⟨O3, hO⟩ : ∃ O, y3.heap.size = O := ⟨_, rfl⟩
  obtain ⟨B1, hBB⟩ : ∃ B, w1.heap.size = B := ⟨_, rfl⟩
  rw [hO] at ky hAy HS3 ⊢
  have HC3 := hide ((show Cpd y3 B1 s g1 n c1 from ⟨by rw [← hBB]; exact Hy.out.1, HI1.out.len⟩).kept ky (by simp))
  have HAA3 := hide hAy
  have Ky3 := hide (Hy.out.2.trans ky (by simp))
  rw [hBB] at HS3
  have HBw3 := hide (show w1.heap.size = B1 from hBB)
  clear hO hBB hozy hia hzs hal ky Hy hAy hr
  generalize (y3.alloc (.cells zeroS 29)).setRow O3 (s.cells (.slice (some ⟨g1, 0, none⟩) n c1)).toArray = w3 at HC3 HAA3 Ky3 ⊢
  have hr := (HA1.out.kept Ky3.out (by simp)).range
  have hcp := copied_ok s ao n cap w3 (HI1.out.kept Ky3.out) H0.out hm
  go_upto_region 5 with (first
    | refine wpList_load_mid rfl 29 (.tmp 1) rfl A 0 rfl (s.cells (.slice ao n cap)) _ hr Try.underlying29 rfl hil ?_
    | (go_at_call 13; refine hcp.mono ?_; rintro r y4 ⟨⟨g2, c2, rfl, hog⟩, hky⟩; have Hy := hide (And.intro hog hky); have hozy := heap_new y4 (.cells zeroS 29); have hia := Try.infoSigA s (.slice (some ⟨g2, 0, none⟩) n c2); have hzs : zeroS.size = (s.cells (.slice (some ⟨g2, 0, none⟩) n c2)).toArray.size := (by rw [sig_size]; exact sig_size _ _); have hal := sig_one s (.slice (some ⟨g2, 0, none⟩) n c2) rfl; clear hcp hog hky)
    | refine wpList_store_rowTo rfl 29 (.tmp 4) (.tmp 15) rfl rfl y4.heap.size (s.cells (.slice (some ⟨g2, 0, none⟩) n c2)).toArray rfl rfl 29 zeroS hozy hia hzs hal ?_)
  have ky : Kept [] y4 ((y4.alloc (.cells zeroS 29)).setRow y4.heap.size (s.cells (.slice (some ⟨g2, 0, none⟩) n c2)).toArray) := ((Kept.refl [] y4).alloc _).trans (kept_row _ y4.heap.size _) (fun i hi hl => by simp only [List.mem_singleton] at hi; omega)
  have hAy : SigAt ((y4.alloc (.cells zeroS 29)).setRow y4.heap.size (s.cells (.slice (some ⟨g2, 0, none⟩) n c2)).toArray) y4.heap.size s (.slice (some ⟨g2, 0, none⟩) n c2) := ⟨setRow_heap _ _ _ _ _ _ hozy⟩
  have HS4 : Hid (w3.heap.size ≤ g2 ∧ g2 < y4.heap.size) := ⟨OwnW.ge Hy.out.1 rfl, (own_blk Hy.out.1 rfl).2.1⟩
  obtain ⟨O4, hO⟩ : ∃ O, y4.heap.size = O := ⟨_, rfl⟩
  obtain ⟨B2, hBB⟩ : ∃ B, w3.heap.size = B := ⟨_, rfl⟩
  rw [hO] at ky hAy HS4 ⊢
  have HC4 := hide ((show Cpd y4 B2 s g2 n c2 from ⟨by rw [← hBB]; exact Hy.out.1, HI1.out.len⟩).kept ky (by simp))
  have HAA4 := hide hAy
  have Ky4 := hide (Hy.out.2.trans ky (by simp))
  rw [hBB] at HS4
  have HBw4 := hide (show w3.heap.size = B2 from hBB)
  clear hO hBB hozy hia hzs hal ky Hy hAy hr
  generalize (y4.alloc (.cells zeroS 29)).setRow O4 (s.cells (.slice (some ⟨g2, 0, none⟩) n c2)).toArray = w4 at HC4 HAA4 Ky4 ⊢
  have HFAR : Hid (g1 < O3 ∧ O3 < B2 ∧ B2 ≤ g2 ∧ g2 < O4 ∧ w.heap.size ≤ g1) := ⟨HS3.out.2, by rw [← HBw4.out]; exact HAA3.out.lt, HS4.out.1, HS4.out.2, by have h1 := HS3.out.1; have h2 := HBw3.out; have h3 := HKw1.out.size; omega⟩
  have HIN : Hid (Cpd w4 B1 s g1 n c1 ∧ Cpd w4 B2 s g2 n c2 ∧ SigAt w4 O3 s (.slice (some ⟨g1, 0, none⟩) n c1) ∧ SigAt w4 O4 s (.slice (some ⟨g2, 0, none⟩) n c2) ∧ Kept [] w w4) :=
    ⟨HC3.out.kept Ky4.out (by simp), HC4.out, HAA3.out.kept Ky4.out (by simp), HAA4.out, (HKw1.out.trans Ky3.out (by simp)).trans Ky4.out (by simp)⟩
  clear HC3 HC4 HAA3 HAA4 Ky3 Ky4 HS3 HS4 HBw3 HBw4 HKw1 HA1 HI1 H0 hil
  go_wp2
  go_loopw [5] (fun x wr => ∃ (i : Nat) (k : Sig), i ≤ 2 ∧ x = .int .i64 i ∧ Hid (Cpd wr B1 k g1 n c1 ∧ Cpd wr B2 k g2 n c2 ∧ SigAt wr O3 k (.slice (some ⟨g1, 0, none⟩) n c1) ∧ SigAt wr O4 k (.slice (some ⟨g2, 0, none⟩) n c2) ∧ Kept [] w wr)) (fun x wr => 2 - (intOf x).toNat)
  case atStart => exact ⟨0, s, by omega, rfl, HIN⟩
  case round =>
    clear HIN
    obtain ⟨i, k, hi, rfl, HP⟩ := hrel
    by_cases hlt : i < 2
    · obtain ⟨hC1, hC2, hA3, hA4, hK⟩ := HP.out
      clear HP
      obtain ⟨c, hcc⟩ : ∃ c, okE (may k) = c := ⟨_, rfl⟩
      obtain ⟨eb, heb⟩ : ∃ eb, encodeS k = eb := ⟨_, rfl⟩
      obtain ⟨en, hen⟩ : ∃ en, eb.length = en := ⟨_, rfl⟩
      have hE1 := encode_ok k (some ⟨g2, 0, none⟩) n c2 wr hC2.sig
      have HE2 := hide (fun W (hW : Kept [] wr W) => rencode_ok k (some ⟨g1, 0, none⟩) n c1 W (hC1.sig.kept hW))
      rw [hcc, heb] at hE1 HE2
      have hen7 : en ≤ 73780 := by
        rw [← hen, ← heb]
        unfold encodeS
        cases hm2 : may k with
        | false => simp
        | true => exact encS_len (may_iff.1 hm2)
      have HEN := hide hen
      have hr4 := hA4.range
      have hil4 := Try.infoSig k (.slice (some ⟨g2, 0, none⟩) n c2)
      have hil3 := Try.infoSig k (.slice (some ⟨g1, 0, none⟩) n c1)
      have HC1 := hide hC1
      have HC2 := hide hC2
      have HA3 := hide hA3
      have HA4 := hide hA4
      have HKw := hide hK
      clear hcc heb hen hC1 hC2 hA3 hA4 hK
      go_upto_region 9 with (first
        | refine wpList_load_mid rfl 29 (.tmp 4) rfl O4 0 rfl (k.cells (.slice (some ⟨g2, 0, none⟩) n c2)) _ hr4 Try.underlying29 rfl hil4 ?_
        | (go_at_call 14; refine hE1.mono ?_; rintro r wa ⟨⟨bo, bc, rfl, hoa⟩, hka⟩; rw [HEN.out] at hoa ⊢; have Ha := hide (And.intro hoa hka); clear hE1 hoa hka))
      have hr3 := (HA3.out.kept Ha.out.2 (by simp)).range
      have hE2 := HE2.out wa Ha.out.2
      clear HE2 hr4
      go_upto_region 10 with (first
        | refine wpList_load_mid rfl 29 (.tmp 3) rfl O3 0 rfl (k.cells (.slice (some ⟨g1, 0, none⟩) n c1)) _ hr3 Try.underlying29 rfl hil3 ?_
        | (go_at_call 15; refine hE2.mono ?_; rintro r wb ⟨⟨po, pc, rfl, hob⟩, hkb⟩; rw [HEN.out] at hob ⊢; have Hb := hide (And.intro hob hkb); clear hE2 hob hkb))
      have Kb := hide (Ha.out.2.trans Hb.out.2 (by simp))
      have hsm := same_yes bo po en bc pc eb wb HEN.out (by omega) (own_sl9 (own_kept9 Ha.out.1 Hb.out.2 (by simp))) (own_sl9 Hb.out.1)
      clear hr3 Ha Hb
      have hr4 := (HA4.out.kept Kb.out (by simp))
      have HWH := hide (fun W (hW : Kept [] wb W) => And.intro (whole_yes k B2 g2 n c2 (some ⟨g1, 0, none⟩) c1 W (HC2.out.kept (Kb.out.trans hW (by simp)) (by simp)) (HC1.out.sig.kept (Kb.out.trans hW (by simp))) hm) (And.intro ((HA4.out.kept (Kb.out.trans hW (by simp)) (by simp)).range) ((HA3.out.kept (Kb.out.trans hW (by simp)) (by simp)).range)))
      clear hr4
      go_upto_region 12 with (first
        | (go_at_call 16; refine hsm.mono ?_; rintro r wc ⟨rfl, mc, hwc⟩; have hkc : Kept [] wb wc := (by rw [hwc]; exact (Kept.refl [] wb).drewN mc); obtain ⟨hwh, hq4, hq3⟩ := HWH.out wc hkc; have Hc := hide hkc; clear hsm hwc hkc HWH)
        | refine wpList_load_midW 29 (.tmp 4) rfl O4 0 rfl (k.cells (.slice (some ⟨g2, 0, none⟩) n c2)) _ hq4 Try.underlying29 rfl hil4 (by kernel_rfl) ?_
        | refine wpList_load_midW 29 (.tmp 3) rfl O3 0 rfl (k.cells (.slice (some ⟨g1, 0, none⟩) n c1)) _ hq3 Try.underlying29 rfl hil3 (by kernel_rfl) ?_
        | (go_at_call 17; refine hwh.mono ?_; rintro r wd ⟨rfl, hkd⟩; have Hd := hide hkd; clear hwh hkd hq4 hq3))
      have Kd := hide ((Kb.out.trans Hc.out (by simp)).trans Hd.out (by simp))
      have HC1d := hide (HC1.out.kept Kd.out (by simp))
      have HC2d := hide (HC2.out.kept Kd.out (by simp))
      have HA3d := hide (HA3.out.kept Kd.out (by simp))
      have HA4d := hide (HA4.out.kept Kd.out (by simp))
      have HKd := hide (HKw.out.trans Kd.out (by simp))
      clear HC1 HC2 HA3 HA4 HKw Kd Hc Hd Kb hil3 hil4 HEN hen7
      have a4 := HA4d.out.cell (Sig.cv _ _)
      have a3 := HA3d.out.cell (Sig.cv _ _)
      by_cases hn0 : n = 0
      · subst hn0
        have HF : Hid (Cpd wd B1 k g1 0 c1 ∧ Cpd wd B2 k g2 0 c2 ∧ SigAt wd O3 k (.slice (some ⟨g1, 0, none⟩) 0 c1) ∧ SigAt wd O4 k (.slice (some ⟨g2, 0, none⟩) 0 c2) ∧ Kept [] w wd) := ⟨HC1d.out, HC2d.out, HA3d.out, HA4d.out, HKd.out⟩
        clear HC1d HC2d HA3d HA4d HKd
        go_wp2
        go_roundw
        case rel => exact ⟨i + 1, k, by omega, by go_num, HF⟩
        case measure => simp [intOf]; omega
      · have hnp : (0 : Int) < (n : Int) := by omega
        obtain ⟨x1, hx1, hx1e, cx1, fx1, st1⟩ := HC1d.out.turn hn0
        obtain ⟨x2, hx2, hx2e, cx2, fx2, st2⟩ := HC2d.out.turn hn0
        obtain ⟨y, hy⟩ : ∃ y, bits .xor .i64 x1 1 = y := ⟨_, rfl⟩
        have hyw : (Lit.int .i64 y).wf = true := by rw [← hy]; exact bits_wf x1
        have HS1 := hide (st1 y hyw)
        clear hx1e hx2e hx1 hx2 st1 st2
        go_upto_region 13 with (fail)
        refine wp_region_late (fun w' => Kept [] wd w') (fun i => i == 10) (by kernel_rfl) ?_
        have h0 : Kept [] wd wd.drew := (Kept.refl [] wd).drew
        generalize World.drew wd = v0 at h0  ⊢
        have k0 := h0
        refine wpAnyL_free (i := 0) (v := .pointer (some ⟨O3, 35, none⟩)) rfl (by kernel_rfl) (by kernel_rfl) (by kernel_rfl) (fun _ _ _ h => h) (Or.inl ⟨by rfl, fun w _ => by go_simp⟩) ?_
        try simp only [List.getElem_toArray, List.getElem_cons_zero, List.getElem_cons_succ, Act.put, List.setIfInBounds_toArray, List.set_cons_zero, List.set_cons_succ]
        refine wpAnyL_take (i := 1) (v := .slice (some ⟨g1, 0, none⟩) n c1) rfl (by kernel_rfl) (by kernel_rfl) (by kernel_rfl) (by kernel_rfl) (by kernel_rfl) (fun _ _ _ h => h) (Or.inl ⟨by rfl, fun w hSw => by have q0 := Kept.cellOf hSw a3 (by simp); go_simp⟩) h0 ?_
        try simp only [List.getElem_toArray, List.getElem_cons_zero, List.getElem_cons_succ, Act.put, List.setIfInBounds_toArray, List.set_cons_zero, List.set_cons_succ]
        refine wpAnyL_free (i := 2) (v := .pointer (some ⟨O3, 35, none⟩)) rfl (by kernel_rfl) (by kernel_rfl) (by kernel_rfl) (fun _ _ _ h => h) (Or.inl ⟨by rfl, fun w _ => by go_simp⟩) ?_
        try simp only [List.getElem_toArray, List.getElem_cons_zero, List.getElem_cons_succ, Act.put, List.setIfInBounds_toArray, List.set_cons_zero, List.set_cons_succ]
        refine wpAnyL_take (i := 3) (v := .slice (some ⟨g1, 0, none⟩) n c1) rfl (by kernel_rfl) (by kernel_rfl) (by kernel_rfl) (by kernel_rfl) (by kernel_rfl) (fun _ _ _ h => h) (Or.inl ⟨by rfl, fun w hSw => by have q0 := Kept.cellOf hSw a3 (by simp); go_simp⟩) h0 ?_
        try simp only [List.getElem_toArray, List.getElem_cons_zero, List.getElem_cons_succ, Act.put, List.setIfInBounds_toArray, List.set_cons_zero, List.set_cons_succ]
        refine wpAnyL_free (i := 4) (v := .pointer (some ⟨g1, 0, none⟩)) rfl (by kernel_rfl) (by kernel_rfl) (by kernel_rfl) (fun _ _ _ h => h) (Or.inl ⟨by rfl, fun w _ => by go_simp⟩) ?_
        try simp only [List.getElem_toArray, List.getElem_cons_zero, List.getElem_cons_succ, Act.put, List.setIfInBounds_toArray, List.set_cons_zero, List.set_cons_succ]
        refine wpAnyL_free (i := 5) (v := .pointer (some ⟨g1, 0, none⟩)) rfl (by kernel_rfl) (by kernel_rfl) (by kernel_rfl) (fun _ _ _ h => h) (Or.inl ⟨by rfl, fun w _ => by go_simp⟩) ?_
        try simp only [List.getElem_toArray, List.getElem_cons_zero, List.getElem_cons_succ, Act.put, List.setIfInBounds_toArray, List.set_cons_zero, List.set_cons_succ]
        refine wpAnyL_take (i := 6) (v := .int .i64 x1) rfl (by kernel_rfl) (by kernel_rfl) (by kernel_rfl) (by kernel_rfl) (by kernel_rfl) (fun _ _ _ h => h) (Or.inl ⟨by rfl, fun w hSw => by have q0 := Kept.cellOf hSw cx1 (by simp); go_simp⟩) h0 ?_
        try simp only [List.getElem_toArray, List.getElem_cons_zero, List.getElem_cons_succ, Act.put, List.setIfInBounds_toArray, List.set_cons_zero, List.set_cons_succ]
        refine wpAnyL_free (i := 7) (v := .int .i64 y) rfl (by kernel_rfl) (by kernel_rfl) (by kernel_rfl) (fun _ _ _ h => h) (Or.inl ⟨by rfl, fun w _ => by go_simp⟩) ?_
        try simp only [List.getElem_toArray, List.getElem_cons_zero, List.getElem_cons_succ, Act.put, List.setIfInBounds_toArray, List.set_cons_zero, List.set_cons_succ]
        refine wpAnyL_free (i := 8) (v := .pointer (some ⟨g1, 0, none⟩)) rfl (by kernel_rfl) (by kernel_rfl) (by kernel_rfl) (fun _ _ _ h => h) (Or.inl ⟨by rfl, fun w _ => by go_simp⟩) ?_
        try simp only [List.getElem_toArray, List.getElem_cons_zero, List.getElem_cons_succ, Act.put, List.setIfInBounds_toArray, List.set_cons_zero, List.set_cons_succ]
        refine wpAnyL_free (i := 9) (v := .pointer (some ⟨g1, 0, none⟩)) rfl (by kernel_rfl) (by kernel_rfl) (by kernel_rfl) (fun _ _ _ h => h) (Or.inl ⟨by rfl, fun w _ => by go_simp⟩) ?_
        try simp only [List.getElem_toArray, List.getElem_cons_zero, List.getElem_cons_succ, Act.put, List.setIfInBounds_toArray, List.set_cons_zero, List.set_cons_succ]
        have cz := k0.cellOf cx1 (by simp)
        have fz := (k0.frozen (World.block_lt_of_cell? _ _ cx1) (by simp)).trans fx1
        refine wpAnyL_one (i := 10) (by kernel_rfl) rfl (fun K hK => ?_)
        rw [if_pos (by rfl)]
        go_simp
        refine hK.out _ _ (fun _ h => by cases h) ?_
        clear hK K
        try simp only [List.getElem_toArray, List.getElem_cons_zero, List.getElem_cons_succ, Act.put, List.setIfInBounds_toArray, List.set_cons_zero, List.set_cons_succ]
        refine wpAnyL_done (by kernel_rfl) ?_ _
        obtain ⟨_, _, _, _, _, st1⟩ := (HC1d.out.kept k0 (by simp)).turn hn0
        have ks : Kept [g1] v0 (v0.setCell ⟨g1, 0, none⟩ (.int .i64 y)) := (Kept.refl [g1] v0).setCell (by simp) _
        have kk : Kept [g1] wd (v0.setCell ⟨g1, 0, none⟩ (.int .i64 y)) := (show Kept [g1] wd v0 from k0.mono (by simp)).trans ks (by simp)
        have HT1 := hide (st1 y hyw)
        have HT3 := hide ((HA3d.out.kept kk (by have := HFAR.out; simp; omega)).turn y hyw)
        have HT4 := hide (HA4d.out.kept kk (by have := HFAR.out; simp; omega))
        have HT2 := hide (HC2d.out.kept kk (by have := HFAR.out; simp; omega))
        have HTK := hide (HKd.out.trans kk (fun j hj hl => by simp only [List.mem_singleton] at hj; have := HFAR.out; omega))
        have cy : (v0.setCell ⟨g1, 0, none⟩ (.int .i64 y)).cell? ⟨g1, 0, none⟩ = some (.int .i64 y) := World.cell?_setCell_same _ _ _ cz
        have b3 := kk.cellOf a3 (by have := HFAR.out; simp; omega)
        have b4 := kk.cellOf a4 (by have := HFAR.out; simp; omega)
        have cx2b := kk.cellOf cx2 (by have := HFAR.out; simp; omega)
        have fx2b := (kk.frozen (World.block_lt_of_cell? _ _ cx2) (by have := HFAR.out; simp; omega)).trans fx2
        clear HC1d HC2d HA3d HA4d HKd ks kk st1 h0 k0 cz fz a3 a4 cx1 fx1 cx2 fx2 HS1 hy
        generalize v0.setCell ⟨g1, 0, none⟩ (.int .i64 y) = we at *
        go_upto_region 14 with (fail)
        refine wp_region_late (fun w' => Kept [] we w') (fun i => i == 9) (by kernel_rfl) ?_
        have g0 : Kept [] we we.drew := (Kept.refl [] we).drew
        generalize World.drew we = u0 at g0  ⊢
        have k0 := g0
        refine wpAnyL_free (i := 0) (v := .pointer (some ⟨O4, 35, none⟩)) rfl (by kernel_rfl) (by kernel_rfl) (by kernel_rfl) (fun _ _ _ h => h) (Or.inl ⟨by rfl, fun w _ => by go_simp⟩) ?_
        try simp only [List.getElem_toArray, List.getElem_cons_zero, List.getElem_cons_succ, Act.put, List.setIfInBounds_toArray, List.set_cons_zero, List.set_cons_succ]
        refine wpAnyL_take (i := 1) (v := .slice (some ⟨g2, 0, none⟩) n c2) rfl (by kernel_rfl) (by kernel_rfl) (by kernel_rfl) (by kernel_rfl) (by kernel_rfl) (fun _ _ _ h => h) (Or.inl ⟨by rfl, fun w hSw => by have q0 := Kept.cellOf hSw b4 (by simp); go_simp⟩) g0 ?_
        try simp only [List.getElem_toArray, List.getElem_cons_zero, List.getElem_cons_succ, Act.put, List.setIfInBounds_toArray, List.set_cons_zero, List.set_cons_succ]
        refine wpAnyL_free (i := 2) (v := .pointer (some ⟨O3, 35, none⟩)) rfl (by kernel_rfl) (by kernel_rfl) (by kernel_rfl) (fun _ _ _ h => h) (Or.inl ⟨by rfl, fun w _ => by go_simp⟩) ?_
        try simp only [List.getElem_toArray, List.getElem_cons_zero, List.getElem_cons_succ, Act.put, List.setIfInBounds_toArray, List.set_cons_zero, List.set_cons_succ]
        refine wpAnyL_take (i := 3) (v := .slice (some ⟨g1, 0, none⟩) n c1) rfl (by kernel_rfl) (by kernel_rfl) (by kernel_rfl) (by kernel_rfl) (by kernel_rfl) (fun _ _ _ h => h) (Or.inl ⟨by rfl, fun w hSw => by have q0 := Kept.cellOf hSw b3 (by simp); go_simp⟩) g0 ?_
        try simp only [List.getElem_toArray, List.getElem_cons_zero, List.getElem_cons_succ, Act.put, List.setIfInBounds_toArray, List.set_cons_zero, List.set_cons_succ]
        refine wpAnyL_free (i := 4) (v := .pointer (some ⟨g1, 0, none⟩)) rfl (by kernel_rfl) (by kernel_rfl) (by kernel_rfl) (fun _ _ _ h => h) (Or.inl ⟨by rfl, fun w _ => by go_simp⟩) ?_
        try simp only [List.getElem_toArray, List.getElem_cons_zero, List.getElem_cons_succ, Act.put, List.setIfInBounds_toArray, List.set_cons_zero, List.set_cons_succ]
        refine wpAnyL_free (i := 5) (v := .pointer (some ⟨g1, 0, none⟩)) rfl (by kernel_rfl) (by kernel_rfl) (by kernel_rfl) (fun _ _ _ h => h) (Or.inl ⟨by rfl, fun w _ => by go_simp⟩) ?_
        try simp only [List.getElem_toArray, List.getElem_cons_zero, List.getElem_cons_succ, Act.put, List.setIfInBounds_toArray, List.set_cons_zero, List.set_cons_succ]
        refine wpAnyL_take (i := 6) (v := .int .i64 y) rfl (by kernel_rfl) (by kernel_rfl) (by kernel_rfl) (by kernel_rfl) (by kernel_rfl) (fun _ _ _ h => h) (Or.inl ⟨by rfl, fun w hSw => by have q0 := Kept.cellOf hSw cy (by simp); go_simp⟩) g0 ?_
        try simp only [List.getElem_toArray, List.getElem_cons_zero, List.getElem_cons_succ, Act.put, List.setIfInBounds_toArray, List.set_cons_zero, List.set_cons_succ]
        refine wpAnyL_free (i := 7) (v := .pointer (some ⟨g2, 0, none⟩)) rfl (by kernel_rfl) (by kernel_rfl) (by kernel_rfl) (fun _ _ _ h => h) (Or.inl ⟨by rfl, fun w _ => by go_simp⟩) ?_
        try simp only [List.getElem_toArray, List.getElem_cons_zero, List.getElem_cons_succ, Act.put, List.setIfInBounds_toArray, List.set_cons_zero, List.set_cons_succ]
        refine wpAnyL_free (i := 8) (v := .pointer (some ⟨g2, 0, none⟩)) rfl (by kernel_rfl) (by kernel_rfl) (by kernel_rfl) (fun _ _ _ h => h) (Or.inl ⟨by rfl, fun w _ => by go_simp⟩) ?_
        try simp only [List.getElem_toArray, List.getElem_cons_zero, List.getElem_cons_succ, Act.put, List.setIfInBounds_toArray, List.set_cons_zero, List.set_cons_succ]
        have cz := k0.cellOf cx2b (by simp)
        have fz := (k0.frozen (World.block_lt_of_cell? _ _ cx2b) (by simp)).trans fx2b
        refine wpAnyL_one (i := 9) (by kernel_rfl) rfl (fun K hK => ?_)
        rw [if_pos (by rfl)]
        go_simp
        refine hK.out _ _ (fun _ h => by cases h) ?_
        clear hK K
        try simp only [List.getElem_toArray, List.getElem_cons_zero, List.getElem_cons_succ, Act.put, List.setIfInBounds_toArray, List.set_cons_zero, List.set_cons_succ]
        refine wpAnyL_done (by kernel_rfl) ?_ _
        obtain ⟨_, _, _, _, _, st2⟩ := (HT2.out.kept k0 (by simp)).turn hn0
        have ks : Kept [g2] u0 (u0.setCell ⟨g2, 0, none⟩ (.int .i64 y)) := (Kept.refl [g2] u0).setCell (by simp) _
        have kk : Kept [g2] we (u0.setCell ⟨g2, 0, none⟩ (.int .i64 y)) := (show Kept [g2] we u0 from k0.mono (by simp)).trans ks (by simp)
        have HF : Hid (Cpd (u0.setCell ⟨g2, 0, none⟩ (.int .i64 y)) B1 (k.turn y hyw) g1 n c1 ∧ Cpd (u0.setCell ⟨g2, 0, none⟩ (.int .i64 y)) B2 (k.turn y hyw) g2 n c2 ∧ SigAt (u0.setCell ⟨g2, 0, none⟩ (.int .i64 y)) O3 (k.turn y hyw) (.slice (some ⟨g1, 0, none⟩) n c1) ∧ SigAt (u0.setCell ⟨g2, 0, none⟩ (.int .i64 y)) O4 (k.turn y hyw) (.slice (some ⟨g2, 0, none⟩) n c2) ∧ Kept [] w (u0.setCell ⟨g2, 0, none⟩ (.int .i64 y))) := ⟨HT1.out.kept kk (by have := HFAR.out; simp; omega), st2 y hyw, HT3.out.kept kk (by have := HFAR.out; simp; omega), (HT4.out.kept kk (by have := HFAR.out; simp; omega)).turn y hyw, HTK.out.trans kk (fun j hj hl => by simp only [List.mem_singleton] at hj; have := HFAR.out; omega)⟩
        clear HT1 HT2 HT3 HT4 HTK ks kk st2 g0 k0 cz fz b3 b4 cy cx2b fx2b
        generalize u0.setCell ⟨g2, 0, none⟩ (.int .i64 y) = wf at *
        go_wp2
        go_roundw
        case rel => exact ⟨i + 1, k.turn y hyw, by omega, by go_num, HF⟩
        case measure => simp [intOf]; omega
    · obtain rfl : i = 2 := by omega
      have HKF := hide HP.out.2.2.2.2
      clear HP
      go_wp2
      go_ret
      exact ⟨rfl, HKF.out.below0⟩

end Go.Proofs.Ytmklodligplbaaa
