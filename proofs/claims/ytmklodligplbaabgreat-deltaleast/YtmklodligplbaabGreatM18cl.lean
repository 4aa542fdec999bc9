import Derived.Test.YtmklodligplbaabGreatM18bl
import Derived.Test.YtmklodligplbaabGreatEal
namespace Go.Proofs.YtmklodligplbaabGreat
open Go.RowKit
open Dlt
set_option linter.unusedVariables false
set_option linter.unusedSimpArgs false
set_option maxHeartbeats 12800000 in
set_option maxRecDepth 100000 in
theorem least18_bad (s : Sig) (ao : Option Addr) (n cap : Nat) (bo : Option Addr) (m bc : Nat) (ys : List UInt8) (w : World) (hI : SigIn w s ao n cap) (h2 : InB w bo m bc ys) (hm : makeE s ys ≠ 0) :
  Calls Tryz.prog 3 #[.agg (s.cells (.slice ao n cap)).toArray, .slice bo m bc] w fun e w' => e = .returned (.bool true) ∧ Below w.heap.size w w' := by
 have hkn := fun W => known18_ok W
 have H2 := hide h2
 have hA := SigAt.new w s (.slice ao n cap)
 have hK : Kept [] w (w.alloc (.cells (s.cells (.slice ao n cap)).toArray 26)) := (Kept.refl [] w).alloc _
 obtain ⟨G, hG⟩ : ∃ G, w.heap.size = G := ⟨_, rfl⟩
 rw [hG] at hA
 have HI := hide hI
 clear hI h2
 go_enter Tryz.func3, Tryz.ntmps3
 go_upto_region 1 with (fail)
 try rw [hG]
 clear hG
 generalize w.alloc (.cells (s.cells (.slice ao n cap)).toArray 26) = w0 at hA hK ⊢
 have hkn0 := hkn w0
 have HG0 := hide hA
 have HK0 := hide hK
 clear hkn hA hK
 go_upto_region 3 with (go_at_call 7; refine hkn0.mono ?_; rintro r w1 ⟨rfl, hk1⟩; have HK1 := hide (HK0.out.trans hk1 (by simp)); have HG1 := hide (HG0.out.kept hk1 (by simp)); clear hkn0 hk1)
 clear HG0 HK0
 have hM := make_ok s ao n cap bo m bc ys w1 (HI.out.kept HK1.out) H2.out.len H2.out.le (H2.out.sl.kept HK1.out (by simp)) (by have := H2.out.in8.max; have := H2.out.le; have := H2.out.max; omega)
 obtain ⟨mb, hmb⟩ : ∃ mb, makeB s ys = mb := ⟨_, rfl⟩
 obtain ⟨dn, hdn⟩ : ∃ dn, mb.length = dn := ⟨_, rfl⟩
 rw [hmb] at hM
 obtain ⟨c2, hc2⟩ : ∃ c2, makeE s ys = c2 := ⟨_, rfl⟩
 have HDN0 : Hid (dn = 0) := by show _ = _; rw [← hdn, ← hmb]; unfold makeB; rw [if_neg hm]; rfl
 rw [hc2] at hM hm
 have hc20 : (c2 == 0) = false := by simpa using hm
 clear hc2 hm hmb
 have HDN := hide hdn
 have hrz := HG1.out.range
 have hil := Tryz.infoSig s (.slice ao n cap)
 clear hdn
 go_upto_region 4 with (first
  | refine wpList_load_mid rfl 26 (.tmp 2) rfl G 0 rfl (s.cells (.slice ao n cap)) _ hrz Tryz.underlying26 rfl hil ?_
  | (go_at_call 8; refine hM.mono ?_; rintro r wc ⟨⟨dO, dc, rfl, hod⟩, hkc⟩; rw [HDN.out]; have Hc := hide hkc; clear hM hod hkc))
 obtain rfl := HDN0.out
 clear hrz hil HDN0
 go_wp2
 go_ret
 exact ⟨rfl, (HK1.out.trans Hc.out (by simp)).below0⟩
set_option maxHeartbeats 12800000 in
set_option maxRecDepth 100000 in
theorem least18_ok (s : Sig) (ao : Option Addr) (n cap : Nat) (bo : Option Addr) (m bc : Nat) (ys : List UInt8) (w : World) (hI : SigIn w s ao n cap) (h2 : InB w bo m bc ys) (hm : makeE s ys = 0) :
  Calls Tryz.prog 3 #[.agg (s.cells (.slice ao n cap)).toArray, .slice bo m bc] w fun e w' => e = .returned (.bool true) ∧ Below w.heap.size w w' := by
 obtain ⟨hgood, hmay, hdec, ht13, hml13⟩ := make_good hm
 have hyl0 := h2.len
 rw [hyl0] at ht13
 have hkn := fun W => known18_ok W
 have H2 := hide h2
 have hA := SigAt.new w s (.slice ao n cap)
 have hK : Kept [] w (w.alloc (.cells (s.cells (.slice ao n cap)).toArray 26)) := (Kept.refl [] w).alloc _
 obtain ⟨G, hG⟩ : ∃ G, w.heap.size = G := ⟨_, rfl⟩
 rw [hG] at hA
 have HI := hide hI
 clear hI h2
 go_enter Tryz.func3, Tryz.ntmps3
 go_upto_region 1 with (fail)
 try rw [hG]
 clear hG
 generalize w.alloc (.cells (s.cells (.slice ao n cap)).toArray 26) = w0 at hA hK ⊢
 have hkn0 := hkn w0
 have HG0 := hide hA
 have HK0 := hide hK
 clear hkn hA hK
 go_upto_region 3 with (go_at_call 7; refine hkn0.mono ?_; rintro r w1 ⟨rfl, hk1⟩; have HK1 := hide (HK0.out.trans hk1 (by simp)); have HG1 := hide (HG0.out.kept hk1 (by simp)); clear hkn0 hk1)
 clear HG0 HK0
 have hM := make_ok s ao n cap bo m bc ys w1 (HI.out.kept HK1.out) H2.out.len H2.out.le (H2.out.sl.kept HK1.out (by simp)) (by have := H2.out.in8.max; have := H2.out.le; have := H2.out.max; omega)
 obtain ⟨mb, hmb⟩ : ∃ mb, makeB s ys = mb := ⟨_, rfl⟩
 obtain ⟨dn, hdn⟩ : ∃ dn, mb.length = dn := ⟨_, rfl⟩
 rw [hmb] at hM
 have hm0 := hm
 rw [hm] at hM
 rw [hmb] at hdec hml13
 clear hm hmb
 have HDN := hide hdn
 have hrz := HG1.out.range
 have hil := Tryz.infoSig s (.slice ao n cap)
 clear hdn
 go_upto_region 4 with (first
  | refine wpList_load_mid rfl 26 (.tmp 2) rfl G 0 rfl (s.cells (.slice ao n cap)) _ hrz Tryz.underlying26 rfl hil ?_
  | (go_at_call 8; refine hM.mono ?_; rintro r wc ⟨⟨dO, dc, rfl, hod⟩, hkc⟩; rw [HDN.out] at hod ⊢; have Hc := hide (And.intro hod hkc); clear hM hod hkc))
 clear hrz
 have HKc := hide (HK1.out.trans Hc.out.2 (by simp))
 have hrd := rread_ok dO dn dc mb wc (own_in8 Hc.out.1)
 rw [hdec] at hrd
 obtain ⟨W, hWn⟩ := Int.eq_ofNat_of_zero_le (show 0 ≤ s.width by have := hmay.w1; omega)
 obtain ⟨Z, hZn⟩ := Int.eq_ofNat_of_zero_le (show 0 ≤ s.size by have := hmay.z1; omega)
 obtain ⟨L, hLn⟩ := Int.eq_ofNat_of_zero_le hmay.l1
 have hz1 : 16 ≤ Z := by have := hmay.z1; omega
 have hz2 : Z ≤ 4096 := by have := hmay.z2; omega
 have hnf : n ≤ 1000000 := by have := hmay.few; rw [HI.out.len] at this; omega
 obtain ⟨dt, hdt⟩ : ∃ dt, makeD s ys = dt := ⟨_, rfl⟩
 rw [hdt] at hrd
 have e1 : dt.width = W := by rw [← hdt]; show s.width.toNat = W; rw [hWn]; rfl
 have e2 : dt.size = Z := by rw [← hdt]; show s.size.toNat = Z; rw [hZn]; rfl
 have e3 : dt.blen = L := by rw [← hdt]; show s.length.toNat = L; rw [hLn]; rfl
 have e4 : dt.tlen = m := by rw [← hdt]; exact hyl0
 have e5 : dt.bid = s.base := by rw [← hdt]; rfl
 obtain ⟨tid, htid⟩ : ∃ tid, Sha.ident s.width ys = tid := ⟨_, rfl⟩
 have e6 : dt.tid = tid := by rw [← hdt, ← htid]; rfl
 have e7 : dt.steps = insOf s ys := by rw [← hdt]; rfl
 have htl : tid.length = 32 := by rw [← htid]; exact Sha.ident_len _ _
 obtain ⟨St, hSt⟩ : ∃ St, insOf s ys = St := ⟨_, rfl⟩
 obtain ⟨q, hq⟩ : ∃ q, St.length = q := ⟨_, rfl⟩
 have hq2 : q ≤ 2048 := by
  rw [← hq, ← hSt]
  unfold makeE at hm0
  rw [may_iff.2 hmay, if_neg (by simp)] at hm0
  split at hm0
  ·cases hm0
  ·split at hm0
   ·cases hm0
   ·omega
 rw [hSt] at e7 hgood
 have hgood0 : goodS s.width Z s.blocks false St ys := by rw [hZn] at hgood; exact hgood
 have HGD := hide hgood0
 have HQ := hide hq
 have HDT := hide (And.intro e1 (And.intro e2 (And.intro e3 (And.intro e4 (And.intro e5 (And.intro e6 e7))))))
 clear hgood hgood0 hdec hdt hq hSt hmay hm0 hml13 e1 e2 e3 e4 e5 e6 e7
 have hzd := Tryz.zeroDlt
 go_upto_region 7 with (first
  | (go_at_call 9; refine hrd.mono ?_; rintro r wd ⟨⟨T, lo, lc, hTm, hA, rfl⟩, hkd⟩; rw [HDT.out.1, HDT.out.2.1, HDT.out.2.2.1, HDT.out.2.2.2.1, HDT.out.2.2.2.2.1, HDT.out.2.2.2.2.2.1, HDT.out.2.2.2.2.2.2, HQ.out]; rw [HDT.out.2.2.2.2.2.2] at hTm; rw [HDT.out.2.2.2.2.2.2, HQ.out] at hA; have hox := heap_new wd (.cells zeroD 34); have hiD := Tryz.infoDltA (W := ((W : Nat) : Int)) (Z := ((Z : Nat) : Int)) (L := ((L : Nat) : Int)) (N := ((m : Nat) : Int)) (v := .slice lo q lc) s.hb htl; have haD : (dltC ((W : Nat) : Int) ((Z : Nat) : Int) ((L : Nat) : Int) ((m : Nat) : Int) s.base tid (.slice lo q lc)).toArray.all (·.oneCell') = true := dltC_one rfl; have hzs : zeroD.size = (dltC ((W : Nat) : Int) ((Z : Nat) : Int) ((L : Nat) : Int) ((m : Nat) : Int) s.base tid (.slice lo q lc)).toArray.size := (by rw [dltC_size s.hb htl]; exact dltC_size z32_len z32_len); have Hd := hide (And.intro hTm (And.intro hA hkd)); clear hrd hTm hA hkd)
  | refine wpList_store_rowTo rfl 34 (.tmp 7) (.tmp 30) rfl rfl wd.heap.size (dltC ((W : Nat) : Int) ((Z : Nat) : Int) ((L : Nat) : Int) ((m : Nat) : Int) s.base tid (.slice lo q lc)).toArray rfl rfl 34 zeroD hox hiD hzs haD ?_)
 have ke : Kept [] wd ((wd.alloc (.cells zeroD 34)).setRow wd.heap.size (dltC ((W : Nat) : Int) ((Z : Nat) : Int) ((L : Nat) : Int) ((m : Nat) : Int) s.base tid (.slice lo q lc)).toArray) := ((Kept.refl [] wd).alloc _).trans (kept_row _ wd.heap.size _) (fun i hi hl => by simp only [List.mem_singleton] at hi; omega)
 have hD : DltAt ((wd.alloc (.cells zeroD 34)).setRow wd.heap.size (dltC ((W : Nat) : Int) ((Z : Nat) : Int) ((L : Nat) : Int) ((m : Nat) : Int) s.base tid (.slice lo q lc)).toArray) wd.heap.size ((W : Nat) : Int) ((Z : Nat) : Int) ((L : Nat) : Int) ((m : Nat) : Int) s.base tid (.slice lo q lc) := ⟨setRow_heap _ _ _ _ _ _ hox, s.hb, htl⟩
 obtain ⟨D, hDD⟩ : ∃ D, wd.heap.size = D := ⟨_, rfl⟩
 rw [hDD] at ke hD ⊢
 have HKe := hide ((HKc.out.trans Hd.out.2.2 (by simp)).trans ke (by simp))
 have HAe := hide (Hd.out.2.1.kept ke (by simp))
 have HTM := hide Hd.out.1
 have HG := hide (((HG1.out.kept Hc.out.2 (by simp)).kept Hd.out.2.2 (by simp)).kept ke (by simp))
 clear hDD hox hiD haD hzs ke hzd Hd Hc HKc HG1
 generalize (wd.alloc (.cells zeroD 34)).setRow D (dltC ((W : Nat) : Int) ((Z : Nat) : Int) ((L : Nat) : Int) ((m : Nat) : Int) s.base tid (.slice lo q lc)).toArray = we at hD HKe HAe HG ⊢
 have HD := hide hD
 have d0 := hD.c (j := 0) rfl
 have d1 := hD.c (j := 1) rfl
 have d2 := hD.c (j := 2) rfl
 have d3 := hD.c (j := 3) rfl
 have g0 := HG.out.cell (Sig.c0 _ _)
 have g1 := HG.out.cell (Sig.c1 _ _)
 have g2 := HG.out.cell (Sig.c2 _ _)
 rw [hWn] at g0
 rw [hZn] at g1
 rw [hLn] at g2
 have hib := idlen s.hb
 have hit := idlen htl
 have hqb : ∀ X, (Op.equalIn 10000 23 (.agg (bys s.base).toArray) (.agg (bys s.base).toArray)).run Tryz.prog X = .ok true X := fun X => by rw [Tryz.eqlID s.base s.base s.hb s.hb X, decide_eq_true rfl]
 have hqt : ∀ X, (Op.equalIn 10000 23 (.agg (bys tid).toArray) (.agg (bys tid).toArray)).run Tryz.prog X = .ok true X := fun X => by rw [Tryz.eqlID tid tid htl htl X, decide_eq_true rfl]
 have HOF := hide (fun X (hX : Kept [] we X) => show Calls Tryz.prog 10 #[.int .i64 ((W : Nat) : Int), .slice bo m bc] X fun e w' => e = .returned (.agg (bys tid).toArray) ∧ Kept [] X w' by
  have h := rof_ok ((W : Nat) : Int) bo m bc ys X H2.out.len (by omega) (H2.out.sl.kept (HKe.out.trans hX (by simp)) (by simp)) H2.out.nil
  rw [show Sha.ident ((W : Nat) : Int) ys = tid by rw [← htid, hWn]] at h
  exact h)
 have HZN := hide hZn
 clear hD hWn hLn htid hZn
 refine wp_region_held_drew (S := fun w' => Kept [] we w') (by kernel_rfl) ((Kept.refl [] we).drew) (fun h0 => ?_)
 generalize World.drew we = v0 at h0  ⊢
 refine wpAnyH_take (i := 0) (v := .bool true) rfl (by kernel_rfl) (by kernel_rfl) (by kernel_rfl) (fun _ _ _ h => h) (Or.inl ⟨by rfl, fun w hSw => by go_simp⟩) h0 ?_
 try simp only [z1, z2, z3, z4, z5, z6, z7, z8]
 refine wpAnyH_take (i := 1) (v := .bool false) rfl (by kernel_rfl) (by kernel_rfl) (by kernel_rfl) (fun _ _ _ h => h) (Or.inl ⟨by rfl, fun w hSw => by go_simp⟩) h0 ?_
 try simp only [z1, z2, z3, z4, z5, z6, z7, z8]
 refine wpAnyH_take (i := 2) (v := .bool false) rfl (by kernel_rfl) (by kernel_rfl) (by kernel_rfl) (fun _ _ _ h => h) (Or.inl ⟨by rfl, fun w hSw => by go_simp⟩) h0 ?_
 try simp only [z1, z2, z3, z4, z5, z6, z7, z8]
 refine wpAnyH_take (i := 3) (v := .pointer (some ⟨D, 0, none⟩)) rfl (by kernel_rfl) (by kernel_rfl) (by kernel_rfl) (fun _ _ _ h => h) (Or.inl ⟨by rfl, fun w hSw => by go_simp⟩) h0 ?_
 try simp only [z1, z2, z3, z4, z5, z6, z7, z8]
 refine wpAnyH_take (i := 4) (v := .int .i64 ((W : Nat) : Int)) rfl (by kernel_rfl) (by kernel_rfl) (by kernel_rfl) (fun _ _ _ h => h) (Or.inl ⟨by rfl, fun w hSw => by have c0 := Kept.cellOf hSw d0 (by simp); go_simp⟩) h0 ?_
 try simp only [z1, z2, z3, z4, z5, z6, z7, z8]
 refine wpAnyH_take (i := 5) (v := .pointer (some ⟨G, 0, none⟩)) rfl (by kernel_rfl) (by kernel_rfl) (by kernel_rfl) (fun _ _ _ h => h) (Or.inl ⟨by rfl, fun w hSw => by go_simp⟩) h0 ?_
 try simp only [z1, z2, z3, z4, z5, z6, z7, z8]
 refine wpAnyH_take (i := 6) (v := .int .i64 ((W : Nat) : Int)) rfl (by kernel_rfl) (by kernel_rfl) (by kernel_rfl) (fun _ _ _ h => h) (Or.inl ⟨by rfl, fun w hSw => by have c0 := Kept.cellOf hSw g0 (by simp); go_simp⟩) h0 ?_
 try simp only [z1, z2, z3, z4, z5, z6, z7, z8]
 refine wpAnyH_take (i := 7) (v := .bool false) rfl (by kernel_rfl) (by kernel_rfl) (by kernel_rfl) (fun _ _ _ h => h) (Or.inl ⟨by rfl, fun w hSw => by go_simp⟩) h0 ?_
 try simp only [z1, z2, z3, z4, z5, z6, z7, z8]
 refine wpAnyH_take (i := 8) (v := .bool false) rfl (by kernel_rfl) (by kernel_rfl) (by kernel_rfl) (fun _ _ _ h => h) (Or.inl ⟨by rfl, fun w hSw => by go_simp⟩) h0 ?_
 try simp only [z1, z2, z3, z4, z5, z6, z7, z8]
 refine wpAnyH_take (i := 9) (v := .bool false) rfl (by kernel_rfl) (by kernel_rfl) (by kernel_rfl) (fun _ _ _ h => h) (Or.inl ⟨by rfl, fun w hSw => by go_simp⟩) h0 ?_
 try simp only [z1, z2, z3, z4, z5, z6, z7, z8]
 refine wpAnyH_take (i := 10) (v := .pointer (some ⟨D, 1, none⟩)) rfl (by kernel_rfl) (by kernel_rfl) (by kernel_rfl) (fun _ _ _ h => h) (Or.inl ⟨by rfl, fun w hSw => by go_simp⟩) h0 ?_
 try simp only [z1, z2, z3, z4, z5, z6, z7, z8]
 refine wpAnyH_take (i := 11) (v := .int .i64 ((Z : Nat) : Int)) rfl (by kernel_rfl) (by kernel_rfl) (by kernel_rfl) (fun _ _ _ h => h) (Or.inl ⟨by rfl, fun w hSw => by have c0 := Kept.cellOf hSw d1 (by simp); go_simp⟩) h0 ?_
 try simp only [z1, z2, z3, z4, z5, z6, z7, z8]
 refine wpAnyH_take (i := 12) (v := .pointer (some ⟨G, 1, none⟩)) rfl (by kernel_rfl) (by kernel_rfl) (by kernel_rfl) (fun _ _ _ h => h) (Or.inl ⟨by rfl, fun w hSw => by go_simp⟩) h0 ?_
 try simp only [z1, z2, z3, z4, z5, z6, z7, z8]
 refine wpAnyH_take (i := 13) (v := .int .i64 ((Z : Nat) : Int)) rfl (by kernel_rfl) (by kernel_rfl) (by kernel_rfl) (fun _ _ _ h => h) (Or.inl ⟨by rfl, fun w hSw => by have c0 := Kept.cellOf hSw g1 (by simp); go_simp⟩) h0 ?_
 try simp only [z1, z2, z3, z4, z5, z6, z7, z8]
 refine wpAnyH_take (i := 14) (v := .bool false) rfl (by kernel_rfl) (by kernel_rfl) (by kernel_rfl) (fun _ _ _ h => h) (Or.inl ⟨by rfl, fun w hSw => by go_simp⟩) h0 ?_
 try simp only [z1, z2, z3, z4, z5, z6, z7, z8]
 refine wpAnyH_take (i := 15) (v := .bool false) rfl (by kernel_rfl) (by kernel_rfl) (by kernel_rfl) (fun _ _ _ h => h) (Or.inl ⟨by rfl, fun w hSw => by go_simp⟩) h0 ?_
 try simp only [z1, z2, z3, z4, z5, z6, z7, z8]
 refine wpAnyH_take (i := 16) (v := .bool false) rfl (by kernel_rfl) (by kernel_rfl) (by kernel_rfl) (fun _ _ _ h => h) (Or.inl ⟨by rfl, fun w hSw => by go_simp⟩) h0 ?_
 try simp only [z1, z2, z3, z4, z5, z6, z7, z8]
 refine wpAnyH_take (i := 17) (v := .pointer (some ⟨D, 2, none⟩)) rfl (by kernel_rfl) (by kernel_rfl) (by kernel_rfl) (fun _ _ _ h => h) (Or.inl ⟨by rfl, fun w hSw => by go_simp⟩) h0 ?_
 try simp only [z1, z2, z3, z4, z5, z6, z7, z8]
 refine wpAnyH_take (i := 18) (v := .int .i64 ((L : Nat) : Int)) rfl (by kernel_rfl) (by kernel_rfl) (by kernel_rfl) (fun _ _ _ h => h) (Or.inl ⟨by rfl, fun w hSw => by have c0 := Kept.cellOf hSw d2 (by simp); go_simp⟩) h0 ?_
 try simp only [z1, z2, z3, z4, z5, z6, z7, z8]
 refine wpAnyH_take (i := 19) (v := .pointer (some ⟨G, 2, none⟩)) rfl (by kernel_rfl) (by kernel_rfl) (by kernel_rfl) (fun _ _ _ h => h) (Or.inl ⟨by rfl, fun w hSw => by go_simp⟩) h0 ?_
 try simp only [z1, z2, z3, z4, z5, z6, z7, z8]
 refine wpAnyH_take (i := 20) (v := .int .i64 ((L : Nat) : Int)) rfl (by kernel_rfl) (by kernel_rfl) (by kernel_rfl) (fun _ _ _ h => h) (Or.inl ⟨by rfl, fun w hSw => by have c0 := Kept.cellOf hSw g2 (by simp); go_simp⟩) h0 ?_
 try simp only [z1, z2, z3, z4, z5, z6, z7, z8]
 refine wpAnyH_take (i := 21) (v := .bool false) rfl (by kernel_rfl) (by kernel_rfl) (by kernel_rfl) (fun _ _ _ h => h) (Or.inl ⟨by rfl, fun w hSw => by go_simp⟩) h0 ?_
 try simp only [z1, z2, z3, z4, z5, z6, z7, z8]
 refine wpAnyH_take (i := 22) (v := .bool false) rfl (by kernel_rfl) (by kernel_rfl) (by kernel_rfl) (fun _ _ _ h => h) (Or.inl ⟨by rfl, fun w hSw => by go_simp⟩) h0 ?_
 try simp only [z1, z2, z3, z4, z5, z6, z7, z8]
 refine wpAnyH_take (i := 23) (v := .bool false) rfl (by kernel_rfl) (by kernel_rfl) (by kernel_rfl) (fun _ _ _ h => h) (Or.inl ⟨by rfl, fun w hSw => by go_simp⟩) h0 ?_
 try simp only [z1, z2, z3, z4, z5, z6, z7, z8]
 refine wpAnyH_take (i := 24) (v := .pointer (some ⟨D, 4, none⟩)) rfl (by kernel_rfl) (by kernel_rfl) (by kernel_rfl) (fun _ _ _ h => h) (Or.inl ⟨by rfl, fun w hSw => by go_simp⟩) h0 ?_
 try simp only [z1, z2, z3, z4, z5, z6, z7, z8]
 refine wpAnyH_take (i := 25) (v := .agg (bys s.base).toArray) rfl (by kernel_rfl) (by kernel_rfl) (by kernel_rfl) (fun _ _ _ h => h) (yieldsIf_load_mid (by rfl) _ _ rfl D 4 rfl (bys s.base) _ (fun W h => (HD.out.kept h (by simp)).sb) Tryz.underlying23 rfl hib) h0 ?_
 try simp only [z1, z2, z3, z4, z5, z6, z7, z8]
 refine wpAnyH_take (i := 26) (v := .pointer (some ⟨G, 3, none⟩)) rfl (by kernel_rfl) (by kernel_rfl) (by kernel_rfl) (fun _ _ _ h => h) (Or.inl ⟨by rfl, fun w hSw => by go_simp⟩) h0 ?_
 try simp only [z1, z2, z3, z4, z5, z6, z7, z8]
 refine wpAnyH_take (i := 27) (v := .agg (bys s.base).toArray) rfl (by kernel_rfl) (by kernel_rfl) (by kernel_rfl) (fun _ _ _ h => h) (yieldsIf_load_mid (by rfl) _ _ rfl G 3 rfl (bys s.base) _ (fun W h => (HG.out.kept h (by simp)).base) Tryz.underlying23 rfl hib) h0 ?_
 try simp only [z1, z2, z3, z4, z5, z6, z7, z8]
 refine wpAnyH_take (i := 28) (v := .bool false) rfl (by kernel_rfl) (by kernel_rfl) (by kernel_rfl) (fun _ _ _ h => h) (Or.inl ⟨by rfl, fun w hSw => by go_simp⟩) h0 ?_
 try simp only [z1, z2, z3, z4, z5, z6, z7, z8]
 refine wpAnyH_take (i := 29) (v := .bool false) rfl (by kernel_rfl) (by kernel_rfl) (by kernel_rfl) (fun _ _ _ h => h) (Or.inl ⟨by rfl, fun w hSw => by go_simp⟩) h0 ?_
 try simp only [z1, z2, z3, z4, z5, z6, z7, z8]
 refine wpAnyH_take (i := 30) (v := .bool false) rfl (by kernel_rfl) (by kernel_rfl) (by kernel_rfl) (fun _ _ _ h => h) (Or.inl ⟨by rfl, fun w hSw => by go_simp⟩) h0 ?_
 try simp only [z1, z2, z3, z4, z5, z6, z7, z8]
 refine wpAnyH_take (i := 31) (v := .pointer (some ⟨D, 3, none⟩)) rfl (by kernel_rfl) (by kernel_rfl) (by kernel_rfl) (fun _ _ _ h => h) (Or.inl ⟨by rfl, fun w hSw => by go_simp⟩) h0 ?_
 try simp only [z1, z2, z3, z4, z5, z6, z7, z8]
 refine wpAnyH_take (i := 32) (v := .int .i64 ((m : Nat) : Int)) rfl (by kernel_rfl) (by kernel_rfl) (by kernel_rfl) (fun _ _ _ h => h) (Or.inl ⟨by rfl, fun w hSw => by have c0 := Kept.cellOf hSw d3 (by simp); go_simp⟩) h0 ?_
 try simp only [z1, z2, z3, z4, z5, z6, z7, z8]
 refine wpAnyH_take (i := 33) (v := .slice bo m bc) rfl (by kernel_rfl) (by kernel_rfl) (by kernel_rfl) (fun _ _ _ h => h) (Or.inl ⟨by rfl, fun w hSw => by go_simp⟩) h0 ?_
 try simp only [z1, z2, z3, z4, z5, z6, z7, z8]
 refine wpAnyH_take (i := 34) (v := .int .i64 ((m : Nat) : Int)) rfl (by kernel_rfl) (by kernel_rfl) (by kernel_rfl) (fun _ _ _ h => h) (Or.inl ⟨by rfl, fun w hSw => by go_simp⟩) h0 ?_
 try simp only [z1, z2, z3, z4, z5, z6, z7, z8]
 refine wpAnyH_take (i := 35) (v := .bool false) rfl (by kernel_rfl) (by kernel_rfl) (by kernel_rfl) (fun _ _ _ h => h) (Or.inl ⟨by rfl, fun w hSw => by go_simp⟩) h0 ?_
 try simp only [z1, z2, z3, z4, z5, z6, z7, z8]
 refine wpAnyH_take (i := 36) (v := .bool false) rfl (by kernel_rfl) (by kernel_rfl) (by kernel_rfl) (fun _ _ _ h => h) (Or.inl ⟨by rfl, fun w hSw => by go_simp⟩) h0 ?_
 try simp only [z1, z2, z3, z4, z5, z6, z7, z8]
 refine wpAnyH_take (i := 37) (v := .bool false) rfl (by kernel_rfl) (by kernel_rfl) (by kernel_rfl) (fun _ _ _ h => h) (Or.inl ⟨by rfl, fun w hSw => by go_simp⟩) h0 ?_
 try simp only [z1, z2, z3, z4, z5, z6, z7, z8]
 refine wpAnyH_take (i := 38) (v := .pointer (some ⟨D, 36, none⟩)) rfl (by kernel_rfl) (by kernel_rfl) (by kernel_rfl) (fun _ _ _ h => h) (Or.inl ⟨by rfl, fun w hSw => by go_simp⟩) h0 ?_
 try simp only [z1, z2, z3, z4, z5, z6, z7, z8]
 refine wpAnyH_take (i := 39) (v := .agg (bys tid).toArray) rfl (by kernel_rfl) (by kernel_rfl) (by kernel_rfl) (fun _ _ _ h => h) (yieldsIf_load_mid (by rfl) _ _ rfl D 36 rfl (bys tid) _ (fun W h => (HD.out.kept h (by simp)).st) Tryz.underlying23 rfl hit) h0 ?_
 try simp only [z1, z2, z3, z4, z5, z6, z7, z8]
 refine wpAnyH_take (i := 40) (v := .pointer (some ⟨G, 0, none⟩)) rfl (by kernel_rfl) (by kernel_rfl) (by kernel_rfl) (fun _ _ _ h => h) (Or.inl ⟨by rfl, fun w hSw => by go_simp⟩) h0 ?_
 try simp only [z1, z2, z3, z4, z5, z6, z7, z8]
 refine wpAnyH_take (i := 41) (v := .int .i64 ((W : Nat) : Int)) rfl (by kernel_rfl) (by kernel_rfl) (by kernel_rfl) (fun _ _ _ h => h) (Or.inl ⟨by rfl, fun w hSw => by have c0 := Kept.cellOf hSw g0 (by simp); go_simp⟩) h0 ?_
 try simp only [z1, z2, z3, z4, z5, z6, z7, z8]
 refine wpAnyH_take (i := 42) (v := .slice bo m bc) rfl (by kernel_rfl) (by kernel_rfl) (by kernel_rfl) (fun _ _ _ h => h) (Or.inl ⟨by rfl, fun w hSw => by go_simp⟩) h0 ?_
 try simp only [z1, z2, z3, z4, z5, z6, z7, z8]
 refine wpAnyH_ready (rs := [43]) (by kernel_rfl) (by simp) (AllReadyH.cons (i := 43) rfl (fun K hK => ?_) AllReadyH.nil)
 rw [if_pos (by rfl)]
 go_simp
 refine (HOF.out v0 h0).mono ?_
 rintro e v1 ⟨rfl, hk43⟩
 refine hK.out _ _ (h0.trans hk43 (by simp)) (fun h1 => ?_)
 clear hK K
 try simp only [z1, z2, z3, z4, z5, z6, z7, z8]
 clear hk43 h0
 refine wpAnyH_take (i := 44) (v := .bool false) rfl (by kernel_rfl) (by kernel_rfl) (by kernel_rfl) (fun _ _ _ h => h) (Or.inl ⟨by rfl, fun w hSw => by go_simp⟩) h1 ?_
 try simp only [z1, z2, z3, z4, z5, z6, z7, z8]
 refine wpAnyH_take (i := 45) (v := .bool false) rfl (by kernel_rfl) (by kernel_rfl) (by kernel_rfl) (fun _ _ _ h => h) (Or.inl ⟨by rfl, fun w hSw => by go_simp⟩) h1 ?_
 try simp only [z1, z2, z3, z4, z5, z6, z7, z8]
 refine wpAnyH_done (by kernel_rfl) ?_ _
 have HK9 := hide (HKe.out.trans h1 (by simp))
 have HD9 := hide (HD.out.kept h1 (by simp))
 have HG9 := hide (HG.out.kept h1 (by simp))
 have HA9 := hide (HAe.out.kept h1 (by simp))
 clear h1 HOF d0 d1 d2 d3 g0 g1 g2 hib hit hqb hqt HD HG HAe HKe
 have HQT : Hid (T.length = q) := by show _ = _; rw [← HQ.out, ← HTM.out, List.length_map]
 go_wp2
 go_loopw [9, 10] (fun x y wr => ∃ (i p : Nat) (pl : Bool), i ≤ q ∧ p ≤ m ∧ x = .int .i64 p ∧ y = .int .i64 i ∧ Hid (Kept [] v1 wr ∧ goodS s.width Z s.blocks pl (St.drop i) (ys.drop p) ∧ (pl = false → i = 0 ∨ ∃ f c, St[i - 1]? = some (.copy f c) ∧ 1 ≤ c))) (fun x y wr => q - (intOf y).toNat)
 case atStart => exact ⟨0, 0, false, Nat.zero_le _, Nat.zero_le _, rfl, rfl, ⟨Kept.refl _ _, by simpa using HGD.out, fun _ => .inl rfl⟩⟩
 case round =>
  obtain ⟨i, p, pl, hi, hp, rfl, rfl, HP⟩ := hrel
  have HKr := hide (HK9.out.trans HP.out.1 (by simp))
  have HDr := hide (HD9.out.kept HP.out.1 (by simp))
  have HGr := hide (HG9.out.kept HP.out.1 (by simp))
  have hAr := HA9.out.kept HP.out.1 (by simp)
  have cv := HDr.out.cv
  by_cases hlt : i < q
  ·obtain ⟨x, hx⟩ : ∃ x, T[i]? = some x := ⟨_, List.getElem?_eq_getElem (by rw [HQT.out]; exact hlt)⟩
   obtain ⟨g, rfl, hgb, hgl, hrg⟩ := hAr.cell hx
   have hsk : St[i]? = some x.s := by rw [← HTM.out, List.getElem?_map, hx]; rfl
   have hdr : St.drop i = x.s :: St.drop (i + 1) := by
    rw [List.drop_eq_getElem_cons (List.getElem?_eq_some_iff.1 hsk).1]
    congr 1
    exact (List.getElem?_eq_some_iff.1 hsk).2
   have hgd := HP.out.2.1
   rw [hdr] at hgd
   obtain ⟨hin, _⟩ := hAr.lit x (List.mem_of_getElem? hx)
   have hprev : ∀ f c, St[i - 1]? = some (.copy f c) → i ≠ 0 → wr.cell? ⟨g, (i - 1) * 3 + 1, none⟩ = some (.int .i64 ((c : Nat) : Int)) := fun f c hs hne => by
    obtain ⟨y, hy⟩ : ∃ y, T[i - 1]? = some y := ⟨_, List.getElem?_eq_getElem (by rw [HQT.out]; omega)⟩
    obtain ⟨g', eg, _, _, hr'⟩ := hAr.cell hy
    injection eg with eg
    injection eg with eg
    subst eg
    have hys : y.s = .copy f c := by
     have : St[i - 1]? = some y.s := by rw [← HTM.out, List.getElem?_map, hy]; rfl
     rw [hs] at this; injection this with this; exact this.symm
    exact hr' 1 _ (by unfold Stc.cells; rw [hys]; rfl)
   have HPV := hide hprev
   have HSK := hide hsk
   obtain ⟨xo, xn, xp, hxo, hxn, hxp⟩ : ∃ xo xn xp, x.ao = xo ∧ x.n = xn ∧ x.cap = xp := ⟨_, _, _, rfl, rfl, rfl⟩
   have hcs : x.cells = stp3 ((stF x.s : Nat) : Int) ((stN x.s : Nat) : Int) (.slice xo xn xp) := by unfold Stc.cells; rw [hxo, hxn, hxp]
   rw [hcs] at hrg
   rw [hxo, hxn, hxp] at hin
   have HXI := hide hin
   have hzx := Tryz.zeroStp
   have hox := heap_new wr (.cells (stp3 0 0 (.slice none 0 0)).toArray 39)
   have hib : i < 9223372036854775807 := by omega
   clear hdr hprev hsk hcs hxo hxn hxp hin hgb hgl hAr hx
   cases hxs : x.s with
   | copy f c =>
    rw [hxs] at hgd hrg
    have HXS := hide (show St[i]? = some (.copy f c) by rw [HSK.out, hxs])
    have hxb : stB x.s = [] := by rw [hxs]; rfl
    have hxn0 : xn = 0 := by have := HXI.out.len; rw [hxb] at this; exact this.symm
    subst hxn0
    obtain ⟨hc1, hfc, hcz, hyes, hno, hnext⟩ := hgd
    rw [HI.out.len] at hfc
    rw [List.length_drop, H2.out.len] at hcz
    obtain ⟨cz, hczz⟩ : ∃ cz, c * Z = cz := ⟨_, rfl⟩
    have hwc : IntKind.i64.wrap ((c : Int) * (Z : Int)) = (cz : Int) := by rw [← hczz, ← Int.natCast_mul]; exact wrap64 (by omega) (by rw [hczz]; omega)
    rw [List.drop_drop] at hnext
    rw [hczz] at hcz hnext
    have hrg2 : wr.rangeAt g (i * 3) (stp3 ((f : Nat) : Int) ((c : Nat) : Int) (.slice xo 0 xp)) := hrg
    have hi3 := Tryz.infoStp ((f : Nat) : Int) ((c : Nat) : Int) (.slice xo 0 xp)
    have hiA := Tryz.infoStpA ((f : Nat) : Int) ((c : Nat) : Int) (.slice xo 0 xp)
    have haS := stp3_all ((f : Nat) : Int) ((c : Nat) : Int) (.slice xo 0 xp) rfl
    have HYN := hide (And.intro hyes (And.intro hno hnext))
    have HCC := hide hczz
    clear hrg hyes hno hnext hxs hxb hczz
    go_upto_region 14 with (first
     | refine wpList_load_mid rfl 39 (.tmp 88) rfl g (i * 3) rfl (stp3 ((f : Nat) : Int) ((c : Nat) : Int) (.slice xo 0 xp)) _ hrg2 Tryz.underlying39 rfl hi3 ?_
     | refine wpList_store_rowTo rfl 39 (.tmp 11) (.tmp 89) rfl rfl wr.heap.size (stp3 ((f : Nat) : Int) ((c : Nat) : Int) (.slice xo 0 xp)).toArray rfl rfl 39 (stp3 0 0 (.slice none 0 0)).toArray hox hiA rfl haS ?_)
    have ky : Kept [] wr ((wr.alloc (.cells (stp3 0 0 (.slice none 0 0)).toArray 39)).setRow wr.heap.size (stp3 ((f : Nat) : Int) ((c : Nat) : Int) (.slice xo 0 xp)).toArray) := ((Kept.refl [] wr).alloc _).trans (kept_row _ wr.heap.size _) (fun i hi hl => by simp only [List.mem_singleton] at hi; omega)
    have hXA : ((wr.alloc (.cells (stp3 0 0 (.slice none 0 0)).toArray 39)).setRow wr.heap.size (stp3 ((f : Nat) : Int) ((c : Nat) : Int) (.slice xo 0 xp)).toArray).heap[wr.heap.size]? = some (.cells (stp3 ((f : Nat) : Int) ((c : Nat) : Int) (.slice xo 0 xp)).toArray 39 (0, 0)) := setRow_heap _ _ _ _ _ _ hox
    obtain ⟨X, hX⟩ : ∃ X, wr.heap.size = X := ⟨_, rfl⟩
    rw [hX] at hXA ky ⊢
    have HXA := hide hXA
    have HKw := hide ky
    have HKy := hide (HKr.out.trans ky (by simp))
    have HGy := hide (HGr.out.kept ky (by simp))
    have cvy := HKw.out.cellOf cv (by simp)
    have HPy := hide (HP.out.1.trans ky (by simp))
    clear hX hox hiA haS hzx hXA ky hrg2 hi3 cv HP HGr HDr
    generalize (wr.alloc (.cells (stp3 0 0 (.slice none 0 0)).toArray 39)).setRow X (stp3 ((f : Nat) : Int) ((c : Nat) : Int) (.slice xo 0 xp)).toArray = y1 at HXA HKw HKy HGy HPy cvy ⊢
    have g1 := (HGy.out).cell (Sig.c1 _ _)
    rw [HZN.out] at g1
    have x1 : y1.cell? ⟨X, 1, none⟩ = some (.int .i64 ((c : Nat) : Int)) := by rw [cell_of_row _ _ _ _ _ _ HXA.out]; rfl
    have x2 : y1.cell? ⟨X, 2, none⟩ = some (.slice xo 0 xp) := by rw [cell_of_row _ _ _ _ _ _ HXA.out]; rfl
    have hw1 : IntKind.i64.wrap ((0 : Int) + (cz : Int)) = (cz : Int) := by rw [Int.zero_add]; exact wrap64 (by omega) (by omega)
    have hw1b : IntKind.i64.wrap (cz : Int) = (cz : Int) := wrap64 (by omega) (by omega)
    have hw2 : IntKind.i64.wrap ((p : Int) + (cz : Int)) = (p : Int) + (cz : Int) := wrap64 (by omega) (by omega)
    have hng : ¬ (m : Int) < (p : Int) + (cz : Int) := by omega
    have hc0 : (((c : Nat) : Int) == 0) = false := by simp; omega
    have hcp : (0 : Int) < ((c : Nat) : Int) := by omega
    have hcn : 0 < c := by omega
    have hcn0 : ¬ c = 0 := by omega
    obtain ⟨co, cc, hcut, hcin⟩ := cut_both (H2.out.in8.kept HKy.out) p (p + cz) cz rfl (by omega)
    rw [show ((p + cz : Nat) : Int) = (p : Int) + (cz : Int) by omega] at hcut
    have hcp2 := fun X (hX : Kept [] y1 X) => copies18_ok s ao n cap Z HZN.out hz1 hz2 f c (.slice xo 0 xp) co cz cc ((ys.drop p).take cz) X (HI.out.kept (HKy.out.trans hX (by simp))) hnf (hcin.kept hX) (by omega) hc1 hfc (by rw [HCC.out]; exact Nat.le_refl _) (fun k hk => by
      have h := HYN.out.1 k hk
      rw [h]
      congr 1
      have h3 : (k + 1) * Z ≤ c * Z := Nat.mul_le_mul_right _ hk
      rw [Nat.add_mul, Nat.one_mul, HCC.out] at h3
      rw [List.drop_take, List.take_take, Nat.min_eq_left (by omega)]) (fun j hj => by
      have h := HYN.out.2.1 j hj
      have h3 : 1 * Z ≤ c * Z := Nat.mul_le_mul_right _ hc1
      rw [Nat.one_mul, HCC.out] at h3
      rw [List.take_take, Nat.min_eq_left h3]
      exact h)
    have hcp3 := hcp2 y1 (Kept.refl _ _)
    have hrs := HGy.out.range
    have hils := Tryz.infoSig s (.slice ao n cap)
    have hrx := range_row HXA.out
    clear hcp2 hcin
    by_cases hi0 : i = 0
    ·subst hi0
     as_aux_lemma =>
      go_upto_region 20 with (fail)
      go_upto_region 22 with (first
       | (refine wpList_load_midW 26 (.tmp 2) rfl G 0 rfl (s.cells (.slice ao n cap)) _ hrs Tryz.underlying26 rfl hils (by go_simp) ?_; try simp only [z4, z5, z6, z7, z8])
       | (refine wpList_load_midW 39 (.tmp 11) rfl X 0 rfl (stp3 ((f : Nat) : Int) ((c : Nat) : Int) (.slice xo 0 xp)) _ hrx Tryz.underlying39 rfl (Tryz.infoStp _ _ _) (by go_simp) ?_; try simp only [z4, z5, z6, z7, z8]))
      refine hcp3.mono ?_
      rintro r yz ⟨rfl, hkz⟩
      have HZ := hide hkz
      clear hcp3 hkz
      go_upto_region 22 with (fail)
      clear hrs hrx hcut g1 x1 x2 cvy
      go_wp2
      go_roundw
      case rel => exact ⟨0 + 1, p + cz, false, by omega, by omega, by go_num, by go_num, HPy.out.trans HZ.out (by simp), HYN.out.2.2, fun _ => .inr ⟨f, c, by simpa using HXS.out, hc1⟩⟩
      case measure => simp [intOf]; omega
    ·have hi1 : (0 : Int) < (i : Int) := by omega
     have hi1n : 0 < i := by omega
     as_aux_lemma =>
      go_upto_region 20 with (fail)
      go_upto_region 22 with (first
       | (refine wpList_load_midW 26 (.tmp 2) rfl G 0 rfl (s.cells (.slice ao n cap)) _ hrs Tryz.underlying26 rfl hils (by go_simp) ?_; try simp only [z4, z5, z6, z7, z8])
       | (refine wpList_load_midW 39 (.tmp 11) rfl X 0 rfl (stp3 ((f : Nat) : Int) ((c : Nat) : Int) (.slice xo 0 xp)) _ hrx Tryz.underlying39 rfl (Tryz.infoStp _ _ _) (by go_simp) ?_; try simp only [z4, z5, z6, z7, z8]))
      refine hcp3.mono ?_
      rintro r yz ⟨rfl, hkz⟩
      have HZ := hide hkz
      clear hcp3 hkz
      go_upto_region 22 with (fail)
      clear hrs hrx hcut g1 x1 x2 cvy
      go_wp2
      go_roundw
      case rel => exact ⟨i + 1, p + cz, false, by omega, by omega, by go_num, by go_num, HPy.out.trans HZ.out (by simp), HYN.out.2.2, fun _ => .inr ⟨f, c, by simpa using HXS.out, hc1⟩⟩
      case measure => simp [intOf]; omega
   | lit bs =>
    rw [hxs] at hgd hrg
    have HXS := hide (show St[i]? = some (.lit bs) by rw [HSK.out, hxs])
    have hxb : stB x.s = bs := by rw [hxs]; rfl
    have hxn0 : bs.length = xn := by have := HXI.out.len; rw [hxb] at this; exact this
    have hbin := HXI.out
    rw [hxb] at hbin
    obtain ⟨hpl, hne, hble, hbe, hno, hnext⟩ := hgd
    rw [List.length_drop, H2.out.len, hxn0] at hble
    rw [hxn0] at hbe hnext
    rw [List.drop_drop] at hnext
    have hrg2 : wr.rangeAt g (i * 3) (stp3 0 0 (.slice xo xn xp)) := hrg
    have hi3 := Tryz.infoStp 0 0 (.slice xo xn xp)
    have hiA := Tryz.infoStpA 0 0 (.slice xo xn xp)
    have haS := stp3_all 0 0 (.slice xo xn xp) rfl
    have hpv := HP.out.2.2 hpl
    have HYN := hide (And.intro hno (And.intro hbe hnext))
    have HBI := hide hbin
    have hxnp : xn ≠ 0 := by rw [← hxn0]; intro h; exact hne (List.length_eq_zero_iff.1 h)
    have HXN := hide hxn0
    clear hrg hno hnext hxs hxb hbin hbe hxn0 hne
    go_upto_region 14 with (first
     | refine wpList_load_mid rfl 39 (.tmp 88) rfl g (i * 3) rfl (stp3 0 0 (.slice xo xn xp)) _ hrg2 Tryz.underlying39 rfl hi3 ?_
     | refine wpList_store_rowTo rfl 39 (.tmp 11) (.tmp 89) rfl rfl wr.heap.size (stp3 0 0 (.slice xo xn xp)).toArray rfl rfl 39 (stp3 0 0 (.slice none 0 0)).toArray hox hiA rfl haS ?_)
    have ky : Kept [] wr ((wr.alloc (.cells (stp3 0 0 (.slice none 0 0)).toArray 39)).setRow wr.heap.size (stp3 0 0 (.slice xo xn xp)).toArray) := ((Kept.refl [] wr).alloc _).trans (kept_row _ wr.heap.size _) (fun i hi hl => by simp only [List.mem_singleton] at hi; omega)
    have hXA : ((wr.alloc (.cells (stp3 0 0 (.slice none 0 0)).toArray 39)).setRow wr.heap.size (stp3 0 0 (.slice xo xn xp)).toArray).heap[wr.heap.size]? = some (.cells (stp3 0 0 (.slice xo xn xp)).toArray 39 (0, 0)) := setRow_heap _ _ _ _ _ _ hox
    obtain ⟨X, hX⟩ : ∃ X, wr.heap.size = X := ⟨_, rfl⟩
    rw [hX] at hXA ky ⊢
    have HXA := hide hXA
    have HKw := hide ky
    have HKy := hide (HKr.out.trans ky (by simp))
    have HGy := hide (HGr.out.kept ky (by simp))
    have cvy := HKw.out.cellOf cv (by simp)
    have HPy := hide (HP.out.1.trans ky (by simp))
    clear hX hox hiA haS hzx hXA ky hrg2 hi3 cv HP HGr HDr
    generalize (wr.alloc (.cells (stp3 0 0 (.slice none 0 0)).toArray 39)).setRow X (stp3 0 0 (.slice xo xn xp)).toArray = y1 at HXA HKw HKy HGy HPy cvy ⊢
    have g1 := (HGy.out).cell (Sig.c1 _ _)
    rw [HZN.out] at g1
    have x1 : y1.cell? ⟨X, 1, none⟩ = some (.int .i64 0) := by rw [cell_of_row _ _ _ _ _ _ HXA.out]; rfl
    have x2 : y1.cell? ⟨X, 2, none⟩ = some (.slice xo xn xp) := by rw [cell_of_row _ _ _ _ _ _ HXA.out]; rfl
    have hw1b : IntKind.i64.wrap (xn : Int) = (xn : Int) := wrap64 (by omega) (by omega)
    have hw2 : IntKind.i64.wrap ((p : Int) + (xn : Int)) = (p : Int) + (xn : Int) := wrap64 (by omega) (by omega)
    have hng : ¬ (m : Int) < (p : Int) + (xn : Int) := by omega
    obtain ⟨co, cc, hcut, hcin⟩ := cut_both (H2.out.in8.kept HKy.out) p (p + xn) xn rfl (by omega)
    rw [show ((p + xn : Nat) : Int) = (p : Int) + (xn : Int) by omega] at hcut
    rw [← HYN.out.2.1] at hcin
    have hlt3 := literal18_ok s ao n cap Z HZN.out hz1 hz2 xo xp co xn cc bs y1 (HI.out.kept HKy.out) hnf (HBI.out.kept HKw.out) hcin (by omega) (fun q hq => HYN.out.1 q (by rw [HXN.out]; exact hq))
    have hrs := HGy.out.range
    have hils := Tryz.infoSig s (.slice ao n cap)
    clear hcin
    by_cases hi0 : i = 0
    ·subst hi0
     as_aux_lemma =>
      go_upto_region 18 with (fail)
      go_upto_region 22 with (first
       | (refine wpList_load_midW 26 (.tmp 2) rfl G 0 rfl (s.cells (.slice ao n cap)) _ hrs Tryz.underlying26 rfl hils (by go_simp) ?_; try simp only [z4, z5, z6, z7, z8]))
      refine hlt3.mono ?_
      rintro r yz ⟨rfl, hkz⟩
      have x1z := hkz.cellOf x1 (by simp)
      have HZ := hide hkz
      clear hlt3 hkz
      go_upto_region 22 with (fail)
      clear hrs hcut g1 x1 x1z x2 cvy
      go_wp2
      go_roundw
      case rel => exact ⟨0 + 1, p + xn, true, by omega, by omega, by go_num, by go_num, HPy.out.trans HZ.out (by simp), HYN.out.2.2, fun h => by cases h⟩
      case measure => simp [intOf]; omega
    ·have hi1 : (0 : Int) < (i : Int) := by omega
     have hi1n : 0 < i := by omega
     obtain ⟨f', c', hs', hc'⟩ : ∃ f c, St[i - 1]? = some (.copy f c) ∧ 1 ≤ c := by
      rcases hpv with h | h
      ·exact absurd h hi0
      ·exact h
     have cp := HKw.out.cellOf (HPV.out f' c' hs' hi0) (by simp)
     have hcz0 : (((c' : Nat) : Int) == 0) = false := by simp; omega
     obtain ⟨i1, hi1e⟩ : ∃ i1, i = i1 + 1 := ⟨i - 1, by omega⟩
     subst hi1e
     rw [Nat.add_sub_cancel] at cp
     have hsub : IntKind.i64.wrap (((i1 + 1 : Nat) : Int) - 1) = (i1 : Int) := by rw [wrap64 (by omega) (by omega)]; omega
     have hi1q : i1 < q := by omega
     as_aux_lemma =>
      go_upto_region 18 with (fail)
      go_upto_region 22 with (first
       | (refine wpList_load_midW 26 (.tmp 2) rfl G 0 rfl (s.cells (.slice ao n cap)) _ hrs Tryz.underlying26 rfl hils (by go_simp) ?_; try simp only [z4, z5, z6, z7, z8]))
      refine hlt3.mono ?_
      rintro r yz ⟨rfl, hkz⟩
      have x1z := hkz.cellOf x1 (by simp)
      have HZ := hide hkz
      clear hlt3 hkz
      go_upto_region 22 with (fail)
      clear hrs hcut g1 x1 x1z x2 cvy
      go_wp2
      go_roundw
      case rel => exact ⟨i1 + 1 + 1, p + xn, true, by omega, by omega, by go_num, by go_num, HPy.out.trans HZ.out (by simp), HYN.out.2.2, fun h => by cases h⟩
      case measure => simp [intOf]; omega
  ·obtain rfl : i = q := by omega
   have hgd := HP.out.2.1
   rw [List.drop_of_length_le (by rw [HQ.out]; exact Nat.le_refl _)] at hgd
   have hpm : p = m := by
    have h1 : ys.drop p = [] := hgd
    have := congrArg List.length h1
    rw [List.length_drop, H2.out.len] at this
    simp at this
    omega
   subst hpm
   clear hgd HP hAr
   go_wp2
   go_ret
   exact ⟨rfl, HKr.out.below0⟩
theorem least18_walk (s : Sig) (ao : Option Addr) (n cap : Nat) (bo : Option Addr) (m bc : Nat) (ys : List UInt8) (w : World) (hI : SigIn w s ao n cap) (_ : ao = none → n = 0 ∧ cap = 0) (_ : n ≤ 3518437208782) (h2 : InB w bo m bc ys) :
  Calls Tryz.prog 3 #[.agg (s.cells (.slice ao n cap)).toArray, .slice bo m bc] w fun e w' => e = .returned (.bool true) ∧ Below w.heap.size w w' := by
 by_cases hm : makeE s ys = 0
 ·exact least18_ok s ao n cap bo m bc ys w hI h2 hm
 ·exact least18_bad s ao n cap bo m bc ys w hI h2 hm
end Go.Proofs.YtmklodligplbaabGreat
