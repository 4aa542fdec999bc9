/-
  BlockOwn: Book.take. (Written by tools/cc.py.)
-/
import Derived.Test.YtdnbpklnkmgmkaaDa
namespace Go.Proofs.Ytdnbpklnkmgmkaa
open Go.RowKit
set_option linter.unusedVariables false
set_option linter.unusedSimpArgs false

set_option maxHeartbeats 4000000 in
set_option maxRecDepth 100000 in
theorem take_ok {w : World} {B K m : Nat} {h lf : Nat → Rw} {en : Nat → Nat} {E : Nat} {R1 R2 : Rw} {i : Nat} (hb : Bok w B K R1 R2) (H : Half 5 74 1 B w m h lf en E mkvB R1) (hi : i < m) (hl : lf i = h i) (hne : ∀ k, k < E → en k ≠ i) (hE : E ≤ 100000000) (hn : (h i).n ≤ 1000000) (hB : B ≤ w.heap.size) :
    Calls Try.prog 22 #[.pointer (some ⟨K, 0, none⟩), (h i).val] w fun e w' => e = .returned (.tuple #[]) ∧ ∃ R1', Bok w' B K R1' R2 ∧ Half 5 74 1 B w' m (upr h i (markB (h i) (mkB E))) (upr lf i (markB (h i) (mkB E))) (updN en E i) (E + 1) mkvB R1' ∧ Chg [5, 74, 60] B w w' := by
  have hvl : (h i).vs.length = (h i).n := by have := (H.fam.fam.own i hi).1; rw [Nat.mul_one] at this; exact this
  obtain ⟨ao, hao⟩ : ∃ ao, (h i).o = ao := ⟨_, rfl⟩
  obtain ⟨n, hnn⟩ : ∃ n, (h i).n = n := ⟨_, rfl⟩
  obtain ⟨cap, hcap⟩ : ∃ cap, (h i).c = cap := ⟨_, rfl⟩
  have hval : (h i).val = .slice ao n cap := by unfold Rw.val; rw [hao, hnn, hcap]
  obtain ⟨ro, hro⟩ : ∃ ro, R1.o = ro := ⟨_, rfl⟩
  obtain ⟨rc, hrc⟩ : ∃ rc, R1.c = rc := ⟨_, rfl⟩
  have hrv : R1.val = .slice ro E rc := by unfold Rw.val; rw [hro, hrc, H.rn]
  have HRV := hide hrv
  have HRN := hide H.rn
  obtain ⟨x, hx⟩ : ∃ x, mkB E = x := ⟨_, rfl⟩
  have hmv : 1 + 2 * ((E : Int) % 100) = (x : Int) := by rw [← hx]; unfold mkB; omega
  have hmb : x < 256 := by have := mkB_lt E; omega
  have k0 : w.cell? ⟨K, 0, none⟩ = some (.slice ro E rc) := by rw [cell_of_row _ _ _ _ _ _ hb.cell, ← hrv]; rfl
  have hz := Try.zeroRow11
  have HH := hide H
  have HB := hide hb
  have HX := hide hx
  have HBB0 := hide hB
  have HVAL := hide hval
  have HO : Hid ((h i).o = ao) := hao
  have HNN : Hid ((h i).n = n) := hnn
  rw [hval]
  rw [hnn] at hn hvl
  rw [hx]
  have HVL := hide hvl
  have HI : Hid (Tk w (w.alloc (.cells #[.slice ao n cap, .slice ao n cap, .int .u8 (x : Nat)] 74)) B K w.heap.size m h lf en E R1 R2 i x 0) := by
    have hk := (Kept.refl [] w).alloc (.cells #[.slice ao n cap, .slice ao n cap, .int .u8 (x : Nat)] 74)
    refine ⟨?_, (H.kept hk).row, hb.kept hk (by simp), ?_, Chg.kept hk hB⟩
    · rw [ovB_zero, upr_self rfl, upr_self hl]
      exact (H.kept hk).fam
    · rw [hval]
      exact heap_new _ _
  clear H hb hx hB hval hao hnn hcap hro hrc hrv hvl
  go_enter Try.func22, Try.ntmps22
  go_wp2
  have HBB1 : Hid (B ≤ (w.alloc (.cells #[.slice ao n cap, .slice ao n cap, .int .u8 (x : Nat)] 74)).heap.size) := Nat.le_trans HBB0.out ((Kept.refl [] w).alloc (.cells #[.slice ao n cap, .slice ao n cap, .int .u8 (x : Nat)] 74)).size
  generalize w.alloc (.cells #[.slice ao n cap, .slice ao n cap, .int .u8 (x : Nat)] 74) = w1 at HI HBB1 ⊢
  generalize w.heap.size = gX at HI ⊢
  clear hz k0 hmv
  go_loopw [5] (fun y wr => ∃ k : Nat, k ≤ n ∧ y = .int .i64 k ∧ Hid (Tk w wr B K gX m h lf en E R1 R2 i x k) ∧ Hid (B ≤ wr.heap.size)) (fun y wr => n - (intOf y).toNat)
  case atStart => exact ⟨0, Nat.zero_le _, rfl, HI, HBB1⟩
  case round =>
    clear HI HBB1
    obtain ⟨k, hk, rfl, HT, HBB⟩ := hrel
    have hxr := HT.out.xr
    rw [HVAL.out] at hxr
    by_cases hlt : k < n
    · as_aux_lemma =>
      obtain ⟨g, hgo, ⟨u, hu⟩, hfz, hst⟩ := HT.out.step hi hl (by rw [HVL.out, HNN.out]) (by rw [HNN.out]; exact hlt) HBB.out
      rw [HO.out] at hgo
      subst hgo
      have x2 : wr.cell? ⟨gX, 2, none⟩ = some (.int .u8 (x : Nat)) := by rw [cell_of_row _ _ _ _ _ _ hxr]; rfl
      have HST := hide hst
      have HBB2 : Hid (B ≤ (wr.setCell ⟨g, k, none⟩ (.int .u8 (x : Nat))).heap.size) := by show _ ≤ _; simp; exact HBB.out
      clear hst hxr HT HBB
      go_wp2
      go_roundw
      case rel => exact ⟨k + 1, by omega, by go_num, HST, HBB2⟩
      case measure => simp [intOf]; omega
    · as_aux_lemma =>
      obtain rfl : k = n := by omega
      have k0 : wr.cell? ⟨K, 0, none⟩ = some (.slice ro E rc) := by rw [cell_of_row _ _ _ _ _ _ HT.out.bok.cell, ← HRV.out]; rfl
      have hrx : wr.rangeAt gX 0 [.slice ao k cap, .slice ao k cap, .int .u8 (x : Nat)] := fun j v hv => by rw [Nat.zero_add, cell_of_row _ _ _ _ _ _ hxr, List.getElem?_toArray]; exact hv
      go_upto_region 5 with (fail)
      refine wp_region_late (fun w' => Kept [] wr w') (fun i => i == 7 || i == 10) (by kernel_rfl) ?_
      have h0 : Kept [] wr wr.drew := (Kept.refl [] wr).drew
      generalize World.drew wr = v0 at h0 ⊢
      refine wpAnyL_free (i := 0) (v := .pointer (some ⟨K, 0, none⟩)) rfl (by kernel_rfl) (by kernel_rfl) (by kernel_rfl) (fun _ _ _ h => h) (Or.inl ⟨by rfl, fun w _ => by go_simp⟩) ?_
      try simp only [List.getElem_toArray, List.getElem_cons_zero, List.getElem_cons_succ, Act.put, List.setIfInBounds_toArray, List.set_cons_zero, List.set_cons_succ]
      refine wpAnyL_free (i := 1) (v := .pointer (some ⟨K, 0, none⟩)) rfl (by kernel_rfl) (by kernel_rfl) (by kernel_rfl) (fun _ _ _ h => h) (Or.inl ⟨by rfl, fun w _ => by go_simp⟩) ?_
      try simp only [List.getElem_toArray, List.getElem_cons_zero, List.getElem_cons_succ, Act.put, List.setIfInBounds_toArray, List.set_cons_zero, List.set_cons_succ]
      refine wpAnyL_free (i := 2) (v := .pointer (some ⟨K, 0, none⟩)) rfl (by kernel_rfl) (by kernel_rfl) (by kernel_rfl) (fun _ _ _ h => h) (Or.inl ⟨by rfl, fun w _ => by go_simp⟩) ?_
      try simp only [List.getElem_toArray, List.getElem_cons_zero, List.getElem_cons_succ, Act.put, List.setIfInBounds_toArray, List.set_cons_zero, List.set_cons_succ]
      refine wpAnyL_free (i := 3) (v := .pointer (some ⟨K, 0, none⟩)) rfl (by kernel_rfl) (by kernel_rfl) (by kernel_rfl) (fun _ _ _ h => h) (Or.inl ⟨by rfl, fun w _ => by go_simp⟩) ?_
      try simp only [List.getElem_toArray, List.getElem_cons_zero, List.getElem_cons_succ, Act.put, List.setIfInBounds_toArray, List.set_cons_zero, List.set_cons_succ]
      refine wpAnyL_take (i := 4) (v := (.slice ro E rc)) rfl (by kernel_rfl) (by kernel_rfl) (by kernel_rfl) (by kernel_rfl) (by kernel_rfl) (fun _ _ _ h => h) (Or.inl ⟨by rfl, fun w hSw => by have c := Kept.cellOf hSw k0 (by simp); go_simp⟩) h0 ?_
      try simp only [List.getElem_toArray, List.getElem_cons_zero, List.getElem_cons_succ, Act.put, List.setIfInBounds_toArray, List.set_cons_zero, List.set_cons_succ]
      refine wpAnyL_take (i := 5) (v := .agg #[.slice ao k cap, .slice ao k cap, .int .u8 (x : Nat)]) rfl (by kernel_rfl) (by kernel_rfl) (by kernel_rfl) (by kernel_rfl) (by kernel_rfl) (fun _ _ _ h => h) (yieldsIf_load_mid (by rfl) _ _ rfl gX 0 rfl _ _ (fun w h j v hv => Kept.cellOf h (hrx j v hv) (by simp)) Try.underlying74 rfl Try.infoRow3) h0 ?_
      try simp only [List.getElem_toArray, List.getElem_cons_zero, List.getElem_cons_succ, Act.put, List.setIfInBounds_toArray, List.set_cons_zero, List.set_cons_succ]
      have a1 : R1.At 74 3 B (v0.alloc (.cells #[.slice ao k cap, .slice ao k cap, .int .u8 (x : Nat)] 74)) := HT.out.row.keep (kept_grown (row := none) (h0.alloc _) (by simp)) (Off.none _)
      have hyn := heap_new v0 (.cells #[.slice ao k cap, .slice ao k cap, .int .u8 (x : Nat)] 74)
      obtain ⟨g2, c2, w2, hrun, n1, n2, n3, n4⟩ := run_append_both (P := Try.prog) 57 57 _ 56 Try.underlying57 Try.infoRowB rfl (by omega) R1 1 [.slice ao k cap, .slice ao k cap, .int .u8 (x : Nat)] v0.heap.size 1 a1 rfl (by omega) (fun j u hj => by rw [cell_of_row _ _ _ _ _ _ hyn, List.getElem?_toArray]; exact hj) (by simp [Value.oneCell']) (by rw [HRN.out]; omega) (by rw [HRN.out]; omega) (Nat.le_trans HBB.out (h0.alloc _).size)
      rw [HRN.out] at hrun n1
      have hv1 : R1.val = .slice ro E rc := HRV.out
      rw [hv1] at hrun
      have hbk1 := HT.out.bok.kept (h0.alloc (.cells #[.slice ao k cap, .slice ao k cap, .int .u8 (x : Nat)] 74)) (by simp)
      have hbk2 := hbk1.grown a1 (by decide) n3
      have k2 : w2.cell? ⟨K, 0, none⟩ = some (.slice ro E rc) := by rw [cell_of_row _ _ _ _ _ _ hbk2.cell, ← hv1]; rfl
      have f2 : w2.frozen? ⟨K, 0, none⟩ = false := frozen_of_row _ _ _ _ _ hbk2.cell
      have c01 : Chg [5, 74, 60] B wr w2 := (Chg.kept (h0.alloc _) HBB.out).trans (Chg.on a1 n3 (by simp) (Nat.le_trans HBB.out (h0.alloc _).size))
      have cU : Chg [74, 60] B wr w2 := (Chg.kept (h0.alloc _) HBB.out).trans (Chg.on a1 n3 (by simp) (Nat.le_trans HBB.out (h0.alloc _).size))
      have HCC := hide (And.intro hbk2 (And.intro c01 (And.intro cU n1)))
      clear a1 hyn n1 n2 n3 n4 hbk1 hbk2 c01 cU
      refine wpAnyL_one (i := 6) (by kernel_rfl) rfl (fun K' hK => ?_)
      rw [if_pos (by rfl)]
      go_simp
      refine hK.out _ _ (fun _ _ => h0.alloc _) ?_
      clear hK K'
      try simp only [List.getElem_toArray, List.getElem_cons_zero, List.getElem_cons_succ, Act.put, List.setIfInBounds_toArray, List.set_cons_zero, List.set_cons_succ]
      refine wpAnyL_one (i := 7) (by kernel_rfl) rfl (fun K' hK => ?_)
      rw [if_pos (by rfl)]
      refine wp_append_run (.tmp 33) (.tmp 35) 57 rfl (.slice ro E rc) (.slice (some ⟨v0.heap.size, 0, none⟩) 1 1) rfl rfl (.slice (some ⟨g2, 0, none⟩) (E + 1) c2) w2 hrun ?_
      refine hK.out _ _ (fun _ h => by cases h) ?_
      clear hK K' hrun
      try simp only [List.getElem_toArray, List.getElem_cons_zero, List.getElem_cons_succ, Act.put, List.setIfInBounds_toArray, List.set_cons_zero, List.set_cons_succ]
      refine wpAnyL_free (i := 8) (v := .pointer (some ⟨K, 0, none⟩)) rfl (by kernel_rfl) (by kernel_rfl) (by kernel_rfl) (fun _ _ _ h => h) (Or.inl ⟨by rfl, fun w _ => by go_simp⟩) ?_
      try simp only [List.getElem_toArray, List.getElem_cons_zero, List.getElem_cons_succ, Act.put, List.setIfInBounds_toArray, List.set_cons_zero, List.set_cons_succ]
      refine wpAnyL_free (i := 9) (v := .pointer (some ⟨K, 0, none⟩)) rfl (by kernel_rfl) (by kernel_rfl) (by kernel_rfl) (fun _ _ _ h => h) (Or.inl ⟨by rfl, fun w _ => by go_simp⟩) ?_
      try simp only [List.getElem_toArray, List.getElem_cons_zero, List.getElem_cons_succ, Act.put, List.setIfInBounds_toArray, List.set_cons_zero, List.set_cons_succ]
      refine wpAnyL_one (i := 10) (by kernel_rfl) rfl (fun K' hK => ?_)
      rw [if_pos (by rfl)]
      go_simp
      refine hK.out _ _ (fun _ h => by cases h) ?_
      clear hK K'
      try simp only [List.getElem_toArray, List.getElem_cons_zero, List.getElem_cons_succ, Act.put, List.setIfInBounds_toArray, List.set_cons_zero, List.set_cons_succ]
      refine wpAnyL_done (by kernel_rfl) ?_ _
      go_end0
      refine ⟨rfl, ⟨some ⟨g2, 0, none⟩, c2, E + 1, R1.vs ++ [.slice ao k cap, .slice ao k cap, .int .u8 (x : Nat)]⟩, ?_, ?_, ?_⟩
      · refine ⟨?_, HCC.out.1.ge⟩
        rw [heap_setCell_same _ _ _ _ _ _ HCC.out.1.cell]
        rfl
      · have cK := Chg.cell (T := [60]) (k := 0) HCC.out.1.cell HCC.out.1.ge (by simp) (.slice (some ⟨g2, 0, none⟩) (E + 1) c2)
        have hm := ovB_full (h i) x (by rw [HVL.out, HNN.out])
        rw [HNN.out] at hm
        refine ⟨?_, cK.rows _ _ _ (by decide) HCC.out.2.2.2, rfl, ?_, ?_, ?_⟩
        · have := Pf.chg (Pf.chg HT.out.fam HCC.out.2.2.1 (by decide)) cK (by decide)
          rw [hm] at this
          exact this
        · show R1.vs ++ [.slice ao k cap, .slice ao k cap, .int .u8 (x : Nat)] = _
          rw [ents_succ, HH.out.rv]
          congr 1
          · refine ents_congr (fun j hj => ?_)
            unfold ent
            rw [updN_other _ _ _ _ (by omega), upr_other _ _ _ _ (hne j hj), upr_other _ _ _ _ (hne j hj)]
          · unfold ent mkvB
            rw [updN_same, upr_same, upr_same, HX.out]
            have : (markB (h i) x).val = .slice ao k cap := HVAL.out
            rw [this]
        · intro j hj
          by_cases e : j = E
          · subst e; rw [updN_same]; exact hi
          · rw [updN_other _ _ _ _ e]; exact HH.out.lt j (by omega)
        · intro j j' hj hj' hjj
          by_cases e : j = E
          · subst e
            rw [updN_same, updN_other _ _ _ _ (by omega)]
            exact (hne j' (by omega)).symm
          · rw [updN_other _ _ _ _ e]
            by_cases e' : j' = E
            · subst e'; rw [updN_same]; exact hne j (by omega)
            · rw [updN_other _ _ _ _ e']; exact HH.out.inj j j' (by omega) (by omega) hjj
      · exact (HT.out.chg.trans HCC.out.2.1).trans (Chg.cell HCC.out.1.cell HCC.out.1.ge (by simp) _)

end Go.Proofs.Ytdnbpklnkmgmkaa
