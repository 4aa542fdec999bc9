/-
  ReachCloses: the walk. (Written by tools/qcg.py.)
-/
import Derived.Test.YtngaimahhgmciaaGreatDoorQcfp
import Derived.Test.YtngaimahhgmciaaGreatDoorQ9op
namespace Go.Proofs.YtngaimahhgmciaaGreatDoor
open Go.RowKit Go.Lib Go.Sort
set_option linter.unusedVariables false
set_option linter.unusedSimpArgs false

set_option maxHeartbeats 12800000 in
set_option maxRecDepth 100000 in
theorem closes_walk (ia : Option Addr) (in_ ic : Nat) (ra : Option Addr) (rn rc : Nat) (ja : Option Addr) (jn jc : Nat) (x : Int) (IL : List It9) (RL : List Rz) (JL : List It9) (w : World) (gl : GlE w) (tabs : Tabs w) (hI : InI w ia in_ ic IL) (hR : InZ w ra rn rc RL) (hJ : InI w ja jn jc JL) (wf : (Lit.int .i64 x).wf = true) :
    Calls Tryz.prog 6 #[.slice ia in_ ic, .slice ra rn rc, .slice ja jn jc, .int .i64 x] w fun e w' => e = .returned (.bool true) ∧ Kept [] w w' := by
  have hkn := known9_ok w gl tabs
  have HG := hide gl
  have HT := hide tabs
  have HI := hide hI
  have HR := hide hR
  have HJ := hide hJ
  have hr72 := hR.max
  have hrle := hR.le
  have hrn : rn ≤ 1954687338211 := by omega
  have hmk : ∀ W : World, (Instr.makeMap 33 none).run Tryz.prog W = .ok (.map (some W.heap.size)) (W.alloc (.map #[] 0)) := fun _ => rfl
  clear gl tabs hI hR hJ hr72 hrle
  go_enter Tryz.func6, Tryz.ntmps6
  go_upto_region 3 with (go_at_call 10; refine hkn.mono ?_; rintro e w1 ⟨rfl, hk1⟩; have HK1 := hide hk1; have hmp := mapped9_ok ia in_ ic IL w1 (HI.out.kept hk1); clear hkn hk1)
  go_upto_region 4 with (go_at_call 13; refine hmp.mono ?_; rintro e w2 ⟨b, V, rfl, hmw, hk2⟩; have HMW := hide hmw; have HK2 := hide (HK1.out.trans hk2 (by simp)); clear hmp hk2 hmw)
  obtain ⟨M, hM⟩ : ∃ M, map9 IL (ids9 IL) = M := ⟨_, rfl⟩
  have hMl : M.length ≤ 60 := by rw [← hM]; exact Nat.le_trans (map9_len IL _) (ids9_len IL)
  rw [hM] at HMW
  obtain ⟨lo, hlo⟩ : ∃ r, w1.heap.size = r := ⟨_, rfl⟩
  obtain ⟨B0, hB0⟩ : ∃ r, w2.heap.size = r := ⟨_, rfl⟩
  have HGT : Hid (4 ≤ lo) := hide (by rw [← hlo]; exact Nat.le_trans HT.out.big HK1.out.size)
  have HMS : Hid (Ms9 lo B0 b M V w2) := hide (by rw [← hlo, ← hB0]; exact HMW.out.ms)
  have HB0 : Hid (w2.heap.size = B0 ∧ lo ≤ B0 ∧ w.heap.size ≤ lo) := hide ⟨hB0, Nat.le_trans HMS.out.lob (Nat.le_of_lt HMS.out.hib), by rw [← hlo]; exact HK1.out.size⟩
  have HML : Hid (M.length ≤ 60) := hide hMl
  have hR2 := HR.out.kept HK2.out
  have hnd := needf_ok (HMS.out.mf hMl) HGT.out (by rw [hB0]; exact Nat.le_refl _) (HG.out.kept HK2.out) (HT.out.kept HK2.out (by simp)) ra rn rc RL hR2.len hR2.rss (by omega) hR2.far
  clear hM hlo hB0 HMW hR2 hMl
  go_upto_region 5 with (go_at_call 19; refine hnd.mono ?_; rintro e w3 ⟨v3, ev, rr, rfl, ht, hE, _, hk⟩; have HE := hide hE; have HTL := hide ht; have HK3a := hide hk; clear hnd hE ht hk)
  have HK3 : Hid (Kept [] w w3) := hide (HK2.out.trans HK3a.out (by simp))
  rcases HE.out with ⟨hp, rfl, ho⟩ | ⟨cd, i, eb, hp, rfl, rfl, _, _, _⟩
  rotate_left
  · unfold faultV
    go_wp2
    go_ret
    exact ⟨rfl, HK3.out⟩
  obtain ⟨l, hl⟩ : ∃ l, canon rr.2.1.N = l := ⟨_, rfl⟩
  have HWH : Hid (Whl9 (mpf M) (RL.map (·.root))) := hide ((whl_iff HTL.out).1 hp)
  have HU : Hid (Up l) := hide (by rw [← hl]; exact up_canon _)
  have HMEM : Hid (∀ q, q ∈ l ↔ nd (mpf M) (RL.map (·.root)) q) := hide (fun q => by rw [← hl, mem_canon, HTL.out.N])
  have HTD : Hid (∀ q, q ∈ l → ∃ xs, mpf M q = .data xs) := hide (there_data (mpf_nofail M) HWH.out HMEM.out)
  rw [hl] at ho
  obtain ⟨la, lc, hv, _⟩ := own_shape ho.1
  obtain ⟨ln, hln⟩ : ∃ m, l.length = m := ⟨_, rfl⟩
  rw [hln] at hv
  subst hv
  have HLN := hide hln
  have HLM : Hid (ln ≤ 60) := hide (by have h := need_le HWH.out HU.out HMEM.out; have := HML.out; omega)
  have HL3 : Hid (OwnI w3 B0 (.slice la ln lc) l) := hide (by have h := ho; rw [HB0.out.1] at h; exact h)
  have hR3 := HR.out.kept HK3.out
  have hcl := closed9_ok (.map (some b)) M la ln lc l ra rn rc RL w3 ((HMS.out.kept9 HK3a.out).mapAt HGT.out) hln (HL3.out.ids.1) hR3.len hR3.rss HU.out HMEM.out HWH.out (by have := HLM.out; omega) (by omega)
  clear hp hl ho hln hR3 HE HTL
  go_upto_region 9 with (go_at_call 24; refine hcl.mono ?_; rintro e w4 ⟨rfl, hk4⟩; have HK4a := hide (HK3a.out.trans hk4 (by simp)); have HL4 := hide (HL3.out.kept hk4 (by simp)); have HK4 := hide (HK3.out.trans hk4 (by simp)); clear hcl hk4)
  clear HL3 HK3 HK3a
  obtain ⟨bj, hbj⟩ : ∃ r, r = w4.heap.size := ⟨_, rfl⟩
  obtain ⟨w5, hw5⟩ : ∃ r, r = w4.alloc (.map #[] 0) := ⟨_, rfl⟩
  have hk5 : Kept [] w4 w5 := by rw [hw5]; exact (Kept.refl [] w4).alloc _
  have hi5 : Im w5 bj [] [] := by rw [hw5, hbj]; exact new_im w4
  have hmp := mapped9_ok ja jn jc JL w5 (HJ.out.kept (HK4.out.trans hk5 (by simp)))
  have HI5 := hide hi5
  have HK5a := hide hk5
  have HBJ0 : Hid (bj = w4.heap.size) := hide hbj
  clear hk5 hi5
  go_upto_region 10 with (fail)
  rw [← hbj, ← hw5]
  clear hbj hw5 hmk
  go_upto_region 11 with (go_at_call 13; refine hmp.mono ?_; rintro e w6 ⟨bb, V2, rfl, hmw, hk6⟩; have HMW2 := hide hmw; have HK6a := hide hk6; clear hmp hk6 hmw)
  obtain ⟨M2, hM2⟩ : ∃ M, map9 JL (ids9 JL) = M := ⟨_, rfl⟩
  have hM2l : M2.length ≤ 60 := by rw [← hM2]; exact Nat.le_trans (map9_len JL _) (ids9_len JL)
  rw [hM2] at HMW2
  obtain ⟨hi, hhi⟩ : ∃ r, w6.heap.size = r := ⟨_, rfl⟩
  have HK56 := hide (HK5a.out.trans HK6a.out (by simp))
  have HK6 : Hid (Kept [] w w6) := hide (HK4.out.trans HK56.out (by simp))
  have HC : Hid (Clo lo hi b bj bb (mpf M) (jf (mpf M) (fun _ => .lack) (l.take 0)) (jf (mpf M) (mpf M2) (l.take 0)) 0 (60 + 0) B0 (.slice la ln lc) l w6) := hide (by
    have s1 := HB0.out
    have s2 := HK4a.out.size
    have s3 := HK5a.out.size
    have s4 := HK6a.out.size
    have s5 := HBJ0.out
    have s6 := HMS.out.hib
    have s7 := HMW2.out.ms.lob
    have s8 := HI5.out.lt
    rw [List.take_zero, jf_nil, jf_nil]
    refine ⟨(((HMS.out.kept9 HK4a.out).kept9 HK56.out).wide (Nat.le_refl _) (by omega)).mf HML.out, Mf.new (HI5.out.kept HK6a.out (by simp)) (by omega) (by omega), ?_, HL4.out.kept HK56.out (by simp), by omega, by omega, by omega, by omega⟩
    exact (HMW2.out.ms.wide (by omega) (by omega)).mf hM2l)
  have HBJ : Hid (w.heap.size ≤ bj ∧ w.heap.size ≤ bb) := hide (by
    have s1 := HB0.out
    have s2 := HK4a.out.size
    have s3 := HK5a.out.size
    have s5 := HBJ0.out
    have s7 := HMW2.out.ms.lob
    omega)
  clear hM2 hM2l hhi HMW2 HK56 HK5a HK6a HI5 HBJ0 HK4a HK4 HL4 HMS HB0 HI HJ HK1 HK2
  go_wp2
  go_loopw [14] (fun y wr => ∃ k : Nat, k ≤ ln ∧ y = .int .i64 k ∧ Hid (Clo lo hi b bj bb (mpf M) (jf (mpf M) (fun _ => .lack) (l.take k)) (jf (mpf M) (mpf M2) (l.take k)) k (60 + k) B0 (.slice la ln lc) l wr ∧ Kept [bj, bb] w6 wr)) (fun y wr => ln - (intOf y).toNat)
  case atStart => exact ⟨0, Nat.zero_le _, rfl, hide ⟨HC.out, Kept.refl _ _⟩⟩
  case round =>
    obtain ⟨k, hk, rfl, HP⟩ := hrel
    by_cases hlt : k < ln
    · as_aux_lemma =>
      have hlt1 : (k : Int) < (ln : Int) := by omega
      have hlnb : ln ≤ 60 := HLM.out
      have hkl : k < l.length := by rw [HLN.out]; exact hlt
      obtain ⟨g, off, hao, hrq⟩ := HP.out.1.l.ids.1.1 k hkl
      have hq : (l.getD k []).length = 32 := HP.out.1.l.2 _ (gmem9 hkl)
      have hqin : l.getD k [] ∈ l := gmem9 hkl
      have htk : l.take (k + 1) = l.take k ++ [l.getD k []] := by rw [List.take_succ_eq_append_getElem hkl, List.getD_eq_getElem?_getD, List.getElem?_eq_getElem hkl]; rfl
      obtain ⟨q, hqe⟩ : ∃ q, l.getD k [] = q := ⟨_, rfl⟩
      rw [hqe] at hrq hq hqin htk
      have hql := idl q hq
      have HTK := hide htk
      subst hao
      obtain ⟨xs, hxs⟩ := HTD.out q hqin
      have HXS := hide hxs
      obtain ⟨vv, hvo, hvl, hxl, hlk0⟩ := HP.out.1.m.lookL q hq hxs
      have hlk := hlk0 [bj] 
      have hlk1 := fun W hW => hlk W (by simpa using HP.out.1.n1) hW
      obtain ⟨K1, V1, im1⟩ := HP.out.1.j.im
      obtain ⟨K2, V2, im2⟩ := HP.out.1.g.im
      have hgj : g ≠ bj := ids_noMap im1 HP.out.1.l g rfl
      have hgb : g ≠ bb := ids_noMap im2 HP.out.1.l g rfl
      have HGB := hide hgb
      clear hqe hkl hqin htk hlk0 hlk im1 im2 hxs
      go_upto_region 14 with (fail)
      have h0m : Kept [] wr wr.drew := (Kept.refl [] wr).drew
      refine wp_region_held_drew (S := fun w' => Kept [bj] wr w') (by kernel_rfl) ((Kept.refl [bj] wr).drew) (fun hv0 => ?_)
      generalize World.drew wr = v0 at hv0 h0m ⊢
      refine wpAnyH_take (i := 0) (v := .map (some bj)) rfl (by kernel_rfl) (by kernel_rfl) (by kernel_rfl) (fun _ _ _ h => h) (Or.inl ⟨by rfl, fun w hSw => by go_simp⟩) hv0 ?_
      try simp only [List.getElem_toArray, List.getElem_cons_zero, List.getElem_cons_succ, Act.put, List.setIfInBounds_toArray, List.set_cons_zero, List.set_cons_succ]
      refine wpAnyH_take (i := 1) (v := .slice (some ⟨g, off, none⟩) ln lc) rfl (by kernel_rfl) (by kernel_rfl) (by kernel_rfl) (fun _ _ _ h => h) (Or.inl ⟨by rfl, fun w hSw => by go_simp⟩) hv0 ?_
      try simp only [List.getElem_toArray, List.getElem_cons_zero, List.getElem_cons_succ, Act.put, List.setIfInBounds_toArray, List.set_cons_zero, List.set_cons_succ]
      refine wpAnyH_take (i := 2) (v := .int .i64 k) rfl (by kernel_rfl) (by kernel_rfl) (by kernel_rfl) (fun _ _ _ h => h) (Or.inl ⟨by rfl, fun w hSw => by go_simp⟩) hv0 ?_
      try simp only [List.getElem_toArray, List.getElem_cons_zero, List.getElem_cons_succ, Act.put, List.setIfInBounds_toArray, List.set_cons_zero, List.set_cons_succ]
      refine wpAnyH_take (i := 3) (v := .pointer (some ⟨g, off + k * 32, none⟩)) rfl (by kernel_rfl) (by kernel_rfl) (by kernel_rfl) (fun _ _ _ h => h) (Or.inl ⟨by rfl, fun w hSw => by go_simp⟩) hv0 ?_
      try simp only [List.getElem_toArray, List.getElem_cons_zero, List.getElem_cons_succ, Act.put, List.setIfInBounds_toArray, List.set_cons_zero, List.set_cons_succ]
      refine wpAnyH_take (i := 4) (v := .agg (bys q).toArray) rfl (by kernel_rfl) (by kernel_rfl) (by kernel_rfl) (fun _ _ _ h => h) (yieldsIf_load_mid (by rfl) _ _ rfl g (off + k * 32) rfl (bys q) _ (fun W h => fun jj u hu => Kept.cellOf h (hrq jj u hu) (by simpa using hgj)) Tryz.underlying25 rfl hql) hv0 ?_
      try simp only [List.getElem_toArray, List.getElem_cons_zero, List.getElem_cons_succ, Act.put, List.setIfInBounds_toArray, List.set_cons_zero, List.set_cons_succ]
      refine wpAnyH_take (i := 5) (v := .map (some b)) rfl (by kernel_rfl) (by kernel_rfl) (by kernel_rfl) (fun _ _ _ h => h) (Or.inl ⟨by rfl, fun w hSw => by go_simp⟩) hv0 ?_
      try simp only [List.getElem_toArray, List.getElem_cons_zero, List.getElem_cons_succ, Act.put, List.setIfInBounds_toArray, List.set_cons_zero, List.set_cons_succ]
      refine wpAnyH_take (i := 6) (v := .slice (some ⟨g, off, none⟩) ln lc) rfl (by kernel_rfl) (by kernel_rfl) (by kernel_rfl) (fun _ _ _ h => h) (Or.inl ⟨by rfl, fun w hSw => by go_simp⟩) hv0 ?_
      try simp only [List.getElem_toArray, List.getElem_cons_zero, List.getElem_cons_succ, Act.put, List.setIfInBounds_toArray, List.set_cons_zero, List.set_cons_succ]
      refine wpAnyH_take (i := 7) (v := .int .i64 k) rfl (by kernel_rfl) (by kernel_rfl) (by kernel_rfl) (fun _ _ _ h => h) (Or.inl ⟨by rfl, fun w hSw => by go_simp⟩) hv0 ?_
      try simp only [List.getElem_toArray, List.getElem_cons_zero, List.getElem_cons_succ, Act.put, List.setIfInBounds_toArray, List.set_cons_zero, List.set_cons_succ]
      refine wpAnyH_take (i := 8) (v := .pointer (some ⟨g, off + k * 32, none⟩)) rfl (by kernel_rfl) (by kernel_rfl) (by kernel_rfl) (fun _ _ _ h => h) (Or.inl ⟨by rfl, fun w hSw => by go_simp⟩) hv0 ?_
      try simp only [List.getElem_toArray, List.getElem_cons_zero, List.getElem_cons_succ, Act.put, List.setIfInBounds_toArray, List.set_cons_zero, List.set_cons_succ]
      refine wpAnyH_take (i := 9) (v := .agg (bys q).toArray) rfl (by kernel_rfl) (by kernel_rfl) (by kernel_rfl) (fun _ _ _ h => h) (yieldsIf_load_mid (by rfl) _ _ rfl g (off + k * 32) rfl (bys q) _ (fun W h => fun jj u hu => Kept.cellOf h (hrq jj u hu) (by simpa using hgj)) Tryz.underlying25 rfl hql) hv0 ?_
      try simp only [List.getElem_toArray, List.getElem_cons_zero, List.getElem_cons_succ, Act.put, List.setIfInBounds_toArray, List.set_cons_zero, List.set_cons_succ]
      refine wpAnyH_take (i := 10) (v := vv) rfl (by kernel_rfl) (by kernel_rfl) (by kernel_rfl) (fun _ _ _ h => h) (Or.inl ⟨by rfl, fun w hSw => by have c0 := hlk1 w hSw; go_simp⟩) hv0 ?_
      try simp only [List.getElem_toArray, List.getElem_cons_zero, List.getElem_cons_succ, Act.put, List.setIfInBounds_toArray, List.set_cons_zero, List.set_cons_succ]
      obtain ⟨w7, hput, hC9, hk9⟩ := (HP.out.1.kept h0m).putJ q hq (hvo.kept h0m (fun _ _ => by simp)) hvl hxl
      refine wpAnyH_ready (rs := [11]) (by kernel_rfl) (by simp) (AllReadyH.cons (i := 11) rfl (fun K' hK => ?_) AllReadyH.nil)
      rw [if_pos (by rfl)]
      refine wp_mapUpdate_run9 _ _ _ 33 rfl _ _ _ rfl rfl rfl hput ?_
      refine hK.out _ _ (hv0.trans hk9 (fun j hj _ => hj)) (fun h9 => ?_)
      clear hK K' hput
      try simp only [List.getElem_toArray, List.getElem_cons_zero, List.getElem_cons_succ, Act.put, List.setIfInBounds_toArray, List.set_cons_zero, List.set_cons_succ]
      refine wpAnyH_done (by kernel_rfl) ?_ _
      have HC7 := hide hC9
      have HK7 : Hid (Kept [bj] wr w7) := hide h9
      have hrq7 : w7.rangeAt g (off + k * 32) (bys q) := fun j u hu => HK7.out.cellOf (hrq j u hu) (by simpa using hgj)
      clear hv0 h9 hC9 hk9 h0m hlk1 hvo hvl hxl hrq hgj
      obtain ⟨vv, hvo, hvl, hxl, hlk0⟩ := HC7.out.m.lookL q hq HXS.out
      have hlk := hlk0 [bb] 
      have hlk1 := fun W hW => hlk W (by simpa using HC7.out.n2) hW
      clear hlk0 hlk
      go_upto_region 15 with (fail)
      have h0m : Kept [] w7 w7.drew := (Kept.refl [] w7).drew
      refine wp_region_held_drew (S := fun w' => Kept [bb] w7 w') (by kernel_rfl) ((Kept.refl [bb] w7).drew) (fun hz0 => ?_)
      generalize World.drew w7 = z0 at hz0 h0m ⊢
      refine wpAnyH_take (i := 0) (v := .map (some bb)) rfl (by kernel_rfl) (by kernel_rfl) (by kernel_rfl) (fun _ _ _ h => h) (Or.inl ⟨by rfl, fun w hSw => by go_simp⟩) hz0 ?_
      try simp only [List.getElem_toArray, List.getElem_cons_zero, List.getElem_cons_succ, Act.put, List.setIfInBounds_toArray, List.set_cons_zero, List.set_cons_succ]
      refine wpAnyH_take (i := 1) (v := .slice (some ⟨g, off, none⟩) ln lc) rfl (by kernel_rfl) (by kernel_rfl) (by kernel_rfl) (fun _ _ _ h => h) (Or.inl ⟨by rfl, fun w hSw => by go_simp⟩) hz0 ?_
      try simp only [List.getElem_toArray, List.getElem_cons_zero, List.getElem_cons_succ, Act.put, List.setIfInBounds_toArray, List.set_cons_zero, List.set_cons_succ]
      refine wpAnyH_take (i := 2) (v := .int .i64 k) rfl (by kernel_rfl) (by kernel_rfl) (by kernel_rfl) (fun _ _ _ h => h) (Or.inl ⟨by rfl, fun w hSw => by go_simp⟩) hz0 ?_
      try simp only [List.getElem_toArray, List.getElem_cons_zero, List.getElem_cons_succ, Act.put, List.setIfInBounds_toArray, List.set_cons_zero, List.set_cons_succ]
      refine wpAnyH_take (i := 3) (v := .pointer (some ⟨g, off + k * 32, none⟩)) rfl (by kernel_rfl) (by kernel_rfl) (by kernel_rfl) (fun _ _ _ h => h) (Or.inl ⟨by rfl, fun w hSw => by go_simp⟩) hz0 ?_
      try simp only [List.getElem_toArray, List.getElem_cons_zero, List.getElem_cons_succ, Act.put, List.setIfInBounds_toArray, List.set_cons_zero, List.set_cons_succ]
      refine wpAnyH_take (i := 4) (v := .agg (bys q).toArray) rfl (by kernel_rfl) (by kernel_rfl) (by kernel_rfl) (fun _ _ _ h => h) (yieldsIf_load_mid (by rfl) _ _ rfl g (off + k * 32) rfl (bys q) _ (fun W h => fun jj u hu => Kept.cellOf h (hrq7 jj u hu) (by simpa using hgb)) Tryz.underlying25 rfl hql) hz0 ?_
      try simp only [List.getElem_toArray, List.getElem_cons_zero, List.getElem_cons_succ, Act.put, List.setIfInBounds_toArray, List.set_cons_zero, List.set_cons_succ]
      refine wpAnyH_take (i := 5) (v := .map (some b)) rfl (by kernel_rfl) (by kernel_rfl) (by kernel_rfl) (fun _ _ _ h => h) (Or.inl ⟨by rfl, fun w hSw => by go_simp⟩) hz0 ?_
      try simp only [List.getElem_toArray, List.getElem_cons_zero, List.getElem_cons_succ, Act.put, List.setIfInBounds_toArray, List.set_cons_zero, List.set_cons_succ]
      refine wpAnyH_take (i := 6) (v := .slice (some ⟨g, off, none⟩) ln lc) rfl (by kernel_rfl) (by kernel_rfl) (by kernel_rfl) (fun _ _ _ h => h) (Or.inl ⟨by rfl, fun w hSw => by go_simp⟩) hz0 ?_
      try simp only [List.getElem_toArray, List.getElem_cons_zero, List.getElem_cons_succ, Act.put, List.setIfInBounds_toArray, List.set_cons_zero, List.set_cons_succ]
      refine wpAnyH_take (i := 7) (v := .int .i64 k) rfl (by kernel_rfl) (by kernel_rfl) (by kernel_rfl) (fun _ _ _ h => h) (Or.inl ⟨by rfl, fun w hSw => by go_simp⟩) hz0 ?_
      try simp only [List.getElem_toArray, List.getElem_cons_zero, List.getElem_cons_succ, Act.put, List.setIfInBounds_toArray, List.set_cons_zero, List.set_cons_succ]
      refine wpAnyH_take (i := 8) (v := .pointer (some ⟨g, off + k * 32, none⟩)) rfl (by kernel_rfl) (by kernel_rfl) (by kernel_rfl) (fun _ _ _ h => h) (Or.inl ⟨by rfl, fun w hSw => by go_simp⟩) hz0 ?_
      try simp only [List.getElem_toArray, List.getElem_cons_zero, List.getElem_cons_succ, Act.put, List.setIfInBounds_toArray, List.set_cons_zero, List.set_cons_succ]
      refine wpAnyH_take (i := 9) (v := .agg (bys q).toArray) rfl (by kernel_rfl) (by kernel_rfl) (by kernel_rfl) (fun _ _ _ h => h) (yieldsIf_load_mid (by rfl) _ _ rfl g (off + k * 32) rfl (bys q) _ (fun W h => fun jj u hu => Kept.cellOf h (hrq7 jj u hu) (by simpa using hgb)) Tryz.underlying25 rfl hql) hz0 ?_
      try simp only [List.getElem_toArray, List.getElem_cons_zero, List.getElem_cons_succ, Act.put, List.setIfInBounds_toArray, List.set_cons_zero, List.set_cons_succ]
      refine wpAnyH_take (i := 10) (v := vv) rfl (by kernel_rfl) (by kernel_rfl) (by kernel_rfl) (fun _ _ _ h => h) (Or.inl ⟨by rfl, fun w hSw => by have c0 := hlk1 w hSw; go_simp⟩) hz0 ?_
      try simp only [List.getElem_toArray, List.getElem_cons_zero, List.getElem_cons_succ, Act.put, List.setIfInBounds_toArray, List.set_cons_zero, List.set_cons_succ]
      obtain ⟨w8, hput, hC9, hk9⟩ := (HC7.out.kept h0m).putG q hq (hvo.kept h0m (fun _ _ => by simp)) hvl hxl
      refine wpAnyH_ready (rs := [11]) (by kernel_rfl) (by simp) (AllReadyH.cons (i := 11) rfl (fun K' hK => ?_) AllReadyH.nil)
      rw [if_pos (by rfl)]
      refine wp_mapUpdate_run9 _ _ _ 33 rfl _ _ _ rfl rfl rfl hput ?_
      refine hK.out _ _ (hz0.trans hk9 (fun j hj _ => hj)) (fun h9 => ?_)
      clear hK K' hput
      try simp only [List.getElem_toArray, List.getElem_cons_zero, List.getElem_cons_succ, Act.put, List.setIfInBounds_toArray, List.set_cons_zero, List.set_cons_succ]
      refine wpAnyH_done (by kernel_rfl) ?_ _
      have HC8 : Hid (Clo lo hi b bj bb (mpf M) (jf (mpf M) (fun _ => .lack) (l.take (k + 1))) (jf (mpf M) (mpf M2) (l.take (k + 1))) (k + 1) (60 + (k + 1)) B0 (.slice (some ⟨g, off, none⟩) ln lc) l w8 ∧ Kept [bj, bb] w6 w8) := hide ⟨by
        have h := hC9
        rw [jf_snoc HXS.out, jf_snoc HXS.out, ← HTK.out] at h
        exact h, (HP.out.2.trans (HK7.out) (fun j hj _ => by simp at hj; simp [hj])).trans h9 (fun j hj _ => by simp at hj; simp [hj])⟩
      clear hz0 h9 hC9 hk9 h0m hlk1 hvo hvl hxl hrq7 hgb
      go_wp2
      go_roundw
      case rel => exact ⟨k + 1, by omega, by go_num, HC8⟩
      case measure => simp [intOf]; omega
    · obtain rfl : k = ln := by omega
      have hlt1 : ¬ (k : Int) < (k : Int) := by omega
      have HL9 : Hid (Clo lo hi b bj bb (mpf M) (jf (mpf M) (fun _ => .lack) l) (jf (mpf M) (mpf M2) l) k (60 + k) B0 (.slice la k lc) l wr ∧ Kept [bj, bb] w6 wr) := hide (by have h := HP.out; rw [List.take_of_length_le (by rw [HLN.out]; exact Nat.le_refl _)] at h; exact h)
      clear HP HC
      obtain ⟨wl, rfl⟩ : ∃ wo, wo = wr := ⟨_, rfl⟩
      have HKL : Hid (Kept [] w wl) := hide (HK6.out.trans HL9.out.2 (fun j hj hlt => by have := HBJ.out; simp at hj; omega))
      obtain ⟨ln, rfl⟩ : ∃ r, r = k := ⟨_, rfl⟩
      have hR9 := HR.out.kept HKL.out
      have hnd := needf_ok HL9.out.1.j HGT.out HL9.out.1.hh (HG.out.kept HKL.out) (HT.out.kept HKL.out (by simp)) ra rn rc RL hR9.len hR9.rss (by have := HLM.out; omega) hR9.far
      clear hR9
      go_upto_region 17 with (go_at_call 19; refine hnd.mono ?_; rintro e wa ⟨v5, ev5, r5, rfl, ht5, hE5, _, hk5⟩; have HE5 := hide hE5; have HT5 := hide ht5; have HK5 := hide hk5; clear hnd hE5 ht5 hk5)
      obtain ⟨hp5, hc5⟩ := just_tells (jf_on HMEM.out) HWH.out HT5.out HU.out HMEM.out
      rcases HE5.out with ⟨_, rfl, ho5⟩ | ⟨cd, i, eb, hp, _⟩
      rotate_left
      · rw [hp5] at hp; cases hp
      rw [hc5] at ho5
      obtain ⟨a5, c5, e5, _⟩ := own_shape ho5.1
      rw [HLN.out] at e5
      subst e5
      have HA5 : Hid (OwnI wa wl.heap.size (.slice a5 ln c5) l) := hide ho5
      have HCA : Hid (Clo lo hi b bj bb (mpf M) (jf (mpf M) (fun _ => .lack) l) (jf (mpf M) (mpf M2) l) ln (60 + ln) B0 (.slice la ln lc) l wa) := hide (HL9.out.1.kept HK5.out)
      have HKA : Hid (Kept [] w wa) := hide (HKL.out.trans HK5.out (by simp))
      clear HE5 HT5 hp5 hc5 ho5 HL9
      have hR9 := HR.out.kept HKA.out
      have hnd := needf_ok HCA.out.g HGT.out HCA.out.hh (HG.out.kept HKA.out) (HT.out.kept HKA.out (by simp)) ra rn rc RL hR9.len hR9.rss (by have := HLM.out; omega) hR9.far
      clear hR9
      go_upto_region 18 with (go_at_call 19; refine hnd.mono ?_; rintro e wb ⟨v6, ev6, r6, rfl, ht5, hE5, _, hk5⟩; have HE5 := hide hE5; have HT5 := hide ht5; have HK6b := hide hk5; clear hnd hE5 ht5 hk5)
      obtain ⟨hp5, hc5⟩ := just_tells (jf_on HMEM.out) HWH.out HT5.out HU.out HMEM.out
      rcases HE5.out with ⟨_, rfl, ho5⟩ | ⟨cd, i, eb, hp, _⟩
      rotate_left
      · rw [hp5] at hp; cases hp
      rw [hc5] at ho5
      obtain ⟨a6, c6, e6, _⟩ := own_shape ho5.1
      rw [HLN.out] at e6
      subst e6
      have HA6 : Hid (OwnI wb wa.heap.size (.slice a6 ln c6) l) := hide ho5
      have HCB : Hid (Clo lo hi b bj bb (mpf M) (jf (mpf M) (fun _ => .lack) l) (jf (mpf M) (mpf M2) l) ln (60 + ln) B0 (.slice la ln lc) l wb) := hide (HCA.out.kept HK6b.out)
      have HKB : Hid (Kept [] w wb) := hide (HKA.out.trans HK6b.out (by simp))
      have hsm1 := same9_ok a5 la ln ln c5 lc l l wb HLN.out HLN.out ((HA5.out.kept HK6b.out (by simp)).ids.1) (HCB.out.l.ids.1) (by have := HLM.out; omega) (by have := HLM.out; omega)
      rw [decide_eq_true rfl] at hsm1
      have hsm2 := fun W (hW : Kept [] wb W) => same9_ok a6 la ln ln c6 lc l l W HLN.out HLN.out ((HA6.out.kept hW (by simp)).ids.1) ((HCB.out.kept hW).l.ids.1) (by have := HLM.out; omega) (by have := HLM.out; omega)
      have HS2 := hide hsm2
      clear hsm2 HE5 HT5 hp5 hc5 ho5
      go_upto_region 20 with (first
        | (go_at_call 23; refine hsm1.mono ?_; rintro e wc ⟨rfl, hkc⟩; have HKC := hide hkc; have hsm2 := HS2.out wc hkc; rw [decide_eq_true rfl] at hsm2; clear hsm1 hkc)
        | (go_at_call 23; refine hsm2.mono ?_; rintro e wd ⟨rfl, hkd⟩; have HKD := hide (HKC.out.trans hkd (by simp)); clear hsm2 hkd))
      have HCD : Hid (Clo lo hi b bj bb (mpf M) (jf (mpf M) (fun _ => .lack) l) (jf (mpf M) (mpf M2) l) ln (60 + ln) B0 (.slice la ln lc) l wd) := hide (HCB.out.kept HKD.out)
      have HKDW : Hid (Kept [] w wd) := hide (HKB.out.trans HKD.out (by simp))
      clear HCB HCA HKD HKC HKB HKA HKL HA5 HA6 HS2 HK5 HK6b
      by_cases hz : ln = 0
      · subst hz
        go_wp2
        go_ret
        exact ⟨rfl, HKDW.out⟩
      have hzi : ((ln : Int) == 0) = false := by simpa using hz
      have hnz : ¬ ((ln : Int) = 0) := by omega
      have hnm1 : ¬ ((ln : Int) = -1) := by omega
      have hlp : 0 < ln := Nat.pos_of_ne_zero hz
      have hb1 : -(ln : Int) < x.tmod (ln : Int) := Int.lt_tmod_of_pos x (by omega)
      have hb2 : x.tmod (ln : Int) < (ln : Int) := Int.tmod_lt_of_pos x (by omega)
      obtain ⟨r, hr⟩ : ∃ r, x.tmod (ln : Int) = r := ⟨_, rfl⟩
      rw [hr] at hb1 hb2
      have hln60 : ln ≤ 60 := HLM.out
      by_cases hneg : r < 0
      · as_aux_lemma =>
        obtain ⟨k2, hk2⟩ : ∃ k2 : Nat, r + (ln : Int) = (k2 : Int) := ⟨(r + ln).toNat, by omega⟩
        have hk2r : k2 < ln := by omega
        have hk2i : (k2 : Int) < (ln : Int) := by omega
        have hww : IntKind.i64.wrap (k2 : Int) = (k2 : Int) := wrap_small9 k2 (by omega)
        go_upto_region 25 with (fail)
        have hkl : k2 < l.length := by rw [HLN.out]; exact hk2r
        obtain ⟨g, off, hao, hrq⟩ := HCD.out.l.ids.1.1 k2 hkl
        have hq : (l.getD k2 []).length = 32 := HCD.out.l.2 _ (gmem9 hkl)
        have hqin : l.getD k2 [] ∈ l := gmem9 hkl
        obtain ⟨q, hqe⟩ : ∃ q, l.getD k2 [] = q := ⟨_, rfl⟩
        rw [hqe] at hrq hq hqin
        have hql := idl q hq
        have HQ := hide hqin
        subst hao
        obtain ⟨we, hrun, hCe, hke⟩ := HCD.out.del q hq 0
        obtain ⟨K1, V1, im1⟩ := HCD.out.j.im
        have hgj : g ≠ bj := ids_noMap im1 HCD.out.l g rfl
        have HRQ : Hid (we.rangeAt g (off + k2 * 32) (bys q)) := hide (fun j u hu => hke.cellOf (hrq j u hu) (by simpa using hgj))
        have HCE := hide hCe
        have HKE : Hid (Kept [] w we) := hide (HKDW.out.trans hke (fun j hj hlt => by have := HBJ.out; simp at hj; omega))
        clear hkl hqin hqe im1 hgj hCe hke
        go_upto_region 26 with (first
          | refine wpList_load_mid rfl 25 (.tmp 121) rfl g (off + k2 * 32) rfl (bys q) _ hrq Tryz.underlying25 rfl hql ?_
          | (at_builtin; refine wpList_del_run9 rfl (.tmp 118) (.tmp 122) 33 25 rfl (.map (some bj)) (.agg (bys q).toArray) rfl rfl _ we hrun ?_))
        clear hrq hrun
        have hR9 := HR.out.kept HKE.out
        have hnd := needf_ok HCE.out.j HGT.out HCE.out.hh (HG.out.kept HKE.out) (HT.out.kept HKE.out (by simp)) ra rn rc RL hR9.len hR9.rss (by omega) hR9.far
        clear hR9
        go_upto_region 27 with (go_at_call 19; refine hnd.mono ?_; rintro e wf ⟨v7, ev7, r7, rfl, ht5, hE5, _, hk5⟩; have HE7 := hide hE5; have HT7 := hide ht5; have HK7 := hide hk5; clear hnd hE5 ht5 hk5)
        obtain ⟨hp7, hl7⟩ := del_tells HWH.out HMEM.out HQ.out HT7.out
        have HCF : Hid _ := hide (HCE.out.kept HK7.out)
        have HKF : Hid (Kept [] w wf) := hide (HKE.out.trans HK7.out (by simp))
        have hR9 := HR.out.kept HKF.out
        have hla := lacksf_ok HCF.out.j HGT.out HCF.out.hh (HG.out.kept HKF.out) (HT.out.kept HKF.out (by simp)) ra rn rc RL hR9.len hR9.rss (by omega) hR9.far
        rcases HE7.out with ⟨hp, _⟩ | ⟨cd, i, eb, hp, rfl, rfl, hf7, _, hil⟩
        · rw [hp7] at hp; cases hp
        rw [hp7] at hp
        cases hp
        have HF7 := hide hf7
        clear hR9 HE7 HT7 hp7 hl7 hf7
        unfold faultV
        go_upto_region 28 with (go_at_call 20; refine hla.mono ?_; rintro e wg ⟨v8, r8, rfl, ht5, hO8, hk5⟩; have HO8 := hide hO8; have HT8 := hide ht5; have HK8 := hide hk5; clear hla hO8 ht5 hk5)
        obtain ⟨hp8, hl8⟩ := del_tells HWH.out HMEM.out HQ.out HT8.out
        have ho8 := HO8.out
        rw [hl8] at ho8
        obtain ⟨a8, c8, e8, _⟩ := own_shape ho8.1
        have e8 : v8 = .slice a8 1 c8 := e8
        subst e8
        have HA8 : Hid (OwnI wg wf.heap.size (.slice a8 1 c8) [q]) := hide ho8
        have HKG : Hid (Kept [] w wg) := hide (HKF.out.trans HK8.out (by simp))
        have hrf := refused9_ok eb opNeed q 102 wg (HG.out.kept HKG.out) (HF7.out.kept HK8.out) hq (by decide)
        rw [show (⟨opNeed.toArray⟩ : ByteArray) = ⟨#[114, 101, 97, 99, 104, 46, 110, 101, 101, 100]⟩ from rfl] at hrf
        have hrq1 : wg.rangeAt g (off + k2 * 32) (bys q) := fun j u hu => HK8.out.cellOf (HK7.out.cellOf (HRQ.out j u hu) (by simp)) (by simp)
        have HRG := hide hrq1
        clear hp8 hl8 ho8 HO8 HT8
        go_wp2_with (first
          | refine wpList_load_mid rfl 25 (.tmp 140) rfl g (off + k2 * 32) rfl (bys q) _ hrq1 Tryz.underlying25 rfl hql ?_
          | (go_at_call 18; refine hrf.mono ?_; rintro e wh ⟨rfl, hkh⟩; have HKH := hide hkh; have hrq2 : wh.rangeAt g (off + k2 * 32) (bys q) := fun j u hu => hkh.cellOf (HRG.out j u hu) (by simp); have hnr := new_atK wh (.cells (bys q).toArray 25); have hkn : Kept [] wh (wh.alloc (.cells (bys q).toArray 25)) := (Kept.refl [] wh).alloc _; have HKN := hide (hkh.trans hkn (by simp)); have hsm := same9_ok a8 (some ⟨wh.heap.size, 0, none⟩) 1 1 c8 1 [q] [q] (wh.alloc (.cells (bys q).toArray 25)) rfl rfl ((HA8.out.kept HKN.out (by simp)).ids.1) (ids_one hq hnr) (by omega) (by omega); rw [decide_eq_true rfl] at hsm; clear hrf hkh hrq1 hnr hkn)
          | refine wpList_load_midw9 25 (.tmp 151) rfl g (off + k2 * 32) rfl (bys q) _ hrq2 Tryz.underlying25 rfl hql (by kernel_rfl) ?_
          | refine wpList_buildIw9 (.tmp 152) rfl q rfl hq (by kernel_rfl) ?_
          | (go_at_call 23; refine hsm.mono ?_; rintro e wi ⟨rfl, hki⟩; have HKI := hide ((HKG.out.trans HKN.out (by simp)).trans hki (by simp)); clear hsm hki))
        go_ret
        exact ⟨rfl, HKI.out⟩
      · as_aux_lemma =>
        obtain ⟨k2, hk2⟩ : ∃ k2 : Nat, r = (k2 : Int) := ⟨r.toNat, by omega⟩
        have hk2r : k2 < ln := by omega
        have hk2i : (k2 : Int) < (ln : Int) := by omega
        have hneg2 : ¬ (k2 : Int) < 0 := by omega
        rw [hk2] at hr
        clear hneg
        go_upto_region 25 with (fail)
        have hkl : k2 < l.length := by rw [HLN.out]; exact hk2r
        obtain ⟨g, off, hao, hrq⟩ := HCD.out.l.ids.1.1 k2 hkl
        have hq : (l.getD k2 []).length = 32 := HCD.out.l.2 _ (gmem9 hkl)
        have hqin : l.getD k2 [] ∈ l := gmem9 hkl
        obtain ⟨q, hqe⟩ : ∃ q, l.getD k2 [] = q := ⟨_, rfl⟩
        rw [hqe] at hrq hq hqin
        have hql := idl q hq
        have HQ := hide hqin
        subst hao
        obtain ⟨we, hrun, hCe, hke⟩ := HCD.out.del q hq 0
        obtain ⟨K1, V1, im1⟩ := HCD.out.j.im
        have hgj : g ≠ bj := ids_noMap im1 HCD.out.l g rfl
        have HRQ : Hid (we.rangeAt g (off + k2 * 32) (bys q)) := hide (fun j u hu => hke.cellOf (hrq j u hu) (by simpa using hgj))
        have HCE := hide hCe
        have HKE : Hid (Kept [] w we) := hide (HKDW.out.trans hke (fun j hj hlt => by have := HBJ.out; simp at hj; omega))
        clear hkl hqin hqe im1 hgj hCe hke
        go_upto_region 26 with (first
          | refine wpList_load_mid rfl 25 (.tmp 121) rfl g (off + k2 * 32) rfl (bys q) _ hrq Tryz.underlying25 rfl hql ?_
          | (at_builtin; refine wpList_del_run9 rfl (.tmp 118) (.tmp 122) 33 25 rfl (.map (some bj)) (.agg (bys q).toArray) rfl rfl _ we hrun ?_))
        clear hrq hrun
        have hR9 := HR.out.kept HKE.out
        have hnd := needf_ok HCE.out.j HGT.out HCE.out.hh (HG.out.kept HKE.out) (HT.out.kept HKE.out (by simp)) ra rn rc RL hR9.len hR9.rss (by omega) hR9.far
        clear hR9
        go_upto_region 27 with (go_at_call 19; refine hnd.mono ?_; rintro e wf ⟨v7, ev7, r7, rfl, ht5, hE5, _, hk5⟩; have HE7 := hide hE5; have HT7 := hide ht5; have HK7 := hide hk5; clear hnd hE5 ht5 hk5)
        obtain ⟨hp7, hl7⟩ := del_tells HWH.out HMEM.out HQ.out HT7.out
        have HCF : Hid _ := hide (HCE.out.kept HK7.out)
        have HKF : Hid (Kept [] w wf) := hide (HKE.out.trans HK7.out (by simp))
        have hR9 := HR.out.kept HKF.out
        have hla := lacksf_ok HCF.out.j HGT.out HCF.out.hh (HG.out.kept HKF.out) (HT.out.kept HKF.out (by simp)) ra rn rc RL hR9.len hR9.rss (by omega) hR9.far
        rcases HE7.out with ⟨hp, _⟩ | ⟨cd, i, eb, hp, rfl, rfl, hf7, _, hil⟩
        · rw [hp7] at hp; cases hp
        rw [hp7] at hp
        cases hp
        have HF7 := hide hf7
        clear hR9 HE7 HT7 hp7 hl7 hf7
        unfold faultV
        go_upto_region 28 with (go_at_call 20; refine hla.mono ?_; rintro e wg ⟨v8, r8, rfl, ht5, hO8, hk5⟩; have HO8 := hide hO8; have HT8 := hide ht5; have HK8 := hide hk5; clear hla hO8 ht5 hk5)
        obtain ⟨hp8, hl8⟩ := del_tells HWH.out HMEM.out HQ.out HT8.out
        have ho8 := HO8.out
        rw [hl8] at ho8
        obtain ⟨a8, c8, e8, _⟩ := own_shape ho8.1
        have e8 : v8 = .slice a8 1 c8 := e8
        subst e8
        have HA8 : Hid (OwnI wg wf.heap.size (.slice a8 1 c8) [q]) := hide ho8
        have HKG : Hid (Kept [] w wg) := hide (HKF.out.trans HK8.out (by simp))
        have hrf := refused9_ok eb opNeed q 102 wg (HG.out.kept HKG.out) (HF7.out.kept HK8.out) hq (by decide)
        rw [show (⟨opNeed.toArray⟩ : ByteArray) = ⟨#[114, 101, 97, 99, 104, 46, 110, 101, 101, 100]⟩ from rfl] at hrf
        have hrq1 : wg.rangeAt g (off + k2 * 32) (bys q) := fun j u hu => HK8.out.cellOf (HK7.out.cellOf (HRQ.out j u hu) (by simp)) (by simp)
        have HRG := hide hrq1
        clear hp8 hl8 ho8 HO8 HT8
        go_wp2_with (first
          | refine wpList_load_mid rfl 25 (.tmp 140) rfl g (off + k2 * 32) rfl (bys q) _ hrq1 Tryz.underlying25 rfl hql ?_
          | (go_at_call 18; refine hrf.mono ?_; rintro e wh ⟨rfl, hkh⟩; have HKH := hide hkh; have hrq2 : wh.rangeAt g (off + k2 * 32) (bys q) := fun j u hu => hkh.cellOf (HRG.out j u hu) (by simp); have hnr := new_atK wh (.cells (bys q).toArray 25); have hkn : Kept [] wh (wh.alloc (.cells (bys q).toArray 25)) := (Kept.refl [] wh).alloc _; have HKN := hide (hkh.trans hkn (by simp)); have hsm := same9_ok a8 (some ⟨wh.heap.size, 0, none⟩) 1 1 c8 1 [q] [q] (wh.alloc (.cells (bys q).toArray 25)) rfl rfl ((HA8.out.kept HKN.out (by simp)).ids.1) (ids_one hq hnr) (by omega) (by omega); rw [decide_eq_true rfl] at hsm; clear hrf hkh hrq1 hnr hkn)
          | refine wpList_load_midw9 25 (.tmp 151) rfl g (off + k2 * 32) rfl (bys q) _ hrq2 Tryz.underlying25 rfl hql (by kernel_rfl) ?_
          | refine wpList_buildIw9 (.tmp 152) rfl q rfl hq (by kernel_rfl) ?_
          | (go_at_call 23; refine hsm.mono ?_; rintro e wi ⟨rfl, hki⟩; have HKI := hide ((HKG.out.trans HKN.out (by simp)).trans hki (by simp)); clear hsm hki))
        go_ret
        exact ⟨rfl, HKI.out⟩

end Go.Proofs.YtngaimahhgmciaaGreatDoor
