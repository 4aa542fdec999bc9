/-
  Contract: freightlaw9.known. (Written by tools/qpe.py.)
-/
import Derived.Test.YtngaimahhgmciabGreatDoorQpdv
import Derived.Deep.CutRange
namespace Go.Proofs.YtngaimahhgmciabGreatDoor
open Go.RowKit Go.Lib Go.Sort
set_option linter.unusedVariables false
set_option linter.unusedSimpArgs false

def rzk (i : List UInt8) (h : i.length = 32) : Rz := ⟨List.replicate 32 0, i, 0, rfl, h⟩
theorem rss_one9 (w : World) (i : List UInt8) (h : i.length = 32) : Rss (w.alloc (.cells (rzk i h).cells.toArray 49)) (some ⟨w.heap.size, 0, none⟩) [rzk i h] := fun k hk => by
  obtain rfl : k = 0 := by simp at hk; omega
  exact ⟨_, _, rfl, by simpa using row_rangeK (new_atK w (.cells (rzk i h).cells.toArray 49))⟩
theorem ids_two9 (w : World) : Ids (w.alloc (.cells (idrows [i1, i2]).toArray 36)) (some ⟨w.heap.size, 0, none⟩) [i1, i2] := by
  have hr := row_rangeK (new_atK w (.cells (idrows [i1, i2]).toArray 36))
  refine ⟨fun k hk => ⟨_, 0, rfl, fun j v hv => ?_⟩, by decide⟩
  have hj : j < 32 := by
    have h1 := (List.getElem?_eq_some_iff.1 hv).1
    rw [bys_length] at h1
    have hk2 : k < 2 := hk
    match k, hk2 with
    | 0, _ => exact h1
    | 1, _ => exact h1
  have h2 := hr (k * 32 + j) v (by rw [idrows_at (C := [i1, i2]) (by decide) hk hj]; exact hv)
  rw [show 0 + k * 32 + j = 0 + (k * 32 + j) by omega]
  exact h2
theorem GlE.kept {w w' : World} (h : GlE w) (hk : Kept [] w w') : GlE w' := hk.cellOf h (by simp)

set_option maxHeartbeats 3200000 in
set_option maxRecDepth 100000 in
theorem known9_ok (w : World) (gl : GlE w) (tabs : Tabs w) : Calls Tryz.prog 7 #[] w fun e w' => e = .returned (.bool true) ∧ Kept [] w w' := by
  have HG := hide gl
  have HT := hide tabs
  clear gl tabs
  go_enter Tryz.func7, Tryz.ntmps7
  go_wp2_with (fail)
  have hE : Ents (w.alloc (.cells ek.cells.toArray 45)) (some ⟨w.heap.size, 0, none⟩) [ek] := by
    intro i hi
    obtain rfl : i = 0 := by simp at hi; omega
    refine ⟨_, _, rfl, ?_, ek_ok⟩
    simpa using ent_range (heap_new w _)
  have hka : Kept [] w (w.alloc (.cells ek.cells.toArray 45)) := (Kept.refl [] w).alloc _
  have he := refencode_ok (some ⟨w.heap.size, 0, none⟩) 1 1 [ek] _ rfl (by omega) hE
  rw [ek_tree, ek_enc] at he
  refine Calls.mono (R := fun r w' => Told (w.alloc (.cells ek.cells.toArray 45)) w' r true tb) he ?_
  rintro r w2 ⟨⟨v, rfl, hv⟩, hb2⟩
  have hk2 : Kept [] w w2 := hka.trans (Kept.of_below hb2) (by simp)
  obtain ⟨ao2, cap2, e2, _⟩ := own_shape hv
  have e2 : v = .slice ao2 37 cap2 := e2
  subst e2
  have HOT : Hid (OwnB w2 w.heap.size (.slice ao2 37 cap2) tb) := hide (own_base9 hv hka.size)
  have HK2 := hide hk2
  have HB2 : Hid (w.heap.size ≤ w2.heap.size) := hide hk2.size
  rw [show Tn.code true = 0 from rfl]
  have hmk : ∀ W : World, (Instr.makeMap 26 none).run Tryz.prog W = .ok (.map (some W.heap.size)) (W.alloc (.map #[] 0)) := fun _ => rfl
  clear hE hka he hv hb2 hk2
  go_upto_region 2 with (fail)
  go_cut [3] from 15 (fun y wx => ∃ b M V, y = .map (some b) ∧ Hid (mpf M = fK ∧ M.length = 2 ∧ Mw9 w wx b M V ∧ Kept [] w wx))
  case first =>
    refine wp_region_held_drew (S := fun w' => Kept [] w2 w') (by kernel_rfl) ((Kept.refl [] w2).drew) (fun h0 => ?_)
    generalize World.drew w2 = v0 at h0  ⊢
    refine wpAnyH_take (i := 1) (v := .agg (bys i1).toArray) rfl (by kernel_rfl) (by kernel_rfl) (by kernel_rfl) (fun _ _ _ h => h) (Or.inl ⟨by rfl, fun w hSw => by go_simp; rfl⟩) h0 ?_
    try simp only [List.getElem_toArray, List.getElem_cons_zero, List.getElem_cons_succ, Act.put, List.setIfInBounds_toArray, List.set_cons_zero, List.set_cons_succ]
    refine wpAnyH_take (i := 2) (v := .slice ao2 37 cap2) rfl (by kernel_rfl) (by kernel_rfl) (by kernel_rfl) (fun _ _ _ h => h) (Or.inl ⟨by rfl, fun w hSw => by go_simp⟩) h0 ?_
    try simp only [List.getElem_toArray, List.getElem_cons_zero, List.getElem_cons_succ, Act.put, List.setIfInBounds_toArray, List.set_cons_zero, List.set_cons_succ]
    refine wpAnyH_take (i := 4) (v := .agg (bys i2).toArray) rfl (by kernel_rfl) (by kernel_rfl) (by kernel_rfl) (fun _ _ _ h => h) (Or.inl ⟨by rfl, fun w hSw => by go_simp; rfl⟩) h0 ?_
    try simp only [List.getElem_toArray, List.getElem_cons_zero, List.getElem_cons_succ, Act.put, List.setIfInBounds_toArray, List.set_cons_zero, List.set_cons_succ]
    obtain ⟨bm, hbm⟩ : ∃ r, r = v0.heap.size := ⟨_, rfl⟩
    refine wpAnyH_ready (rs := [0]) (by kernel_rfl) (by simp) (AllReadyH.cons (i := 0) rfl (fun K' hK => ?_) AllReadyH.nil)
    rw [if_pos (by rfl)]
    go_simp
    refine hK.out _ _ (h0.alloc _) (fun h1 => ?_)
    clear hK K'
    try simp only [List.getElem_toArray, List.getElem_cons_zero, List.getElem_cons_succ, Act.put, List.setIfInBounds_toArray, List.set_cons_zero, List.set_cons_succ]
    have hmw0 : Mw9 w (v0.alloc (.map #[] 0)) bm [] [] := ⟨by rw [hbm]; exact new_im v0, fun j hj => by simp at hj, fun p hp => by simp at hp, by rw [hbm]; exact Nat.le_trans HB2.out h0.size⟩
    have HBM : Hid (w2.heap.size ≤ bm) := hide (by rw [hbm]; exact h0.size)
    rw [← hbm]
    generalize v0.alloc _ = va at h1 hmw0 ⊢
    clear hbm h0
    refine wpAnyH_ready (rs := [3, 5]) (by kernel_rfl) (by simp) (AllReadyH.cons (i := 3) rfl (fun K' hK => ?_) (AllReadyH.cons (i := 5) rfl (fun K' hK => ?_) AllReadyH.nil))
    next =>
      rw [if_pos (by rfl)]
      obtain ⟨vb, hp1, hk1, _, him1⟩ := hmw0.im.put (t := 26) Tryz.underlying26 i1 (by rfl) (.slice ao2 37 cap2)
      have hmw1 := mw_put hmw0 (Kept.refl [] va) hk1 (HOT.out.kept (h1) (fun _ _ => by simp)) (by simp) him1 (by decide) (Nat.le_refl _)
      refine wp_insert_run9 _ _ _ 26 rfl _ _ _ rfl rfl rfl hp1 ?_
      refine hK.out _ _ (h1.trans hk1 (fun j hj hlt => by simp at hj; have := HBM.out; omega)) (fun h2 => ?_)
      clear hK K' hp1 him1 hmw0
      try simp only [List.getElem_toArray, List.getElem_cons_zero, List.getElem_cons_succ, Act.put, List.setIfInBounds_toArray, List.set_cons_zero, List.set_cons_succ]
      obtain ⟨vd, hp2, hk2, _, him2⟩ := hmw1.im.put (t := 26) Tryz.underlying26 i2 (by rfl) (.slice none 0 0)
      have hmw2 := mw_put hmw1 (Kept.refl [] vb) hk2 (show OwnB _ w.heap.size (.slice none 0 0) [] from World.ownsRow_nil _ _ _ _) (by simp; exact fun e => i12 e.symm) him2 (by decide) (Nat.le_refl _)
      refine wpAnyH_ready (rs := [5]) (by kernel_rfl) (by simp) (AllReadyH.cons (i := 5) rfl (fun K' hK => ?_) AllReadyH.nil)
      rw [if_pos (by rfl)]
      refine wp_insert_run9 _ _ _ 26 rfl _ _ _ rfl rfl rfl hp2 ?_
      refine hK.out _ _ (h2.trans hk2 (fun j hj hlt => by simp at hj; have := HBM.out; omega)) (fun h3 => ?_)
      clear hK K' hp2 him2 hmw1
      try simp only [List.getElem_toArray, List.getElem_cons_zero, List.getElem_cons_succ, Act.put, List.setIfInBounds_toArray, List.set_cons_zero, List.set_cons_succ]
      refine wpAnyH_take (i := 6) (v := .map (some bm)) rfl (by kernel_rfl) (by kernel_rfl) (by kernel_rfl) (fun _ _ _ h => h) (Or.inl ⟨by rfl, fun w hSw => by go_simp⟩) h3 ?_
      try simp only [List.getElem_toArray, List.getElem_cons_zero, List.getElem_cons_succ, Act.put, List.setIfInBounds_toArray, List.set_cons_zero, List.set_cons_succ]
      refine wpAnyH_take (i := 7) (v := .map (some bm)) rfl (by kernel_rfl) (by kernel_rfl) (by kernel_rfl) (fun _ _ _ h => h) (Or.inl ⟨by rfl, fun w hSw => by go_simp⟩) h3 ?_
      try simp only [List.getElem_toArray, List.getElem_cons_zero, List.getElem_cons_succ, Act.put, List.setIfInBounds_toArray, List.set_cons_zero, List.set_cons_succ]
      refine wpAnyH_done (by kernel_rfl) ?_ _
      have HF : Hid (mpf [(i1, tb), (i2, [])] = fK ∧ ([(i1, tb), (i2, [])] : List (List UInt8 × List UInt8)).length = 2 ∧ Mw9 w vd bm [(i1, tb), (i2, [])] [(.slice ao2 37 cap2), (.slice none 0 0)] ∧ Kept [] w vd) := hide ⟨mpf12, rfl, hmw2, HK2.out.trans h3 (by simp)⟩
      clear hmw2 h1 h2 h3 hk1 hk2
      go_wp2
      go_meet
      case rel => exact ⟨bm, _, _, rfl, HF⟩
    next =>
      rw [if_pos (by rfl)]
      obtain ⟨vb, hp1, hk1, _, him1⟩ := hmw0.im.put (t := 26) Tryz.underlying26 i2 (by rfl) (.slice none 0 0)
      have hmw1 := mw_put hmw0 (Kept.refl [] va) hk1 (show OwnB _ w.heap.size (.slice none 0 0) [] from World.ownsRow_nil _ _ _ _) (by simp) him1 (by decide) (Nat.le_refl _)
      refine wp_insert_run9 _ _ _ 26 rfl _ _ _ rfl rfl rfl hp1 ?_
      refine hK.out _ _ (h1.trans hk1 (fun j hj hlt => by simp at hj; have := HBM.out; omega)) (fun h2 => ?_)
      clear hK K' hp1 him1 hmw0
      try simp only [List.getElem_toArray, List.getElem_cons_zero, List.getElem_cons_succ, Act.put, List.setIfInBounds_toArray, List.set_cons_zero, List.set_cons_succ]
      obtain ⟨vd, hp2, hk2, _, him2⟩ := hmw1.im.put (t := 26) Tryz.underlying26 i1 (by rfl) (.slice ao2 37 cap2)
      have hmw2 := mw_put hmw1 (Kept.refl [] vb) hk2 (HOT.out.kept (h2) (fun _ _ => by simp)) (by simp; exact i12) him2 (by decide) (Nat.le_refl _)
      refine wpAnyH_ready (rs := [3]) (by kernel_rfl) (by simp) (AllReadyH.cons (i := 3) rfl (fun K' hK => ?_) AllReadyH.nil)
      rw [if_pos (by rfl)]
      refine wp_insert_run9 _ _ _ 26 rfl _ _ _ rfl rfl rfl hp2 ?_
      refine hK.out _ _ (h2.trans hk2 (fun j hj hlt => by simp at hj; have := HBM.out; omega)) (fun h3 => ?_)
      clear hK K' hp2 him2 hmw1
      try simp only [List.getElem_toArray, List.getElem_cons_zero, List.getElem_cons_succ, Act.put, List.setIfInBounds_toArray, List.set_cons_zero, List.set_cons_succ]
      refine wpAnyH_take (i := 6) (v := .map (some bm)) rfl (by kernel_rfl) (by kernel_rfl) (by kernel_rfl) (fun _ _ _ h => h) (Or.inl ⟨by rfl, fun w hSw => by go_simp⟩) h3 ?_
      try simp only [List.getElem_toArray, List.getElem_cons_zero, List.getElem_cons_succ, Act.put, List.setIfInBounds_toArray, List.set_cons_zero, List.set_cons_succ]
      refine wpAnyH_take (i := 7) (v := .map (some bm)) rfl (by kernel_rfl) (by kernel_rfl) (by kernel_rfl) (fun _ _ _ h => h) (Or.inl ⟨by rfl, fun w hSw => by go_simp⟩) h3 ?_
      try simp only [List.getElem_toArray, List.getElem_cons_zero, List.getElem_cons_succ, Act.put, List.setIfInBounds_toArray, List.set_cons_zero, List.set_cons_succ]
      refine wpAnyH_done (by kernel_rfl) ?_ _
      have HF : Hid (mpf [(i2, []), (i1, tb)] = fK ∧ ([(i2, []), (i1, tb)] : List (List UInt8 × List UInt8)).length = 2 ∧ Mw9 w vd bm [(i2, []), (i1, tb)] [(.slice none 0 0), (.slice ao2 37 cap2)] ∧ Kept [] w vd) := hide ⟨mpf21, rfl, hmw2, HK2.out.trans h3 (by simp)⟩
      clear hmw2 h1 h2 h3 hk1 hk2
      go_wp2
      go_meet
      case rel => exact ⟨bm, _, _, rfl, HF⟩
  case rest =>
    clear hmk HOT
    obtain ⟨b, M, V, rfl, HC⟩ := hcut
    have hgt := Nat.le_trans HT.out.big (Nat.le_refl w.heap.size)
    have HMS : Hid (Mst w.heap.size wc.heap.size b M wc) := hide ⟨V, HC.out.2.2.1.ms⟩
    have HGT := hide (And.intro (HG.out.kept HC.out.2.2.2) (HT.out.kept HC.out.2.2.2 (by simp)))
    have HM := hide (And.intro HC.out.1 HC.out.2.1)
    have HKC := hide HC.out.2.2.2
    obtain ⟨hi, hhi⟩ : ∃ r, wc.heap.size = r := ⟨_, rfl⟩
    have HHI := hide hhi
    rw [hhi] at HMS
    clear HC hhi hgt
    go_wp2_with (fail)
    have hr1 := rss_one9 wc i1 rfl
    have hka : Kept [] wc (wc.alloc (.cells (rzk i1 rfl).cells.toArray 49)) := (Kept.refl [] wc).alloc _
    have hnd := need9_ok (ms_std (lo := w.heap.size) (hi := hi) (b := b) (M := M) HT.out.big) (HMS.out.kept hka) (fun k hk => by have := hk.2; have := hka.size; have := HHI.out; omega) (HGT.out.1.kept hka) (HGT.out.2.kept hka (by simp)) (some ⟨wc.heap.size, 0, none⟩) 1 1 [rzk i1 rfl] rfl hr1 (by rw [HM.out.2]; omega) (fun _ a ha => by cases ha; simp)
    refine Calls.mono (R := fun e w' => NdM (Rng w.heap.size hi) (Mst w.heap.size hi b M) M [i1] (wc.alloc (.cells (rzk i1 rfl).cells.toArray 49)) e w') hnd ?_
    rintro e w4 hN
    have ht1 : Tls fK [i1] (walkW (mpf M) [] [i1]) := by rw [HM.out.1]; exact walk_sem fK_nofail [] [i1]
    obtain ⟨hp1, hc1⟩ := known_one ht1
    rcases hN.ans with ⟨v, _, rfl, hov⟩ | ⟨cd, i, eb, h2, _⟩
    rotate_left
    · rw [hp1] at h2; cases h2
    rw [hc1] at hov
    obtain ⟨ao4, c4, e4, _⟩ := own_shape hov.1
    have e4 : v = .slice ao4 2 c4 := e4
    subst e4
    have HO4 := hide hov
    have HN4 := hide (And.intro hN.kp (And.intro hN.st (And.intro hN.gl hN.tabs)))
    have HKa := hide hka
    clear hN hov hnd hr1 hka hp1 hc1 ht1
    go_wp2_with (fail)
    have hr1 := rss_one9 w4 i2 rfl
    have hka : Kept [] w4 (w4.alloc (.cells (rzk i2 rfl).cells.toArray 49)) := (Kept.refl [] w4).alloc _
    have hnd := need9_ok (ms_std (lo := w.heap.size) (hi := hi) (b := b) (M := M) HT.out.big) (HN4.out.2.1.kept hka) (fun k hk => by have := hk.2; have := hka.size; have := HHI.out; have := HKa.out.size; have := HN4.out.1.size; omega) (HN4.out.2.2.1.kept hka) (HN4.out.2.2.2.kept hka (by simp)) (some ⟨w4.heap.size, 0, none⟩) 1 1 [rzk i2 rfl] rfl hr1 (by rw [HM.out.2]; omega) (fun _ a ha => by cases ha; simp)
    refine Calls.mono (R := fun e w' => NdM (Rng w.heap.size hi) (Mst w.heap.size hi b M) M [i2] (w4.alloc (.cells (rzk i2 rfl).cells.toArray 49)) e w') hnd ?_
    rintro e w6 hN
    have ht1 : Tls fK [i2] (walkW (mpf M) [] [i2]) := by rw [HM.out.1]; exact walk_sem fK_nofail [] [i2]
    have hp1 := known_two ht1
    rcases hN.ans with ⟨v, h2, _⟩ | ⟨cd, i, eb, h2, rfl, hfl, hne, _⟩
    · rw [hp1] at h2; cases h2
    rw [hp1] at h2
    injection h2 with h2
    injection h2 with h2 h3
    subst h2
    subst h3
    have hlo4 : hi ≤ (wc.alloc (.cells (rzk i1 rfl).cells.toArray 49)).heap.size := by have := HKa.out.size; have := HHI.out; omega
    have HO6 := hide ((HO4.out.kept hka (fun _ _ => by simp)).kp9 hN.kp (own_off9 HO4.out hlo4))
    have HF6 := hide hfl
    have HG6 := hide hN.gl
    have HK6 : Hid (Kept [] w w6) := hide (by
      have k1 := (Kp.ofKept (o := fun _ => False) (HKC.out.trans HKa.out (by simp)) (by simp)).trans HN4.out.1 (p := Rng w.heap.size hi) (fun i hi hl => by have := hi.1; omega)
      have k2 := (k1.kept hka).trans hN.kp (fun i hi hl => by have := hi.1; omega)
      exact ⟨k2.os, k2.tape, k2.output, k2.size, fun i hi hn => k2.block i hi (fun h => h)⟩)
    clear hN hfl hne hnd hr1 hka hp1 ht1 hlo4
    unfold faultV
    go_wp2_with (fail)
    have hka : Kept [] w6 (w6.alloc (.cells (idrows [i1, i2]).toArray 36)) := (Kept.refl [] w6).alloc _
    have hs := same9_ok ao4 (some ⟨w6.heap.size, 0, none⟩) 2 2 c4 2 [i1, i2] [i1, i2] _ rfl rfl (HO6.out.kept hka (fun _ _ => by simp)).ids.1 (ids_two9 w6) (by omega) (by omega)
    rw [decide_eq_true rfl] at hs
    refine Calls.mono (R := fun e w' => e = .returned (.bool true) ∧ Kept [] (w6.alloc (.cells (idrows [i1, i2]).toArray 36)) w') hs ?_
    rintro e w8 ⟨rfl, hk8⟩
    have HK8 := hide (hka.trans hk8 (by simp))
    have hrf := refused9_ok eb opNeed i2 100 w8 (HG6.out.kept HK8.out) (HF6.out.kept HK8.out) rfl (by decide)
    have eo : (⟨opNeed.toArray⟩ : ByteArray) = ⟨#[114, 101, 97, 99, 104, 46, 110, 101, 101, 100]⟩ := rfl
    rw [eo] at hrf
    clear hs hk8 hka eo
    go_wp2_with (fail)
    refine Calls.mono (R := fun e w' => e = .returned (.bool true) ∧ Kept [] w8 w') hrf ?_
    rintro e w9 ⟨rfl, hk9⟩
    have HK9 := hide ((HK6.out.trans HK8.out (by simp)).trans hk9 (by simp))
    clear hk9 hrf
    go_wp2
    go_ret
    exact ⟨rfl, HK9.out⟩

end Go.Proofs.YtngaimahhgmciabGreatDoor
