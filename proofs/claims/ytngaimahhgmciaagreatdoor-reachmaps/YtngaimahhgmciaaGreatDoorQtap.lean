/-
  Contract: freightref9.With, whose answer is the row itself or new. (Written by tools/q9c.py.)
-/
import Derived.Test.YtngaimahhgmciaaGreatDoorQ9cp
namespace Go.Proofs.YtngaimahhgmciaaGreatDoor
open Go.RowKit
open Go.Lib (compareBytes)
set_option linter.unusedVariables false
set_option linter.unusedSimpArgs false

theorem own_far0 {w : World} {b1 : Nat} {e : TypeId} {s1 : Nat} {v : Value} {n : Nat} {xs : List Value} (h : w.ownsRow b1 e s1 v n xs) (g : Nat) (hg : v.ownBlock = some g) : b1 ≤ g := by
  rcases h.2 with ⟨rfl, _⟩ | ⟨g1, c1, cur1, rfl, hb, _⟩
  · simp [Value.ownBlock] at hg
  · simp only [Value.ownBlock, Option.some.injEq] at hg
    omega

set_option maxHeartbeats 3200000 in
set_option maxRecDepth 100000 in
theorem with9b_ok (B : Nat) (ao : Option Addr) (n c : Nat) (L : List (List UInt8)) (i : List UInt8) (w : World) (hL : OwnI w B (.slice ao n c) L) (hB : B ≤ w.heap.size) (hu : Up L) (hil0 : i.length = 32) (hlen : (L.length + 2) * 32 ≤ 140737488355328) :
    Calls Tryz.prog 33 #[.slice ao n c, .agg (bys i).toArray] w fun e w' => ∃ v, e = .returned v ∧ OwnI w' B v (wth L i) ∧ Kept [] w w' ∧ (v = .slice ao n c ∨ ∀ j, v.ownBlock = some j → w.heap.size ≤ j) := by
  obtain ⟨G, hG⟩ : ∃ r, r = w.heap.size := ⟨_, rfl⟩
  have hk0 : Kept [] w (w.alloc (.cells (bys i).toArray 25)) := (Kept.refl [] w).alloc _
  have HR : Hid ((w.alloc (.cells (bys i).toArray 25)).heap[G]? = some (.cells (bys i).toArray 25)) := by rw [hG]; exact new_atK _ _
  have HK := hide hk0
  have HB := hide (hL.kept hk0 (by simp))
  have HBS : Hid (B ≤ (w.alloc (.cells (bys i).toArray 25)).heap.size) := Nat.le_trans hB hk0.size
  have HU := hide hu
  clear hL hk0 hB hu
  go_enter Tryz.func33, Tryz.ntmps33
  go_wp2
  rw [← hG]
  clear hG
  generalize w.alloc _ = w1 at HR HK HB HBS ⊢
  have HLI := hide HB.out.ids.1
  have HN : Hid (L.length = n) := HB.out.ids.2.1.symm
  have hn42 : (n + 2) * 32 ≤ 140737488355328 := by rw [← HN.out]; exact hlen
  clear hlen
  have HIN : Hid (OwnI w1 w1.heap.size (.slice none 0 0) [] ∧ Kept [] w1 w1 ∧ Inv9w L i 0 [] false) := ⟨⟨World.ownsRow_nil _ _ _ _, by simp⟩, Kept.refl _ _, rfl, rfl⟩
  go_loopw [5, 6, 7] (fun x y z wr => ∃ (k : Nat) (oo : Option Addr) (on oc : Nat) (O : List (List UInt8)) (b : Bool), k ≤ n ∧ x = .slice oo on oc ∧ y = .bool b ∧ z = .int .i64 k ∧ Hid (OwnI wr w1.heap.size (.slice oo on oc) O ∧ Kept [] w1 wr ∧ Inv9w L i k O b)) (fun x y z wr => n - (intOf z).toNat)
  case atStart => exact ⟨0, none, 0, 0, [], false, by omega, rfl, rfl, rfl, HIN⟩
  case round =>
    clear HIN
    obtain ⟨k, oo, on, oc, O, b, hk, rfl, rfl, rfl, HP⟩ := hrel
    have HI := hide HP.out.2.2
    by_cases hlt : k < n
    · have hkl : k < L.length := by rw [HN.out]; exact hlt
      have hOl : O.length ≤ k + 1 := by
        have h := HI.out
        have h3 : (wth L i).length ≤ L.length + 1 := wth_len9 L i
        cases b with
        | false => rw [h.1, List.length_take]; omega
        | true =>
          have h4 := congrArg List.length h.1
          rw [List.length_append, List.length_drop] at h4
          omega
      have hOl2 : (O.length + 2) * 32 ≤ 140737488355328 := by omega
      obtain ⟨g, off, rfl, hrg⟩ := (HLI.out.kept HP.out.2.1 (fun _ _ _ => by simp)).1 k hkl
      have hx : (L.getD k []).length = 32 := HLI.out.2 _ (gmem9 hkl)
      obtain ⟨x, hxe⟩ : ∃ x, L.getD k [] = x := ⟨_, rfl⟩
      have HXE := hide hxe
      have hxe2 : L[k] = x := by rw [← hxe]; simp [List.getElem?_eq_getElem hkl]
      have HXD : Hid (L.drop k = x :: L.drop (k + 1)) := by show _ = _; rw [List.drop_eq_getElem_cons hkl, hxe2]
      have HTK : Hid (L.take (k + 1) = L.take k ++ [x]) := by show _ = _; rw [List.take_succ_eq_append_getElem hkl, hxe2]
      have HXU : Hid (∀ q, q ∈ L.drop (k + 1) → compareBytes x q < 0) := by
        have h := HU.out
        unfold Up at h
        rw [← List.take_append_drop k L, HXD.out, List.pairwise_append] at h
        exact (List.pairwise_cons.1 h.2.1).1
      rw [hxe] at hrg hx
      have hxl0 := hx
      have hxl := idl x hx
      have hil := idl i hil0
      have hri : wr.rangeAt G 0 (bys i) := row_rangeK (by rw [HP.out.2.1.block G (Array.getElem?_eq_some_iff.1 HR.out).1 (by simp)]; exact HR.out)
      have hcmp := fun W => rcmp9_ok x i hx hil0 W
      obtain ⟨cc, hcc⟩ : ∃ cc, compareBytes x i = cc := ⟨_, rfl⟩
      rw [hcc] at hcmp
      have HCC := hide hcc
      have hlt1 : (k : Int) < (n : Int) := by omega
      clear hxe hxe2 hkl hcc
      cases b with
      | false =>
        by_cases h0c : cc = 0
        · as_aux_lemma =>
          have hcc0 : cc = 0 := h0c
          subst hcc0
          go_upto_region 6 with (fail)
          refine wp_region_held_drew (S := fun w' => Kept [] wr w') (by kernel_rfl) ((Kept.refl [] wr).drew) (fun h0 => ?_)
          generalize World.drew wr = v0 at h0  ⊢
          refine wpAnyH_take (i := 0) (v := .slice (some ⟨g, off, none⟩) n c) rfl (by kernel_rfl) (by kernel_rfl) (by kernel_rfl) (fun _ _ _ h => h) (Or.inl ⟨by rfl, fun w hSw => by go_simp⟩) h0 ?_
          try simp only [List.getElem_toArray, List.getElem_cons_zero, List.getElem_cons_succ, Act.put, List.setIfInBounds_toArray, List.set_cons_zero, List.set_cons_succ]
          refine wpAnyH_take (i := 1) (v := .int .i64 k) rfl (by kernel_rfl) (by kernel_rfl) (by kernel_rfl) (fun _ _ _ h => h) (Or.inl ⟨by rfl, fun w hSw => by go_simp⟩) h0 ?_
          try simp only [List.getElem_toArray, List.getElem_cons_zero, List.getElem_cons_succ, Act.put, List.setIfInBounds_toArray, List.set_cons_zero, List.set_cons_succ]
          refine wpAnyH_take (i := 2) (v := .pointer (some ⟨g, off + k * 32, none⟩)) rfl (by kernel_rfl) (by kernel_rfl) (by kernel_rfl) (fun _ _ _ h => h) (Or.inl ⟨by rfl, fun w hSw => by go_simp⟩) h0 ?_
          try simp only [List.getElem_toArray, List.getElem_cons_zero, List.getElem_cons_succ, Act.put, List.setIfInBounds_toArray, List.set_cons_zero, List.set_cons_succ]
          refine wpAnyH_take (i := 3) (v := .agg (bys x).toArray) rfl (by kernel_rfl) (by kernel_rfl) (by kernel_rfl) (fun _ _ _ h => h) (yieldsIf_load_mid (by rfl) _ _ rfl g (off + k * 32) rfl (bys x) _ (fun W h => fun j u hu => Kept.cellOf h (hrg j u hu) (by simp)) Tryz.underlying25 rfl hxl) h0 ?_
          try simp only [List.getElem_toArray, List.getElem_cons_zero, List.getElem_cons_succ, Act.put, List.setIfInBounds_toArray, List.set_cons_zero, List.set_cons_succ]
          refine wpAnyH_take (i := 4) (v := .agg (bys i).toArray) rfl (by kernel_rfl) (by kernel_rfl) (by kernel_rfl) (fun _ _ _ h => h) (yieldsIf_load_mid (by rfl) _ _ rfl G (0) rfl (bys i) _ (fun W h => fun j u hu => Kept.cellOf h (hri j u hu) (by simp)) Tryz.underlying25 rfl hil) h0 ?_
          try simp only [List.getElem_toArray, List.getElem_cons_zero, List.getElem_cons_succ, Act.put, List.setIfInBounds_toArray, List.set_cons_zero, List.set_cons_succ]
          refine wpAnyH_ready (rs := [5]) (by kernel_rfl) (by simp) (AllReadyH.cons (i := 5) rfl (fun K hK => ?_) AllReadyH.nil)
          rw [if_pos (by rfl)]
          go_simp
          refine (hcmp v0).mono ?_
          rintro e v1 ⟨rfl, hq⟩
          refine hK.out _ _ (h0.trans hq (by simp)) (fun h1 => ?_)
          clear hK K
          try simp only [List.getElem_toArray, List.getElem_cons_zero, List.getElem_cons_succ, Act.put, List.setIfInBounds_toArray, List.set_cons_zero, List.set_cons_succ]
          clear hq
          refine wpAnyH_take (i := 6) (v := .int .i64 0) rfl (by kernel_rfl) (by kernel_rfl) (by kernel_rfl) (fun _ _ _ h => h) (Or.inl ⟨by rfl, fun w hSw => by go_simp⟩) h1 ?_
          try simp only [List.getElem_toArray, List.getElem_cons_zero, List.getElem_cons_succ, Act.put, List.setIfInBounds_toArray, List.set_cons_zero, List.set_cons_succ]
          refine wpAnyH_done (by kernel_rfl) ?_ _
          have K1 : Kept [] w1 v1 := HP.out.2.1.trans h1 (by simp)
          have O1 := HP.out.1.kept h1 (by simp)
          have HF : Hid (OwnI v1 B (.slice (some ⟨g, off, none⟩) n c) (wth L i) ∧ Kept [] w v1 ∧ (Value.slice (some ⟨g, off, none⟩) n c = .slice (some ⟨g, off, none⟩) n c ∨ ∀ j, (Value.slice (some ⟨g, off, none⟩) n c).ownBlock = some j → w.heap.size ≤ j)) := ⟨by rw [HI.out.2, HXD.out, wth0 HCC.out, ← HXD.out, List.take_append_drop]; exact HB.out.kept K1 (by simp), HK.out.trans K1 (by simp), .inl rfl⟩
          clear h1 hcmp hrg hri K1 O1
          go_wp2
          go_ret
          exact ⟨_, rfl, HF.out.1, HF.out.2.1, .inl rfl⟩
        by_cases hlt0 : cc < 0
        · have hc1 : (cc == 0) = false := by simpa using h0c
          have hc2 : ¬ 0 < cc := by omega
          as_aux_lemma =>
          go_upto_region 6 with (fail)
          refine wp_region_held_drew (S := fun w' => Kept [] wr w') (by kernel_rfl) ((Kept.refl [] wr).drew) (fun h0 => ?_)
          generalize World.drew wr = v0 at h0  ⊢
          refine wpAnyH_take (i := 0) (v := .slice (some ⟨g, off, none⟩) n c) rfl (by kernel_rfl) (by kernel_rfl) (by kernel_rfl) (fun _ _ _ h => h) (Or.inl ⟨by rfl, fun w hSw => by go_simp⟩) h0 ?_
          try simp only [List.getElem_toArray, List.getElem_cons_zero, List.getElem_cons_succ, Act.put, List.setIfInBounds_toArray, List.set_cons_zero, List.set_cons_succ]
          refine wpAnyH_take (i := 1) (v := .int .i64 k) rfl (by kernel_rfl) (by kernel_rfl) (by kernel_rfl) (fun _ _ _ h => h) (Or.inl ⟨by rfl, fun w hSw => by go_simp⟩) h0 ?_
          try simp only [List.getElem_toArray, List.getElem_cons_zero, List.getElem_cons_succ, Act.put, List.setIfInBounds_toArray, List.set_cons_zero, List.set_cons_succ]
          refine wpAnyH_take (i := 2) (v := .pointer (some ⟨g, off + k * 32, none⟩)) rfl (by kernel_rfl) (by kernel_rfl) (by kernel_rfl) (fun _ _ _ h => h) (Or.inl ⟨by rfl, fun w hSw => by go_simp⟩) h0 ?_
          try simp only [List.getElem_toArray, List.getElem_cons_zero, List.getElem_cons_succ, Act.put, List.setIfInBounds_toArray, List.set_cons_zero, List.set_cons_succ]
          refine wpAnyH_take (i := 3) (v := .agg (bys x).toArray) rfl (by kernel_rfl) (by kernel_rfl) (by kernel_rfl) (fun _ _ _ h => h) (yieldsIf_load_mid (by rfl) _ _ rfl g (off + k * 32) rfl (bys x) _ (fun W h => fun j u hu => Kept.cellOf h (hrg j u hu) (by simp)) Tryz.underlying25 rfl hxl) h0 ?_
          try simp only [List.getElem_toArray, List.getElem_cons_zero, List.getElem_cons_succ, Act.put, List.setIfInBounds_toArray, List.set_cons_zero, List.set_cons_succ]
          refine wpAnyH_take (i := 4) (v := .agg (bys i).toArray) rfl (by kernel_rfl) (by kernel_rfl) (by kernel_rfl) (fun _ _ _ h => h) (yieldsIf_load_mid (by rfl) _ _ rfl G (0) rfl (bys i) _ (fun W h => fun j u hu => Kept.cellOf h (hri j u hu) (by simp)) Tryz.underlying25 rfl hil) h0 ?_
          try simp only [List.getElem_toArray, List.getElem_cons_zero, List.getElem_cons_succ, Act.put, List.setIfInBounds_toArray, List.set_cons_zero, List.set_cons_succ]
          refine wpAnyH_ready (rs := [5]) (by kernel_rfl) (by simp) (AllReadyH.cons (i := 5) rfl (fun K hK => ?_) AllReadyH.nil)
          rw [if_pos (by rfl)]
          go_simp
          refine (hcmp v0).mono ?_
          rintro e v1 ⟨rfl, hq⟩
          refine hK.out _ _ (h0.trans hq (by simp)) (fun h1 => ?_)
          clear hK K
          try simp only [List.getElem_toArray, List.getElem_cons_zero, List.getElem_cons_succ, Act.put, List.setIfInBounds_toArray, List.set_cons_zero, List.set_cons_succ]
          clear hq
          refine wpAnyH_take (i := 6) (v := .int .i64 cc) rfl (by kernel_rfl) (by kernel_rfl) (by kernel_rfl) (fun _ _ _ h => h) (Or.inl ⟨by rfl, fun w hSw => by go_simp⟩) h1 ?_
          try simp only [List.getElem_toArray, List.getElem_cons_zero, List.getElem_cons_succ, Act.put, List.setIfInBounds_toArray, List.set_cons_zero, List.set_cons_succ]
          refine wpAnyH_done (by kernel_rfl) ?_ _
          have K1 : Kept [] w1 v1 := HP.out.2.1.trans h1 (by simp)
          have O1 := HP.out.1.kept h1 (by simp)
          have K1x0 := K1
          have O1x0 := O1
          have hr2 := (HLI.out.kept K1 (fun _ _ _ => by simp)).1 k (by rw [HN.out]; exact hlt)
          have KA1 := K1x0.trans ((Kept.refl [] v1).alloc (.cells (bys x).toArray 25)) (by simp)
          obtain ⟨v3, w3, hrun1, ho1, hk1, _⟩ := run_appI (O1x0.kept ((Kept.refl [] v1).alloc (.cells (bys x).toArray 25)) (by simp)) KA1.size x hxl0 v1.heap.size (new_atK _ _) (by omega)
          have K1x1 : Kept [] w1 w3 := far9 (O1x0.kept ((Kept.refl [] v1).alloc (.cells (bys x).toArray 25)) (by simp)) KA1 hk1
          have O1x1 := ho1
          obtain ⟨q1, c1, e1, _⟩ := own_shape O1x1.1
          obtain ⟨m1, hm1⟩ : ∃ m, (O ++ [x]).length = m := ⟨_, rfl⟩
          rw [hm1] at e1
          subst e1
          clear hm1
          have hrg2 : (v1).rangeAt g (off + k * 32) (bys x) := fun j u hu => h1.cellOf (hrg j u hu) (by simp)
          have HN : Hid (OwnI w3 w1.heap.size (.slice q1 m1 c1) (O ++ [x]) ∧ Kept [] w1 w3 ∧ Inv9w L i (k + 1) (O ++ [x]) false) := ⟨O1x1, K1x1, ⟨by rw [HI.out.1]; exact HTK.out.symm, by rw [HI.out.2, HXD.out, wthlt HCC.out hlt0, HTK.out, List.append_assoc]; rfl⟩⟩
          clear h1 hcmp hrg hri K1 O1 K1x0 O1x0 hr2 KA1 ho1 hk1 K1x1 O1x1
          go_wp2_with (first
            | (refine wpList_load_mid rfl 25 (.tmp 37) rfl g (off + k * 32) rfl (bys x) _ hrg2 Tryz.underlying25 rfl hxl ?_)
            | (refine wpList_buildI rfl (.tmp 38) rfl x rfl hxl0 ?_)
            | (refine wpList_app_run9 rfl (.tmp 34) (.tmp 39) 35 35 rfl (.slice oo on oc) (.slice (some ⟨v1.heap.size, 0, none⟩) 1 1) rfl rfl _ w3 hrun1 ?_))
          go_roundw
          case rel => exact ⟨k + 1, q1, _, c1, O ++ [x], false, by omega, rfl, rfl, by go_num, HN⟩
          case measure => simp [intOf]; omega
        · have hgt0 : 0 < cc := by omega
          have hc1 : (cc == 0) = false := by simpa using h0c
          as_aux_lemma =>
          go_upto_region 6 with (fail)
          refine wp_region_held_drew (S := fun w' => Kept [] wr w') (by kernel_rfl) ((Kept.refl [] wr).drew) (fun h0 => ?_)
          generalize World.drew wr = v0 at h0  ⊢
          refine wpAnyH_take (i := 0) (v := .slice (some ⟨g, off, none⟩) n c) rfl (by kernel_rfl) (by kernel_rfl) (by kernel_rfl) (fun _ _ _ h => h) (Or.inl ⟨by rfl, fun w hSw => by go_simp⟩) h0 ?_
          try simp only [List.getElem_toArray, List.getElem_cons_zero, List.getElem_cons_succ, Act.put, List.setIfInBounds_toArray, List.set_cons_zero, List.set_cons_succ]
          refine wpAnyH_take (i := 1) (v := .int .i64 k) rfl (by kernel_rfl) (by kernel_rfl) (by kernel_rfl) (fun _ _ _ h => h) (Or.inl ⟨by rfl, fun w hSw => by go_simp⟩) h0 ?_
          try simp only [List.getElem_toArray, List.getElem_cons_zero, List.getElem_cons_succ, Act.put, List.setIfInBounds_toArray, List.set_cons_zero, List.set_cons_succ]
          refine wpAnyH_take (i := 2) (v := .pointer (some ⟨g, off + k * 32, none⟩)) rfl (by kernel_rfl) (by kernel_rfl) (by kernel_rfl) (fun _ _ _ h => h) (Or.inl ⟨by rfl, fun w hSw => by go_simp⟩) h0 ?_
          try simp only [List.getElem_toArray, List.getElem_cons_zero, List.getElem_cons_succ, Act.put, List.setIfInBounds_toArray, List.set_cons_zero, List.set_cons_succ]
          refine wpAnyH_take (i := 3) (v := .agg (bys x).toArray) rfl (by kernel_rfl) (by kernel_rfl) (by kernel_rfl) (fun _ _ _ h => h) (yieldsIf_load_mid (by rfl) _ _ rfl g (off + k * 32) rfl (bys x) _ (fun W h => fun j u hu => Kept.cellOf h (hrg j u hu) (by simp)) Tryz.underlying25 rfl hxl) h0 ?_
          try simp only [List.getElem_toArray, List.getElem_cons_zero, List.getElem_cons_succ, Act.put, List.setIfInBounds_toArray, List.set_cons_zero, List.set_cons_succ]
          refine wpAnyH_take (i := 4) (v := .agg (bys i).toArray) rfl (by kernel_rfl) (by kernel_rfl) (by kernel_rfl) (fun _ _ _ h => h) (yieldsIf_load_mid (by rfl) _ _ rfl G (0) rfl (bys i) _ (fun W h => fun j u hu => Kept.cellOf h (hri j u hu) (by simp)) Tryz.underlying25 rfl hil) h0 ?_
          try simp only [List.getElem_toArray, List.getElem_cons_zero, List.getElem_cons_succ, Act.put, List.setIfInBounds_toArray, List.set_cons_zero, List.set_cons_succ]
          refine wpAnyH_ready (rs := [5]) (by kernel_rfl) (by simp) (AllReadyH.cons (i := 5) rfl (fun K hK => ?_) AllReadyH.nil)
          rw [if_pos (by rfl)]
          go_simp
          refine (hcmp v0).mono ?_
          rintro e v1 ⟨rfl, hq⟩
          refine hK.out _ _ (h0.trans hq (by simp)) (fun h1 => ?_)
          clear hK K
          try simp only [List.getElem_toArray, List.getElem_cons_zero, List.getElem_cons_succ, Act.put, List.setIfInBounds_toArray, List.set_cons_zero, List.set_cons_succ]
          clear hq
          refine wpAnyH_take (i := 6) (v := .int .i64 cc) rfl (by kernel_rfl) (by kernel_rfl) (by kernel_rfl) (fun _ _ _ h => h) (Or.inl ⟨by rfl, fun w hSw => by go_simp⟩) h1 ?_
          try simp only [List.getElem_toArray, List.getElem_cons_zero, List.getElem_cons_succ, Act.put, List.setIfInBounds_toArray, List.set_cons_zero, List.set_cons_succ]
          refine wpAnyH_done (by kernel_rfl) ?_ _
          have K1 : Kept [] w1 v1 := HP.out.2.1.trans h1 (by simp)
          have O1 := HP.out.1.kept h1 (by simp)
          have K1x0 := K1
          have O1x0 := O1
          have KA1 := K1x0.trans ((Kept.refl [] v1).alloc (.cells (bys i).toArray 25)) (by simp)
          obtain ⟨v3, w3, hrun1, ho1, hk1, _⟩ := run_appI (O1x0.kept ((Kept.refl [] v1).alloc (.cells (bys i).toArray 25)) (by simp)) KA1.size i hil0 v1.heap.size (new_atK _ _) (by omega)
          have K1x1 : Kept [] w1 w3 := far9 (O1x0.kept ((Kept.refl [] v1).alloc (.cells (bys i).toArray 25)) (by simp)) KA1 hk1
          have O1x1 := ho1
          obtain ⟨q1, c1, e1, _⟩ := own_shape O1x1.1
          obtain ⟨m1, hm1⟩ : ∃ m, (O ++ [i]).length = m := ⟨_, rfl⟩
          rw [hm1] at e1
          subst e1
          clear hm1
          have KA2 := K1x1.trans ((Kept.refl [] w3).alloc (.cells (bys x).toArray 25)) (by simp)
          obtain ⟨v5, w5, hrun2, ho2, hk2, _⟩ := run_appI (O1x1.kept ((Kept.refl [] w3).alloc (.cells (bys x).toArray 25)) (by simp)) KA2.size x hxl0 w3.heap.size (new_atK _ _) (by rw [show (O ++ [i]).length + 1 = O.length + 2 from by simp]; exact hOl2)
          have K1x2 : Kept [] w1 w5 := far9 (O1x1.kept ((Kept.refl [] w3).alloc (.cells (bys x).toArray 25)) (by simp)) KA2 hk2
          have O1x2 := ho2
          obtain ⟨q2, c2, e2, _⟩ := own_shape O1x2.1
          obtain ⟨m2, hm2⟩ : ∃ m, (O ++ [i] ++ [x]).length = m := ⟨_, rfl⟩
          rw [hm2] at e2
          subst e2
          clear hm2
          have hri2 : v1.rangeAt G 0 (bys i) := fun j u hu => h1.cellOf (hri j u hu) (by simp)
          obtain ⟨g', off', e', hrg2⟩ := (HLI.out.kept K1x1 (fun _ _ _ => by simp)).1 k (by rw [HN.out]; exact hlt)
          cases e'
          rw [HXE.out] at hrg2
          obtain ⟨O2, hO2⟩ : ∃ O2, O ++ [i] ++ [x] = O2 := ⟨_, rfl⟩
          have HN : Hid (OwnI w5 w1.heap.size (.slice q2 m2 c2) O2 ∧ Kept [] w1 w5 ∧ Inv9w L i (k + 1) O2 true) := ⟨by rw [← hO2]; exact O1x2, K1x2, by rw [← hO2, HI.out.2, HXD.out, wthgt HCC.out hgt0, ← HI.out.1]; simp, fun q hq => by
            have h1 := HXU.out q hq
            have h2 : compareBytes i x < 0 := by have := cmp_swap x i; rw [HCC.out] at this; omega
            have h3 := cmp_trans h2 h1
            have := cmp_swap i q
            omega⟩
          clear h1 hcmp hrg hri K1 O1 K1x0 O1x0 KA1 ho1 hk1 K1x1 O1x1 KA2 ho2 hk2 K1x2 O1x2 hO2
          go_upto_region 11 with (first
            | (refine wpList_load_mid rfl 25 (.tmp 3) rfl G (0) rfl (bys i) _ hri2 Tryz.underlying25 rfl hil ?_)
            | (refine wpList_buildI rfl (.tmp 31) rfl i rfl hil0 ?_)
            | (refine wpList_app_run9 rfl (.tmp 30) (.tmp 32) 35 35 rfl (.slice oo on oc) (.slice (some ⟨v1.heap.size, 0, none⟩) 1 1) rfl rfl _ w3 hrun1 ?_))
          clear hri2 hrun1
          go_upto_region 12 with (fail)
          go_wp2_with (first
            | (refine wpList_load_mid rfl 25 (.tmp 37) rfl g (off + k * 32) rfl (bys x) _ hrg2 Tryz.underlying25 rfl hxl ?_)
            | (refine wpList_buildI rfl (.tmp 38) rfl x rfl hxl0 ?_)
            | (refine wpList_app_run9 rfl (.tmp 34) (.tmp 39) 35 35 rfl (.slice q1 m1 c1) (.slice (some ⟨w3.heap.size, 0, none⟩) 1 1) rfl rfl _ w5 hrun2 ?_))
          go_roundw
          case rel => exact ⟨k + 1, q2, _, c2, O2, true, by omega, rfl, rfl, by go_num, HN⟩
          case measure => simp [intOf]; omega
      | true =>
        have hgt0 : 0 < cc := by have := HI.out.2 x (by rw [HXD.out]; simp); rw [HCC.out] at this; exact this
        have hc1 : (cc == 0) = false := by simp; omega
        as_aux_lemma =>
        go_upto_region 6 with (fail)
        refine wp_region_held_drew (S := fun w' => Kept [] wr w') (by kernel_rfl) ((Kept.refl [] wr).drew) (fun h0 => ?_)
        generalize World.drew wr = v0 at h0  ⊢
        refine wpAnyH_take (i := 0) (v := .slice (some ⟨g, off, none⟩) n c) rfl (by kernel_rfl) (by kernel_rfl) (by kernel_rfl) (fun _ _ _ h => h) (Or.inl ⟨by rfl, fun w hSw => by go_simp⟩) h0 ?_
        try simp only [List.getElem_toArray, List.getElem_cons_zero, List.getElem_cons_succ, Act.put, List.setIfInBounds_toArray, List.set_cons_zero, List.set_cons_succ]
        refine wpAnyH_take (i := 1) (v := .int .i64 k) rfl (by kernel_rfl) (by kernel_rfl) (by kernel_rfl) (fun _ _ _ h => h) (Or.inl ⟨by rfl, fun w hSw => by go_simp⟩) h0 ?_
        try simp only [List.getElem_toArray, List.getElem_cons_zero, List.getElem_cons_succ, Act.put, List.setIfInBounds_toArray, List.set_cons_zero, List.set_cons_succ]
        refine wpAnyH_take (i := 2) (v := .pointer (some ⟨g, off + k * 32, none⟩)) rfl (by kernel_rfl) (by kernel_rfl) (by kernel_rfl) (fun _ _ _ h => h) (Or.inl ⟨by rfl, fun w hSw => by go_simp⟩) h0 ?_
        try simp only [List.getElem_toArray, List.getElem_cons_zero, List.getElem_cons_succ, Act.put, List.setIfInBounds_toArray, List.set_cons_zero, List.set_cons_succ]
        refine wpAnyH_take (i := 3) (v := .agg (bys x).toArray) rfl (by kernel_rfl) (by kernel_rfl) (by kernel_rfl) (fun _ _ _ h => h) (yieldsIf_load_mid (by rfl) _ _ rfl g (off + k * 32) rfl (bys x) _ (fun W h => fun j u hu => Kept.cellOf h (hrg j u hu) (by simp)) Tryz.underlying25 rfl hxl) h0 ?_
        try simp only [List.getElem_toArray, List.getElem_cons_zero, List.getElem_cons_succ, Act.put, List.setIfInBounds_toArray, List.set_cons_zero, List.set_cons_succ]
        refine wpAnyH_take (i := 4) (v := .agg (bys i).toArray) rfl (by kernel_rfl) (by kernel_rfl) (by kernel_rfl) (fun _ _ _ h => h) (yieldsIf_load_mid (by rfl) _ _ rfl G (0) rfl (bys i) _ (fun W h => fun j u hu => Kept.cellOf h (hri j u hu) (by simp)) Tryz.underlying25 rfl hil) h0 ?_
        try simp only [List.getElem_toArray, List.getElem_cons_zero, List.getElem_cons_succ, Act.put, List.setIfInBounds_toArray, List.set_cons_zero, List.set_cons_succ]
        refine wpAnyH_ready (rs := [5]) (by kernel_rfl) (by simp) (AllReadyH.cons (i := 5) rfl (fun K hK => ?_) AllReadyH.nil)
        rw [if_pos (by rfl)]
        go_simp
        refine (hcmp v0).mono ?_
        rintro e v1 ⟨rfl, hq⟩
        refine hK.out _ _ (h0.trans hq (by simp)) (fun h1 => ?_)
        clear hK K
        try simp only [List.getElem_toArray, List.getElem_cons_zero, List.getElem_cons_succ, Act.put, List.setIfInBounds_toArray, List.set_cons_zero, List.set_cons_succ]
        clear hq
        refine wpAnyH_take (i := 6) (v := .int .i64 cc) rfl (by kernel_rfl) (by kernel_rfl) (by kernel_rfl) (fun _ _ _ h => h) (Or.inl ⟨by rfl, fun w hSw => by go_simp⟩) h1 ?_
        try simp only [List.getElem_toArray, List.getElem_cons_zero, List.getElem_cons_succ, Act.put, List.setIfInBounds_toArray, List.set_cons_zero, List.set_cons_succ]
        refine wpAnyH_done (by kernel_rfl) ?_ _
        have K1 : Kept [] w1 v1 := HP.out.2.1.trans h1 (by simp)
        have O1 := HP.out.1.kept h1 (by simp)
        have K1x0 := K1
        have O1x0 := O1
        have hr2 := (HLI.out.kept K1 (fun _ _ _ => by simp)).1 k (by rw [HN.out]; exact hlt)
        have KA1 := K1x0.trans ((Kept.refl [] v1).alloc (.cells (bys x).toArray 25)) (by simp)
        obtain ⟨v3, w3, hrun1, ho1, hk1, _⟩ := run_appI (O1x0.kept ((Kept.refl [] v1).alloc (.cells (bys x).toArray 25)) (by simp)) KA1.size x hxl0 v1.heap.size (new_atK _ _) (by omega)
        have K1x1 : Kept [] w1 w3 := far9 (O1x0.kept ((Kept.refl [] v1).alloc (.cells (bys x).toArray 25)) (by simp)) KA1 hk1
        have O1x1 := ho1
        obtain ⟨q1, c1, e1, _⟩ := own_shape O1x1.1
        obtain ⟨m1, hm1⟩ : ∃ m, (O ++ [x]).length = m := ⟨_, rfl⟩
        rw [hm1] at e1
        subst e1
        clear hm1
        have hrg2 : (v1).rangeAt g (off + k * 32) (bys x) := fun j u hu => h1.cellOf (hrg j u hu) (by simp)
        have HN : Hid (OwnI w3 w1.heap.size (.slice q1 m1 c1) (O ++ [x]) ∧ Kept [] w1 w3 ∧ Inv9w L i (k + 1) (O ++ [x]) true) := ⟨O1x1, K1x1, ⟨by rw [HI.out.1, HXD.out, List.append_assoc]; rfl, fun q hq => HI.out.2 q (by rw [HXD.out]; exact List.mem_cons_of_mem _ hq)⟩⟩
        clear h1 hcmp hrg hri K1 O1 K1x0 O1x0 hr2 KA1 ho1 hk1 K1x1 O1x1
        go_wp2_with (first
          | (refine wpList_load_mid rfl 25 (.tmp 37) rfl g (off + k * 32) rfl (bys x) _ hrg2 Tryz.underlying25 rfl hxl ?_)
          | (refine wpList_buildI rfl (.tmp 38) rfl x rfl hxl0 ?_)
          | (refine wpList_app_run9 rfl (.tmp 34) (.tmp 39) 35 35 rfl (.slice oo on oc) (.slice (some ⟨v1.heap.size, 0, none⟩) 1 1) rfl rfl _ w3 hrun1 ?_))
        go_roundw
        case rel => exact ⟨k + 1, q1, _, c1, O ++ [x], true, by omega, rfl, rfl, by go_num, HN⟩
        case measure => simp [intOf]; omega
    · obtain rfl : k = n := by omega
      have hlt1 : ¬ (k : Int) < (k : Int) := by omega
      have hil := idl i hil0
      have hOl : O.length ≤ k + 1 := by
        have h := HI.out
        have h3 : (wth L i).length ≤ L.length + 1 := wth_len9 L i
        have h5 := HN.out
        cases b with
        | false => rw [h.1, List.length_take]; omega
        | true =>
          have h4 := congrArg List.length h.1
          rw [List.length_append, List.length_drop] at h4
          omega
      cases b with
      | false =>
        as_aux_lemma =>
        have K1 := HP.out.2.1
        have O1 := HP.out.1
        have K1x0 := K1
        have O1x0 := O1
        have hri : wr.rangeAt G 0 (bys i) := row_rangeK (by rw [HP.out.2.1.block G (Array.getElem?_eq_some_iff.1 HR.out).1 (by simp)]; exact HR.out)
        have KA1 := K1x0.trans ((Kept.refl [] wr).alloc (.cells (bys i).toArray 25)) (by simp)
        obtain ⟨v3, w3, hrun1, ho1, hk1, _⟩ := run_appI (O1x0.kept ((Kept.refl [] wr).alloc (.cells (bys i).toArray 25)) (by simp)) KA1.size i hil0 wr.heap.size (new_atK _ _) (by omega)
        have K1x1 : Kept [] w1 w3 := far9 (O1x0.kept ((Kept.refl [] wr).alloc (.cells (bys i).toArray 25)) (by simp)) KA1 hk1
        have O1x1 := ho1
        obtain ⟨q1, c1, e1, _⟩ := own_shape O1x1.1
        obtain ⟨m1, hm1⟩ : ∃ m, (O ++ [i]).length = m := ⟨_, rfl⟩
        rw [hm1] at e1
        subst e1
        clear hm1
        have HF : Hid (OwnI w3 B (.slice q1 m1 c1) (wth L i) ∧ Kept [] w w3 ∧ (Value.slice q1 m1 c1 = .slice ao k c ∨ ∀ j, (Value.slice q1 m1 c1).ownBlock = some j → w.heap.size ≤ j)) := ⟨by
          have e : wth L i = O ++ [i] := by rw [HI.out.2, HI.out.1, List.drop_of_length_le (by rw [HN.out]; exact Nat.le_refl _)]; rfl
          rw [e]
          exact ⟨own_base9 O1x1.1 HBS.out, O1x1.2⟩, HK.out.trans K1x1 (by simp), .inr (fun j hj => Nat.le_trans HK.out.size (own_far0 O1x1.1 j hj))⟩
        clear K1 O1 K1x0 O1x0 KA1 ho1 hk1 K1x1 O1x1
        go_wp2_with (first
          | (refine wpList_load_mid rfl 25 (.tmp 3) rfl G (0) rfl (bys i) _ hri Tryz.underlying25 rfl hil ?_)
          | (refine wpList_buildI rfl (.tmp 44) rfl i rfl hil0 ?_)
          | (refine wpList_app_run9 rfl (.tmp 43) (.tmp 45) 35 35 rfl (.slice oo on oc) (.slice (some ⟨wr.heap.size, 0, none⟩) 1 1) rfl rfl _ w3 hrun1 ?_))
        go_ret
        exact ⟨.slice q1 m1 c1, rfl, HF.out⟩
      | true =>
        as_aux_lemma =>
        have HF : Hid (OwnI wr B (.slice oo on oc) (wth L i) ∧ Kept [] w wr ∧ (Value.slice oo on oc = .slice ao k c ∨ ∀ j, (Value.slice oo on oc).ownBlock = some j → w.heap.size ≤ j)) := ⟨by
          have e : wth L i = O := by rw [HI.out.1, List.drop_of_length_le (by rw [HN.out]; exact Nat.le_refl _), List.append_nil]
          rw [e]
          exact ⟨own_base9 HP.out.1.1 HBS.out, HP.out.1.2⟩, HK.out.trans HP.out.2.1 (by simp), .inr (fun j hj => Nat.le_trans HK.out.size (own_far0 HP.out.1.1 j hj))⟩
        go_wp2
        go_ret
        exact ⟨.slice oo on oc, rfl, HF.out⟩

end Go.Proofs.YtngaimahhgmciaaGreatDoor
