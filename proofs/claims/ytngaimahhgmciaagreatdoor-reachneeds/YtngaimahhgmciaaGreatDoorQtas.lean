import Derived.Test.YtngaimahhgmciaaGreatDoorQ9cs
import Derived.Test.YtngaimahhgmciaaGreatDoorK9needs
namespace Go.Proofs.YtngaimahhgmciaaGreatDoor
section
open Go.RowKit
open Go.Lib (compareBytes)
set_option linter.unusedVariables false
set_option linter.unusedSimpArgs false
theorem own_far0 {w : World} {b1 : Nat} {e : TypeId} {s1 : Nat} {v : Value} {n : Nat} {xs : List Value} (h : w.ownsRow b1 e s1 v n xs) (g : Nat) (hg : v.ownBlock = some g) : b1 ≤ g := by
 rcases h.2 with ⟨rfl, _⟩ | ⟨g1, c1, cur1, rfl, hb, _⟩
 ·simp [Value.ownBlock] at hg
 ·simp only [Value.ownBlock, Option.some.injEq] at hg
  omega
set_option maxHeartbeats 3200000 in
set_option maxRecDepth 100000 in
theorem with9b_ok (B : Nat) (ao : Option Addr) (n c : Nat) (L : List (List UInt8)) (i : List UInt8) (w : World) (hL : OwnI w B (.slice ao n c) L) (hB : B ≤ w.heap.size) (hu : Up L) (hil0 : i.length = 32) (hlen : (L.length + 2) * 32 ≤ 140737488355328) :
  Calls Tryz.prog 33 #[.slice ao n c, .agg (bys i).toArray] w fun e w' => ∃ v, e = .returned v ∧ OwnI w' B v (wth L i) ∧ Kept [] w w' ∧ (v = .slice ao n c ∨ ∀ j, v.ownBlock = some j → w.heap.size ≤ j) := by
 obtain ⟨G, hG⟩ : ∃ r, r = w.heap.size := ⟨_, rfl⟩
 have hk0 : Kept [] w (w.alloc (.cells (bys i).toArray 25)) := (Kept.refl [] w).alloc _
 have HR : Hid ((w.alloc (.cells (bys i).toArray 25)).heap[G]? = some (.cells (bys i).toArray 25)) := by rw [hG]; exact new_atK _ _
 have HK := hide hk0
 have HB := hide (hL.kept hk0 (by simp))
 have HBS : Hid (B ≤ (w.alloc (.cells (bys i).toArray 25)).heap.size) := Nat.le_trans hB hk0.size
 have HU := hide hu
 clear hL hk0 hB hu
 go_enter Tryz.func33, Tryz.ntmps33
 go_wp2
 rw [← hG]
 clear hG
 generalize w.alloc _ = w1 at HR HK HB HBS ⊢
 have HLI := hide HB.out.ids.1
 have HN : Hid (L.length = n) := HB.out.ids.2.1.symm
 have hn42 : (n + 2) * 32 ≤ 140737488355328 := by rw [← HN.out]; exact hlen
 clear hlen
 have HIN : Hid (OwnI w1 w1.heap.size (.slice none 0 0) [] ∧ Kept [] w1 w1 ∧ Inv9w L i 0 [] false) := ⟨⟨World.ownsRow_nil _ _ _ _, by simp⟩, Kept.refl _ _, rfl, rfl⟩
 go_loopw [5, 6, 7] (fun x y z wr => ∃ (k : Nat) (oo : Option Addr) (on oc : Nat) (O : List (List UInt8)) (b : Bool), k ≤ n ∧ x = .slice oo on oc ∧ y = .bool b ∧ z = .int .i64 k ∧ Hid (OwnI wr w1.heap.size (.slice oo on oc) O ∧ Kept [] w1 wr ∧ Inv9w L i k O b)) (fun x y z wr => n - (intOf z).toNat)
 case atStart => exact ⟨0, none, 0, 0, [], false, by omega, rfl, rfl, rfl, HIN⟩
 case round =>
  clear HIN
  obtain ⟨k, oo, on, oc, O, b, hk, rfl, rfl, rfl, HP⟩ := hrel
  have HI := hide HP.out.2.2
  by_cases hlt : k < n
  ·have hkl : k < L.length := by rw [HN.out]; exact hlt
   have hOl : O.length ≤ k + 1 := by
    have h := HI.out
    have h3 : (wth L i).length ≤ L.length + 1 := wth_len9 L i
    cases b with
    | false => rw [h.1, List.length_take]; omega
    | true =>
     have h4 := congrArg List.length h.1
     rw [List.length_append, List.length_drop] at h4
     omega
   have hOl2 : (O.length + 2) * 32 ≤ 140737488355328 := by omega
   obtain ⟨g, off, rfl, hrg⟩ := (HLI.out.kept HP.out.2.1 (fun _ _ _ => by simp)).1 k hkl
   have hx : (L.getD k []).length = 32 := HLI.out.2 _ (gmem9 hkl)
   obtain ⟨x, hxe⟩ : ∃ x, L.getD k [] = x := ⟨_, rfl⟩
   have HXE := hide hxe
   have hxe2 : L[k] = x := by rw [← hxe]; simp [List.getElem?_eq_getElem hkl]
   have HXD : Hid (L.drop k = x :: L.drop (k + 1)) := by show _ = _; rw [List.drop_eq_getElem_cons hkl, hxe2]
   have HTK : Hid (L.take (k + 1) = L.take k ++ [x]) := by show _ = _; rw [List.take_succ_eq_append_getElem hkl, hxe2]
   have HXU : Hid (∀ q, q ∈ L.drop (k + 1) → compareBytes x q < 0) := by
    have h := HU.out
    unfold Up at h
    rw [← List.take_append_drop k L, HXD.out, List.pairwise_append] at h
    exact (List.pairwise_cons.1 h.2.1).1
   rw [hxe] at hrg hx
   have hxl0 := hx
   have hxl := idl x hx
   have hil := idl i hil0
   have hri : wr.rangeAt G 0 (bys i) := row_rangeK (by rw [HP.out.2.1.block G (Array.getElem?_eq_some_iff.1 HR.out).1 (by simp)]; exact HR.out)
   have hcmp := fun W => rcmp9_ok x i hx hil0 W
   obtain ⟨cc, hcc⟩ : ∃ cc, compareBytes x i = cc := ⟨_, rfl⟩
   rw [hcc] at hcmp
   have HCC := hide hcc
   have hlt1 : (k : Int) < (n : Int) := by omega
   clear hxe hxe2 hkl hcc
   cases b with
   | false =>
    by_cases h0c : cc = 0
    ·as_aux_lemma =>
     have hcc0 : cc = 0 := h0c
     subst hcc0
     go_upto_region 6 with (fail)
     refine wp_region_held_drew (S := fun w' => Kept [] wr w') (by kernel_rfl) ((Kept.refl [] wr).drew) (fun h0 => ?_)
     generalize World.drew wr = v0 at h0  ⊢
     refine wpAnyH_take (i := 0) (v := .slice (some ⟨g, off, none⟩) n c) rfl (by kernel_rfl) (by kernel_rfl) (by kernel_rfl) (fun _ _ _ h => h) (Or.inl ⟨by rfl, fun w hSw => by go_simp⟩) h0 ?_
     try simp only [zk1, zk2, zk3, zk4, zk5, zk6, zk7, zk8]
     refine wpAnyH_take (i := 1) (v := .int .i64 k) rfl (by kernel_rfl) (by kernel_rfl) (by kernel_rfl) (fun _ _ _ h => h) (Or.inl ⟨by rfl, fun w hSw => by go_simp⟩) h0 ?_
     try simp only [zk1, zk2, zk3, zk4, zk5, zk6, zk7, zk8]
     refine wpAnyH_take (i := 2) (v := .pointer (some ⟨g, off + k * 32, none⟩)) rfl (by kernel_rfl) (by kernel_rfl) (by kernel_rfl) (fun _ _ _ h => h) (Or.inl ⟨by rfl, fun w hSw => by go_simp⟩) h0 ?_
     try simp only [zk1, zk2, zk3, zk4, zk5, zk6, zk7, zk8]
     refine wpAnyH_take (i := 3) (v := .agg (bys x).toArray) rfl (by kernel_rfl) (by kernel_rfl) (by kernel_rfl) (fun _ _ _ h => h) (yieldsIf_load_mid (by rfl) _ _ rfl g (off + k * 32) rfl (bys x) _ (fun W h => fun j u hu => Kept.cellOf h (hrg j u hu) (by simp)) Tryz.underlying25 rfl hxl) h0 ?_
     try simp only [zk1, zk2, zk3, zk4, zk5, zk6, zk7, zk8]
     refine wpAnyH_take (i := 4) (v := .agg (bys i).toArray) rfl (by kernel_rfl) (by kernel_rfl) (by kernel_rfl) (fun _ _ _ h => h) (yieldsIf_load_mid (by rfl) _ _ rfl G (0) rfl (bys i) _ (fun W h => fun j u hu => Kept.cellOf h (hri j u hu) (by simp)) Tryz.underlying25 rfl hil) h0 ?_
     try simp only [zk1, zk2, zk3, zk4, zk5, zk6, zk7, zk8]
     refine wpAnyH_ready (rs := [5]) (by kernel_rfl) (by simp) (AllReadyH.cons (i := 5) rfl (fun K hK => ?_) AllReadyH.nil)
     rw [if_pos (by rfl)]
     go_simp
     refine (hcmp v0).mono ?_
     rintro e v1 ⟨rfl, hq⟩
     refine hK.out _ _ (h0.trans hq (by simp)) (fun h1 => ?_)
     clear hK K
     try simp only [zk1, zk2, zk3, zk4, zk5, zk6, zk7, zk8]
     clear hq
     refine wpAnyH_take (i := 6) (v := .int .i64 0) rfl (by kernel_rfl) (by kernel_rfl) (by kernel_rfl) (fun _ _ _ h => h) (Or.inl ⟨by rfl, fun w hSw => by go_simp⟩) h1 ?_
     try simp only [zk1, zk2, zk3, zk4, zk5, zk6, zk7, zk8]
     refine wpAnyH_done (by kernel_rfl) ?_ _
     have K1 : Kept [] w1 v1 := HP.out.2.1.trans h1 (by simp)
     have O1 := HP.out.1.kept h1 (by simp)
     have HF : Hid (OwnI v1 B (.slice (some ⟨g, off, none⟩) n c) (wth L i) ∧ Kept [] w v1 ∧ (Value.slice (some ⟨g, off, none⟩) n c = .slice (some ⟨g, off, none⟩) n c ∨ ∀ j, (Value.slice (some ⟨g, off, none⟩) n c).ownBlock = some j → w.heap.size ≤ j)) := ⟨by rw [HI.out.2, HXD.out, wth0 HCC.out, ← HXD.out, List.take_append_drop]; exact HB.out.kept K1 (by simp), HK.out.trans K1 (by simp), .inl rfl⟩
     clear h1 hcmp hrg hri K1 O1
     go_wp2
     go_ret
     exact ⟨_, rfl, HF.out.1, HF.out.2.1, .inl rfl⟩
    by_cases hlt0 : cc < 0
    ·have hc1 : (cc == 0) = false := by simpa using h0c
     have hc2 : ¬ 0 < cc := by omega
     as_aux_lemma =>
     go_upto_region 6 with (fail)
     refine wp_region_held_drew (S := fun w' => Kept [] wr w') (by kernel_rfl) ((Kept.refl [] wr).drew) (fun h0 => ?_)
     generalize World.drew wr = v0 at h0  ⊢
     refine wpAnyH_take (i := 0) (v := .slice (some ⟨g, off, none⟩) n c) rfl (by kernel_rfl) (by kernel_rfl) (by kernel_rfl) (fun _ _ _ h => h) (Or.inl ⟨by rfl, fun w hSw => by go_simp⟩) h0 ?_
     try simp only [zk1, zk2, zk3, zk4, zk5, zk6, zk7, zk8]
     refine wpAnyH_take (i := 1) (v := .int .i64 k) rfl (by kernel_rfl) (by kernel_rfl) (by kernel_rfl) (fun _ _ _ h => h) (Or.inl ⟨by rfl, fun w hSw => by go_simp⟩) h0 ?_
     try simp only [zk1, zk2, zk3, zk4, zk5, zk6, zk7, zk8]
     refine wpAnyH_take (i := 2) (v := .pointer (some ⟨g, off + k * 32, none⟩)) rfl (by kernel_rfl) (by kernel_rfl) (by kernel_rfl) (fun _ _ _ h => h) (Or.inl ⟨by rfl, fun w hSw => by go_simp⟩) h0 ?_
     try simp only [zk1, zk2, zk3, zk4, zk5, zk6, zk7, zk8]
     refine wpAnyH_take (i := 3) (v := .agg (bys x).toArray) rfl (by kernel_rfl) (by kernel_rfl) (by kernel_rfl) (fun _ _ _ h => h) (yieldsIf_load_mid (by rfl) _ _ rfl g (off + k * 32) rfl (bys x) _ (fun W h => fun j u hu => Kept.cellOf h (hrg j u hu) (by simp)) Tryz.underlying25 rfl hxl) h0 ?_
     try simp only [zk1, zk2, zk3, zk4, zk5, zk6, zk7, zk8]
     refine wpAnyH_take (i := 4) (v := .agg (bys i).toArray) rfl (by kernel_rfl) (by kernel_rfl) (by kernel_rfl) (fun _ _ _ h => h) (yieldsIf_load_mid (by rfl) _ _ rfl G (0) rfl (bys i) _ (fun W h => fun j u hu => Kept.cellOf h (hri j u hu) (by simp)) Tryz.underlying25 rfl hil) h0 ?_
     try simp only [zk1, zk2, zk3, zk4, zk5, zk6, zk7, zk8]
     refine wpAnyH_ready (rs := [5]) (by kernel_rfl) (by simp) (AllReadyH.cons (i := 5) rfl (fun K hK => ?_) AllReadyH.nil)
     rw [if_pos (by rfl)]
     go_simp
     refine (hcmp v0).mono ?_
     rintro e v1 ⟨rfl, hq⟩
     refine hK.out _ _ (h0.trans hq (by simp)) (fun h1 => ?_)
     clear hK K
     try simp only [zk1, zk2, zk3, zk4, zk5, zk6, zk7, zk8]
     clear hq
     refine wpAnyH_take (i := 6) (v := .int .i64 cc) rfl (by kernel_rfl) (by kernel_rfl) (by kernel_rfl) (fun _ _ _ h => h) (Or.inl ⟨by rfl, fun w hSw => by go_simp⟩) h1 ?_
     try simp only [zk1, zk2, zk3, zk4, zk5, zk6, zk7, zk8]
     refine wpAnyH_done (by kernel_rfl) ?_ _
     have K1 : Kept [] w1 v1 := HP.out.2.1.trans h1 (by simp)
     have O1 := HP.out.1.kept h1 (by simp)
     have K1x0 := K1
     have O1x0 := O1
     have hr2 := (HLI.out.kept K1 (fun _ _ _ => by simp)).1 k (by rw [HN.out]; exact hlt)
     have KA1 := K1x0.trans ((Kept.refl [] v1).alloc (.cells (bys x).toArray 25)) (by simp)
     obtain ⟨v3, w3, hrun1, ho1, hk1, _⟩ := run_appI (O1x0.kept ((Kept.refl [] v1).alloc (.cells (bys x).toArray 25)) (by simp)) KA1.size x hxl0 v1.heap.size (new_atK _ _) (by omega)
     have K1x1 : Kept [] w1 w3 := far9 (O1x0.kept ((Kept.refl [] v1).alloc (.cells (bys x).toArray 25)) (by simp)) KA1 hk1
     have O1x1 := ho1
     obtain ⟨q1, c1, e1, _⟩ := own_shape O1x1.1
     obtain ⟨m1, hm1⟩ : ∃ m, (O ++ [x]).length = m := ⟨_, rfl⟩
     rw [hm1] at e1
     subst e1
     clear hm1
     have hrg2 : (v1).rangeAt g (off + k * 32) (bys x) := fun j u hu => h1.cellOf (hrg j u hu) (by simp)
     have HN : Hid (OwnI w3 w1.heap.size (.slice q1 m1 c1) (O ++ [x]) ∧ Kept [] w1 w3 ∧ Inv9w L i (k + 1) (O ++ [x]) false) := ⟨O1x1, K1x1, ⟨by rw [HI.out.1]; exact HTK.out.symm, by rw [HI.out.2, HXD.out, wthlt HCC.out hlt0, HTK.out, List.append_assoc]; rfl⟩⟩
     clear h1 hcmp hrg hri K1 O1 K1x0 O1x0 hr2 KA1 ho1 hk1 K1x1 O1x1
     go_wp2_with (first
      | (refine wpList_load_mid rfl 25 (.tmp 37) rfl g (off + k * 32) rfl (bys x) _ hrg2 Tryz.underlying25 rfl hxl ?_)
      | (refine wpList_buildI rfl (.tmp 38) rfl x rfl hxl0 ?_)
      | (refine wpList_app_run9 rfl (.tmp 34) (.tmp 39) 35 35 rfl (.slice oo on oc) (.slice (some ⟨v1.heap.size, 0, none⟩) 1 1) rfl rfl _ w3 hrun1 ?_))
     go_roundw
     case rel => exact ⟨k + 1, q1, _, c1, O ++ [x], false, by omega, rfl, rfl, by go_num, HN⟩
     case measure => simp [intOf]; omega
    ·have hgt0 : 0 < cc := by omega
     have hc1 : (cc == 0) = false := by simpa using h0c
     as_aux_lemma =>
     go_upto_region 6 with (fail)
     refine wp_region_held_drew (S := fun w' => Kept [] wr w') (by kernel_rfl) ((Kept.refl [] wr).drew) (fun h0 => ?_)
     generalize World.drew wr = v0 at h0  ⊢
     refine wpAnyH_take (i := 0) (v := .slice (some ⟨g, off, none⟩) n c) rfl (by kernel_rfl) (by kernel_rfl) (by kernel_rfl) (fun _ _ _ h => h) (Or.inl ⟨by rfl, fun w hSw => by go_simp⟩) h0 ?_
     try simp only [zk1, zk2, zk3, zk4, zk5, zk6, zk7, zk8]
     refine wpAnyH_take (i := 1) (v := .int .i64 k) rfl (by kernel_rfl) (by kernel_rfl) (by kernel_rfl) (fun _ _ _ h => h) (Or.inl ⟨by rfl, fun w hSw => by go_simp⟩) h0 ?_
     try simp only [zk1, zk2, zk3, zk4, zk5, zk6, zk7, zk8]
     refine wpAnyH_take (i := 2) (v := .pointer (some ⟨g, off + k * 32, none⟩)) rfl (by kernel_rfl) (by kernel_rfl) (by kernel_rfl) (fun _ _ _ h => h) (Or.inl ⟨by rfl, fun w hSw => by go_simp⟩) h0 ?_
     try simp only [zk1, zk2, zk3, zk4, zk5, zk6, zk7, zk8]
     refine wpAnyH_take (i := 3) (v := .agg (bys x).toArray) rfl (by kernel_rfl) (by kernel_rfl) (by kernel_rfl) (fun _ _ _ h => h) (yieldsIf_load_mid (by rfl) _ _ rfl g (off + k * 32) rfl (bys x) _ (fun W h => fun j u hu => Kept.cellOf h (hrg j u hu) (by simp)) Tryz.underlying25 rfl hxl) h0 ?_
     try simp only [zk1, zk2, zk3, zk4, zk5, zk6, zk7, zk8]
     refine wpAnyH_take (i := 4) (v := .agg (bys i).toArray) rfl (by kernel_rfl) (by kernel_rfl) (by kernel_rfl) (fun _ _ _ h => h) (yieldsIf_load_mid (by rfl) _ _ rfl G (0) rfl (bys i) _ (fun W h => fun j u hu => Kept.cellOf h (hri j u hu) (by simp)) Tryz.underlying25 rfl hil) h0 ?_
     try simp only [zk1, zk2, zk3, zk4, zk5, zk6, zk7, zk8]
     refine wpAnyH_ready (rs := [5]) (by kernel_rfl) (by simp) (AllReadyH.cons (i := 5) rfl (fun K hK => ?_) AllReadyH.nil)
     rw [if_pos (by rfl)]
     go_simp
     refine (hcmp v0).mono ?_
     rintro e v1 ⟨rfl, hq⟩
     refine hK.out _ _ (h0.trans hq (by simp)) (fun h1 => ?_)
     clear hK K
     try simp only [zk1, zk2, zk3, zk4, zk5, zk6, zk7, zk8]
     clear hq
     refine wpAnyH_take (i := 6) (v := .int .i64 cc) rfl (by kernel_rfl) (by kernel_rfl) (by kernel_rfl) (fun _ _ _ h => h) (Or.inl ⟨by rfl, fun w hSw => by go_simp⟩) h1 ?_
     try simp only [zk1, zk2, zk3, zk4, zk5, zk6, zk7, zk8]
     refine wpAnyH_done (by kernel_rfl) ?_ _
     have K1 : Kept [] w1 v1 := HP.out.2.1.trans h1 (by simp)
     have O1 := HP.out.1.kept h1 (by simp)
     have K1x0 := K1
     have O1x0 := O1
     have KA1 := K1x0.trans ((Kept.refl [] v1).alloc (.cells (bys i).toArray 25)) (by simp)
     obtain ⟨v3, w3, hrun1, ho1, hk1, _⟩ := run_appI (O1x0.kept ((Kept.refl [] v1).alloc (.cells (bys i).toArray 25)) (by simp)) KA1.size i hil0 v1.heap.size (new_atK _ _) (by omega)
     have K1x1 : Kept [] w1 w3 := far9 (O1x0.kept ((Kept.refl [] v1).alloc (.cells (bys i).toArray 25)) (by simp)) KA1 hk1
     have O1x1 := ho1
     obtain ⟨q1, c1, e1, _⟩ := own_shape O1x1.1
     obtain ⟨m1, hm1⟩ : ∃ m, (O ++ [i]).length = m := ⟨_, rfl⟩
     rw [hm1] at e1
     subst e1
     clear hm1
     have KA2 := K1x1.trans ((Kept.refl [] w3).alloc (.cells (bys x).toArray 25)) (by simp)
     obtain ⟨v5, w5, hrun2, ho2, hk2, _⟩ := run_appI (O1x1.kept ((Kept.refl [] w3).alloc (.cells (bys x).toArray 25)) (by simp)) KA2.size x hxl0 w3.heap.size (new_atK _ _) (by rw [show (O ++ [i]).length + 1 = O.length + 2 from by simp]; exact hOl2)
     have K1x2 : Kept [] w1 w5 := far9 (O1x1.kept ((Kept.refl [] w3).alloc (.cells (bys x).toArray 25)) (by simp)) KA2 hk2
     have O1x2 := ho2
     obtain ⟨q2, c2, e2, _⟩ := own_shape O1x2.1
     obtain ⟨m2, hm2⟩ : ∃ m, (O ++ [i] ++ [x]).length = m := ⟨_, rfl⟩
     rw [hm2] at e2
     subst e2
     clear hm2
     have hri2 : v1.rangeAt G 0 (bys i) := fun j u hu => h1.cellOf (hri j u hu) (by simp)
     obtain ⟨g', off', e', hrg2⟩ := (HLI.out.kept K1x1 (fun _ _ _ => by simp)).1 k (by rw [HN.out]; exact hlt)
     cases e'
     rw [HXE.out] at hrg2
     obtain ⟨O2, hO2⟩ : ∃ O2, O ++ [i] ++ [x] = O2 := ⟨_, rfl⟩
     have HN : Hid (OwnI w5 w1.heap.size (.slice q2 m2 c2) O2 ∧ Kept [] w1 w5 ∧ Inv9w L i (k + 1) O2 true) := ⟨by rw [← hO2]; exact O1x2, K1x2, by rw [← hO2, HI.out.2, HXD.out, wthgt HCC.out hgt0, ← HI.out.1]; simp, fun q hq => by
      have h1 := HXU.out q hq
      have h2 : compareBytes i x < 0 := by have := cmp_swap x i; rw [HCC.out] at this; omega
      have h3 := cmp_trans h2 h1
      have := cmp_swap i q
      omega⟩
     clear h1 hcmp hrg hri K1 O1 K1x0 O1x0 KA1 ho1 hk1 K1x1 O1x1 KA2 ho2 hk2 K1x2 O1x2 hO2
     go_upto_region 11 with (first
      | (refine wpList_load_mid rfl 25 (.tmp 3) rfl G (0) rfl (bys i) _ hri2 Tryz.underlying25 rfl hil ?_)
      | (refine wpList_buildI rfl (.tmp 31) rfl i rfl hil0 ?_)
      | (refine wpList_app_run9 rfl (.tmp 30) (.tmp 32) 35 35 rfl (.slice oo on oc) (.slice (some ⟨v1.heap.size, 0, none⟩) 1 1) rfl rfl _ w3 hrun1 ?_))
     clear hri2 hrun1
     go_upto_region 12 with (fail)
     go_wp2_with (first
      | (refine wpList_load_mid rfl 25 (.tmp 37) rfl g (off + k * 32) rfl (bys x) _ hrg2 Tryz.underlying25 rfl hxl ?_)
      | (refine wpList_buildI rfl (.tmp 38) rfl x rfl hxl0 ?_)
      | (refine wpList_app_run9 rfl (.tmp 34) (.tmp 39) 35 35 rfl (.slice q1 m1 c1) (.slice (some ⟨w3.heap.size, 0, none⟩) 1 1) rfl rfl _ w5 hrun2 ?_))
     go_roundw
     case rel => exact ⟨k + 1, q2, _, c2, O2, true, by omega, rfl, rfl, by go_num, HN⟩
     case measure => simp [intOf]; omega
   | true =>
    have hgt0 : 0 < cc := by have := HI.out.2 x (by rw [HXD.out]; simp); rw [HCC.out] at this; exact this
    have hc1 : (cc == 0) = false := by simp; omega
    as_aux_lemma =>
    go_upto_region 6 with (fail)
    refine wp_region_held_drew (S := fun w' => Kept [] wr w') (by kernel_rfl) ((Kept.refl [] wr).drew) (fun h0 => ?_)
    generalize World.drew wr = v0 at h0  ⊢
    refine wpAnyH_take (i := 0) (v := .slice (some ⟨g, off, none⟩) n c) rfl (by kernel_rfl) (by kernel_rfl) (by kernel_rfl) (fun _ _ _ h => h) (Or.inl ⟨by rfl, fun w hSw => by go_simp⟩) h0 ?_
    try simp only [zk1, zk2, zk3, zk4, zk5, zk6, zk7, zk8]
    refine wpAnyH_take (i := 1) (v := .int .i64 k) rfl (by kernel_rfl) (by kernel_rfl) (by kernel_rfl) (fun _ _ _ h => h) (Or.inl ⟨by rfl, fun w hSw => by go_simp⟩) h0 ?_
    try simp only [zk1, zk2, zk3, zk4, zk5, zk6, zk7, zk8]
    refine wpAnyH_take (i := 2) (v := .pointer (some ⟨g, off + k * 32, none⟩)) rfl (by kernel_rfl) (by kernel_rfl) (by kernel_rfl) (fun _ _ _ h => h) (Or.inl ⟨by rfl, fun w hSw => by go_simp⟩) h0 ?_
    try simp only [zk1, zk2, zk3, zk4, zk5, zk6, zk7, zk8]
    refine wpAnyH_take (i := 3) (v := .agg (bys x).toArray) rfl (by kernel_rfl) (by kernel_rfl) (by kernel_rfl) (fun _ _ _ h => h) (yieldsIf_load_mid (by rfl) _ _ rfl g (off + k * 32) rfl (bys x) _ (fun W h => fun j u hu => Kept.cellOf h (hrg j u hu) (by simp)) Tryz.underlying25 rfl hxl) h0 ?_
    try simp only [zk1, zk2, zk3, zk4, zk5, zk6, zk7, zk8]
    refine wpAnyH_take (i := 4) (v := .agg (bys i).toArray) rfl (by kernel_rfl) (by kernel_rfl) (by kernel_rfl) (fun _ _ _ h => h) (yieldsIf_load_mid (by rfl) _ _ rfl G (0) rfl (bys i) _ (fun W h => fun j u hu => Kept.cellOf h (hri j u hu) (by simp)) Tryz.underlying25 rfl hil) h0 ?_
    try simp only [zk1, zk2, zk3, zk4, zk5, zk6, zk7, zk8]
    refine wpAnyH_ready (rs := [5]) (by kernel_rfl) (by simp) (AllReadyH.cons (i := 5) rfl (fun K hK => ?_) AllReadyH.nil)
    rw [if_pos (by rfl)]
    go_simp
    refine (hcmp v0).mono ?_
    rintro e v1 ⟨rfl, hq⟩
    refine hK.out _ _ (h0.trans hq (by simp)) (fun h1 => ?_)
    clear hK K
    try simp only [zk1, zk2, zk3, zk4, zk5, zk6, zk7, zk8]
    clear hq
    refine wpAnyH_take (i := 6) (v := .int .i64 cc) rfl (by kernel_rfl) (by kernel_rfl) (by kernel_rfl) (fun _ _ _ h => h) (Or.inl ⟨by rfl, fun w hSw => by go_simp⟩) h1 ?_
    try simp only [zk1, zk2, zk3, zk4, zk5, zk6, zk7, zk8]
    refine wpAnyH_done (by kernel_rfl) ?_ _
    have K1 : Kept [] w1 v1 := HP.out.2.1.trans h1 (by simp)
    have O1 := HP.out.1.kept h1 (by simp)
    have K1x0 := K1
    have O1x0 := O1
    have hr2 := (HLI.out.kept K1 (fun _ _ _ => by simp)).1 k (by rw [HN.out]; exact hlt)
    have KA1 := K1x0.trans ((Kept.refl [] v1).alloc (.cells (bys x).toArray 25)) (by simp)
    obtain ⟨v3, w3, hrun1, ho1, hk1, _⟩ := run_appI (O1x0.kept ((Kept.refl [] v1).alloc (.cells (bys x).toArray 25)) (by simp)) KA1.size x hxl0 v1.heap.size (new_atK _ _) (by omega)
    have K1x1 : Kept [] w1 w3 := far9 (O1x0.kept ((Kept.refl [] v1).alloc (.cells (bys x).toArray 25)) (by simp)) KA1 hk1
    have O1x1 := ho1
    obtain ⟨q1, c1, e1, _⟩ := own_shape O1x1.1
    obtain ⟨m1, hm1⟩ : ∃ m, (O ++ [x]).length = m := ⟨_, rfl⟩
    rw [hm1] at e1
    subst e1
    clear hm1
    have hrg2 : (v1).rangeAt g (off + k * 32) (bys x) := fun j u hu => h1.cellOf (hrg j u hu) (by simp)
    have HN : Hid (OwnI w3 w1.heap.size (.slice q1 m1 c1) (O ++ [x]) ∧ Kept [] w1 w3 ∧ Inv9w L i (k + 1) (O ++ [x]) true) := ⟨O1x1, K1x1, ⟨by rw [HI.out.1, HXD.out, List.append_assoc]; rfl, fun q hq => HI.out.2 q (by rw [HXD.out]; exact List.mem_cons_of_mem _ hq)⟩⟩
    clear h1 hcmp hrg hri K1 O1 K1x0 O1x0 hr2 KA1 ho1 hk1 K1x1 O1x1
    go_wp2_with (first
     | (refine wpList_load_mid rfl 25 (.tmp 37) rfl g (off + k * 32) rfl (bys x) _ hrg2 Tryz.underlying25 rfl hxl ?_)
     | (refine wpList_buildI rfl (.tmp 38) rfl x rfl hxl0 ?_)
     | (refine wpList_app_run9 rfl (.tmp 34) (.tmp 39) 35 35 rfl (.slice oo on oc) (.slice (some ⟨v1.heap.size, 0, none⟩) 1 1) rfl rfl _ w3 hrun1 ?_))
    go_roundw
    case rel => exact ⟨k + 1, q1, _, c1, O ++ [x], true, by omega, rfl, rfl, by go_num, HN⟩
    case measure => simp [intOf]; omega
  ·obtain rfl : k = n := by omega
   have hlt1 : ¬ (k : Int) < (k : Int) := by omega
   have hil := idl i hil0
   have hOl : O.length ≤ k + 1 := by
    have h := HI.out
    have h3 : (wth L i).length ≤ L.length + 1 := wth_len9 L i
    have h5 := HN.out
    cases b with
    | false => rw [h.1, List.length_take]; omega
    | true =>
     have h4 := congrArg List.length h.1
     rw [List.length_append, List.length_drop] at h4
     omega
   cases b with
   | false =>
    as_aux_lemma =>
    have K1 := HP.out.2.1
    have O1 := HP.out.1
    have K1x0 := K1
    have O1x0 := O1
    have hri : wr.rangeAt G 0 (bys i) := row_rangeK (by rw [HP.out.2.1.block G (Array.getElem?_eq_some_iff.1 HR.out).1 (by simp)]; exact HR.out)
    have KA1 := K1x0.trans ((Kept.refl [] wr).alloc (.cells (bys i).toArray 25)) (by simp)
    obtain ⟨v3, w3, hrun1, ho1, hk1, _⟩ := run_appI (O1x0.kept ((Kept.refl [] wr).alloc (.cells (bys i).toArray 25)) (by simp)) KA1.size i hil0 wr.heap.size (new_atK _ _) (by omega)
    have K1x1 : Kept [] w1 w3 := far9 (O1x0.kept ((Kept.refl [] wr).alloc (.cells (bys i).toArray 25)) (by simp)) KA1 hk1
    have O1x1 := ho1
    obtain ⟨q1, c1, e1, _⟩ := own_shape O1x1.1
    obtain ⟨m1, hm1⟩ : ∃ m, (O ++ [i]).length = m := ⟨_, rfl⟩
    rw [hm1] at e1
    subst e1
    clear hm1
    have HF : Hid (OwnI w3 B (.slice q1 m1 c1) (wth L i) ∧ Kept [] w w3 ∧ (Value.slice q1 m1 c1 = .slice ao k c ∨ ∀ j, (Value.slice q1 m1 c1).ownBlock = some j → w.heap.size ≤ j)) := ⟨by
     have e : wth L i = O ++ [i] := by rw [HI.out.2, HI.out.1, List.drop_of_length_le (by rw [HN.out]; exact Nat.le_refl _)]; rfl
     rw [e]
     exact ⟨own_base9 O1x1.1 HBS.out, O1x1.2⟩, HK.out.trans K1x1 (by simp), .inr (fun j hj => Nat.le_trans HK.out.size (own_far0 O1x1.1 j hj))⟩
    clear K1 O1 K1x0 O1x0 KA1 ho1 hk1 K1x1 O1x1
    go_wp2_with (first
     | (refine wpList_load_mid rfl 25 (.tmp 3) rfl G (0) rfl (bys i) _ hri Tryz.underlying25 rfl hil ?_)
     | (refine wpList_buildI rfl (.tmp 44) rfl i rfl hil0 ?_)
     | (refine wpList_app_run9 rfl (.tmp 43) (.tmp 45) 35 35 rfl (.slice oo on oc) (.slice (some ⟨wr.heap.size, 0, none⟩) 1 1) rfl rfl _ w3 hrun1 ?_))
    go_ret
    exact ⟨.slice q1 m1 c1, rfl, HF.out⟩
   | true =>
    as_aux_lemma =>
    have HF : Hid (OwnI wr B (.slice oo on oc) (wth L i) ∧ Kept [] w wr ∧ (Value.slice oo on oc = .slice ao k c ∨ ∀ j, (Value.slice oo on oc).ownBlock = some j → w.heap.size ≤ j)) := ⟨by
     have e : wth L i = O := by rw [HI.out.1, List.drop_of_length_le (by rw [HN.out]; exact Nat.le_refl _), List.append_nil]
     rw [e]
     exact ⟨own_base9 HP.out.1.1 HBS.out, HP.out.1.2⟩, HK.out.trans HP.out.2.1 (by simp), .inr (fun j hj => Nat.le_trans HK.out.size (own_far0 HP.out.1.1 j hj))⟩
    go_wp2
    go_ret
    exact ⟨.slice oo on oc, rfl, HF.out⟩
end

section
open Go.RowKit Go.Lib Go.Sort
set_option linter.unusedVariables false
set_option linter.unusedSimpArgs false
structure Rw where
 asked : List (List UInt8)
 need : List (List UInt8)
 bad : List (List UInt8)
 lacks : List (List UInt8)
def Rw.ask (f : List UInt8 → An) (w : Rw) (i : List UInt8) : Bool × Rw :=
 if i ∈ w.asked then (true, w) else match f i with
  | .fail => (false, { w with asked := w.asked ++ [i] })
  | .lack => (true, { w with asked := w.asked ++ [i], lacks := wth w.lacks i })
  | .data _ => (true, { w with asked := w.asked ++ [i] })
def Rw.asks1 (f : List UInt8 → An) : Rw → List (List UInt8) → Option (List UInt8) × Rw
 | w, [] => (none, w)
 | w, i :: r => if (({ w with need := wth w.need i } : Rw).ask f i).1 = true then Rw.asks1 f (({ w with need := wth w.need i } : Rw).ask f i).2 r else (some i, (({ w with need := wth w.need i } : Rw).ask f i).2)
def Rw.asks (f : List UInt8 → An) : Rw → List (List UInt8) → Option (List UInt8) × Rw
 | w, [] => (none, w)
 | w, i :: r => if (w.ask f i).1 = true then Rw.asks f (w.ask f i).2 r else (some i, (w.ask f i).2)
def Rw.openE (w : Rw) (i : List UInt8) (next : List (List UInt8)) : An → Rw × List (List UInt8)
 | .data xs => match Tn.parse xs with
  | none => ({ w with bad := wth w.bad i }, next)
  | some E => ({ w with need := (E.map (·.id)).foldl wth w.need }, (fldsE E).foldl wth next)
 | _ => (w, next)
def Rw.opens (f : List UInt8 → An) : Rw → List (List UInt8) → List (List UInt8) → Rw × List (List UInt8)
 | w, next, [] => (w, next)
 | w, next, i :: r => Rw.opens f (w.openE i next (f i)).1 (w.openE i next (f i)).2 r
def Rw.rounds (f : List UInt8 → An) : Nat → Rw → List (List UInt8) → Option (List UInt8) × Rw × List (List UInt8)
 | 0, w, now => (none, w, now)
 | n + 1, w, now => match Rw.asks1 f w now with
  | (some i, w') => (some i, w', now)
  | (none, w') => Rw.rounds f n (Rw.opens f w' [] now).1 (Rw.opens f w' [] now).2
def refW (f : List UInt8 → An) (roots : List (List UInt8)) : Option (List UInt8) × Rw × List (List UInt8) :=
 match Rw.rounds f 6 ⟨[], [], [], []⟩ (canon roots) with
  | (some i, w, R) => (some i, w, R)
  | (none, w, R) => ((Rw.asks f w w.need).1, (Rw.asks f w w.need).2, R)
structure Inv9 (f : List UInt8 → An) (s : Ws) (w : Rw) (now : List (List UInt8)) : Prop where
 ord : s.ord = w.asked
 A : ∀ q, q ∈ s.A ↔ q ∈ w.asked
 L : ∀ q, q ∈ s.L ↔ q ∈ w.lacks
 B : ∀ q, q ∈ s.B ↔ q ∈ w.bad ∨ (q ∈ now ∧ q ∈ s.A ∧ badF f q)
 N : ∀ q, q ∈ s.N ↔ q ∈ w.need ∨ q ∈ now ∨ ∃ p, p ∈ now ∧ p ∈ s.A ∧ q ∈ idsF f p
 uL : Up w.lacks
 uB : Up w.bad
 uN : Up w.need
 bad : ∀ q, q ∈ s.A → badF f q → q ∈ s.B
 fl : ∀ q, q ∈ s.A → s.fl q = fldsF f q
 nf : ∀ q, q ∉ s.A → s.fl q = []
 sub : ∀ p q, p ∈ s.A → q ∈ idsF f p → q ∈ s.N
theorem Inv9.needs {f : List UInt8 → An} {s : Ws} {w : Rw} {now : List (List UInt8)} (h : Inv9 f s w now) {i : List UInt8} (hi : i ∈ now) : Inv9 f s { w with need := wth w.need i } now :=
 { h with
  N := fun q => by
   rw [h.N q]
   show _ ↔ q ∈ wth w.need i ∨ _
   rw [mem_wth]
   constructor
   ·rintro (h1 | h1)
    ·exact .inl (.inl h1)
    ·exact .inr h1
   ·rintro ((h1 | rfl) | h1)
    ·exact .inl h1
    ·exact .inr (.inl hi)
    ·exact .inr h1
  uN := up_wth h.uN }
theorem ask_lackR {f : List UInt8 → An} {s : Ws} {w : Rw} {now : List (List UInt8)} (h : Inv9 f s w now) {i : List UInt8} (hi : i ∈ now) (hn : i ∉ s.A) (hf : f i = .lack) :
  Inv9 f { s.asked i with L := insI s.L i } { w with asked := w.asked ++ [i], lacks := wth w.lacks i } now where
 ord := by show s.ord ++ [i] = _; rw [h.ord]
 A q := by show q ∈ insI s.A i ↔ _; rw [mem_insI, h.A q]; simp
 L q := by show q ∈ insI s.L i ↔ q ∈ wth w.lacks i; rw [mem_insI, mem_wth, h.L q]
 B q := by
  show q ∈ s.B ↔ q ∈ w.bad ∨ (q ∈ now ∧ q ∈ insI s.A i ∧ badF f q)
  rw [h.B q, mem_insI]
  have hb : ¬ badF f i := by unfold badF; rw [hf]; exact id
  constructor
  ·rintro (h1 | ⟨h1, h2, h3⟩)
   ·exact .inl h1
   ·exact .inr ⟨h1, .inl h2, h3⟩
  ·rintro (h1 | ⟨h1, h2 | rfl, h3⟩)
   ·exact .inl h1
   ·exact .inr ⟨h1, h2, h3⟩
   ·exact absurd h3 hb
 N q := by
  show q ∈ s.N ↔ q ∈ w.need ∨ q ∈ now ∨ ∃ p, p ∈ now ∧ p ∈ insI s.A i ∧ q ∈ idsF f p
  rw [h.N q]
  have hb : idsF f i = [] := by unfold idsF; rw [hf]
  constructor
  ·rintro (h1 | h1 | ⟨p, h1, h2, h3⟩)
   ·exact .inl h1
   ·exact .inr (.inl h1)
   ·exact .inr (.inr ⟨p, h1, mem_insI.2 (.inl h2), h3⟩)
  ·rintro (h1 | h1 | ⟨p, h1, h2, h3⟩)
   ·exact .inl h1
   ·exact .inr (.inl h1)
   ·rcases mem_insI.1 h2 with h2 | rfl
    ·exact .inr (.inr ⟨p, h1, h2, h3⟩)
    ·rw [hb] at h3; simp at h3
 uL := up_wth h.uL
 uB := h.uB
 uN := h.uN
 bad q hq hb := by
  show q ∈ s.B
  rcases mem_insI.1 hq with h2 | rfl
  ·exact h.bad q h2 hb
  ·unfold badF at hb; rw [hf] at hb; exact hb.elim
 fl q hq := by
  show s.fl q = _
  rcases mem_insI.1 hq with h2 | rfl
  ·exact h.fl q h2
  ·rw [h.nf q hn]; unfold fldsF; rw [hf]
 nf q hq := h.nf q (fun h2 => hq (mem_insI.2 (.inl h2)))
 sub p q hp hq := by
  show q ∈ s.N
  rcases mem_insI.1 hp with h2 | rfl
  ·exact h.sub p q h2 hq
  ·unfold idsF at hq; rw [hf] at hq; simp at hq
theorem ask_dataR {f : List UInt8 → An} {s : Ws} {w : Rw} {now : List (List UInt8)} (h : Inv9 f s w now) {i xs : List UInt8} (hi : i ∈ now) (hn : i ∉ s.A) (hf : f i = .data xs) :
  Inv9 f ((s.asked i).readE i (Tn.parse xs)) { w with asked := w.asked ++ [i] } now := by
 have hA : ∀ o, ((s.asked i).readE i o).A = insI s.A i := fun o => by cases o <;> rfl
 have hO : ∀ o, ((s.asked i).readE i o).ord = s.ord ++ [i] := fun o => by cases o <;> rfl
 have hL : ∀ o, ((s.asked i).readE i o).L = s.L := fun o => by cases o <;> rfl
 cases hp : Tn.parse xs with
 | none =>
  have hb : badF f i := by unfold badF; rw [hf]; exact hp
  have hids : idsF f i = [] := by unfold idsF; rw [hf]; simp only [hp]
  have hfl : fldsF f i = [] := by unfold fldsF; rw [hf]; simp only [hp]
  exact {
   ord := by rw [hO, h.ord]
   A := fun q => by rw [hA, mem_insI, h.A q]; simp
   L := fun q => by rw [hL]; exact h.L q
   B := fun q => by
    show q ∈ insI s.B i ↔ q ∈ w.bad ∨ (q ∈ now ∧ q ∈ insI s.A i ∧ badF f q)
    rw [mem_insI, mem_insI, h.B q]
    constructor
    ·rintro ((h1 | ⟨h1, h2, h3⟩) | rfl)
     ·exact .inl h1
     ·exact .inr ⟨h1, .inl h2, h3⟩
     ·exact .inr ⟨hi, .inr rfl, hb⟩
    ·rintro (h1 | ⟨h1, h2 | rfl, h3⟩)
     ·exact .inl (.inl h1)
     ·exact .inl (.inr ⟨h1, h2, h3⟩)
     ·exact .inr rfl
   N := fun q => by
    show q ∈ s.N ↔ q ∈ w.need ∨ q ∈ now ∨ ∃ p, p ∈ now ∧ p ∈ insI s.A i ∧ q ∈ idsF f p
    rw [h.N q]
    constructor
    ·rintro (h1 | h1 | ⟨p, h1, h2, h3⟩)
     ·exact .inl h1
     ·exact .inr (.inl h1)
     ·exact .inr (.inr ⟨p, h1, mem_insI.2 (.inl h2), h3⟩)
    ·rintro (h1 | h1 | ⟨p, h1, h2, h3⟩)
     ·exact .inl h1
     ·exact .inr (.inl h1)
     ·rcases mem_insI.1 h2 with h2 | rfl
      ·exact .inr (.inr ⟨p, h1, h2, h3⟩)
      ·rw [hids] at h3; simp at h3
   uL := h.uL
   uB := h.uB
   uN := h.uN
   bad := fun q hq hb => by
    show q ∈ insI s.B i
    rcases mem_insI.1 hq with h2 | rfl
    ·exact mem_insI.2 (.inl (h.bad q h2 hb))
    ·exact mem_insI.2 (.inr rfl)
   fl := fun q hq => by
    show s.fl q = _
    rcases mem_insI.1 hq with h2 | rfl
    ·exact h.fl q h2
    ·rw [h.nf q hn, hfl]
   nf := fun q hq => h.nf q (fun h2 => hq (mem_insI.2 (.inl h2)))
   sub := fun p q hp hq => by
    show q ∈ s.N
    rcases mem_insI.1 hp with h2 | rfl
    ·exact h.sub p q h2 hq
    ·rw [hids] at hq; simp at hq }
 | some E =>
  have hb : ¬ badF f i := by unfold badF; rw [hf]; simp only [hp]; simp
  have hids : idsF f i = E.map (·.id) := by unfold idsF; rw [hf]; simp only [hp]
  have hfl : fldsF f i = fldsE E := by unfold fldsF; rw [hf]; simp only [hp]
  exact {
   ord := by rw [hO, h.ord]
   A := fun q => by rw [hA, mem_insI, h.A q]; simp
   L := fun q => by rw [hL]; exact h.L q
   B := fun q => by
    show q ∈ s.B ↔ q ∈ w.bad ∨ (q ∈ now ∧ q ∈ insI s.A i ∧ badF f q)
    rw [mem_insI, h.B q]
    constructor
    ·rintro (h1 | ⟨h1, h2, h3⟩)
     ·exact .inl h1
     ·exact .inr ⟨h1, .inl h2, h3⟩
    ·rintro (h1 | ⟨h1, h2 | rfl, h3⟩)
     ·exact .inl h1
     ·exact .inr ⟨h1, h2, h3⟩
     ·exact absurd h3 hb
   N := fun q => by
    show q ∈ insA s.N (E.map (·.id)) ↔ q ∈ w.need ∨ q ∈ now ∨ ∃ p, p ∈ now ∧ p ∈ insI s.A i ∧ q ∈ idsF f p
    rw [mem_insA, h.N q, ← hids]
    constructor
    ·rintro ((h1 | h1 | ⟨p, h1, h2, h3⟩) | h1)
     ·exact .inl h1
     ·exact .inr (.inl h1)
     ·exact .inr (.inr ⟨p, h1, mem_insI.2 (.inl h2), h3⟩)
     ·exact .inr (.inr ⟨i, hi, mem_insI.2 (.inr rfl), h1⟩)
    ·rintro (h1 | h1 | ⟨p, h1, h2, h3⟩)
     ·exact .inl (.inl h1)
     ·exact .inl (.inr (.inl h1))
     ·rcases mem_insI.1 h2 with h2 | rfl
      ·exact .inl (.inr (.inr ⟨p, h1, h2, h3⟩))
      ·exact .inr h3
   uL := h.uL
   uB := h.uB
   uN := h.uN
   bad := fun q hq hb' => by
    show q ∈ s.B
    rcases mem_insI.1 hq with h2 | rfl
    ·exact h.bad q h2 hb'
    ·exact absurd hb' hb
   fl := fun q hq => by
    show (if q = i then fldsE E else s.fl q) = _
    by_cases e : q = i
    ·rw [if_pos e, e, hfl]
    ·rw [if_neg e]
     rcases mem_insI.1 hq with h2 | h2
     ·exact h.fl q h2
     ·exact absurd h2 e
   nf := fun q hq => by
    show (if q = i then fldsE E else s.fl q) = _
    have e : q ≠ i := fun e => hq (mem_insI.2 (.inr e))
    rw [if_neg e]
    exact h.nf q (fun h2 => hq (mem_insI.2 (.inl h2)))
   sub := fun p q hp hq => by
    show q ∈ insA s.N (E.map (·.id))
    rcases mem_insI.1 hp with h2 | rfl
    ·exact mem_insA.2 (.inl (h.sub p q h2 hq))
    ·exact mem_insA.2 (.inr (hids ▸ hq)) }
theorem trees_ref {f : List UInt8 → An} {now : List (List UInt8)} : ∀ (l : List (List UInt8)) (s : Ws) (w : Rw), (∀ q, q ∈ l → q ∈ now) → Inv9 f s w now →
  (Ws.trees f s l).1 = (Rw.asks1 f w l).1 ∧ (Ws.trees f s l).2.ord = (Rw.asks1 f w l).2.asked ∧
  ((Rw.asks1 f w l).1 = none → Inv9 f (Ws.trees f s l).2 (Rw.asks1 f w l).2 now ∧ (∀ q, q ∈ l → q ∈ (Ws.trees f s l).2.A ∧ q ∈ (Rw.asks1 f w l).2.need) ∧ (∀ q, q ∈ s.A → q ∈ (Ws.trees f s l).2.A) ∧ (∀ q, q ∈ w.need → q ∈ (Rw.asks1 f w l).2.need))
 | [], s, w, _, h => ⟨rfl, h.ord, fun _ => ⟨h, fun q hq => by simp at hq, fun _ h => h, fun _ h => h⟩⟩
 | i :: l, s, w, hl, h => by
  have hi : i ∈ now := hl i (by simp)
  have h1 := h.needs hi
  -- what the step is
  have step : ∀ (s' : Ws) (w' : Rw), s.tree f i = (true, s') → ({ w with need := wth w.need i } : Rw).ask f i = (true, w') → Inv9 f s' w' now → i ∈ s'.A → i ∈ w'.need → (∀ q, q ∈ s.A → q ∈ s'.A) → (∀ q, q ∈ w.need → q ∈ w'.need) →
    (Ws.trees f s (i :: l)).1 = (Rw.asks1 f w (i :: l)).1 ∧ (Ws.trees f s (i :: l)).2.ord = (Rw.asks1 f w (i :: l)).2.asked ∧
    ((Rw.asks1 f w (i :: l)).1 = none → Inv9 f (Ws.trees f s (i :: l)).2 (Rw.asks1 f w (i :: l)).2 now ∧ (∀ q, q ∈ i :: l → q ∈ (Ws.trees f s (i :: l)).2.A ∧ q ∈ (Rw.asks1 f w (i :: l)).2.need) ∧ (∀ q, q ∈ s.A → q ∈ (Ws.trees f s (i :: l)).2.A) ∧ (∀ q, q ∈ w.need → q ∈ (Rw.asks1 f w (i :: l)).2.need)) := by
   intro s' w' e1 e2 hI ha hn hA hN
   have t1 : Ws.trees f s (i :: l) = Ws.trees f s' l := by simp only [Ws.trees, e1, if_pos]
   have t2 : Rw.asks1 f w (i :: l) = Rw.asks1 f w' l := by simp only [Rw.asks1, e2, if_pos]
   rw [t1, t2]
   obtain ⟨g1, g2, g3⟩ := trees_ref l s' w' (fun q hq => hl q (by simp [hq])) hI
   refine ⟨g1, g2, fun hnn => ?_⟩
   obtain ⟨k1, k2, k3, k4⟩ := g3 hnn
   refine ⟨k1, fun q hq => ?_, fun q hq => k3 q (hA q hq), fun q hq => k4 q (hN q hq)⟩
   rcases List.mem_cons.1 hq with rfl | hq
   ·exact ⟨k3 _ ha, k4 _ hn⟩
   ·exact k2 q hq
  have hnn : i ∈ wth w.need i := mem_wth.2 (.inr rfl)
  have hnm : ∀ q, q ∈ w.need → q ∈ wth w.need i := fun q hq => mem_wth.2 (.inl hq)
  by_cases ha : i ∈ s.A
  ·have hw : i ∈ w.asked := (h.A i).1 ha
   refine step s { w with need := wth w.need i } (by unfold Ws.tree; rw [if_pos ha]) (by unfold Rw.ask; rw [if_pos (show i ∈ ({ w with need := wth w.need i } : Rw).asked from hw)]) h1 ha hnn (fun _ h => h) hnm
  ·have hw : i ∉ w.asked := fun hx => ha ((h.A i).2 hx)
   cases hf : f i with
   | fail =>
    have e1 : s.tree f i = (false, s.asked i) := by unfold Ws.tree; rw [if_neg ha]; simp only [hf]
    have e2 : ({ w with need := wth w.need i } : Rw).ask f i = (false, { w with need := wth w.need i, asked := w.asked ++ [i] }) := by unfold Rw.ask; rw [if_neg (show ¬ i ∈ ({ w with need := wth w.need i } : Rw).asked from hw)]; simp only [hf]
    have t1 : Ws.trees f s (i :: l) = (some i, s.asked i) := by simp [Ws.trees, e1]
    have t2 : Rw.asks1 f w (i :: l) = (some i, { w with need := wth w.need i, asked := w.asked ++ [i] }) := by simp [Rw.asks1, e2]
    rw [t1, t2]
    refine ⟨rfl, ?_, fun hx => by cases hx⟩
    show s.ord ++ [i] = w.asked ++ [i]
    rw [h.ord]
   | lack =>
    exact step _ _ (by unfold Ws.tree; rw [if_neg ha]; simp only [hf]) (by unfold Rw.ask; rw [if_neg (show ¬ i ∈ ({ w with need := wth w.need i } : Rw).asked from hw)]; simp only [hf]) (ask_lackR h1 hi ha hf) (mem_insI.2 (.inr rfl)) hnn (fun q hq => mem_insI.2 (.inl hq)) hnm
   | data xs =>
    have hA : ((s.asked i).readE i (Tn.parse xs)).A = insI s.A i := by cases Tn.parse xs <;> rfl
    exact step _ _ (by unfold Ws.tree; rw [if_neg ha]; simp only [hf]) (by unfold Rw.ask; rw [if_neg (show ¬ i ∈ ({ w with need := wth w.need i } : Rw).asked from hw)]; simp only [hf]) (ask_dataR h1 hi ha hf) (by rw [hA]; exact mem_insI.2 (.inr rfl)) hnn (fun q hq => by rw [hA]; exact mem_insI.2 (.inl hq)) hnm
theorem opens_ref {f : List UInt8 → An} : ∀ (l next : List (List UInt8)) (w : Rw), Up w.bad → Up w.need → Up next →
  (Rw.opens f w next l).1.asked = w.asked ∧ (Rw.opens f w next l).1.lacks = w.lacks ∧ Up (Rw.opens f w next l).1.bad ∧ Up (Rw.opens f w next l).1.need ∧ Up (Rw.opens f w next l).2 ∧
  (∀ q, q ∈ (Rw.opens f w next l).1.bad ↔ q ∈ w.bad ∨ (q ∈ l ∧ badF f q)) ∧ (∀ q, q ∈ (Rw.opens f w next l).1.need ↔ q ∈ w.need ∨ ∃ p, p ∈ l ∧ q ∈ idsF f p) ∧ (∀ q, q ∈ (Rw.opens f w next l).2 ↔ q ∈ next ∨ ∃ p, p ∈ l ∧ q ∈ fldsF f p)
 | [], next, w, h1, h2, h3 => ⟨rfl, rfl, h1, h2, h3, fun q => by simp [Rw.opens], fun q => by simp [Rw.opens], fun q => by simp [Rw.opens]⟩
 | i :: l, next, w, h1, h2, h3 => by
  have key : (w.openE i next (f i)).1.asked = w.asked ∧ (w.openE i next (f i)).1.lacks = w.lacks ∧ Up (w.openE i next (f i)).1.bad ∧ Up (w.openE i next (f i)).1.need ∧ Up (w.openE i next (f i)).2 ∧
    (∀ q, q ∈ (w.openE i next (f i)).1.bad ↔ q ∈ w.bad ∨ (q = i ∧ badF f q)) ∧ (∀ q, q ∈ (w.openE i next (f i)).1.need ↔ q ∈ w.need ∨ q ∈ idsF f i) ∧ (∀ q, q ∈ (w.openE i next (f i)).2 ↔ q ∈ next ∨ q ∈ fldsF f i) := by
   have hb0 : ∀ q, (q = i ∧ badF f q) ↔ (q = i ∧ badF f i) := fun q => ⟨fun ⟨e, h⟩ => ⟨e, e ▸ h⟩, fun ⟨e, h⟩ => ⟨e, e ▸ h⟩⟩
   simp only [hb0]
   unfold badF idsF fldsF
   cases hf : f i with
   | fail => exact ⟨rfl, rfl, h1, h2, h3, fun q => by simp [Rw.openE], fun q => by simp [Rw.openE], fun q => by simp [Rw.openE]⟩
   | lack => exact ⟨rfl, rfl, h1, h2, h3, fun q => by simp [Rw.openE], fun q => by simp [Rw.openE], fun q => by simp [Rw.openE]⟩
   | data xs =>
    cases hp : Tn.parse xs with
    | none =>
     have e : w.openE i next (.data xs) = ({ w with bad := wth w.bad i }, next) := by simp only [Rw.openE, hp]
     rw [e]
     exact ⟨rfl, rfl, up_wth h1, h2, h3, fun q => by simp [mem_wth, hp], fun q => by simp [hp], fun q => by simp [hp]⟩
    | some E =>
     have e : w.openE i next (.data xs) = ({ w with need := (E.map (·.id)).foldl wth w.need }, (fldsE E).foldl wth next) := by simp only [Rw.openE, hp]
     rw [e]
     refine ⟨rfl, rfl, h1, (foldl_wth _ _ h2).1, (foldl_wth _ _ h3).1, fun q => by simp [hp], fun q => ?_, fun q => ?_⟩
     ·simp only [hp]; exact (foldl_wth _ _ h2).2 q
     ·simp only [hp]; exact (foldl_wth _ _ h3).2 q
  obtain ⟨k1, k2, k3, k4, k5, k6, k7, k8⟩ := key
  obtain ⟨g1, g2, g3, g4, g5, g6, g7, g8⟩ := opens_ref l _ _ k3 k4 k5
  refine ⟨g1.trans k1, g2.trans k2, g3, g4, g5, fun q => ?_, fun q => ?_, fun q => ?_⟩
  ·show q ∈ (Rw.opens f _ _ l).1.bad ↔ _
   rw [g6 q, k6 q, List.mem_cons]
   constructor
   ·rintro ((h | ⟨h, hb⟩) | ⟨h, hb⟩)
    ·exact .inl h
    ·exact .inr ⟨.inl h, hb⟩
    ·exact .inr ⟨.inr h, hb⟩
   ·rintro (h | ⟨h | h, hb⟩)
    ·exact .inl (.inl h)
    ·exact .inl (.inr ⟨h, hb⟩)
    ·exact .inr ⟨h, hb⟩
  ·show q ∈ (Rw.opens f _ _ l).1.need ↔ _
   rw [g7 q, k7 q]
   simp only [List.mem_cons]
   constructor
   ·rintro ((h | h) | ⟨p, hp, h⟩)
    ·exact .inl h
    ·exact .inr ⟨i, .inl rfl, h⟩
    ·exact .inr ⟨p, .inr hp, h⟩
   ·rintro (h | ⟨p, rfl | hp, h⟩)
    ·exact .inl (.inl h)
    ·exact .inl (.inr h)
    ·exact .inr ⟨p, hp, h⟩
  ·show q ∈ (Rw.opens f _ _ l).2 ↔ _
   rw [g8 q, k8 q]
   simp only [List.mem_cons]
   constructor
   ·rintro ((h | h) | ⟨p, hp, h⟩)
    ·exact .inl h
    ·exact .inr ⟨i, .inl rfl, h⟩
    ·exact .inr ⟨p, .inr hp, h⟩
   ·rintro (h | ⟨p, rfl | hp, h⟩)
    ·exact .inl (.inl h)
    ·exact .inl (.inr h)
    ·exact .inr ⟨p, hp, h⟩
theorem rounds_ref {f : List UInt8 → An} : ∀ (n : Nat) (s : Ws) (w : Rw) (now : List (List UInt8)), Up now → Inv9 f s w now →
  (Ws.rounds f n s now).1 = (Rw.rounds f n w now).1 ∧ (Ws.rounds f n s now).2.1.ord = (Rw.rounds f n w now).2.1.asked ∧
  ((Rw.rounds f n w now).1 = none → (Ws.rounds f n s now).2.2 = (Rw.rounds f n w now).2.2 ∧ Inv9 f (Ws.rounds f n s now).2.1 (Rw.rounds f n w now).2.1 (Rw.rounds f n w now).2.2 ∧ Up (Rw.rounds f n w now).2.2 ∧ (0 < n → (∀ q, q ∈ (Ws.rounds f n s now).2.1.N → q ∈ (Rw.rounds f n w now).2.1.need) ∧ (∀ q, q ∈ (Ws.rounds f n s now).2.1.B → q ∈ (Rw.rounds f n w now).2.1.bad)))
 | 0, s, w, now, hu, h => ⟨rfl, h.ord, fun _ => ⟨rfl, h, hu, fun h => by omega⟩⟩
 | n + 1, s, w, now, hu, h => by
  obtain ⟨g1, g2, g3⟩ := trees_ref now s w (fun _ h => h) h
  rcases ht : Ws.trees f s now with ⟨o1, s1⟩
  rcases hr : Rw.asks1 f w now with ⟨o2, w1⟩
  rw [ht, hr] at g1 g2 g3
  simp only at g1 g2 g3
  subst g1
  cases o1 with
  | some i =>
   have t1 : Ws.rounds f (n + 1) s now = (some i, s1, now) := by simp only [Ws.rounds, ht]
   have t2 : Rw.rounds f (n + 1) w now = (some i, w1, now) := by simp only [Rw.rounds, hr]
   rw [t1, t2]
   exact ⟨rfl, g2, fun hx => by cases hx⟩
  | none =>
   obtain ⟨k1, k2, k3, k4⟩ := g3 rfl
   obtain ⟨p1, p2, p3, p4, p5, p6, p7, p8⟩ := opens_ref (f := f) now [] w1 k1.uB k1.uN (by simp [Up])
   have hnx : (Rw.opens f w1 [] now).2 = canon (now.flatMap s1.fl) := by
    refine up_uniq p5 (up_canon _) (fun q => ?_)
    rw [p8 q, mem_canon, List.mem_flatMap]
    constructor
    ·rintro (h | ⟨p, hp, h⟩)
     ·simp at h
     ·exact ⟨p, hp, by rw [k1.fl p (k2 p hp).1]; exact h⟩
    ·rintro ⟨p, hp, h⟩
     rw [k1.fl p (k2 p hp).1] at h
     exact .inr ⟨p, hp, h⟩
   have t1 : Ws.rounds f (n + 1) s now = Ws.rounds f n s1 (canon (now.flatMap s1.fl)) := by simp only [Ws.rounds, ht]
   have t2 : Rw.rounds f (n + 1) w now = Rw.rounds f n (Rw.opens f w1 [] now).1 (Rw.opens f w1 [] now).2 := by simp only [Rw.rounds, hr]
   have hsub : ∀ q, q ∈ (Rw.opens f w1 [] now).2 → q ∈ (Rw.opens f w1 [] now).1.need := fun q hq => by
    rcases (p8 q).1 hq with h | ⟨p, hp, h⟩
    ·simp at h
    ·exact (p7 q).2 (.inr ⟨p, hp, flds_ids h⟩)
   have hNn : ∀ q, q ∈ s1.N → q ∈ (Rw.opens f w1 [] now).1.need := fun q h => by
    rcases (k1.N q).1 h with h | h | ⟨p, h1, _, h3⟩
    ·exact (p7 q).2 (.inl h)
    ·exact (p7 q).2 (.inl (k2 q h).2)
    ·exact (p7 q).2 (.inr ⟨p, h1, h3⟩)
   have hBb : ∀ q, q ∈ s1.B → q ∈ (Rw.opens f w1 [] now).1.bad := fun q h => by
    rcases (k1.B q).1 h with h | ⟨h1, _, h3⟩
    ·exact (p6 q).2 (.inl h)
    ·exact (p6 q).2 (.inr ⟨h1, h3⟩)
   have hI : Inv9 f s1 (Rw.opens f w1 [] now).1 (Rw.opens f w1 [] now).2 := {
    ord := by rw [p1]; exact k1.ord
    A := fun q => by rw [p1]; exact k1.A q
    L := fun q => by rw [p2]; exact k1.L q
    B := fun q => by
     rw [p6 q]
     constructor
     ·intro h
      rcases (k1.B q).1 h with h | ⟨h1, _, h3⟩
      ·exact .inl (.inl h)
      ·exact .inl (.inr ⟨h1, h3⟩)
     ·rintro ((h | ⟨h1, h3⟩) | ⟨_, h2, h3⟩)
      ·exact (k1.B q).2 (.inl h)
      ·exact k1.bad q (k2 q h1).1 h3
      ·exact k1.bad q h2 h3
    N := fun q => by
     constructor
     ·exact fun h => .inl (hNn q h)
     ·have hn : q ∈ (Rw.opens f w1 [] now).1.need → q ∈ s1.N := fun h => by
       rcases (p7 q).1 h with h | ⟨p, h1, h3⟩
       ·exact (k1.N q).2 (.inl h)
       ·exact k1.sub p q (k2 p h1).1 h3
      rintro (h | h | ⟨p, _, h2, h3⟩)
      ·exact hn h
      ·exact hn (hsub q h)
      ·exact k1.sub p q h2 h3
    uL := by rw [p2]; exact k1.uL
    uB := p3
    uN := p4
    bad := k1.bad
    fl := k1.fl
    nf := k1.nf
    sub := k1.sub }
   rw [t1, t2, ← hnx]
   obtain ⟨j1, j2, j3⟩ := rounds_ref n s1 _ _ p5 hI
   refine ⟨j1, j2, fun hx => ?_⟩
   obtain ⟨m1, m2, m3, m4⟩ := j3 hx
   refine ⟨m1, m2, m3, fun _ => ?_⟩
   cases n with
   | zero => exact ⟨hNn, hBb⟩
   | succ n => exact m4 (by omega)
theorem others_ref {f : List UInt8 → An} : ∀ (l : List (List UInt8)) (s : Ws) (w : Rw), s.ord = w.asked → (∀ q, q ∈ s.A ↔ q ∈ w.asked) → (∀ q, q ∈ s.L ↔ q ∈ w.lacks) → Up w.lacks →
  (Ws.others f s l).1 = (Rw.asks f w l).1 ∧ (Ws.others f s l).2.ord = (Rw.asks f w l).2.asked ∧ (∀ q, q ∈ (Ws.others f s l).2.L ↔ q ∈ (Rw.asks f w l).2.lacks) ∧ Up (Rw.asks f w l).2.lacks ∧
  (Ws.others f s l).2.N = s.N ∧ (Ws.others f s l).2.B = s.B ∧ (Rw.asks f w l).2.need = w.need ∧ (Rw.asks f w l).2.bad = w.bad
 | [], s, w, h1, h2, h3, h4 => ⟨rfl, h1, h3, h4, rfl, rfl, rfl, rfl⟩
 | i :: l, s, w, h1, h2, h3, h4 => by
  by_cases ha : i ∈ s.A
  ·have hw : i ∈ w.asked := (h2 i).1 ha
   have e1 : s.other f i = (true, s) := by unfold Ws.other; rw [if_pos ha]
   have e2 : w.ask f i = (true, w) := by unfold Rw.ask; rw [if_pos hw]
   have t1 : Ws.others f s (i :: l) = Ws.others f s l := by simp only [Ws.others, e1, if_pos]
   have t2 : Rw.asks f w (i :: l) = Rw.asks f w l := by simp only [Rw.asks, e2, if_pos]
   rw [t1, t2]
   exact others_ref l s w h1 h2 h3 h4
  ·have hw : i ∉ w.asked := fun hx => ha ((h2 i).2 hx)
   have hord : s.ord ++ [i] = w.asked ++ [i] := by rw [h1]
   have hA : ∀ q, q ∈ insI s.A i ↔ q ∈ w.asked ++ [i] := fun q => by rw [mem_insI, h2 q]; simp
   cases hf : f i with
   | fail =>
    have e1 : s.other f i = (false, s.asked i) := by unfold Ws.other; rw [if_neg ha]; simp only [hf]
    have e2 : w.ask f i = (false, { w with asked := w.asked ++ [i] }) := by unfold Rw.ask; rw [if_neg hw]; simp only [hf]
    have t1 : Ws.others f s (i :: l) = (some i, s.asked i) := by simp [Ws.others, e1]
    have t2 : Rw.asks f w (i :: l) = (some i, { w with asked := w.asked ++ [i] }) := by simp [Rw.asks, e2]
    rw [t1, t2]
    exact ⟨rfl, hord, h3, h4, rfl, rfl, rfl, rfl⟩
   | lack =>
    have e1 : s.other f i = (true, { s.asked i with L := insI s.L i }) := by unfold Ws.other; rw [if_neg ha]; simp only [hf]
    have e2 : w.ask f i = (true, { w with asked := w.asked ++ [i], lacks := wth w.lacks i }) := by unfold Rw.ask; rw [if_neg hw]; simp only [hf]
    have t1 : Ws.others f s (i :: l) = Ws.others f { s.asked i with L := insI s.L i } l := by simp only [Ws.others, e1, if_pos]
    have t2 : Rw.asks f w (i :: l) = Rw.asks f { w with asked := w.asked ++ [i], lacks := wth w.lacks i } l := by simp only [Rw.asks, e2, if_pos]
    rw [t1, t2]
    exact others_ref l _ _ hord hA (fun q => by show q ∈ insI s.L i ↔ q ∈ wth w.lacks i; rw [mem_insI, mem_wth, h3 q]) (up_wth h4)
   | data xs =>
    have e1 : s.other f i = (true, s.asked i) := by unfold Ws.other; rw [if_neg ha]; simp only [hf]
    have e2 : w.ask f i = (true, { w with asked := w.asked ++ [i] }) := by unfold Rw.ask; rw [if_neg hw]; simp only [hf]
    have t1 : Ws.others f s (i :: l) = Ws.others f (s.asked i) l := by simp only [Ws.others, e1, if_pos]
    have t2 : Rw.asks f w (i :: l) = Rw.asks f { w with asked := w.asked ++ [i] } l := by simp only [Rw.asks, e2, if_pos]
    rw [t1, t2]
    exact others_ref l _ _ hord hA h3 h4
theorem walk_ref (f : List UInt8 → An) (roots : List (List UInt8)) :
  (refW f roots).1 = (walkW f [] roots).1 ∧ (refW f roots).2.1.asked = (walkW f [] roots).2.1.ord ∧
  ((walkW f [] roots).1 = none → (refW f roots).2.1.need = canon (walkW f [] roots).2.1.N ∧ (refW f roots).2.1.bad = canon (walkW f [] roots).2.1.B ∧ (refW f roots).2.1.lacks = canon (walkW f [] roots).2.1.L ∧ (refW f roots).2.2 = (walkW f [] roots).2.2) := by
 have h0 : Inv9 f ⟨[], [], insA [] roots, [], [], fun _ => []⟩ ⟨[], [], [], []⟩ (canon roots) := {
  ord := rfl
  A := fun q => by simp
  L := fun q => by simp
  B := fun q => by simp
  N := fun q => by
   show q ∈ insA [] roots ↔ _
   rw [mem_insA]
   constructor
   ·rintro (h | h)
    ·simp at h
    ·exact .inr (.inl (mem_canon.2 h))
   ·rintro (h | h | ⟨p, _, h, _⟩)
    ·simp at h
    ·exact .inr (mem_canon.1 h)
    ·simp at h
  uL := by simp [Up]
  uB := by simp [Up]
  uN := by simp [Up]
  bad := fun q h => by simp at h
  fl := fun q h => by simp at h
  nf := fun q _ => rfl
  sub := fun p q h => by simp at h }
 obtain ⟨g1, g2, g3⟩ := rounds_ref 6 _ _ _ (up_canon roots) h0
 rcases ht : Ws.rounds f 6 ⟨[], [], insA [] roots, [], [], fun _ => []⟩ (canon roots) with ⟨o1, s1, R1⟩
 rcases hr : Rw.rounds f 6 ⟨[], [], [], []⟩ (canon roots) with ⟨o2, w1, R2⟩
 rw [ht, hr] at g1 g2 g3
 simp only at g1 g2 g3
 subst g1
 cases o1 with
 | some i =>
  have t1 : walkW f [] roots = (some i, s1, R1) := by simp only [walkW, ht]
  have t2 : refW f roots = (some i, w1, R2) := by simp only [refW, hr]
  rw [t1, t2]
  exact ⟨rfl, g2.symm, fun hx => by cases hx⟩
 | none =>
  obtain ⟨rfl, k2, k3, k4⟩ := g3 rfl
  have hneed : w1.need = canon s1.N := up_uniq k2.uN (up_canon _) (fun q => by
   rw [mem_canon]
   exact ⟨fun h => (k2.N q).2 (.inl h), (k4 (by omega)).1 q⟩)
  have t1 : walkW f [] roots = ((Ws.others f s1 (canon s1.N)).1, (Ws.others f s1 (canon s1.N)).2, R1) := by simp only [walkW, ht]
  have t2 : refW f roots = ((Rw.asks f w1 (canon s1.N)).1, (Rw.asks f w1 (canon s1.N)).2, R1) := by simp only [refW, hr, hneed]
  obtain ⟨j1, j2, j3, j4, j5, j6, j7, j8⟩ := others_ref (canon s1.N) s1 w1 g2 k2.A k2.L k2.uL
  rw [t1, t2]
  refine ⟨j1.symm, j2.symm, fun _ => ⟨?_, ?_, ?_, rfl⟩⟩
  ·show (Rw.asks f w1 (canon s1.N)).2.need = canon (Ws.others f s1 (canon s1.N)).2.N
   rw [j7, j5, hneed]
  ·show (Rw.asks f w1 (canon s1.N)).2.bad = canon (Ws.others f s1 (canon s1.N)).2.B
   rw [j8, j6]
   refine up_uniq k2.uB (up_canon _) (fun q => ?_)
   rw [mem_canon]
   exact ⟨fun h => (k2.B q).2 (.inl h), (k4 (by omega)).2 q⟩
  ·exact up_uniq j4 (up_canon _) (fun q => by rw [mem_canon, j3 q])
end

end Go.Proofs.YtngaimahhgmciaaGreatDoor
