/-
  The walk of DigestOf.
-/
import Derived.Test.YtbpdmfhkaodeeaaDn1
namespace Go.Proofs.Ytbpdmfhkaodeeaa
open Go.RowKit
set_option linter.unusedVariables false
set_option linter.unusedSimpArgs false

set_option maxHeartbeats 2000000 in
set_option maxRecDepth 100000 in
theorem of_law (width : Int) (ao : Option Addr) (n cap : Nat) (L : List Pc) (w : World) (hp : Pcs w ao L) (hnl : PcN L) (hn : L.length = n) (hmx : n ≤ 9223372036854775807) :
    Calls Try.prog 4 #[.int .i64 width, .slice ao n cap] w fun e w' => e = .returned (.bool true) ∧ Below w.heap.size w w' := by
  have HP : Hid (Pcs w ao L) := hp
  have HNL : Hid (PcN L) := hnl
  have HN : Hid (L.length = n) := hn
  have hgd : Try.prog.eqGuardType Try.prog.depth 33 = false := by kernel_rfl
  clear hp hnl hn
  go_enter Try.func4, Try.ntmps4
  go_wp2_with (fail)
  refine (much_ok ao cap L _ HP.out (by rw [HN.out]; exact hmx) n HN.out).mono ?_
  rintro e w1 ⟨hmu, hw⟩
  subst hw
  rcases hmu with rfl | ⟨rfl, hm⟩
  · go_wp2_with (fail)
    refine (known_any _).mono ?_
    rintro e w2 ⟨rfl, hb⟩
    go_wp2_with (fail)
    go_ret
    exact ⟨rfl, hb⟩
  have HM : Hid (L.length + (joined L).length ≤ 3000000) := hm
  have hn3 : n ≤ 3000000 := by rw [← HN.out]; omega
  have hj3 : (joined L).length ≤ 3000000 := by omega
  clear hm
  go_wp2_with (fail)
  refine (roomy_ok ao cap L _ HP.out HNL.out HM.out n HN.out).mono ?_
  rintro e w2 ⟨G, R, H, rfl, h1, h2, h3, h4⟩
  have HT : Hid (Rt w1 w2 G R H) := ⟨h1, h2, h4⟩
  have HD : Hid (R.map Rm.ds = L.map Pc.ds) := h3
  have HRn : Hid (R.length = n) := (rooms_len h3).trans HN.out
  clear h1 h2 h3 h4
  go_wp2_with (fail)
  refine (known_any _).mono ?_
  rintro e w3 ⟨rfl, hb⟩
  replace HT : Hid (Rt w1 w3 G R H) := HT.out.later hb
  clear hb
  go_wp2_with (fail)
  refine (of_ok width (some ⟨G, 0, none⟩) (n + 3) (R.map toPc) w3 (by rw [List.length_map, HRn.out]; omega) HT.out.pcs (by rw [joined_rooms HD.out]; omega) n (by rw [List.length_map, HRn.out])).mono ?_
  rintro e w4 ⟨rfl, hb⟩
  rw [joined_rooms HD.out]
  replace HT : Hid (Rt w1 w4 G R H) := HT.out.later hb
  clear hb
  obtain ⟨F, hF⟩ : ∃ F, F = (Sha.ident width (joined L)) := ⟨_, rfl⟩
  have hFl : F.length = 32 := by rw [hF]; exact Sha.ident_len width (joined L)
  have HF : Hid ((Sha.ident width (joined L)) = F) := hF.symm
  rw [← hF]
  clear hF
  go_wp2_with (fail)
  refine (joined_ok ao cap L w4 (HP.out.kept0 HT.out.rms.kept) HNL.out (by rw [HN.out]; omega) hj3 n HN.out).mono ?_
  rintro e w5 ⟨g, c, rfl, hc, hs, hb⟩
  replace HT : Hid (Rt w1 w5 G R H) := HT.out.later hb
  clear hb
  go_wp2_with (fail)
  refine (rof_of width (some ⟨g, 0, none⟩) c (joined L) w5 _ (fun W hb => rfull_ok ⟨g, 0, none⟩ c (joined L) W _ rfl (by omega) (hs.kept (Kept.of_below hb) (by simp)))).mono ?_
  rintro e w6 ⟨rfl, hb⟩
  rw [HF.out]
  replace HT : Hid (Rt w1 w6 G R H) := HT.out.later hb
  clear hb hs hc
  have heq : ∀ W, (Op.equalIn 10000 33 (.agg (bys F).toArray) (.agg (bys F).toArray)).run Try.prog W = .ok true W := fun W => by rw [Try.eqlID F F hFl hFl W, decide_eq_true rfl]
  go_wp2_with (fail)
  refine (untouched_ok G R H ao cap L w1 w6 HT.out (HP.out.kept0 HT.out.rms.kept) HD.out HM.out n HN.out).mono ?_
  rintro e w7 ⟨rfl, m, hm⟩
  replace HT : Hid (Rt w1 w7 G R H) := by rw [hm]; exact HT.out.drewN m
  clear hm HF hFl heq
  go_wp2_with (fail)
  refine (turned2_ok ao cap L w7 (HP.out.kept0 HT.out.rms.kept) HNL.out HM.out n HN.out).mono ?_
  rintro e w8 ⟨v, Q, rfl, htr⟩
  obtain ⟨ao2, cap2, rfl, hnow, hnq, hql, hqd⟩ := htr.now HN.out
  have HS : Hid (∀ r ∈ R, r.g < w7.heap.size) := fun r hr => (HT.out.rms.rows r hr).1.lt
  replace HT : Hid (Rt w1 w8 G R H) := HT.out.later (htr.kept.below (Nat.le_refl _) (by simp))
  have HNW : Hid (Now w7.heap.size w8 ao2 Q) := hnow
  have HNQ : Hid (PcN Q) := hnq
  have HQL : Hid (Q.length = n) := hql
  have HQD : Hid (Q.map Pc.ds = L.map (fun c => xr c.ds)) := hqd
  have hjq : (joined Q).length ≤ 3000000 := by rw [now_len hqd]; exact hj3
  have HMQ : Hid (Q.length + (joined Q).length ≤ 3000000) := by
    show _ ≤ _
    rw [now_len hqd, hql, ← HN.out]; exact HM.out
  clear htr hnow hnq hql hqd
  go_wp2_with (fail)
  refine (writeOver_ok G R H ao2 cap2 w7.heap.size Q w1 w8 HT.out HS.out HNW.out n HQL.out HRn.out hn3 (ds_at HD.out HQD.out n HRn.out HQL.out HN.out)).mono ?_
  rintro e w9 ⟨rfl, R2, hr2, hd2, hnow2⟩
  clear HT HD HRn HNW HS
  have HT : Hid (Rt w1 w9 G R2 H) := hr2
  have HD : Hid (R2.map Rm.ds = Q.map Pc.ds) := hd2
  have HRn : Hid (R2.length = n) := (rooms_len hd2).trans HQL.out
  have HPQ : Hid (Pcs w9 ao2 Q) := hnow2.pcs
  clear hr2 hd2 hnow2
  go_wp2_with (fail)
  refine (of_ok width (some ⟨G, 0, none⟩) (n + 3) (R2.map toPc) w9 (by rw [List.length_map, HRn.out]; omega) HT.out.pcs (by rw [joined_rooms HD.out]; omega) n (by rw [List.length_map, HRn.out])).mono ?_
  rintro e w10 ⟨rfl, hb⟩
  rw [joined_rooms HD.out]
  replace HT : Hid (Rt w1 w10 G R2 H) := HT.out.later hb
  replace HPQ : Hid (Pcs w10 ao2 Q) := HPQ.out.kept0 (Kept.of_below hb)
  clear hb
  obtain ⟨F, hF⟩ : ∃ F, F = (Sha.ident width (joined Q)) := ⟨_, rfl⟩
  have hFl : F.length = 32 := by rw [hF]; exact Sha.ident_len width (joined Q)
  have HF : Hid ((Sha.ident width (joined Q)) = F) := hF.symm
  rw [← hF]
  clear hF
  go_wp2_with (fail)
  refine (joined_ok ao2 cap2 Q w10 HPQ.out HNQ.out (by rw [HQL.out]; omega) hjq n HQL.out).mono ?_
  rintro e w11 ⟨g, c, rfl, hc, hs, hb⟩
  replace HT : Hid (Rt w1 w11 G R2 H) := HT.out.later hb
  replace HPQ : Hid (Pcs w11 ao2 Q) := HPQ.out.kept0 (Kept.of_below hb)
  clear hb
  go_wp2_with (fail)
  refine (rof_of width (some ⟨g, 0, none⟩) c (joined Q) w11 _ (fun W hb => rfull_ok ⟨g, 0, none⟩ c (joined Q) W _ rfl (by omega) (hs.kept (Kept.of_below hb) (by simp)))).mono ?_
  rintro e w12 ⟨rfl, hb⟩
  rw [HF.out]
  replace HT : Hid (Rt w1 w12 G R2 H) := HT.out.later hb
  replace HPQ : Hid (Pcs w12 ao2 Q) := HPQ.out.kept0 (Kept.of_below hb)
  clear hb hs hc
  have heq : ∀ W, (Op.equalIn 10000 33 (.agg (bys F).toArray) (.agg (bys F).toArray)).run Try.prog W = .ok true W := fun W => by rw [Try.eqlID F F hFl hFl W, decide_eq_true rfl]
  go_wp2_with (fail)
  refine (untouched_ok G R2 H ao2 cap2 Q w1 w12 HT.out HPQ.out HD.out HMQ.out n HQL.out).mono ?_
  rintro e w13 ⟨rfl, m, hm⟩
  replace HT : Hid (Rt w1 w13 G R2 H) := by rw [hm]; exact HT.out.drewN m
  have HB := HT.out.below
  clear hm
  go_wp2_with (fail)
  go_ret
  exact ⟨rfl, HB⟩

theorem of_law_rows (width : Int) (ao : Option Addr) (n cap : Nat) (R : List Bx) (w : World) (hl : R.length = n) (hmx : n ≤ 9223372036854775807) (hr : RowsAt w ao R) (hw : (Lit.int .i64 width).wf = true) :
    Calls Try.prog 4 #[.int .i64 width, .slice ao n cap] w fun e w' => e = .returned (.bool true) ∧ Below w.heap.size w w' :=
  of_law width ao n cap _ w (pcs_of hr).1 (pcs_of hr).2 (by rw [List.length_map]; exact hl) hmx
end Go.Proofs.Ytbpdmfhkaodeeaa
