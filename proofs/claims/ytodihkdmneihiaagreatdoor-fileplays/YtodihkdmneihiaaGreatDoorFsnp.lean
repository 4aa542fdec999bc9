import Derived.Test.YtodihkdmneihiaaGreatDoorFsmp
namespace Go.Proofs.YtodihkdmneihiaaGreatDoor
open Go.RowKit Dsk
set_option linter.unusedVariables false
set_option linter.unusedSimpArgs false
theorem getB_small {S : Ds} {N : Nat} (hb : S.Bd N) (hw : S.Wf) (n : By) : (S.getB n).length ≤ N := by
 unfold Ds.getB
 split
 ·unfold Ds.readBytes
  split
  ·rename_i h
   have h0 : (S.find n).1 = 0 := Classical.byContradiction fun h0 => by simp [Ds.readOk, h0] at h
   obtain ⟨i, hp, hi, hti, hlv, hon, hnx⟩ := find0 hw h0
   have := hb.len hw hnx
   rw [List.length_take, List.length_drop]
   omega
  ·exact Nat.zero_le _
 ·exact Nat.zero_le _
set_option maxHeartbeats 3200000 in
set_option maxRecDepth 100000 in
theorem ca_get {X : Nat → Prop} {w : World} {P p q : Nat} {S : Ds} {N M : Nat} (h : Pz X w P p q S N S M) (name to : By) (da : Option Addr) (dn dc : Nat) (n po pf pt : Int) (pa : Option Addr) (pn pc : Nat) (hg : Gl w) (hgx : X 0) (hnm : name.length ≤ 4611686018427387900) (hN : N + 20 ≤ 80000000) (hM : M + 20 ≤ 80000000) :
  Calls Tryz.prog 7 #[.pointer (some ⟨P, 0, none⟩), .agg #[.int .i64 2, encStr name, encStr to, .slice da dn dc, .int .i64 n, .int .i64 po, .int .i64 pf, .int .i64 pt, .slice pa pn pc]] w fun e w' => e = .returned (.bool true) ∧ Pz X w' P p q (S.getD name) (N + 1) (S.getD name) (M + 1) ∧ Keep (fun b => ¬ X b) w w' := by
 have HSM : Hid ((S.getB name).length ≤ N) := hide (getB_small h.tw.bd1 h.tw.wf1 name)
 obtain ⟨w1, hw1⟩ : ∃ w1, w1 = w.alloc (.cells #[.int .i64 2, encStr name, encStr to, .slice da dn dc, .int .i64 n, .int .i64 po, .int .i64 pf, .int .i64 pt, .slice pa pn pc] 33) := ⟨_, rfl⟩
 obtain ⟨h1, hR, hk1⟩ := h.box [.int .i64 2, encStr name, encStr to, .slice da dn dc, .int .i64 n, .int .i64 po, .int .i64 pf, .int .i64 pt, .slice pa pn pc] 33 hw1
 have i0 : w1.cell? ⟨w.heap.size, 0, none⟩ = some (.int .i64 2) := hR.bx 0 _ rfl
 have HK : Hid (Keep (fun b => ¬ X b) w w1) := hide (Keep.ofNone hk1)
 have HG := hide hg
 clear h hk1 hg
 go_enter Tryz.func7, Tryz.ntmps7
 go_upto_region 1 with (fail)
 rw [← hw1]
 clear hw1
 generalize w.heap.size = bx at *
 have HQ := hide h1
 have HR := hide hR
 clear h1 hR
 go_upto_region 17 with (fail)
 clear i0
 have HQ0 : Hid (Pz (fun b => X b ∨ b = bx) w1.drew P p q S N S M) := hide (HQ.out.kept ((Kept.refl [] w1).drew))
 have HK0 : Hid (Keep (fun b => ¬ X b) w w1.drew) := hide (HK.out.kept ((Kept.refl [] w1).drew))
 clear HQ HK
 refine wp_region_held_drew (S := (Rdz P p q bx [.int .i64 2, encStr name, encStr to, .slice da dn dc, .int .i64 n, .int .i64 po, .int .i64 pf, .int .i64 pt, .slice pa pn pc])) (by kernel_rfl) (HR.out.kept ((Kept.refl [] w1).drew)) (fun hv0 => ?_)
 generalize World.drew w1 = v0 at hv0 HQ0 HK0 ⊢
 refine wpAnyH_take (i := 0) (v := .pointer (some ⟨P, 0, none⟩)) rfl (by kernel_rfl) (by kernel_rfl) (by kernel_rfl) (fun _ _ _ h => h) (Or.inl ⟨by rfl, fun w hSw => by go_simp⟩) hv0 ?_
 try simp only [z1, z2, z3, z4, z5, z6, z7, z8]
 refine wpAnyH_take (i := 1) (v := .pointer (some ⟨P, 0, none⟩)) rfl (by kernel_rfl) (by kernel_rfl) (by kernel_rfl) (fun _ _ _ h => h) (Or.inl ⟨by rfl, fun w hSw => by go_simp⟩) hv0 ?_
 try simp only [z1, z2, z3, z4, z5, z6, z7, z8]
 refine wpAnyH_take (i := 2) (v := .pointer (some ⟨P, 0, none⟩)) rfl (by kernel_rfl) (by kernel_rfl) (by kernel_rfl) (fun _ _ _ h => h) (Or.inl ⟨by rfl, fun w hSw => by go_simp⟩) hv0 ?_
 try simp only [z1, z2, z3, z4, z5, z6, z7, z8]
 refine wpAnyH_take (i := 3) (v := .pointer (some ⟨p, 0, none⟩)) rfl (by kernel_rfl) (by kernel_rfl) (by kernel_rfl) (fun _ _ _ h => h) (Or.inl ⟨by rfl, fun w hSw => by have c0 := hSw.p0; go_simp⟩) hv0 ?_
 try simp only [z1, z2, z3, z4, z5, z6, z7, z8]
 refine wpAnyH_take (i := 4) (v := .pointer (some ⟨bx, 1, none⟩)) rfl (by kernel_rfl) (by kernel_rfl) (by kernel_rfl) (fun _ _ _ h => h) (Or.inl ⟨by rfl, fun w hSw => by go_simp⟩) hv0 ?_
 try simp only [z1, z2, z3, z4, z5, z6, z7, z8]
 refine wpAnyH_take (i := 5) (v := encStr name) rfl (by kernel_rfl) (by kernel_rfl) (by kernel_rfl) (fun _ _ _ h => h) (Or.inl ⟨by rfl, fun w hSw => by have c0 := hSw.bx 1 _ rfl; go_simp⟩) hv0 ?_
 try simp only [z1, z2, z3, z4, z5, z6, z7, z8]
 refine wpAnyH_ready (rs := [6]) (by kernel_rfl) (by simp) (AllReadyH.cons (i := 6) rfl (fun K hK => ?_) AllReadyH.nil)
 rw [if_pos (by rfl)]
 go_simp
 refine (get_z1 HQ0.out (by omega) name hnm).mono ?_
 rintro e v1 ⟨v, ve, rfl, hev, ⟨hq, hk⟩, hO⟩
 have HQ1 := hide hq
 have HK1 : Hid (Keep (fun b => ¬ X b) w v1) := hide (HK0.out.trans hk (fun b hb _ hx => hb (.inl (.inl hx))))
 have HV1 := hide hev
 have HO1 := hide hO
 clear hq hev hO HQ0 HK0
 refine hK.out _ _ (hv0.mv hk (.inr rfl)) (fun hv1 => ?_)
 clear hK K
 try simp only [z1, z2, z3, z4, z5, z6, z7, z8]
 refine wpAnyH_take (i := 7) (v := .tuple #[v, ve]) rfl (by kernel_rfl) (by kernel_rfl) (by kernel_rfl) (fun _ _ _ h => h) (Or.inl ⟨by rfl, fun w hSw => by go_simp⟩) hv1 ?_
 try simp only [z1, z2, z3, z4, z5, z6, z7, z8]
 refine wpAnyH_take (i := 8) (v := v) rfl (by kernel_rfl) (by kernel_rfl) (by kernel_rfl) (fun _ _ _ h => h) (Or.inl ⟨by rfl, fun w hSw => by go_simp⟩) hv1 ?_
 try simp only [z1, z2, z3, z4, z5, z6, z7, z8]
 refine wpAnyH_take (i := 9) (v := ve) rfl (by kernel_rfl) (by kernel_rfl) (by kernel_rfl) (fun _ _ _ h => h) (Or.inl ⟨by rfl, fun w hSw => by go_simp⟩) hv1 ?_
 try simp only [z1, z2, z3, z4, z5, z6, z7, z8]
 refine wpAnyH_take (i := 10) (v := v) rfl (by kernel_rfl) (by kernel_rfl) (by kernel_rfl) (fun _ _ _ h => h) (Or.inl ⟨by rfl, fun w hSw => by go_simp⟩) hv1 ?_
 try simp only [z1, z2, z3, z4, z5, z6, z7, z8]
 refine wpAnyH_take (i := 11) (v := ve) rfl (by kernel_rfl) (by kernel_rfl) (by kernel_rfl) (fun _ _ _ h => h) (Or.inl ⟨by rfl, fun w hSw => by go_simp⟩) hv1 ?_
 try simp only [z1, z2, z3, z4, z5, z6, z7, z8]
 refine wpAnyH_done (by kernel_rfl) ?_ _
 go_upto_region 18 with (fail)
 have HQ2 : Hid (Pz (fun b => (X b ∨ b = bx) ∨ (v.ownBlock = some b ∨ errB ve b)) v1.drew P p q (S.getD name) (N + 1) S M) := hide (HQ1.out.kept ((Kept.refl [] v1).drew))
 have HK2 : Hid (Keep (fun b => ¬ X b) w v1.drew) := hide (HK1.out.kept ((Kept.refl [] v1).drew))
 have HV2 : Hid (ErrV v1.drew ve opGet name (S.getE name)) := hide (HV1.out.kept ((Kept.refl [] v1).drew))
 have HO2 : Hid (OwnB v1.drew v (S.getB name).length (S.getB name)) := hide (HO1.out.kept ((Kept.refl [] v1).drew))
 clear HQ1 HK1 HV1 HO1
 refine wp_region_held_drew (S := (Rdz P p q bx [.int .i64 2, encStr name, encStr to, .slice da dn dc, .int .i64 n, .int .i64 po, .int .i64 pf, .int .i64 pt, .slice pa pn pc])) (by kernel_rfl) (hv1.kept ((Kept.refl [] v1).drew)) (fun hu0 => ?_)
 generalize World.drew v1 = u0 at hu0 HQ2 HK2 HV2 HO2 ⊢
 refine wpAnyH_take (i := 0) (v := .pointer (some ⟨P, 0, none⟩)) rfl (by kernel_rfl) (by kernel_rfl) (by kernel_rfl) (fun _ _ _ h => h) (Or.inl ⟨by rfl, fun w hSw => by go_simp⟩) hu0 ?_
 try simp only [z1, z2, z3, z4, z5, z6, z7, z8]
 refine wpAnyH_take (i := 1) (v := .pointer (some ⟨P, 0, none⟩)) rfl (by kernel_rfl) (by kernel_rfl) (by kernel_rfl) (fun _ _ _ h => h) (Or.inl ⟨by rfl, fun w hSw => by go_simp⟩) hu0 ?_
 try simp only [z1, z2, z3, z4, z5, z6, z7, z8]
 refine wpAnyH_take (i := 2) (v := .pointer (some ⟨P, 1, none⟩)) rfl (by kernel_rfl) (by kernel_rfl) (by kernel_rfl) (fun _ _ _ h => h) (Or.inl ⟨by rfl, fun w hSw => by go_simp⟩) hu0 ?_
 try simp only [z1, z2, z3, z4, z5, z6, z7, z8]
 refine wpAnyH_take (i := 3) (v := .pointer (some ⟨q, 0, none⟩)) rfl (by kernel_rfl) (by kernel_rfl) (by kernel_rfl) (fun _ _ _ h => h) (Or.inl ⟨by rfl, fun w hSw => by have c0 := hSw.p1; go_simp⟩) hu0 ?_
 try simp only [z1, z2, z3, z4, z5, z6, z7, z8]
 refine wpAnyH_take (i := 4) (v := .pointer (some ⟨bx, 1, none⟩)) rfl (by kernel_rfl) (by kernel_rfl) (by kernel_rfl) (fun _ _ _ h => h) (Or.inl ⟨by rfl, fun w hSw => by go_simp⟩) hu0 ?_
 try simp only [z1, z2, z3, z4, z5, z6, z7, z8]
 refine wpAnyH_take (i := 5) (v := encStr name) rfl (by kernel_rfl) (by kernel_rfl) (by kernel_rfl) (fun _ _ _ h => h) (Or.inl ⟨by rfl, fun w hSw => by have c0 := hSw.bx 1 _ rfl; go_simp⟩) hu0 ?_
 try simp only [z1, z2, z3, z4, z5, z6, z7, z8]
 refine wpAnyH_ready (rs := [6]) (by kernel_rfl) (by simp) (AllReadyH.cons (i := 6) rfl (fun K hK => ?_) AllReadyH.nil)
 rw [if_pos (by rfl)]
 go_simp
 refine (get_z2 HQ2.out (by omega) name hnm).mono ?_
 rintro e u1 ⟨v', rfl, ⟨hq, hk⟩, hO⟩
 have HQ3 := hide hq
 have HK3 : Hid (Keep (fun b => ¬ X b) w u1) := hide (HK2.out.trans hk (fun b hb _ hx => hb (.inl (.inl (.inl hx)))))
 have HV3 : Hid (ErrV u1 ve opGet name (S.getE name)) := hide (HV2.out.keepE hk (fun b hb hn => hn (.inl (.inr (.inr hb)))))
 have HO3 : Hid (OwnB u1 v (S.getB name).length (S.getB name)) := hide (HO2.out.keep hk (fun g hg hn => hn (.inl (.inr (.inl hg)))))
 have HO4 := hide hO
 have HG3 : Hid (Gl u1) := hide (HK3.out.cellOf HG.out (fun hn => hn hgx))
 clear hq hO HQ2 HK2 HV2 HO2 HG
 refine hK.out _ _ (hu0.mv hk (.inl (.inr rfl))) (fun hu1 => ?_)
 clear hK K
 try simp only [z1, z2, z3, z4, z5, z6, z7, z8]
 refine wpAnyH_take (i := 7) (v := .tuple #[v', .int .i64 (S.getE name)]) rfl (by kernel_rfl) (by kernel_rfl) (by kernel_rfl) (fun _ _ _ h => h) (Or.inl ⟨by rfl, fun w hSw => by go_simp⟩) hu1 ?_
 try simp only [z1, z2, z3, z4, z5, z6, z7, z8]
 refine wpAnyH_take (i := 8) (v := v') rfl (by kernel_rfl) (by kernel_rfl) (by kernel_rfl) (fun _ _ _ h => h) (Or.inl ⟨by rfl, fun w hSw => by go_simp⟩) hu1 ?_
 try simp only [z1, z2, z3, z4, z5, z6, z7, z8]
 refine wpAnyH_take (i := 9) (v := .int .i64 (S.getE name)) rfl (by kernel_rfl) (by kernel_rfl) (by kernel_rfl) (fun _ _ _ h => h) (Or.inl ⟨by rfl, fun w hSw => by go_simp⟩) hu1 ?_
 try simp only [z1, z2, z3, z4, z5, z6, z7, z8]
 refine wpAnyH_take (i := 10) (v := v') rfl (by kernel_rfl) (by kernel_rfl) (by kernel_rfl) (fun _ _ _ h => h) (Or.inl ⟨by rfl, fun w hSw => by go_simp⟩) hu1 ?_
 try simp only [z1, z2, z3, z4, z5, z6, z7, z8]
 refine wpAnyH_take (i := 11) (v := .int .i64 (S.getE name)) rfl (by kernel_rfl) (by kernel_rfl) (by kernel_rfl) (fun _ _ _ h => h) (Or.inl ⟨by rfl, fun w hSw => by go_simp⟩) hu1 ?_
 try simp only [z1, z2, z3, z4, z5, z6, z7, z8]
 refine wpAnyH_done (by kernel_rfl) ?_ _
 obtain ⟨ro, rc, hv0, _, _, _, _⟩ := HO3.out.shape
 obtain ⟨so, sc, hv9, _, _, _, _⟩ := HO4.out.shape
 subst hv0 hv9
 have hsmall := HSM.out
 have i1 : u1.cell? ⟨bx, 1, none⟩ = some (encStr name) := hu1.bx 1 _ rfl
 have hsy := says_yes ve [103, 101, 116] name _ u1 HG3.out (by decide) HV3.out
 have HSB : Hid (∀ v9, Kept [] u1 v9 → Calls Tryz.prog 18 #[.slice ro (S.getB name).length rc, .slice so (S.getB name).length sc] v9 fun e w' => e = .returned (.bool true) ∧ ∃ k, w' = v9.drewN k) := hide (fun v9 hk9 => same_yes ro so _ rc sc (S.getB name) v9 rfl (by omega) ((HO3.out.kept hk9).sl) ((HO4.out.kept hk9).sl))
 clear HSM HG3 HV3 HO3 HO4 hv1 hu1
 generalize S.getE name = E at *
 generalize (S.getB name).length = L at *
 go_wp2_with (first
  | (go_at_call 15; refine hsy.mono ?_; rintro e u2 ⟨rfl, hk2⟩; have hsb := HSB.out u2 hk2; have HQ5 := hide (HQ3.out.kept hk2); have HK5 := hide (HK3.out.kept hk2); clear hsy hk2 HSB HQ3 HK3)
  | (go_at_call 18; refine hsb.mono ?_; rintro e u3 ⟨rfl, kk, hw⟩; have hk3 : Kept [] u2 u3 := (by rw [hw]; exact (Kept.refl [] u2).drewN kk); have HQ6 := hide (HQ5.out.kept hk3); have HK6 := hide (HK5.out.kept hk3); clear hsb hw hk3 HQ5 HK5))
 go_ret
 exact ⟨rfl, HQ6.out.less (fun _ h => .inl (.inl h)), HK6.out⟩
end Go.Proofs.YtodihkdmneihiaaGreatDoor
