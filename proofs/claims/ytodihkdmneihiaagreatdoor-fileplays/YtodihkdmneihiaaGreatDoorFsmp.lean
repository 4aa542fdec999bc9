import Derived.Test.YtodihkdmneihiaaGreatDoorFsip
import Derived.Test.YtodihkdmneihiaaGreatDoorFslp
namespace Go.Proofs.YtodihkdmneihiaaGreatDoor
open Go.RowKit Dsk
set_option linter.unusedVariables false
set_option linter.unusedSimpArgs false
set_option maxHeartbeats 3200000 in
set_option maxRecDepth 100000 in
theorem ca_drop {X : Nat → Prop} {w : World} {P p q : Nat} {S : Ds} {N M : Nat} (h : Pz X w P p q S N S M) (name to : By) (da : Option Addr) (dn dc : Nat) (n po pf pt : Int) (pa : Option Addr) (pn pc : Nat) (hg : Gl w) (hgx : X 0) (hnm : name.length ≤ 4611686018427387900) (hN : N + 4 ≤ 80000000) (hM : M + 4 ≤ 80000000) :
  Calls Tryz.prog 7 #[.pointer (some ⟨P, 0, none⟩), .agg #[.int .i64 3, encStr name, encStr to, .slice da dn dc, .int .i64 n, .int .i64 po, .int .i64 pf, .int .i64 pt, .slice pa pn pc]] w fun e w' => e = .returned (.bool true) ∧ Pz X w' P p q (S.drop name).2 (N + 3) (S.drop name).2 (M + 3) ∧ Keep (fun b => ¬ X b) w w' := by
 obtain ⟨w1, hw1⟩ : ∃ w1, w1 = w.alloc (.cells #[.int .i64 3, encStr name, encStr to, .slice da dn dc, .int .i64 n, .int .i64 po, .int .i64 pf, .int .i64 pt, .slice pa pn pc] 33) := ⟨_, rfl⟩
 obtain ⟨h1, hR, hk1⟩ := h.box [.int .i64 3, encStr name, encStr to, .slice da dn dc, .int .i64 n, .int .i64 po, .int .i64 pf, .int .i64 pt, .slice pa pn pc] 33 hw1
 have i0 : w1.cell? ⟨w.heap.size, 0, none⟩ = some (.int .i64 3) := hR.bx 0 _ rfl
 have HK : Hid (Keep (fun b => ¬ X b) w w1) := hide (Keep.ofNone hk1)
 have HG := hide hg
 skip
 clear h hk1 hg
 go_enter Tryz.func7, Tryz.ntmps7
 go_upto_region 1 with (fail)
 rw [← hw1]
 clear hw1
 generalize w.heap.size = bx at *
 have HQ := hide h1
 have HR := hide hR
 clear h1 hR
 go_upto_region 21 with (fail)
 clear i0
 have HQ0 : Hid (Pz (fun b => X b ∨ b = bx) w1.drew P p q S N S M) := hide (HQ.out.kept ((Kept.refl [] w1).drew))
 have HK0 : Hid (Keep (fun b => ¬ X b) w w1.drew) := hide (HK.out.kept ((Kept.refl [] w1).drew))
 clear HQ HK
 refine wp_region_held_drew (S := (Rdz P p q bx [.int .i64 3, encStr name, encStr to, .slice da dn dc, .int .i64 n, .int .i64 po, .int .i64 pf, .int .i64 pt, .slice pa pn pc])) (by kernel_rfl) (HR.out.kept ((Kept.refl [] w1).drew)) (fun h0 => ?_)
 generalize World.drew w1 = v0 at h0 HQ0 HK0 ⊢
 refine wpAnyH_take (i := 0) (v := .pointer (some ⟨P, 0, none⟩)) rfl (by kernel_rfl) (by kernel_rfl) (by kernel_rfl) (fun _ _ _ h => h) (Or.inl ⟨by rfl, fun w hSw => by go_simp⟩) h0 ?_
 try simp only [z1, z2, z3, z4, z5, z6, z7, z8]
 refine wpAnyH_take (i := 1) (v := .pointer (some ⟨P, 0, none⟩)) rfl (by kernel_rfl) (by kernel_rfl) (by kernel_rfl) (fun _ _ _ h => h) (Or.inl ⟨by rfl, fun w hSw => by go_simp⟩) h0 ?_
 try simp only [z1, z2, z3, z4, z5, z6, z7, z8]
 refine wpAnyH_take (i := 2) (v := .pointer (some ⟨P, 0, none⟩)) rfl (by kernel_rfl) (by kernel_rfl) (by kernel_rfl) (fun _ _ _ h => h) (Or.inl ⟨by rfl, fun w hSw => by go_simp⟩) h0 ?_
 try simp only [z1, z2, z3, z4, z5, z6, z7, z8]
 refine wpAnyH_take (i := 3) (v := .pointer (some ⟨p, 0, none⟩)) rfl (by kernel_rfl) (by kernel_rfl) (by kernel_rfl) (fun _ _ _ h => h) (Or.inl ⟨by rfl, fun w hSw => by have c0 := hSw.p0; go_simp⟩) h0 ?_
 try simp only [z1, z2, z3, z4, z5, z6, z7, z8]
 refine wpAnyH_take (i := 4) (v := .pointer (some ⟨bx, 1, none⟩)) rfl (by kernel_rfl) (by kernel_rfl) (by kernel_rfl) (fun _ _ _ h => h) (Or.inl ⟨by rfl, fun w hSw => by go_simp⟩) h0 ?_
 try simp only [z1, z2, z3, z4, z5, z6, z7, z8]
 refine wpAnyH_take (i := 5) (v := encStr name) rfl (by kernel_rfl) (by kernel_rfl) (by kernel_rfl) (fun _ _ _ h => h) (Or.inl ⟨by rfl, fun w hSw => by have c0 := hSw.bx 1 _ rfl; go_simp⟩) h0 ?_
 try simp only [z1, z2, z3, z4, z5, z6, z7, z8]
 refine wpAnyH_take (i := 7) (v := .pointer (some ⟨bx, 1, none⟩)) rfl (by kernel_rfl) (by kernel_rfl) (by kernel_rfl) (fun _ _ _ h => h) (Or.inl ⟨by rfl, fun w hSw => by go_simp⟩) h0 ?_
 try simp only [z1, z2, z3, z4, z5, z6, z7, z8]
 refine wpAnyH_take (i := 8) (v := encStr name) rfl (by kernel_rfl) (by kernel_rfl) (by kernel_rfl) (fun _ _ _ h => h) (Or.inl ⟨by rfl, fun w hSw => by have c0 := hSw.bx 1 _ rfl; go_simp⟩) h0 ?_
 try simp only [z1, z2, z3, z4, z5, z6, z7, z8]
 refine wpAnyH_take (i := 9) (v := .pointer (some ⟨P, 0, none⟩)) rfl (by kernel_rfl) (by kernel_rfl) (by kernel_rfl) (fun _ _ _ h => h) (Or.inl ⟨by rfl, fun w hSw => by go_simp⟩) h0 ?_
 try simp only [z1, z2, z3, z4, z5, z6, z7, z8]
 refine wpAnyH_take (i := 10) (v := .pointer (some ⟨P, 0, none⟩)) rfl (by kernel_rfl) (by kernel_rfl) (by kernel_rfl) (fun _ _ _ h => h) (Or.inl ⟨by rfl, fun w hSw => by go_simp⟩) h0 ?_
 try simp only [z1, z2, z3, z4, z5, z6, z7, z8]
 refine wpAnyH_take (i := 11) (v := .pointer (some ⟨P, 1, none⟩)) rfl (by kernel_rfl) (by kernel_rfl) (by kernel_rfl) (fun _ _ _ h => h) (Or.inl ⟨by rfl, fun w hSw => by go_simp⟩) h0 ?_
 try simp only [z1, z2, z3, z4, z5, z6, z7, z8]
 refine wpAnyH_take (i := 12) (v := .pointer (some ⟨q, 0, none⟩)) rfl (by kernel_rfl) (by kernel_rfl) (by kernel_rfl) (fun _ _ _ h => h) (Or.inl ⟨by rfl, fun w hSw => by have c0 := hSw.p1; go_simp⟩) h0 ?_
 try simp only [z1, z2, z3, z4, z5, z6, z7, z8]
 refine wpAnyH_take (i := 13) (v := .pointer (some ⟨bx, 1, none⟩)) rfl (by kernel_rfl) (by kernel_rfl) (by kernel_rfl) (fun _ _ _ h => h) (Or.inl ⟨by rfl, fun w hSw => by go_simp⟩) h0 ?_
 try simp only [z1, z2, z3, z4, z5, z6, z7, z8]
 refine wpAnyH_take (i := 14) (v := encStr name) rfl (by kernel_rfl) (by kernel_rfl) (by kernel_rfl) (fun _ _ _ h => h) (Or.inl ⟨by rfl, fun w hSw => by have c0 := hSw.bx 1 _ rfl; go_simp⟩) h0 ?_
 try simp only [z1, z2, z3, z4, z5, z6, z7, z8]
 refine wpAnyH_ready (rs := [6]) (by kernel_rfl) (by simp) (AllReadyH.cons (i := 6) rfl (fun K hK => ?_) AllReadyH.nil)
 rw [if_pos (by rfl)]
 go_simp
 refine (drop_z1 HQ0.out (by omega) name hnm).mono ?_
 rintro e v1 ⟨ve, rfl, hv, hq, hk⟩
 have HQ1 := hide hq
 have HK1 : Hid (Keep (fun b => ¬ X b) w v1) := hide (HK0.out.trans hk (fun b hb _ hx => hb (.inl (.inl hx))))
 have HV1 := hide hv
 clear hq hv HQ0 HK0
 refine hK.out _ _ (h0.mv hk (.inr rfl)) (fun h1 => ?_)
 clear hK K
 try simp only [z1, z2, z3, z4, z5, z6, z7, z8]
 refine wpAnyH_ready (rs := [15]) (by kernel_rfl) (by simp) (AllReadyH.cons (i := 15) rfl (fun K hK => ?_) AllReadyH.nil)
 rw [if_pos (by rfl)]
 go_simp
 refine (drop_z2 HQ1.out (by omega) name hnm).mono ?_
 rintro e v2 ⟨rfl, hq, hk⟩
 have HQ2 := hide hq
 have HK2 : Hid (Keep (fun b => ¬ X b) w v2) := hide (HK1.out.trans hk (fun b hb _ hx => hb (.inl (.inl (.inl hx)))))
 have HV2 : Hid (ErrV v2 ve opDrop name (S.drop name).1) := hide (HV1.out.keepE hk (fun b hb hn => hn (.inl (.inr hb))))
 have HG2 : Hid (Gl v2) := hide (HK2.out.cellOf HG.out (fun hn => hn hgx))
 clear hq HQ1 HK1 HV1 HG
 refine hK.out _ _ (h1.mv hk (.inl (.inr rfl))) (fun h2 => ?_)
 clear hK K
 try simp only [z1, z2, z3, z4, z5, z6, z7, z8]
 refine wpAnyH_ready (rs := [16]) (by kernel_rfl) (by simp) (AllReadyH.cons (i := 16) rfl (fun K hK => ?_) AllReadyH.nil)
 rw [if_pos (by rfl)]
 go_simp
 refine (says_yes ve [100, 114, 111, 112] name _ _ HG2.out (by decide) HV2.out).mono ?_
 rintro e v3 ⟨rfl, hk⟩
 have HQ3 := hide (HQ2.out.kept hk)
 have HK3 := hide (HK2.out.kept hk)
 clear HQ2 HK2 HV2 HG2
 refine hK.out _ _ (h2.kept hk) (fun h3 => ?_)
 clear hK K
 try simp only [z1, z2, z3, z4, z5, z6, z7, z8]
 refine wpAnyH_take (i := 17) (v := .bool true) rfl (by kernel_rfl) (by kernel_rfl) (by kernel_rfl) (fun _ _ _ h => h) (Or.inl ⟨by rfl, fun w hSw => by go_simp⟩) h3 ?_
 try simp only [z1, z2, z3, z4, z5, z6, z7, z8]
 refine wpAnyH_done (by kernel_rfl) ?_ _
 go_wp2
 go_ret
 exact ⟨rfl, HQ3.out.less (fun _ h => .inl (.inl h)), HK3.out⟩
set_option maxHeartbeats 3200000 in
set_option maxRecDepth 100000 in
theorem ca_clean {X : Nat → Prop} {w : World} {P p q : Nat} {S : Ds} {N M : Nat} (h : Pz X w P p q S N S M) (name to : By) (da : Option Addr) (dn dc : Nat) (n po pf pt : Int) (pa : Option Addr) (pn pc : Nat) (hg : Gl w) (hgx : X 0) (hnm : name.length ≤ 4611686018427387900) (k : Int) (hk0 : ¬ k = 1 ∧ ¬ k = 2 ∧ ¬ k = 3) (hon : S.on = true) (hN : N + 4 ≤ 80000000) (hM : M + 4 ≤ 80000000) :
  Calls Tryz.prog 7 #[.pointer (some ⟨P, 0, none⟩), .agg #[.int .i64 k, encStr name, encStr to, .slice da dn dc, .int .i64 n, .int .i64 po, .int .i64 pf, .int .i64 pt, .slice pa pn pc]] w fun e w' => e = .returned (.bool true) ∧ Pz X w' P p q (S.rclean name).2 (N + 2 * (S.list name).length + 3) (S.rclean name).2 (M + 2 * (S.list name).length + 3) ∧ Keep (fun b => ¬ X b) w w' := by
 obtain ⟨w1, hw1⟩ : ∃ w1, w1 = w.alloc (.cells #[.int .i64 k, encStr name, encStr to, .slice da dn dc, .int .i64 n, .int .i64 po, .int .i64 pf, .int .i64 pt, .slice pa pn pc] 33) := ⟨_, rfl⟩
 obtain ⟨h1, hR, hk1⟩ := h.box [.int .i64 k, encStr name, encStr to, .slice da dn dc, .int .i64 n, .int .i64 po, .int .i64 pf, .int .i64 pt, .slice pa pn pc] 33 hw1
 have i0 : w1.cell? ⟨w.heap.size, 0, none⟩ = some (.int .i64 k) := hR.bx 0 _ rfl
 have HK : Hid (Keep (fun b => ¬ X b) w w1) := hide (Keep.ofNone hk1)
 have HG := hide hg
 have n1 : (k == 1) = false := by simpa using (by omega : ¬ k = 1)
 have n2 : (k == 2) = false := by simpa using (by omega : ¬ k = 2)
 have n3 : (k == 3) = false := by simpa using (by omega : ¬ k = 3)
 clear hk0
 clear h hk1 hg
 go_enter Tryz.func7, Tryz.ntmps7
 go_upto_region 1 with (fail)
 rw [← hw1]
 clear hw1
 generalize w.heap.size = bx at *
 have HQ := hide h1
 have HR := hide hR
 clear h1 hR
 go_upto_region 22 with (fail)
 clear i0
 have HQ0 : Hid (Pz (fun b => X b ∨ b = bx) w1.drew P p q S N S M) := hide (HQ.out.kept ((Kept.refl [] w1).drew))
 have HK0 : Hid (Keep (fun b => ¬ X b) w w1.drew) := hide (HK.out.kept ((Kept.refl [] w1).drew))
 clear HQ HK
 refine wp_region_held_drew (S := (Rdz P p q bx [.int .i64 k, encStr name, encStr to, .slice da dn dc, .int .i64 n, .int .i64 po, .int .i64 pf, .int .i64 pt, .slice pa pn pc])) (by kernel_rfl) (HR.out.kept ((Kept.refl [] w1).drew)) (fun h0 => ?_)
 generalize World.drew w1 = v0 at h0 HQ0 HK0 ⊢
 refine wpAnyH_take (i := 0) (v := .pointer (some ⟨P, 0, none⟩)) rfl (by kernel_rfl) (by kernel_rfl) (by kernel_rfl) (fun _ _ _ h => h) (Or.inl ⟨by rfl, fun w hSw => by go_simp⟩) h0 ?_
 try simp only [z1, z2, z3, z4, z5, z6, z7, z8]
 refine wpAnyH_take (i := 1) (v := .pointer (some ⟨P, 0, none⟩)) rfl (by kernel_rfl) (by kernel_rfl) (by kernel_rfl) (fun _ _ _ h => h) (Or.inl ⟨by rfl, fun w hSw => by go_simp⟩) h0 ?_
 try simp only [z1, z2, z3, z4, z5, z6, z7, z8]
 refine wpAnyH_take (i := 2) (v := .pointer (some ⟨P, 0, none⟩)) rfl (by kernel_rfl) (by kernel_rfl) (by kernel_rfl) (fun _ _ _ h => h) (Or.inl ⟨by rfl, fun w hSw => by go_simp⟩) h0 ?_
 try simp only [z1, z2, z3, z4, z5, z6, z7, z8]
 refine wpAnyH_take (i := 3) (v := .pointer (some ⟨p, 0, none⟩)) rfl (by kernel_rfl) (by kernel_rfl) (by kernel_rfl) (fun _ _ _ h => h) (Or.inl ⟨by rfl, fun w hSw => by have c0 := hSw.p0; go_simp⟩) h0 ?_
 try simp only [z1, z2, z3, z4, z5, z6, z7, z8]
 refine wpAnyH_take (i := 4) (v := .pointer (some ⟨bx, 1, none⟩)) rfl (by kernel_rfl) (by kernel_rfl) (by kernel_rfl) (fun _ _ _ h => h) (Or.inl ⟨by rfl, fun w hSw => by go_simp⟩) h0 ?_
 try simp only [z1, z2, z3, z4, z5, z6, z7, z8]
 refine wpAnyH_take (i := 5) (v := encStr name) rfl (by kernel_rfl) (by kernel_rfl) (by kernel_rfl) (fun _ _ _ h => h) (Or.inl ⟨by rfl, fun w hSw => by have c0 := hSw.bx 1 _ rfl; go_simp⟩) h0 ?_
 try simp only [z1, z2, z3, z4, z5, z6, z7, z8]
 refine wpAnyH_take (i := 7) (v := .pointer (some ⟨bx, 1, none⟩)) rfl (by kernel_rfl) (by kernel_rfl) (by kernel_rfl) (fun _ _ _ h => h) (Or.inl ⟨by rfl, fun w hSw => by go_simp⟩) h0 ?_
 try simp only [z1, z2, z3, z4, z5, z6, z7, z8]
 refine wpAnyH_take (i := 8) (v := encStr name) rfl (by kernel_rfl) (by kernel_rfl) (by kernel_rfl) (fun _ _ _ h => h) (Or.inl ⟨by rfl, fun w hSw => by have c0 := hSw.bx 1 _ rfl; go_simp⟩) h0 ?_
 try simp only [z1, z2, z3, z4, z5, z6, z7, z8]
 refine wpAnyH_take (i := 9) (v := .pointer (some ⟨P, 0, none⟩)) rfl (by kernel_rfl) (by kernel_rfl) (by kernel_rfl) (fun _ _ _ h => h) (Or.inl ⟨by rfl, fun w hSw => by go_simp⟩) h0 ?_
 try simp only [z1, z2, z3, z4, z5, z6, z7, z8]
 refine wpAnyH_take (i := 10) (v := .pointer (some ⟨P, 0, none⟩)) rfl (by kernel_rfl) (by kernel_rfl) (by kernel_rfl) (fun _ _ _ h => h) (Or.inl ⟨by rfl, fun w hSw => by go_simp⟩) h0 ?_
 try simp only [z1, z2, z3, z4, z5, z6, z7, z8]
 refine wpAnyH_take (i := 11) (v := .pointer (some ⟨P, 1, none⟩)) rfl (by kernel_rfl) (by kernel_rfl) (by kernel_rfl) (fun _ _ _ h => h) (Or.inl ⟨by rfl, fun w hSw => by go_simp⟩) h0 ?_
 try simp only [z1, z2, z3, z4, z5, z6, z7, z8]
 refine wpAnyH_take (i := 12) (v := .pointer (some ⟨q, 0, none⟩)) rfl (by kernel_rfl) (by kernel_rfl) (by kernel_rfl) (fun _ _ _ h => h) (Or.inl ⟨by rfl, fun w hSw => by have c0 := hSw.p1; go_simp⟩) h0 ?_
 try simp only [z1, z2, z3, z4, z5, z6, z7, z8]
 refine wpAnyH_take (i := 13) (v := .pointer (some ⟨bx, 1, none⟩)) rfl (by kernel_rfl) (by kernel_rfl) (by kernel_rfl) (fun _ _ _ h => h) (Or.inl ⟨by rfl, fun w hSw => by go_simp⟩) h0 ?_
 try simp only [z1, z2, z3, z4, z5, z6, z7, z8]
 refine wpAnyH_take (i := 14) (v := encStr name) rfl (by kernel_rfl) (by kernel_rfl) (by kernel_rfl) (fun _ _ _ h => h) (Or.inl ⟨by rfl, fun w hSw => by have c0 := hSw.bx 1 _ rfl; go_simp⟩) h0 ?_
 try simp only [z1, z2, z3, z4, z5, z6, z7, z8]
 refine wpAnyH_ready (rs := [6]) (by kernel_rfl) (by simp) (AllReadyH.cons (i := 6) rfl (fun K hK => ?_) AllReadyH.nil)
 rw [if_pos (by rfl)]
 go_simp
 refine (clean_z1 HQ0.out (by omega) hon name hnm).mono ?_
 rintro e v1 ⟨ve, rfl, hv, hq, hk⟩
 have HQ1 := hide hq
 have HK1 : Hid (Keep (fun b => ¬ X b) w v1) := hide (HK0.out.trans hk (fun b hb _ hx => hb (.inl (.inl hx))))
 have HV1 := hide hv
 clear hq hv HQ0 HK0
 refine hK.out _ _ (h0.mv hk (.inr rfl)) (fun h1 => ?_)
 clear hK K
 try simp only [z1, z2, z3, z4, z5, z6, z7, z8]
 refine wpAnyH_ready (rs := [15]) (by kernel_rfl) (by simp) (AllReadyH.cons (i := 15) rfl (fun K hK => ?_) AllReadyH.nil)
 rw [if_pos (by rfl)]
 go_simp
 refine (clean_z2 HQ1.out (by omega) name hnm).mono ?_
 rintro e v2 ⟨rfl, hq, hk⟩
 have HQ2 := hide hq
 have HK2 : Hid (Keep (fun b => ¬ X b) w v2) := hide (HK1.out.trans hk (fun b hb _ hx => hb (.inl (.inl (.inl hx)))))
 have HV2 : Hid (ErrV v2 ve opClean name (S.rclean name).1) := hide (HV1.out.keepE hk (fun b hb hn => hn (.inl (.inr hb))))
 have HG2 : Hid (Gl v2) := hide (HK2.out.cellOf HG.out (fun hn => hn hgx))
 clear hq HQ1 HK1 HV1 HG
 refine hK.out _ _ (h1.mv hk (.inl (.inr rfl))) (fun h2 => ?_)
 clear hK K
 try simp only [z1, z2, z3, z4, z5, z6, z7, z8]
 refine wpAnyH_ready (rs := [16]) (by kernel_rfl) (by simp) (AllReadyH.cons (i := 16) rfl (fun K hK => ?_) AllReadyH.nil)
 rw [if_pos (by rfl)]
 go_simp
 refine (says_yes ve [99, 108, 101, 97, 110] name _ _ HG2.out (by decide) HV2.out).mono ?_
 rintro e v3 ⟨rfl, hk⟩
 have HQ3 := hide (HQ2.out.kept hk)
 have HK3 := hide (HK2.out.kept hk)
 clear HQ2 HK2 HV2 HG2
 refine hK.out _ _ (h2.kept hk) (fun h3 => ?_)
 clear hK K
 try simp only [z1, z2, z3, z4, z5, z6, z7, z8]
 refine wpAnyH_take (i := 17) (v := .bool true) rfl (by kernel_rfl) (by kernel_rfl) (by kernel_rfl) (fun _ _ _ h => h) (Or.inl ⟨by rfl, fun w hSw => by go_simp⟩) h3 ?_
 try simp only [z1, z2, z3, z4, z5, z6, z7, z8]
 refine wpAnyH_done (by kernel_rfl) ?_ _
 go_wp2
 go_ret
 exact ⟨rfl, HQ3.out.less (fun _ h => .inl (.inl h)), HK3.out⟩
set_option maxHeartbeats 3200000 in
set_option maxRecDepth 100000 in
theorem ca_cleanz {X : Nat → Prop} {w : World} {P p q : Nat} {S : Ds} {N M : Nat} (h : Pz X w P p q S N S M) (name to : By) (da : Option Addr) (dn dc : Nat) (n po pf pt : Int) (pa : Option Addr) (pn pc : Nat) (hg : Gl w) (hgx : X 0) (hnm : name.length ≤ 4611686018427387900) (k : Int) (hk0 : ¬ k = 1 ∧ ¬ k = 2 ∧ ¬ k = 3) (hon : S.on = false) (hN : N + 4 ≤ 80000000) (hM : M + 4 ≤ 80000000) :
  Calls Tryz.prog 7 #[.pointer (some ⟨P, 0, none⟩), .agg #[.int .i64 k, encStr name, encStr to, .slice da dn dc, .int .i64 n, .int .i64 po, .int .i64 pf, .int .i64 pt, .slice pa pn pc]] w fun e w' => e = .returned (.bool true) ∧ Pz X w' P p q (S.rclean name).2 (N + 2 * (S.list name).length + 3) (S.rclean name).2 (M + 2 * (S.list name).length + 3) ∧ Keep (fun b => ¬ X b) w w' := by
 obtain ⟨w1, hw1⟩ : ∃ w1, w1 = w.alloc (.cells #[.int .i64 k, encStr name, encStr to, .slice da dn dc, .int .i64 n, .int .i64 po, .int .i64 pf, .int .i64 pt, .slice pa pn pc] 33) := ⟨_, rfl⟩
 obtain ⟨h1, hR, hk1⟩ := h.box [.int .i64 k, encStr name, encStr to, .slice da dn dc, .int .i64 n, .int .i64 po, .int .i64 pf, .int .i64 pt, .slice pa pn pc] 33 hw1
 have i0 : w1.cell? ⟨w.heap.size, 0, none⟩ = some (.int .i64 k) := hR.bx 0 _ rfl
 have HK : Hid (Keep (fun b => ¬ X b) w w1) := hide (Keep.ofNone hk1)
 have HG := hide hg
 have n1 : (k == 1) = false := by simpa using (by omega : ¬ k = 1)
 have n2 : (k == 2) = false := by simpa using (by omega : ¬ k = 2)
 have n3 : (k == 3) = false := by simpa using (by omega : ¬ k = 3)
 clear hk0
 clear h hk1 hg
 go_enter Tryz.func7, Tryz.ntmps7
 go_upto_region 1 with (fail)
 rw [← hw1]
 clear hw1
 generalize w.heap.size = bx at *
 have HQ := hide h1
 have HR := hide hR
 clear h1 hR
 go_upto_region 22 with (fail)
 clear i0
 have HQ0 : Hid (Pz (fun b => X b ∨ b = bx) w1.drew P p q S N S M) := hide (HQ.out.kept ((Kept.refl [] w1).drew))
 have HK0 : Hid (Keep (fun b => ¬ X b) w w1.drew) := hide (HK.out.kept ((Kept.refl [] w1).drew))
 clear HQ HK
 refine wp_region_held_drew (S := (Rdz P p q bx [.int .i64 k, encStr name, encStr to, .slice da dn dc, .int .i64 n, .int .i64 po, .int .i64 pf, .int .i64 pt, .slice pa pn pc])) (by kernel_rfl) (HR.out.kept ((Kept.refl [] w1).drew)) (fun h0 => ?_)
 generalize World.drew w1 = v0 at h0 HQ0 HK0 ⊢
 refine wpAnyH_take (i := 0) (v := .pointer (some ⟨P, 0, none⟩)) rfl (by kernel_rfl) (by kernel_rfl) (by kernel_rfl) (fun _ _ _ h => h) (Or.inl ⟨by rfl, fun w hSw => by go_simp⟩) h0 ?_
 try simp only [z1, z2, z3, z4, z5, z6, z7, z8]
 refine wpAnyH_take (i := 1) (v := .pointer (some ⟨P, 0, none⟩)) rfl (by kernel_rfl) (by kernel_rfl) (by kernel_rfl) (fun _ _ _ h => h) (Or.inl ⟨by rfl, fun w hSw => by go_simp⟩) h0 ?_
 try simp only [z1, z2, z3, z4, z5, z6, z7, z8]
 refine wpAnyH_take (i := 2) (v := .pointer (some ⟨P, 0, none⟩)) rfl (by kernel_rfl) (by kernel_rfl) (by kernel_rfl) (fun _ _ _ h => h) (Or.inl ⟨by rfl, fun w hSw => by go_simp⟩) h0 ?_
 try simp only [z1, z2, z3, z4, z5, z6, z7, z8]
 refine wpAnyH_take (i := 3) (v := .pointer (some ⟨p, 0, none⟩)) rfl (by kernel_rfl) (by kernel_rfl) (by kernel_rfl) (fun _ _ _ h => h) (Or.inl ⟨by rfl, fun w hSw => by have c0 := hSw.p0; go_simp⟩) h0 ?_
 try simp only [z1, z2, z3, z4, z5, z6, z7, z8]
 refine wpAnyH_take (i := 4) (v := .pointer (some ⟨bx, 1, none⟩)) rfl (by kernel_rfl) (by kernel_rfl) (by kernel_rfl) (fun _ _ _ h => h) (Or.inl ⟨by rfl, fun w hSw => by go_simp⟩) h0 ?_
 try simp only [z1, z2, z3, z4, z5, z6, z7, z8]
 refine wpAnyH_take (i := 5) (v := encStr name) rfl (by kernel_rfl) (by kernel_rfl) (by kernel_rfl) (fun _ _ _ h => h) (Or.inl ⟨by rfl, fun w hSw => by have c0 := hSw.bx 1 _ rfl; go_simp⟩) h0 ?_
 try simp only [z1, z2, z3, z4, z5, z6, z7, z8]
 refine wpAnyH_take (i := 7) (v := .pointer (some ⟨bx, 1, none⟩)) rfl (by kernel_rfl) (by kernel_rfl) (by kernel_rfl) (fun _ _ _ h => h) (Or.inl ⟨by rfl, fun w hSw => by go_simp⟩) h0 ?_
 try simp only [z1, z2, z3, z4, z5, z6, z7, z8]
 refine wpAnyH_take (i := 8) (v := encStr name) rfl (by kernel_rfl) (by kernel_rfl) (by kernel_rfl) (fun _ _ _ h => h) (Or.inl ⟨by rfl, fun w hSw => by have c0 := hSw.bx 1 _ rfl; go_simp⟩) h0 ?_
 try simp only [z1, z2, z3, z4, z5, z6, z7, z8]
 refine wpAnyH_take (i := 9) (v := .pointer (some ⟨P, 0, none⟩)) rfl (by kernel_rfl) (by kernel_rfl) (by kernel_rfl) (fun _ _ _ h => h) (Or.inl ⟨by rfl, fun w hSw => by go_simp⟩) h0 ?_
 try simp only [z1, z2, z3, z4, z5, z6, z7, z8]
 refine wpAnyH_take (i := 10) (v := .pointer (some ⟨P, 0, none⟩)) rfl (by kernel_rfl) (by kernel_rfl) (by kernel_rfl) (fun _ _ _ h => h) (Or.inl ⟨by rfl, fun w hSw => by go_simp⟩) h0 ?_
 try simp only [z1, z2, z3, z4, z5, z6, z7, z8]
 refine wpAnyH_take (i := 11) (v := .pointer (some ⟨P, 1, none⟩)) rfl (by kernel_rfl) (by kernel_rfl) (by kernel_rfl) (fun _ _ _ h => h) (Or.inl ⟨by rfl, fun w hSw => by go_simp⟩) h0 ?_
 try simp only [z1, z2, z3, z4, z5, z6, z7, z8]
 refine wpAnyH_take (i := 12) (v := .pointer (some ⟨q, 0, none⟩)) rfl (by kernel_rfl) (by kernel_rfl) (by kernel_rfl) (fun _ _ _ h => h) (Or.inl ⟨by rfl, fun w hSw => by have c0 := hSw.p1; go_simp⟩) h0 ?_
 try simp only [z1, z2, z3, z4, z5, z6, z7, z8]
 refine wpAnyH_take (i := 13) (v := .pointer (some ⟨bx, 1, none⟩)) rfl (by kernel_rfl) (by kernel_rfl) (by kernel_rfl) (fun _ _ _ h => h) (Or.inl ⟨by rfl, fun w hSw => by go_simp⟩) h0 ?_
 try simp only [z1, z2, z3, z4, z5, z6, z7, z8]
 refine wpAnyH_take (i := 14) (v := encStr name) rfl (by kernel_rfl) (by kernel_rfl) (by kernel_rfl) (fun _ _ _ h => h) (Or.inl ⟨by rfl, fun w hSw => by have c0 := hSw.bx 1 _ rfl; go_simp⟩) h0 ?_
 try simp only [z1, z2, z3, z4, z5, z6, z7, z8]
 refine wpAnyH_ready (rs := [6]) (by kernel_rfl) (by simp) (AllReadyH.cons (i := 6) rfl (fun K hK => ?_) AllReadyH.nil)
 rw [if_pos (by rfl)]
 go_simp
 refine (clean_z0 HQ0.out hon name).mono ?_
 rintro e v1 ⟨ve, rfl, hv, hq, hk⟩
 have HQ1 := hide hq
 have HK1 : Hid (Keep (fun b => ¬ X b) w v1) := hide (HK0.out.trans hk (fun b hb _ hx => hb (.inl (.inl hx))))
 have HV1 := hide hv
 clear hq hv HQ0 HK0
 refine hK.out _ _ (h0.mv hk (.inr rfl)) (fun h1 => ?_)
 clear hK K
 try simp only [z1, z2, z3, z4, z5, z6, z7, z8]
 refine wpAnyH_ready (rs := [15]) (by kernel_rfl) (by simp) (AllReadyH.cons (i := 15) rfl (fun K hK => ?_) AllReadyH.nil)
 rw [if_pos (by rfl)]
 go_simp
 refine (clean_z2 HQ1.out (by omega) name hnm).mono ?_
 rintro e v2 ⟨rfl, hq, hk⟩
 have HQ2 := hide hq
 have HK2 : Hid (Keep (fun b => ¬ X b) w v2) := hide (HK1.out.trans hk (fun b hb _ hx => hb (.inl (.inl (.inl hx)))))
 have HV2 : Hid (ErrV v2 ve opClean name (S.rclean name).1) := hide (HV1.out.keepE hk (fun b hb hn => hn (.inl (.inr hb))))
 have HG2 : Hid (Gl v2) := hide (HK2.out.cellOf HG.out (fun hn => hn hgx))
 clear hq HQ1 HK1 HV1 HG
 refine hK.out _ _ (h1.mv hk (.inl (.inr rfl))) (fun h2 => ?_)
 clear hK K
 try simp only [z1, z2, z3, z4, z5, z6, z7, z8]
 refine wpAnyH_ready (rs := [16]) (by kernel_rfl) (by simp) (AllReadyH.cons (i := 16) rfl (fun K hK => ?_) AllReadyH.nil)
 rw [if_pos (by rfl)]
 go_simp
 refine (says_yes ve [99, 108, 101, 97, 110] name _ _ HG2.out (by decide) HV2.out).mono ?_
 rintro e v3 ⟨rfl, hk⟩
 have HQ3 := hide (HQ2.out.kept hk)
 have HK3 := hide (HK2.out.kept hk)
 clear HQ2 HK2 HV2 HG2
 refine hK.out _ _ (h2.kept hk) (fun h3 => ?_)
 clear hK K
 try simp only [z1, z2, z3, z4, z5, z6, z7, z8]
 refine wpAnyH_take (i := 17) (v := .bool true) rfl (by kernel_rfl) (by kernel_rfl) (by kernel_rfl) (fun _ _ _ h => h) (Or.inl ⟨by rfl, fun w hSw => by go_simp⟩) h3 ?_
 try simp only [z1, z2, z3, z4, z5, z6, z7, z8]
 refine wpAnyH_done (by kernel_rfl) ?_ _
 go_wp2
 go_ret
 exact ⟨rfl, (HQ3.out.less (fun _ h => .inl (.inl h))).mono (by omega) (Nat.le_refl _), HK3.out⟩
end Go.Proofs.YtodihkdmneihiaaGreatDoor
