import Derived.Test.YtodihkdmneihiaaGreatDoorFshp
import Derived.Test.YtodihkdmneihiaaGreatDoorRfcp
namespace Go.Proofs.YtodihkdmneihiaaGreatDoor
section
open Go.RowKit Dsk
set_option linter.unusedVariables false
set_option linter.unusedSimpArgs false
theorem Ints.keepz {F : Nat → Prop} {w w' : World} {ao : Option Addr} {ps : List Int} (h : Ints w ao ps) (hk : Keep F w w') (hF : ps ≠ [] → ∀ a, ao = some a → ¬ F a.block) : Ints w' ao ps := fun i hi => by
 obtain ⟨b, off, e, hc⟩ := h i hi
 exact ⟨b, off, e, hk.cellOf hc (show ¬ F b from hF (fun e => by rw [e] at hi; simp at hi) ⟨b, off, none⟩ e)⟩
section
variable {X : Nat → Prop} {w : World} {P p q : Nat} {S : Ds} {N : Nat} {T : Ds} {M : Nat}
theorem plan_z1 (h : Pz X w P p q S N T M) (a b c : Int) (hp : (Lit.int .i64 a).wf = true ∧ (Lit.int .i64 b).wf = true ∧ (Lit.int .i64 c).wf = true) : Calls Tryz.prog 37 #[.pointer (some ⟨p, 0, none⟩), .agg #[.int .i64 a, .int .i64 b, .int .i64 c]] w fun e w' => e = .returned (.tuple #[]) ∧ Pz X w' P p q (S.setPlan a b c) N T M ∧ Keep (fun b => ¬ (X b ∨ b = P)) w w' := by
 obtain ⟨Y, hY, h1, h2⟩ := h.one
 refine (plan_ax h1 a b c hp).mono ?_
 rintro e w' ⟨rfl, ha⟩
 exact ⟨rfl, h2 _ _ _ ha⟩
theorem plan_z2 (h : Pz X w P p q S N T M) (a b c : Int) (hp : (Lit.int .i64 a).wf = true ∧ (Lit.int .i64 b).wf = true ∧ (Lit.int .i64 c).wf = true) : Calls Tryz.prog 38 #[.pointer (some ⟨q, 0, none⟩), .agg #[.int .i64 a, .int .i64 b, .int .i64 c]] w fun e w' => e = .returned (.tuple #[]) ∧ Pz X w' P p q S N (T.setPlan a b c) M ∧ Keep (fun b => ¬ (X b ∨ b = P)) w w' := by
 obtain ⟨Y, hY, h1, h2⟩ := h.two
 refine (plan_rx h1 a b c hp).mono ?_
 rintro e w' ⟨rfl, ha⟩
 exact ⟨rfl, h2 _ _ _ ha⟩
theorem crash_z1 (h : Pz X w P p q S N T M) (hN : N ≤ 268435456) {ao : Option Addr} {n c : Nat} {ps : List Int} (hl : ps.length = n) (hr : Ints w ao ps) (hwf : ∀ i, (Lit.int .i64 (ps.getD i 0)).wf = true) (hn : n ≤ 17592186044416) (hfar : ps ≠ [] → ∀ a, ao = some a → X a.block) : Calls Tryz.prog 39 #[.pointer (some ⟨p, 0, none⟩), .slice ao n c] w fun e w' => e = .returned (.tuple #[]) ∧ Pz X w' P p q (S.crash ps) N T M ∧ Keep (fun b => ¬ (X b ∨ b = P)) w w' := by
 obtain ⟨Y, hY, h1, h2⟩ := h.one
 refine (crash_ax h1 (Kept.refl [] w) hN hl hr hwf hn (fun hd a ha => .inr (hY _ (hfar hd a ha)))).mono ?_
 rintro e w' ⟨rfl, ha⟩
 exact ⟨rfl, h2 _ _ _ ha⟩
theorem crash_z2 (h : Pz X w P p q S N T M) (hM : M ≤ 268435456) {ao : Option Addr} {n c : Nat} {ps : List Int} (hl : ps.length = n) (hr : Ints w ao ps) (hwf : ∀ i, (Lit.int .i64 (ps.getD i 0)).wf = true) (hn : n ≤ 17592186044416) : Calls Tryz.prog 40 #[.pointer (some ⟨q, 0, none⟩), .slice ao n c] w fun e w' => e = .returned (.tuple #[]) ∧ Pz X w' P p q S N (T.crash ps) M ∧ Keep (fun b => ¬ (X b ∨ b = P)) w w' := by
 obtain ⟨Y, hY, h1, h2⟩ := h.two
 refine (crash_rx h1 hM hl hr (fun x hx => by
  obtain ⟨i, hi, rfl⟩ := List.getElem_of_mem hx
  have := hwf i
  rwa [List.getD_eq_getElem?_getD, List.getElem?_eq_getElem hi] at this) hn).mono ?_
 rintro e w' ⟨rfl, ha⟩
 exact ⟨rfl, h2 _ _ _ ha⟩
end
set_option maxHeartbeats 3200000 in
set_option maxRecDepth 100000 in
theorem be_plan {X : Nat → Prop} {w : World} {P p q : Nat} {S : Ds} {N M : Nat} (h : Pz X w P p q S N S M) (name to : By) (da : Option Addr) (dn dc : Nat) (n po pf pt : Int) (pa : Option Addr) (pn pc : Nat) (hpw : (Lit.int .i64 po).wf = true ∧ (Lit.int .i64 pf).wf = true ∧ (Lit.int .i64 pt).wf = true) (hN : N ≤ 268435456) (hM : M ≤ 268435456) :
  Calls Tryz.prog 8 #[.pointer (some ⟨P, 0, none⟩), .agg #[.int .i64 12, encStr name, encStr to, .slice da dn dc, .int .i64 n, .int .i64 po, .int .i64 pf, .int .i64 pt, .slice pa pn pc]] w fun e w' => e = .returned (.bool true) ∧ Pz X w' P p q (S.setPlan po pf pt) N (S.setPlan po pf pt) M ∧ Keep (fun b => ¬ X b) w w' := by
 obtain ⟨w1, hw1⟩ : ∃ w1, w1 = w.alloc (.cells #[.int .i64 12, encStr name, encStr to, .slice da dn dc, .int .i64 n, .int .i64 po, .int .i64 pf, .int .i64 pt, .slice pa pn pc] 33) := ⟨_, rfl⟩
 obtain ⟨h1, hR, hk1⟩ := h.box [.int .i64 12, encStr name, encStr to, .slice da dn dc, .int .i64 n, .int .i64 po, .int .i64 pf, .int .i64 pt, .slice pa pn pc] 33 hw1
 have i0 : w1.cell? ⟨w.heap.size, 0, none⟩ = some (.int .i64 12) := hR.bx 0 _ rfl
 have HK : Hid (Keep (fun b => ¬ X b) w w1) := hide (Keep.ofNone hk1)
 skip
 clear h hk1
 go_enter Tryz.func8, Tryz.ntmps8
 go_upto_region 1 with (fail)
 rw [← hw1]
 clear hw1
 generalize w.heap.size = bx at *
 have HQ := hide h1
 have HR := hide hR
 clear h1 hR
 go_upto_region 17 with (fail)
 clear i0
 have HQa0 : Hid (Pz (fun b => X b ∨ b = bx) w1.drew P p q S N S M) := hide (HQ.out.kept ((Kept.refl [] w1).drew))
 have HKa0 : Hid (Keep (fun b => ¬ X b) w w1.drew) := hide (HK.out.kept ((Kept.refl [] w1).drew))
 clear HQ HK
 refine wp_region_held_drew (S := (Rdz P p q bx [.int .i64 12, encStr name, encStr to, .slice da dn dc, .int .i64 n, .int .i64 po, .int .i64 pf, .int .i64 pt, .slice pa pn pc])) (by kernel_rfl) (HR.out.kept ((Kept.refl [] w1).drew)) (fun hv0 => ?_)
 generalize World.drew w1 = v0 at hv0 HQa0 HKa0 ⊢
 refine wpAnyH_take (i := 0) (v := .pointer (some ⟨P, 0, none⟩)) rfl (by kernel_rfl) (by kernel_rfl) (by kernel_rfl) (fun _ _ _ h => h) (Or.inl ⟨by rfl, fun w hSw => by go_simp⟩) hv0 ?_
 try simp only [z1, z2, z3, z4, z5, z6, z7, z8]
 refine wpAnyH_take (i := 1) (v := .pointer (some ⟨P, 0, none⟩)) rfl (by kernel_rfl) (by kernel_rfl) (by kernel_rfl) (fun _ _ _ h => h) (Or.inl ⟨by rfl, fun w hSw => by go_simp⟩) hv0 ?_
 try simp only [z1, z2, z3, z4, z5, z6, z7, z8]
 refine wpAnyH_take (i := 2) (v := .pointer (some ⟨P, 0, none⟩)) rfl (by kernel_rfl) (by kernel_rfl) (by kernel_rfl) (fun _ _ _ h => h) (Or.inl ⟨by rfl, fun w hSw => by go_simp⟩) hv0 ?_
 try simp only [z1, z2, z3, z4, z5, z6, z7, z8]
 refine wpAnyH_take (i := 3) (v := .pointer (some ⟨p, 0, none⟩)) rfl (by kernel_rfl) (by kernel_rfl) (by kernel_rfl) (fun _ _ _ h => h) (Or.inl ⟨by rfl, fun w hSw => by have c0 := hSw.p0; go_simp⟩) hv0 ?_
 try simp only [z1, z2, z3, z4, z5, z6, z7, z8]
 refine wpAnyH_take (i := 4) (v := .pointer (some ⟨bx, 5, none⟩)) rfl (by kernel_rfl) (by kernel_rfl) (by kernel_rfl) (fun _ _ _ h => h) (Or.inl ⟨by rfl, fun w hSw => by go_simp⟩) hv0 ?_
 try simp only [z1, z2, z3, z4, z5, z6, z7, z8]
 refine wpAnyH_take (i := 5) (v := .agg #[.int .i64 po, .int .i64 pf, .int .i64 pt]) rfl (by kernel_rfl) (by kernel_rfl) (by kernel_rfl) (fun _ _ _ h => h) (Or.inl ⟨by rfl, fun w hSw => by have c0 := hSw.bx 5 _ rfl; have c1 := hSw.bx 6 _ rfl; have c2 := hSw.bx 7 _ rfl; go_simp⟩) hv0 ?_
 try simp only [z1, z2, z3, z4, z5, z6, z7, z8]
 refine wpAnyH_ready (rs := [6]) (by kernel_rfl) (by simp) (AllReadyH.cons (i := 6) rfl (fun K hK => ?_) AllReadyH.nil)
 rw [if_pos (by rfl)]
 go_simp
 refine (plan_z1 HQa0.out po pf pt hpw).mono ?_
 rintro e v1 ⟨rfl, hq, hk⟩
 have HQa1 := hide hq
 have HKa1 : Hid (Keep (fun b => ¬ X b) w v1) := hide (HKa0.out.trans hk (fun b hb _ hx => hb (.inl (.inl hx))))
 clear hq HQa0 HKa0
 refine hK.out _ _ (hv0.mv hk (.inr rfl)) (fun hv1 => ?_)
 clear hK K
 try simp only [z1, z2, z3, z4, z5, z6, z7, z8]
 refine wpAnyH_done (by kernel_rfl) ?_ _
 go_upto_region 18 with (fail)
 have HQb0 : Hid (Pz (fun b => X b ∨ b = bx) v1.drew P p q (S.setPlan po pf pt) N S M) := hide (HQa1.out.kept ((Kept.refl [] v1).drew))
 have HKb0 : Hid (Keep (fun b => ¬ X b) w v1.drew) := hide (HKa1.out.kept ((Kept.refl [] v1).drew))
 clear HQa1 HKa1
 refine wp_region_held_drew (S := (Rdz P p q bx [.int .i64 12, encStr name, encStr to, .slice da dn dc, .int .i64 n, .int .i64 po, .int .i64 pf, .int .i64 pt, .slice pa pn pc])) (by kernel_rfl) (hv1.kept ((Kept.refl [] v1).drew)) (fun hu0 => ?_)
 generalize World.drew v1 = u0 at hu0 HQb0 HKb0 ⊢
 refine wpAnyH_take (i := 0) (v := .pointer (some ⟨P, 0, none⟩)) rfl (by kernel_rfl) (by kernel_rfl) (by kernel_rfl) (fun _ _ _ h => h) (Or.inl ⟨by rfl, fun w hSw => by go_simp⟩) hu0 ?_
 try simp only [z1, z2, z3, z4, z5, z6, z7, z8]
 refine wpAnyH_take (i := 1) (v := .pointer (some ⟨P, 0, none⟩)) rfl (by kernel_rfl) (by kernel_rfl) (by kernel_rfl) (fun _ _ _ h => h) (Or.inl ⟨by rfl, fun w hSw => by go_simp⟩) hu0 ?_
 try simp only [z1, z2, z3, z4, z5, z6, z7, z8]
 refine wpAnyH_take (i := 2) (v := .pointer (some ⟨P, 1, none⟩)) rfl (by kernel_rfl) (by kernel_rfl) (by kernel_rfl) (fun _ _ _ h => h) (Or.inl ⟨by rfl, fun w hSw => by go_simp⟩) hu0 ?_
 try simp only [z1, z2, z3, z4, z5, z6, z7, z8]
 refine wpAnyH_take (i := 3) (v := .pointer (some ⟨q, 0, none⟩)) rfl (by kernel_rfl) (by kernel_rfl) (by kernel_rfl) (fun _ _ _ h => h) (Or.inl ⟨by rfl, fun w hSw => by have c0 := hSw.p1; go_simp⟩) hu0 ?_
 try simp only [z1, z2, z3, z4, z5, z6, z7, z8]
 refine wpAnyH_take (i := 4) (v := .pointer (some ⟨bx, 5, none⟩)) rfl (by kernel_rfl) (by kernel_rfl) (by kernel_rfl) (fun _ _ _ h => h) (Or.inl ⟨by rfl, fun w hSw => by go_simp⟩) hu0 ?_
 try simp only [z1, z2, z3, z4, z5, z6, z7, z8]
 refine wpAnyH_take (i := 5) (v := .agg #[.int .i64 po, .int .i64 pf, .int .i64 pt]) rfl (by kernel_rfl) (by kernel_rfl) (by kernel_rfl) (fun _ _ _ h => h) (Or.inl ⟨by rfl, fun w hSw => by have c0 := hSw.bx 5 _ rfl; have c1 := hSw.bx 6 _ rfl; have c2 := hSw.bx 7 _ rfl; go_simp⟩) hu0 ?_
 try simp only [z1, z2, z3, z4, z5, z6, z7, z8]
 refine wpAnyH_ready (rs := [6]) (by kernel_rfl) (by simp) (AllReadyH.cons (i := 6) rfl (fun K hK => ?_) AllReadyH.nil)
 rw [if_pos (by rfl)]
 go_simp
 refine (plan_z2 HQb0.out po pf pt hpw).mono ?_
 rintro e u1 ⟨rfl, hq, hk⟩
 have HQb1 := hide hq
 have HKb1 : Hid (Keep (fun b => ¬ X b) w u1) := hide (HKb0.out.trans hk (fun b hb _ hx => hb (.inl (.inl hx))))
 clear hq HQb0 HKb0
 refine hK.out _ _ (hu0.mv hk (.inr rfl)) (fun hu1 => ?_)
 clear hK K
 try simp only [z1, z2, z3, z4, z5, z6, z7, z8]
 refine wpAnyH_done (by kernel_rfl) ?_ _
 go_wp2
 go_ret
 exact ⟨rfl, HQb1.out.less (fun _ h => .inl h), HKb1.out⟩
set_option maxHeartbeats 3200000 in
set_option maxRecDepth 100000 in
theorem be_crash {X : Nat → Prop} {w : World} {P p q : Nat} {S : Ds} {N M : Nat} (h : Pz X w P p q S N S M) (name to : By) (da : Option Addr) (dn dc : Nat) (n po pf pt : Int) (pa : Option Addr) (pn pc : Nat) (ps : List Int) (hpl : ps.length = pn) (hpi : Ints w pa ps) (hpw : ∀ i, (Lit.int .i64 (ps.getD i 0)).wf = true) (hpn : pn ≤ 17592186044416) (hpf : ps ≠ [] → ∀ a, pa = some a → X a.block) (hN : N ≤ 268435456) (hM : M ≤ 268435456) :
  Calls Tryz.prog 8 #[.pointer (some ⟨P, 0, none⟩), .agg #[.int .i64 13, encStr name, encStr to, .slice da dn dc, .int .i64 n, .int .i64 po, .int .i64 pf, .int .i64 pt, .slice pa pn pc]] w fun e w' => e = .returned (.bool true) ∧ Pz X w' P p q (S.crash ps) N (S.crash ps) M ∧ Keep (fun b => ¬ X b) w w' := by
 obtain ⟨w1, hw1⟩ : ∃ w1, w1 = w.alloc (.cells #[.int .i64 13, encStr name, encStr to, .slice da dn dc, .int .i64 n, .int .i64 po, .int .i64 pf, .int .i64 pt, .slice pa pn pc] 33) := ⟨_, rfl⟩
 obtain ⟨h1, hR, hk1⟩ := h.box [.int .i64 13, encStr name, encStr to, .slice da dn dc, .int .i64 n, .int .i64 po, .int .i64 pf, .int .i64 pt, .slice pa pn pc] 33 hw1
 have i0 : w1.cell? ⟨w.heap.size, 0, none⟩ = some (.int .i64 13) := hR.bx 0 _ rfl
 have HK : Hid (Keep (fun b => ¬ X b) w w1) := hide (Keep.ofNone hk1)
 have HIN : Hid (Ints w1 pa ps) := hide (hpi.keepz (F := fun _ => False) (Keep.ofNone hk1) (fun _ _ _ h => h))
 clear h hk1 hpi
 go_enter Tryz.func8, Tryz.ntmps8
 go_upto_region 1 with (fail)
 rw [← hw1]
 clear hw1
 generalize w.heap.size = bx at *
 have HQ := hide h1
 have HR := hide hR
 clear h1 hR
 go_upto_region 20 with (fail)
 clear i0
 have HQa0 : Hid (Pz (fun b => X b ∨ b = bx) w1.drew P p q S N S M) := hide (HQ.out.kept ((Kept.refl [] w1).drew))
 have HKa0 : Hid (Keep (fun b => ¬ X b) w w1.drew) := hide (HK.out.kept ((Kept.refl [] w1).drew))
 clear HQ HK
 have HI0 : Hid (Ints w1.drew pa ps) := hide (HIN.out.keepz (F := fun _ => False) (Keep.ofNone ((Kept.refl [] w1).drew)) (fun _ _ _ h => h))
 clear HIN
 refine wp_region_held_drew (S := (Rdz P p q bx [.int .i64 13, encStr name, encStr to, .slice da dn dc, .int .i64 n, .int .i64 po, .int .i64 pf, .int .i64 pt, .slice pa pn pc])) (by kernel_rfl) (HR.out.kept ((Kept.refl [] w1).drew)) (fun hv0 => ?_)
 generalize World.drew w1 = v0 at hv0 HQa0 HKa0 HI0 ⊢
 refine wpAnyH_take (i := 0) (v := .pointer (some ⟨P, 0, none⟩)) rfl (by kernel_rfl) (by kernel_rfl) (by kernel_rfl) (fun _ _ _ h => h) (Or.inl ⟨by rfl, fun w hSw => by go_simp⟩) hv0 ?_
 try simp only [z1, z2, z3, z4, z5, z6, z7, z8]
 refine wpAnyH_take (i := 1) (v := .pointer (some ⟨P, 0, none⟩)) rfl (by kernel_rfl) (by kernel_rfl) (by kernel_rfl) (fun _ _ _ h => h) (Or.inl ⟨by rfl, fun w hSw => by go_simp⟩) hv0 ?_
 try simp only [z1, z2, z3, z4, z5, z6, z7, z8]
 refine wpAnyH_take (i := 2) (v := .pointer (some ⟨P, 0, none⟩)) rfl (by kernel_rfl) (by kernel_rfl) (by kernel_rfl) (fun _ _ _ h => h) (Or.inl ⟨by rfl, fun w hSw => by go_simp⟩) hv0 ?_
 try simp only [z1, z2, z3, z4, z5, z6, z7, z8]
 refine wpAnyH_take (i := 3) (v := .pointer (some ⟨p, 0, none⟩)) rfl (by kernel_rfl) (by kernel_rfl) (by kernel_rfl) (fun _ _ _ h => h) (Or.inl ⟨by rfl, fun w hSw => by have c0 := hSw.p0; go_simp⟩) hv0 ?_
 try simp only [z1, z2, z3, z4, z5, z6, z7, z8]
 refine wpAnyH_take (i := 4) (v := .pointer (some ⟨bx, 8, none⟩)) rfl (by kernel_rfl) (by kernel_rfl) (by kernel_rfl) (fun _ _ _ h => h) (Or.inl ⟨by rfl, fun w hSw => by go_simp⟩) hv0 ?_
 try simp only [z1, z2, z3, z4, z5, z6, z7, z8]
 refine wpAnyH_take (i := 5) (v := .slice pa pn pc) rfl (by kernel_rfl) (by kernel_rfl) (by kernel_rfl) (fun _ _ _ h => h) (Or.inl ⟨by rfl, fun w hSw => by have c0 := hSw.bx 8 _ rfl; go_simp⟩) hv0 ?_
 try simp only [z1, z2, z3, z4, z5, z6, z7, z8]
 refine wpAnyH_ready (rs := [6]) (by kernel_rfl) (by simp) (AllReadyH.cons (i := 6) rfl (fun K hK => ?_) AllReadyH.nil)
 rw [if_pos (by rfl)]
 go_simp
 refine (crash_z1 HQa0.out hN hpl HI0.out hpw hpn (fun hd a ha => .inl (hpf hd a ha))).mono ?_
 rintro e v1 ⟨rfl, hq, hk⟩
 have HQa1 := hide hq
 have HKa1 : Hid (Keep (fun b => ¬ X b) w v1) := hide (HKa0.out.trans hk (fun b hb _ hx => hb (.inl (.inl hx))))
 have HI1 : Hid (Ints v1 pa ps) := hide (HI0.out.keepz hk (fun hd a ha hm => hm (.inl (.inl (hpf hd a ha)))))
 clear hq HQa0 HKa0 HI0
 refine hK.out _ _ (hv0.mv hk (.inr rfl)) (fun hv1 => ?_)
 clear hK K
 try simp only [z1, z2, z3, z4, z5, z6, z7, z8]
 refine wpAnyH_done (by kernel_rfl) ?_ _
 go_upto_region 21 with (fail)
 have HQb0 : Hid (Pz (fun b => X b ∨ b = bx) v1.drew P p q (S.crash ps) N S M) := hide (HQa1.out.kept ((Kept.refl [] v1).drew))
 have HKb0 : Hid (Keep (fun b => ¬ X b) w v1.drew) := hide (HKa1.out.kept ((Kept.refl [] v1).drew))
 clear HQa1 HKa1
 have HI2 : Hid (Ints v1.drew pa ps) := hide (HI1.out.keepz (F := fun _ => False) (Keep.ofNone ((Kept.refl [] v1).drew)) (fun _ _ _ h => h))
 clear HI1
 refine wp_region_held_drew (S := (Rdz P p q bx [.int .i64 13, encStr name, encStr to, .slice da dn dc, .int .i64 n, .int .i64 po, .int .i64 pf, .int .i64 pt, .slice pa pn pc])) (by kernel_rfl) (hv1.kept ((Kept.refl [] v1).drew)) (fun hu0 => ?_)
 generalize World.drew v1 = u0 at hu0 HQb0 HKb0 HI2 ⊢
 refine wpAnyH_take (i := 0) (v := .pointer (some ⟨P, 0, none⟩)) rfl (by kernel_rfl) (by kernel_rfl) (by kernel_rfl) (fun _ _ _ h => h) (Or.inl ⟨by rfl, fun w hSw => by go_simp⟩) hu0 ?_
 try simp only [z1, z2, z3, z4, z5, z6, z7, z8]
 refine wpAnyH_take (i := 1) (v := .pointer (some ⟨P, 0, none⟩)) rfl (by kernel_rfl) (by kernel_rfl) (by kernel_rfl) (fun _ _ _ h => h) (Or.inl ⟨by rfl, fun w hSw => by go_simp⟩) hu0 ?_
 try simp only [z1, z2, z3, z4, z5, z6, z7, z8]
 refine wpAnyH_take (i := 2) (v := .pointer (some ⟨P, 1, none⟩)) rfl (by kernel_rfl) (by kernel_rfl) (by kernel_rfl) (fun _ _ _ h => h) (Or.inl ⟨by rfl, fun w hSw => by go_simp⟩) hu0 ?_
 try simp only [z1, z2, z3, z4, z5, z6, z7, z8]
 refine wpAnyH_take (i := 3) (v := .pointer (some ⟨q, 0, none⟩)) rfl (by kernel_rfl) (by kernel_rfl) (by kernel_rfl) (fun _ _ _ h => h) (Or.inl ⟨by rfl, fun w hSw => by have c0 := hSw.p1; go_simp⟩) hu0 ?_
 try simp only [z1, z2, z3, z4, z5, z6, z7, z8]
 refine wpAnyH_take (i := 4) (v := .pointer (some ⟨bx, 8, none⟩)) rfl (by kernel_rfl) (by kernel_rfl) (by kernel_rfl) (fun _ _ _ h => h) (Or.inl ⟨by rfl, fun w hSw => by go_simp⟩) hu0 ?_
 try simp only [z1, z2, z3, z4, z5, z6, z7, z8]
 refine wpAnyH_take (i := 5) (v := .slice pa pn pc) rfl (by kernel_rfl) (by kernel_rfl) (by kernel_rfl) (fun _ _ _ h => h) (Or.inl ⟨by rfl, fun w hSw => by have c0 := hSw.bx 8 _ rfl; go_simp⟩) hu0 ?_
 try simp only [z1, z2, z3, z4, z5, z6, z7, z8]
 refine wpAnyH_ready (rs := [6]) (by kernel_rfl) (by simp) (AllReadyH.cons (i := 6) rfl (fun K hK => ?_) AllReadyH.nil)
 rw [if_pos (by rfl)]
 go_simp
 refine (crash_z2 HQb0.out hM hpl HI2.out hpw hpn).mono ?_
 rintro e u1 ⟨rfl, hq, hk⟩
 have HQb1 := hide hq
 have HKb1 : Hid (Keep (fun b => ¬ X b) w u1) := hide (HKb0.out.trans hk (fun b hb _ hx => hb (.inl (.inl hx))))
 clear hq HQb0 HKb0
 refine hK.out _ _ (hu0.mv hk (.inr rfl)) (fun hu1 => ?_)
 clear hK K
 try simp only [z1, z2, z3, z4, z5, z6, z7, z8]
 refine wpAnyH_done (by kernel_rfl) ?_ _
 go_wp2
 go_ret
 exact ⟨rfl, HQb1.out.less (fun _ h => .inl h), HKb1.out⟩
set_option maxHeartbeats 3200000 in
set_option maxRecDepth 100000 in
theorem be_none {X : Nat → Prop} {w : World} {P p q : Nat} {S : Ds} {N M : Nat} (h : Pz X w P p q S N S M) (name to : By) (da : Option Addr) (dn dc : Nat) (n po pf pt : Int) (pa : Option Addr) (pn pc : Nat) (k : Int) (hk0 : k < 5 ∨ 14 < k) (hN : N ≤ 268435456) (hM : M ≤ 268435456) :
  Calls Tryz.prog 8 #[.pointer (some ⟨P, 0, none⟩), .agg #[.int .i64 k, encStr name, encStr to, .slice da dn dc, .int .i64 n, .int .i64 po, .int .i64 pf, .int .i64 pt, .slice pa pn pc]] w fun e w' => e = .returned (.bool true) ∧ Pz X w' P p q S N S M ∧ Keep (fun b => ¬ X b) w w' := by
 obtain ⟨w1, hw1⟩ : ∃ w1, w1 = w.alloc (.cells #[.int .i64 k, encStr name, encStr to, .slice da dn dc, .int .i64 n, .int .i64 po, .int .i64 pf, .int .i64 pt, .slice pa pn pc] 33) := ⟨_, rfl⟩
 obtain ⟨h1, hR, hk1⟩ := h.box [.int .i64 k, encStr name, encStr to, .slice da dn dc, .int .i64 n, .int .i64 po, .int .i64 pf, .int .i64 pt, .slice pa pn pc] 33 hw1
 have i0 : w1.cell? ⟨w.heap.size, 0, none⟩ = some (.int .i64 k) := hR.bx 0 _ rfl
 have HK : Hid (Keep (fun b => ¬ X b) w w1) := hide (Keep.ofNone hk1)
 skip
 clear h hk1
 go_enter Tryz.func8, Tryz.ntmps8
 go_upto_region 1 with (fail)
 rw [← hw1]
 clear hw1
 generalize w.heap.size = bx at *
 have HQ := hide h1
 have HR := hide hR
 clear h1 hR
 have n5 : (k == 5) = false := by simpa using (by omega : ¬ k = 5)
 have n6 : (k == 6) = false := by simpa using (by omega : ¬ k = 6)
 have n7 : (k == 7) = false := by simpa using (by omega : ¬ k = 7)
 have n8 : (k == 8) = false := by simpa using (by omega : ¬ k = 8)
 have n9 : (k == 9) = false := by simpa using (by omega : ¬ k = 9)
 have n10 : (k == 10) = false := by simpa using (by omega : ¬ k = 10)
 have n11 : (k == 11) = false := by simpa using (by omega : ¬ k = 11)
 have n12 : (k == 12) = false := by simpa using (by omega : ¬ k = 12)
 have n13 : (k == 13) = false := by simpa using (by omega : ¬ k = 13)
 have n14 : (k == 14) = false := by simpa using (by omega : ¬ k = 14)
 clear hk0
 go_wp2
 go_ret
 exact ⟨rfl, HQ.out.less (fun _ h => .inl h), HK.out⟩
end

section
open Go.RowKit Dsk
set_option linter.unusedVariables false
set_option linter.unusedSimpArgs false
section
variable {X : Nat → Prop} {w : World} {P p q : Nat} {S : Ds} {N : Nat} {T : Ds} {M : Nat}
theorem Pz.more {Y : Nat → Prop} {w' : World} (h : Pz X w P p q S N T M) (hk : Kept [] w w') (hY : ∀ b, Y b → (X b ∨ w.heap.size ≤ b) ∧ b < w'.heap.size) : Pz Y w' P p q S N T M := by
 have hPl := (Array.getElem?_eq_some_iff.1 h.cell).1
 refine ⟨h.tw.free (F := fun _ => False) (Keep.ofNone hk) (fun _ _ h => h.elim) (fun b hb => ?_), (Keep.ofNone (F := fun _ => False) hk).heapOf h.cell (fun h => h)⟩
 rcases hb with hb | rfl
 ·exact ⟨(hY b hb).1.imp .inl id, (hY b hb).2⟩
 ·exact ⟨.inl (.inr rfl), Nat.lt_of_lt_of_le hPl hk.size⟩
theorem Pz.ltz (h : Pz X w P p q S N T M) {b : Nat} (hb : X b) : b < w.heap.size := by
 obtain ⟨A, o, A', o', h1, h2, h3, h4, h5, h6⟩ := h.tw
 exact (h4 b (.inl hb)).2.2
theorem Pz.err {w3 w' : World} {v : Value} {op name : By} {E : Int} {S' : Ds} {N' : Nat} (h3 : Pz X w3 P p q S' N' T M) (hk : Kept [] w3 w') (hn : NewE w3 v) (hv : ErrV w' v op name E) : Pz (fun b => X b ∨ errB v b) w' P p q S' N' T M :=
 h3.more hk (fun b hb => by
  rcases hb with hb | hb
  ·exact ⟨.inl hb, Nat.lt_of_lt_of_le (h3.ltz hb) hk.size⟩
  ·exact ⟨.inr (newE_errB hn hb), hv.ltB hb⟩)
theorem drop_z1 (h : Pz X w P p q S N T M) (hN : N + 2 ≤ 268435456) (name : By) (hm : name.length ≤ 4611686018427387900) :
  Calls Tryz.prog 19 #[.pointer (some ⟨p, 0, none⟩), encStr name] w fun e w' => ∃ v, e = .returned v ∧ ErrV w' v opDrop name (S.drop name).1 ∧ Pz (fun b => X b ∨ errB v b) w' P p q (S.drop name).2 (N + 3) T M ∧ Keep (fun b => ¬ (X b ∨ b = P)) w w' := by
 obtain ⟨Y, hY, h1, h2⟩ := h.one
 refine (drop_new h1 hN name hm).mono ?_
 rintro e w' ⟨v, w3, rfl, hv, ha, hk, hn⟩
 obtain ⟨h3, h4⟩ := h2 _ _ _ ha
 exact ⟨v, rfl, hv, h3.err hk hn hv, h4.kept hk⟩
theorem drop_z2 (h : Pz X w P p q S N T M) (hM : M + 4 ≤ 268435456) (name : By) (hm : name.length ≤ 4611686018427387900) :
  Calls Tryz.prog 20 #[.pointer (some ⟨q, 0, none⟩), encStr name] w fun e w' => e = .returned (.int .i64 (T.drop name).1) ∧ Pz X w' P p q S N (T.drop name).2 (M + 3) ∧ Keep (fun b => ¬ (X b ∨ b = P)) w w' := by
 obtain ⟨Y, hY, h1, h2⟩ := h.two
 refine (rdrop_rx h1 hM name hm).mono ?_
 rintro e w' ⟨rfl, ha⟩
 exact ⟨rfl, h2 _ _ _ ha⟩
theorem clean_z1 (h : Pz X w P p q S N T M) (hN : N ≤ 80000000) (hon : S.on = true) (name : By) (hm : name.length ≤ 4611686018427387900) :
  Calls Tryz.prog 21 #[.pointer (some ⟨p, 0, none⟩), encStr name] w fun e w' => ∃ v, e = .returned v ∧ ErrV w' v opClean name (S.rclean name).1 ∧ Pz (fun b => X b ∨ errB v b) w' P p q (S.rclean name).2 (N + 2 * (S.list name).length + 3) T M ∧ Keep (fun b => ¬ (X b ∨ b = P)) w w' := by
 obtain ⟨Y, hY, h1, h2⟩ := h.one
 refine (clean_fun h1 hN hon name hm).mono ?_
 rintro e w' ⟨v, w3, E, D, rfl, hv, hc, ha, hk, hn⟩
 obtain ⟨h3, h4⟩ := h2 _ _ _ ha
 rw [hc]
 exact ⟨v, rfl, hv, h3.err hk hn hv, h4.kept hk⟩
theorem clean_z2 (h : Pz X w P p q S N T M) (hM : M ≤ 80000000) (name : By) (hm : name.length ≤ 4611686018427387900) :
  Calls Tryz.prog 22 #[.pointer (some ⟨q, 0, none⟩), encStr name] w fun e w' => e = .returned (.int .i64 (T.rclean name).1) ∧ Pz X w' P p q S N (T.rclean name).2 (M + 2 * (T.list name).length + 3) ∧ Keep (fun b => ¬ (X b ∨ b = P)) w w' := by
 obtain ⟨Y, hY, h1, h2⟩ := h.two
 refine (rclean_rx h1 hM name hm).mono ?_
 rintro e w' ⟨rfl, ha⟩
 exact ⟨rfl, h2 _ _ _ ha⟩
theorem put_z2 (h : Pz X w P p q S N T M) (name : By) {ao : Option Addr} {m c : Nat} {d : By} (hM : M + 1048620 ≤ 268435456) (hm8 : m ≤ 4611686018427387900) (hn : name.length ≤ 4611686018427387900) (hl : d.length = m) (hs : Sl w ao d) (h0 : ao = none → m = 0 ∧ c = 0) (hfar : d ≠ [] → ∀ a, ao = some a → X a.block) :
  Calls Tryz.prog 16 #[.pointer (some ⟨q, 0, none⟩), encStr name, .slice ao m c] w fun e w' => e = .returned (.int .i64 (T.put name d).1) ∧ Pz X w' P p q S N (T.put name d).2 (M + min m 1048576 + 20) ∧ Keep (fun b => ¬ (X b ∨ b = P)) w w' := by
 obtain ⟨Y, hY, h1, h2⟩ := h.two
 have := rput_rx h1 name hM hm8 hn hl hs h0 (fun hd a ha => hY _ (hfar hd a ha))
 rw [Ds.rput_put h1.wf.sup] at this
 refine this.mono ?_
 rintro e w' ⟨rfl, ha⟩
 exact ⟨rfl, h2 _ _ _ ha⟩
theorem get_z2 (h : Pz X w P p q S N T M) (hM : M ≤ 268435456) (name : By) (hm : name.length ≤ 4611686018427387900) :
  Calls Tryz.prog 17 #[.pointer (some ⟨q, 0, none⟩), encStr name] w fun e w' => ∃ v, e = .returned (.tuple #[v, .int .i64 (T.getE name)]) ∧ (Pz X w' P p q S N (T.getD name) (M + 1) ∧ Keep (fun b => ¬ (X b ∨ b = P)) w w') ∧ OwnB w' v (T.getB name).length (T.getB name) := by
 obtain ⟨Y, hY, h1, h2⟩ := h.two
 refine (rget_rx h1 hM name hm).mono ?_
 rintro e w' ⟨v, rfl, ha, ho⟩
 exact ⟨v, rfl, h2 _ _ _ ha, ho⟩
end
end

end Go.Proofs.YtodihkdmneihiaaGreatDoor
