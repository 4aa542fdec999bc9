import Derived.Test.YteckiednnaianaaGreatId2p
namespace Go.Proofs.YteckiednnaianaaGreat
open Go.RowKit Dsk
set_option linter.unusedVariables false
set_option linter.unusedSimpArgs false
section
variable {X : Nat → Prop} {w w' : World} {P p q D : Nat} {bo : Option Nat} {R : List UInt8} {S : Ds} {N : Nat} {T : Ds} {M : Nat}
theorem Pq.pick {Y : Nat → Prop} (h : Pq X w P p q D bo R S N T M) (hk : Kept [D] w w') (h0 : One 0 D w w') (h1 : ∃ v0, w'.cell? ⟨D, 1, none⟩ = some v0) (h2 : w'.frozen? ⟨D, 1, none⟩ = false) (hY : ∀ b, Y b → (X b ∨ w.heap.size ≤ b) ∧ b < w'.heap.size) : Pq Y w' P p q D bo R S N T M := by
 obtain ⟨_, _, _, hx, _⟩ := h.tw.two
 have hlt : ∀ b, X b ∨ prB P D bo b → b < w.heap.size := fun b hb => (hx b hb).2
 refine ⟨h.tw.free (F := fun b => b ∈ [D]) (Keep.ofKept hk) (fun b _ hf => .inr (.inr (.inl (by simpa using hf)))) (fun b hb => ?_), ?_, ⟨h0.1 _ h.dk.cell, (h0.2 h.dk.lt).trans h.dk.fr, h.dk.none, fun g e => ⟨(h.dk.row g e).1, ?_⟩, h.dk.small⟩, h1, h2, fun b hb hp => ?_, h.pD, h.pb⟩
 ·rcases hb with hb | hb
  ·exact ⟨(hY b hb).1.imp .inl id, (hY b hb).2⟩
  ·exact ⟨.inl (.inr hb), Nat.lt_of_lt_of_le (hlt b (.inr hb)) hk.size⟩
 ·rw [hk.block P (hlt P (.inr (.inl rfl))) (by simpa using h.pD)]; exact h.cells
 ·rw [hk.block g (Array.getElem?_eq_some_iff.1 (h.dk.row g e).2).1 (by simpa using (h.dk.row g e).1)]; exact (h.dk.row g e).2
 ·rcases (hY b hb).1 with h7 | h7
  ·exact h.far b h7 hp
  ·have := hlt b (.inr hp); omega
theorem pick_p (h : Pq X w P p q D bo R S N T M) {ao : Option Addr} {n c : Nat} {ps : List Int} (hl : ps.length = n) (hs : Ints w ao ps) (hfar : ps ≠ [] → ∀ a, ao = some a → X a.block) (hn : n ≤ 1000000) : Calls Tryz.prog 91 #[.pointer (some ⟨D, 0, none⟩), .slice ao n c] w fun e w' => ∃ g, e = .returned (.slice (some ⟨g, 0, none⟩) n (n + 3)) ∧ Pq (fun b => X b ∨ b = g) w' P p q D bo R S N T M ∧ Pk w' D g (plaid ps) ∧ Keep (fun b => ¬ (X b ∨ b = P)) w w' := by
 obtain ⟨v0, hv0⟩ := h.dp
 refine (picks_ok D ao n c ps w v0 hv0 h.df hl hs (fun hd a ha e => h.far _ (hfar hd a ha) (.inr (.inl e))) hn).mono ?_
 rintro e w' ⟨g, rfl, hp, hk, hg, hf, h0⟩
 refine ⟨g, rfl, h.pick hk h0 ⟨_, hp.cell⟩ hf (fun b hb => ?_), hp, (Keep.ofKept hk).mono (fun b hb _ hx => ?_)⟩
 ·rcases hb with hb | rfl
  ·exact ⟨.inl hb, Nat.lt_of_lt_of_le (h.lt hb) hk.size⟩
  ·exact ⟨.inr hg, (Array.getElem?_eq_some_iff.1 hp.row).1⟩
 ·obtain rfl : b = D := by simpa using hb
  rcases hx with hx | hx
  ·exact h.far _ hx (.inr (.inl rfl))
  ·exact h.pD hx.symm
theorem pk_ints {D g : Nat} {ps : List Int} (h : Pk w D g (plaid ps)) : Ints w (some ⟨g, 0, none⟩) ps := fun i hi => ⟨g, 0, rfl, by
 rw [cell_of_row w g (0 + i) _ _ _ h.row]
 simp only [ins, plaid, List.getElem?_toArray, List.getElem?_map, Nat.zero_add]
 rw [List.getElem?_append_left hi, List.getElem?_eq_getElem hi]
 simp [List.getD_eq_getElem?_getD, List.getElem?_eq_getElem hi]⟩
theorem Pk.keep {F : Nat → Prop} {g : Nat} {l : List Int} (h : Pk w D g l) (hk : Keep F w w') (h1 : ¬ F D) (h2 : ¬ F g) : Pk w' D g l := ⟨hk.cellOf h.cell h1, hk.heapOf h.row h2⟩
end
set_option maxHeartbeats 3200000 in
set_option maxRecDepth 100000 in
theorem ot_crash {X : Nat → Prop} {w : World} {P p q D : Nat} {bo : Option Nat} {R : List UInt8} {S : Ds} {N : Nat} (h : Pq X w P p q D bo R S N S N) (name to : By) (at_ n : Int) (da : Option Addr) (dn dc : Nat) (ds : By) (po pf pt : Int) (pa : Option Addr) (pn pc : Nat) (ps : List Int) (hi : StpIn w ⟨12, name, to, at_, n, da, dn, dc, ds, po, pf, pt, pa, pn, pc, ps⟩) (hN : N + dn + 5 ≤ 268435456) (hpx : ps ≠ [] → ∀ a, pa = some a → X a.block) (hpn : pn ≤ 1000000) :
  Calls Tryz.prog 63 #[.pointer (some ⟨P, 0, none⟩), .agg #[.int .i64 12, encStr name, encStr to, .int .i64 at_, .int .i64 n, .slice da dn dc, .int .i64 po, .int .i64 pf, .int .i64 pt, .slice pa pn pc]] w fun e w' => e = .returned (.bool true) ∧ Pq X w' P p q D bo R (S.crash ps) N (S.crash ps) N ∧ Keep (fun b => ¬ X b) w w' := by
 have hnm : name.length ≤ 4611686018427387904 := hi.nm
 have haw : (Lit.int .i64 at_).wf = true := hi.wa
 have hnw : (Lit.int .i64 n).wf = true := hi.wn
 have hpw : (Lit.int .i64 po).wf = true ∧ (Lit.int .i64 pf).wf = true ∧ (Lit.int .i64 pt).wf = true := ⟨hi.wo, hi.wf, hi.wt⟩
 have HX := hide hpx
 have HPL : Hid (ps.length = pn) := hide hi.pl
 have HPW : Hid (∀ i, (Lit.int .i64 (ps.getD i 0)).wf = true) := hide hi.pw
 have HPM : Hid (∀ x ∈ ps, (Lit.int .i64 x).wf = true) := hide (fun x hx => by obtain ⟨i, hi2, rfl⟩ := List.mem_iff_getElem.1 hx; have := HPW.out i; rwa [List.getD_eq_getElem?_getD, List.getElem?_eq_getElem hi2] at this)
 have HPR : Hid (Ints w pa ps) := hide hi.pr
 clear hpx
 obtain ⟨w1, hw1⟩ : ∃ w1, w1 = w.alloc (.cells #[.int .i64 12, encStr name, encStr to, .int .i64 at_, .int .i64 n, .slice da dn dc, .int .i64 po, .int .i64 pf, .int .i64 pt, .slice pa pn pc] 52) := ⟨_, rfl⟩
 obtain ⟨h1, hR, hk1⟩ := h.box [.int .i64 12, encStr name, encStr to, .int .i64 at_, .int .i64 n, .slice da dn dc, .int .i64 po, .int .i64 pf, .int .i64 pt, .slice pa pn pc] 52 hw1
 have i0 : w1.cell? ⟨w.heap.size, 0, none⟩ = some (.int .i64 12) := hR.bx 0 _ rfl
 have HK : Hid (Keep (fun b => ¬ X b) w w1) := hide (Keep.ofNone hk1)
 have HI : Hid (Ints w1 pa ps) := hide (HPR.out.kept (Keep.ofNone (F := fun _ => False) hk1) (fun _ _ _ h => h))
 clear h hk1 hi HPR
 go_enter Tryz.func63, Tryz.ntmps63
 go_upto_region 1 with (fail)
 rw [← hw1]
 clear hw1
 generalize w.heap.size = bx at *
 have HQ := hide h1
 have HR := hide hR
 clear h1 hR
 go_upto_region 14 with (fail)
 clear i0
 have HQa0 : Hid (Pq (fun b => X b ∨ b = bx) w1.drew P p q D bo R S N S N) := hide (HQ.out.kept ((Kept.refl [] w1).drew))
 have HKa0 : Hid (Keep (fun b => ¬ X b) w w1.drew) := hide (HK.out.kept ((Kept.refl [] w1).drew))
 clear HQ HK
 have HIa : Hid (Ints w1.drew pa ps) := hide (HI.out.kept ((Keep.refl (fun _ => False) w1).drew) (fun _ _ _ h => h))
 clear HI
 refine wp_region_held_drew (S := (Rd2 P p q D bx [.int .i64 12, encStr name, encStr to, .int .i64 at_, .int .i64 n, .slice da dn dc, .int .i64 po, .int .i64 pf, .int .i64 pt, .slice pa pn pc])) (by kernel_rfl) (HR.out.kept ((Kept.refl [] w1).drew)) (fun hv0 => ?_)
 generalize World.drew w1 = v0 at hv0 HQa0 HKa0 HIa ⊢
 refine wpAnyH_take (i := 0) (v := .pointer (some ⟨P, 0, none⟩)) rfl (by kernel_rfl) (by kernel_rfl) (by kernel_rfl) (fun _ _ _ h => h) (Or.inl ⟨by rfl, fun w hSw => by go_simp⟩) hv0 ?_
 try simp only [z1, z2, z3, z4, z5, z6, z7, z8]
 refine wpAnyH_take (i := 1) (v := .pointer (some ⟨P, 0, none⟩)) rfl (by kernel_rfl) (by kernel_rfl) (by kernel_rfl) (fun _ _ _ h => h) (Or.inl ⟨by rfl, fun w hSw => by go_simp⟩) hv0 ?_
 try simp only [z1, z2, z3, z4, z5, z6, z7, z8]
 refine wpAnyH_take (i := 2) (v := .pointer (some ⟨P, 0, none⟩)) rfl (by kernel_rfl) (by kernel_rfl) (by kernel_rfl) (fun _ _ _ h => h) (Or.inl ⟨by rfl, fun w hSw => by go_simp⟩) hv0 ?_
 try simp only [z1, z2, z3, z4, z5, z6, z7, z8]
 refine wpAnyH_take (i := 3) (v := .pointer (some ⟨p, 0, none⟩)) rfl (by kernel_rfl) (by kernel_rfl) (by kernel_rfl) (fun _ _ _ h => h) (Or.inl ⟨by rfl, fun w hSw => by have c0 := hSw.p0; go_simp⟩) hv0 ?_
 try simp only [z1, z2, z3, z4, z5, z6, z7, z8]
 refine wpAnyH_take (i := 4) (v := .pointer (some ⟨P, 0, none⟩)) rfl (by kernel_rfl) (by kernel_rfl) (by kernel_rfl) (fun _ _ _ h => h) (Or.inl ⟨by rfl, fun w hSw => by go_simp⟩) hv0 ?_
 try simp only [z1, z2, z3, z4, z5, z6, z7, z8]
 refine wpAnyH_take (i := 5) (v := .pointer (some ⟨P, 0, none⟩)) rfl (by kernel_rfl) (by kernel_rfl) (by kernel_rfl) (fun _ _ _ h => h) (Or.inl ⟨by rfl, fun w hSw => by go_simp⟩) hv0 ?_
 try simp only [z1, z2, z3, z4, z5, z6, z7, z8]
 refine wpAnyH_take (i := 6) (v := .pointer (some ⟨P, 2, none⟩)) rfl (by kernel_rfl) (by kernel_rfl) (by kernel_rfl) (fun _ _ _ h => h) (Or.inl ⟨by rfl, fun w hSw => by go_simp⟩) hv0 ?_
 try simp only [z1, z2, z3, z4, z5, z6, z7, z8]
 refine wpAnyH_take (i := 7) (v := .pointer (some ⟨D, 0, none⟩)) rfl (by kernel_rfl) (by kernel_rfl) (by kernel_rfl) (fun _ _ _ h => h) (Or.inl ⟨by rfl, fun w hSw => by have c0 := hSw.p2; go_simp⟩) hv0 ?_
 try simp only [z1, z2, z3, z4, z5, z6, z7, z8]
 refine wpAnyH_take (i := 8) (v := .pointer (some ⟨bx, 9, none⟩)) rfl (by kernel_rfl) (by kernel_rfl) (by kernel_rfl) (fun _ _ _ h => h) (Or.inl ⟨by rfl, fun w hSw => by go_simp⟩) hv0 ?_
 try simp only [z1, z2, z3, z4, z5, z6, z7, z8]
 refine wpAnyH_take (i := 9) (v := .slice pa pn pc) rfl (by kernel_rfl) (by kernel_rfl) (by kernel_rfl) (fun _ _ _ h => h) (Or.inl ⟨by rfl, fun w hSw => by have c0 := hSw.bx 9 _ rfl; go_simp⟩) hv0 ?_
 try simp only [z1, z2, z3, z4, z5, z6, z7, z8]
 refine wpAnyH_ready (rs := [10]) (by kernel_rfl) (by simp) (AllReadyH.cons (i := 10) rfl (fun K hK => ?_) AllReadyH.nil)
 rw [if_pos (by rfl)]
 go_simp
 refine (pick_p HQa0.out HPL.out HIa.out (fun hd a ha => .inl (HX.out hd a ha)) hpn).mono ?_
 rintro e v1 ⟨g, rfl, hq, hp, hk⟩
 have HQ1 := hide hq
 have HK1 : Hid (Keep (fun b => ¬ X b) w v1) := hide (HKa0.out.trans hk (fun b hb _ hx => hb (.inl (.inl hx))))
 have HI1 : Hid (Ints v1 pa ps) := hide (HIa.out.kept hk (fun hd a ha hm => hm (.inl (.inl (HX.out hd a ha)))))
 have HP1 := hide hp
 clear hq hp HQa0 HKa0 HIa
 refine hK.out _ _ (hv0.keep hk (fun hn => hn (.inr rfl)) (fun hn => hn (.inl (.inr rfl)))) (fun hv1 => ?_)
 clear hK K
 try simp only [z1, z2, z3, z4, z5, z6, z7, z8]
 refine wpAnyH_ready (rs := [11]) (by kernel_rfl) (by simp) (AllReadyH.cons (i := 11) rfl (fun K hK => ?_) AllReadyH.nil)
 rw [if_pos (by rfl)]
 go_simp
 refine (crash_p1 HQ1.out (by omega) HPL.out (pk_ints HP1.out) HPW.out (by omega) (fun hd a ha => by cases ha; exact .inl (.inr rfl))).mono ?_
 rintro e v2 ⟨rfl, hq, hk⟩
 have HQ2 := hide hq
 have HK2 : Hid (Keep (fun b => ¬ X b) w v2) := hide (HK1.out.trans hk (fun b hb _ hx => hb (.inl (.inl (.inl hx)))))
 have HI2 : Hid (Ints v2 pa ps) := hide (HI1.out.kept hk (fun hd a ha hm => hm (.inl (.inl (.inl (HX.out hd a ha))))))
 have HP2 : Hid (Pk v2 D g (plaid ps)) := hide (HP1.out.keep hk (fun hn => hn (.inr (.inr (.inl rfl)))) (fun hn => hn (.inl (.inr rfl))))
 clear hq HQ1 HK1 HI1 HP1
 refine hK.out _ _ (hv1.mv hk (.inl (.inr rfl))) (fun hv2 => ?_)
 clear hK K
 try simp only [z1, z2, z3, z4, z5, z6, z7, z8]
 refine wpAnyH_done (by kernel_rfl) ?_ _
 go_upto_region 15 with (fail)
 have HQb0 : Hid (Pq (fun b => (X b ∨ b = bx) ∨ b = g) v2.drew P p q D bo R (S.crash ps) N S N) := hide (HQ2.out.kept ((Kept.refl [] v2).drew))
 have HKb0 : Hid (Keep (fun b => ¬ X b) w v2.drew) := hide (HK2.out.kept ((Kept.refl [] v2).drew))
 clear HQ2 HK2
 have HI3 : Hid (Ints v2.drew pa ps) := hide (HI2.out.kept ((Keep.refl (fun _ => False) v2).drew) (fun _ _ _ h => h))
 have HP3 : Hid (Pk v2.drew D g (plaid ps)) := hide (HP2.out.keep ((Keep.refl (fun _ => False) v2).drew) id id)
 clear HI2 HP2
 refine wp_region_held_drew (S := (Rd2 P p q D bx [.int .i64 12, encStr name, encStr to, .int .i64 at_, .int .i64 n, .slice da dn dc, .int .i64 po, .int .i64 pf, .int .i64 pt, .slice pa pn pc])) (by kernel_rfl) (hv2.kept ((Kept.refl [] v2).drew)) (fun hu0 => ?_)
 generalize World.drew v2 = u0 at hu0 HQb0 HKb0 HI3 HP3 ⊢
 refine wpAnyH_take (i := 0) (v := .pointer (some ⟨P, 0, none⟩)) rfl (by kernel_rfl) (by kernel_rfl) (by kernel_rfl) (fun _ _ _ h => h) (Or.inl ⟨by rfl, fun w hSw => by go_simp⟩) hu0 ?_
 try simp only [z1, z2, z3, z4, z5, z6, z7, z8]
 refine wpAnyH_take (i := 1) (v := .pointer (some ⟨P, 0, none⟩)) rfl (by kernel_rfl) (by kernel_rfl) (by kernel_rfl) (fun _ _ _ h => h) (Or.inl ⟨by rfl, fun w hSw => by go_simp⟩) hu0 ?_
 try simp only [z1, z2, z3, z4, z5, z6, z7, z8]
 refine wpAnyH_take (i := 2) (v := .pointer (some ⟨P, 1, none⟩)) rfl (by kernel_rfl) (by kernel_rfl) (by kernel_rfl) (fun _ _ _ h => h) (Or.inl ⟨by rfl, fun w hSw => by go_simp⟩) hu0 ?_
 try simp only [z1, z2, z3, z4, z5, z6, z7, z8]
 refine wpAnyH_take (i := 3) (v := .pointer (some ⟨q, 0, none⟩)) rfl (by kernel_rfl) (by kernel_rfl) (by kernel_rfl) (fun _ _ _ h => h) (Or.inl ⟨by rfl, fun w hSw => by have c0 := hSw.p1; go_simp⟩) hu0 ?_
 try simp only [z1, z2, z3, z4, z5, z6, z7, z8]
 refine wpAnyH_take (i := 4) (v := .pointer (some ⟨bx, 9, none⟩)) rfl (by kernel_rfl) (by kernel_rfl) (by kernel_rfl) (fun _ _ _ h => h) (Or.inl ⟨by rfl, fun w hSw => by go_simp⟩) hu0 ?_
 try simp only [z1, z2, z3, z4, z5, z6, z7, z8]
 refine wpAnyH_take (i := 5) (v := .slice pa pn pc) rfl (by kernel_rfl) (by kernel_rfl) (by kernel_rfl) (fun _ _ _ h => h) (Or.inl ⟨by rfl, fun w hSw => by have c0 := hSw.bx 9 _ rfl; go_simp⟩) hu0 ?_
 try simp only [z1, z2, z3, z4, z5, z6, z7, z8]
 refine wpAnyH_ready (rs := [6]) (by kernel_rfl) (by simp) (AllReadyH.cons (i := 6) rfl (fun K hK => ?_) AllReadyH.nil)
 rw [if_pos (by rfl)]
 go_simp
 refine (crash_p2 HQb0.out (by omega) HPL.out HI3.out HPM.out (by omega)).mono ?_
 rintro e u1 ⟨rfl, hq, hk⟩
 have HQ4 := hide hq
 have HK4 : Hid (Keep (fun b => ¬ X b) w u1) := hide (HKb0.out.trans hk (fun b hb _ hx => hb (.inl (.inl (.inl hx)))))
 have HI4 : Hid (Ints u1 pa ps) := hide (HI3.out.kept hk (fun hd a ha hm => hm (.inl (.inl (.inl (HX.out hd a ha))))))
 have HP4 : Hid (Pk u1 D g (plaid ps)) := hide (HP3.out.keep hk (fun hn => hn (.inr (.inr (.inl rfl)))) (fun hn => hn (.inl (.inr rfl))))
 clear hq HQb0 HKb0 HI3 HP3
 refine hK.out _ _ (hu0.mv hk (.inl (.inr rfl))) (fun hu1 => ?_)
 clear hK K
 try simp only [z1, z2, z3, z4, z5, z6, z7, z8]
 refine wpAnyH_done (by kernel_rfl) ?_ _
 go_upto_region 16 with (fail)
 have HQc0 : Hid (Pq (fun b => (X b ∨ b = bx) ∨ b = g) u1.drew P p q D bo R (S.crash ps) N (S.crash ps) N) := hide (HQ4.out.kept ((Kept.refl [] u1).drew))
 have HKc0 : Hid (Keep (fun b => ¬ X b) w u1.drew) := hide (HK4.out.kept ((Kept.refl [] u1).drew))
 clear HQ4 HK4
 have HI5 : Hid (Ints u1.drew pa ps) := hide (HI4.out.kept ((Keep.refl (fun _ => False) u1).drew) (fun _ _ _ h => h))
 have HP5 : Hid (Pk u1.drew D g (plaid ps)) := hide (HP4.out.keep ((Keep.refl (fun _ => False) u1).drew) id id)
 clear HI4 HP4
 refine wp_region_held_drew (S := (Rd2 P p q D bx [.int .i64 12, encStr name, encStr to, .int .i64 at_, .int .i64 n, .slice da dn dc, .int .i64 po, .int .i64 pf, .int .i64 pt, .slice pa pn pc])) (by kernel_rfl) (hu1.kept ((Kept.refl [] u1).drew)) (fun hx0 => ?_)
 generalize World.drew u1 = x0 at hx0 HQc0 HKc0 HI5 HP5 ⊢
 refine wpAnyH_take (i := 0) (v := .pointer (some ⟨P, 0, none⟩)) rfl (by kernel_rfl) (by kernel_rfl) (by kernel_rfl) (fun _ _ _ h => h) (Or.inl ⟨by rfl, fun w hSw => by go_simp⟩) hx0 ?_
 try simp only [z1, z2, z3, z4, z5, z6, z7, z8]
 refine wpAnyH_take (i := 1) (v := .pointer (some ⟨P, 0, none⟩)) rfl (by kernel_rfl) (by kernel_rfl) (by kernel_rfl) (fun _ _ _ h => h) (Or.inl ⟨by rfl, fun w hSw => by go_simp⟩) hx0 ?_
 try simp only [z1, z2, z3, z4, z5, z6, z7, z8]
 refine wpAnyH_take (i := 2) (v := .pointer (some ⟨P, 2, none⟩)) rfl (by kernel_rfl) (by kernel_rfl) (by kernel_rfl) (fun _ _ _ h => h) (Or.inl ⟨by rfl, fun w hSw => by go_simp⟩) hx0 ?_
 try simp only [z1, z2, z3, z4, z5, z6, z7, z8]
 refine wpAnyH_take (i := 3) (v := .pointer (some ⟨D, 0, none⟩)) rfl (by kernel_rfl) (by kernel_rfl) (by kernel_rfl) (fun _ _ _ h => h) (Or.inl ⟨by rfl, fun w hSw => by have c0 := hSw.p2; go_simp⟩) hx0 ?_
 try simp only [z1, z2, z3, z4, z5, z6, z7, z8]
 refine wpAnyH_take (i := 4) (v := .pointer (some ⟨bx, 9, none⟩)) rfl (by kernel_rfl) (by kernel_rfl) (by kernel_rfl) (fun _ _ _ h => h) (Or.inl ⟨by rfl, fun w hSw => by go_simp⟩) hx0 ?_
 try simp only [z1, z2, z3, z4, z5, z6, z7, z8]
 refine wpAnyH_take (i := 5) (v := .slice pa pn pc) rfl (by kernel_rfl) (by kernel_rfl) (by kernel_rfl) (fun _ _ _ h => h) (Or.inl ⟨by rfl, fun w hSw => by have c0 := hSw.bx 9 _ rfl; go_simp⟩) hx0 ?_
 try simp only [z1, z2, z3, z4, z5, z6, z7, z8]
 refine wpAnyH_ready (rs := [6]) (by kernel_rfl) (by simp) (AllReadyH.cons (i := 6) rfl (fun K hK => ?_) AllReadyH.nil)
 rw [if_pos (by rfl)]
 go_simp
 refine (picked_ok D g pa pn pc ps _ HP5.out HPL.out HI5.out hpn).mono ?_
 rintro e x1 ⟨rfl, kk, hw⟩
 have hS6 : Rd2 P p q D bx [.int .i64 12, encStr name, encStr to, .int .i64 at_, .int .i64 n, .slice da dn dc, .int .i64 po, .int .i64 pf, .int .i64 pt, .slice pa pn pc] x1 := by rw [hw]; exact hx0.kept ((Kept.refl [] _).drewN kk)
 have HQ6 : Hid (Pq (fun b => (X b ∨ b = bx) ∨ b = g) x1 P p q D bo R (S.crash ps) N (S.crash ps) N) := hide (by rw [hw]; exact HQc0.out.kept ((Kept.refl [] _).drewN kk))
 have HK6 : Hid (Keep (fun b => ¬ X b) w x1) := hide (by rw [hw]; exact HKc0.out.drewN kk)
 clear hw HQc0 HKc0 HI5 HP5
 refine hK.out _ _ (hS6) (fun hx1 => ?_)
 clear hK K
 try simp only [z1, z2, z3, z4, z5, z6, z7, z8]
 refine wpAnyH_take (i := 7) (v := .bool true) rfl (by kernel_rfl) (by kernel_rfl) (by kernel_rfl) (fun _ _ _ h => h) (Or.inl ⟨by rfl, fun w hSw => by go_simp⟩) hx1 ?_
 try simp only [z1, z2, z3, z4, z5, z6, z7, z8]
 refine wpAnyH_done (by kernel_rfl) ?_ _
 have c2 := hx1.p2
 have hly := pick_p HQ6.out (ao := none) (n := 0) (c := 0) (ps := []) rfl (fun i hi => by simp at hi) (fun h => absurd rfl h) (by omega)
 clear HQ6 hv1 hv2 hu1 hx1
 go_wp2_with (go_at_call 91; refine hly.mono ?_; rintro e w5 ⟨g5, rfl, hq5, hp5, hk5⟩; have H5 := hide (And.intro hq5 hk5); clear hly hq5 hp5 hk5 c2)
 go_ret
 exact ⟨rfl, H5.out.1.less (fun _ h => .inl (.inl (.inl h))), HK6.out.trans H5.out.2 (fun b hb _ hx => hb (.inl (.inl (.inl hx))))⟩
end Go.Proofs.YteckiednnaianaaGreat
