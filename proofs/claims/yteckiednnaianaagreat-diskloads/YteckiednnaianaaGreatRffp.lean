import Derived.Test.YteckiednnaianaaGreatRfep
namespace Go.Proofs.YteckiednnaianaaGreat
open Go.RowKit Dsk
set_option linter.unusedVariables false
set_option linter.unusedSimpArgs false
theorem dk_sl {w : World} {D g m : Nat} {xs : List UInt8} (h : Dk w D (some g) (laid xs m)) : Sl w (some ⟨g, 0, none⟩) xs := Sl.of fun i hi => by
 rw [cell_of_row w g (0 + i) _ _ _ (h.row g rfl).2]
 simp only [bys, laid, List.getElem?_toArray, List.getElem?_map, Nat.zero_add]
 rw [List.getElem?_append_left hi, List.getElem?_eq_getElem hi]
 simp [List.getD_eq_getElem?_getD, List.getElem?_eq_getElem hi]
set_option maxHeartbeats 1600000 in
set_option maxRecDepth 100000 in
theorem laid_ok {X : Nat → Prop} {w : World} {P p q D g m : Nat} {S : Ds} {N : Nat} {T : Ds} {M : Nat} (kd : Int) (name to : By) (at_ n : Int) (da : Option Addr) (dn dc : Nat) (ds : By) (po pf pt : Int) (pa : Option Addr) (pn pc : Nat) (ps : List Int) (h : Pq X w P p q D (some g) (laid ds m) S N T M) (hdl : ds.length = dn) (hsd : Sl w da ds) (hnm : dn + 5 ≤ m) :
  Calls Tryz.prog 55 #[.pointer (some ⟨P, 0, none⟩), .agg #[.int .i64 kd, encStr name, encStr to, .int .i64 at_, .int .i64 n, .slice da dn dc, .int .i64 po, .int .i64 pf, .int .i64 pt, .slice pa pn pc]] w fun e w' => e = .returned (.bool true) ∧ (∃ g' R', Pq X w' P p q D (some g') R' S N T M) ∧ Keep (fun b => ¬ X b) w w' := by
 obtain ⟨w1, hw1⟩ : ∃ w1, w1 = w.alloc (.cells #[.int .i64 kd, encStr name, encStr to, .int .i64 at_, .int .i64 n, .slice da dn dc, .int .i64 po, .int .i64 pf, .int .i64 pt, .slice pa pn pc] 52) := ⟨_, rfl⟩
 obtain ⟨h1, hR, hk1⟩ := h.box [.int .i64 kd, encStr name, encStr to, .int .i64 at_, .int .i64 n, .slice da dn dc, .int .i64 po, .int .i64 pf, .int .i64 pt, .slice pa pn pc] 52 hw1
 have HK : Hid (Keep (fun b => ¬ X b) w w1) := hide (Keep.ofNone hk1)
 have HSD : Hid (Sl w1 da ds) := hide (hsd.kept hk1 (by simp))
 have HDL := hide hdl
 clear h hk1 hdl hsd
 go_enter Tryz.func55, Tryz.ntmps55
 go_upto_region 1 with (fail)
 rw [← hw1]
 clear hw1
 generalize w.heap.size = bx at *
 have HQ := hide h1
 have HR := hide hR
 clear h1 hR
 have HQ0 : Hid (Pq (fun b => X b ∨ b = bx) w1.drew P p q D (some g) (laid ds m) S N T M) := hide (HQ.out.kept ((Kept.refl [] w1).drew))
 have HK0 : Hid (Keep (fun b => ¬ X b) w w1.drew) := hide (HK.out.kept ((Kept.refl [] w1).drew))
 have HS0 : Hid (Sl w1.drew da ds) := hide (HSD.out.kept ((Kept.refl [] w1).drew) (by simp))
 clear HQ HK HSD
 refine wp_region_held_drew (S := (Rd2 P p q D bx [.int .i64 kd, encStr name, encStr to, .int .i64 at_, .int .i64 n, .slice da dn dc, .int .i64 po, .int .i64 pf, .int .i64 pt, .slice pa pn pc])) (by kernel_rfl) (HR.out.kept ((Kept.refl [] w1).drew)) (fun h0 => ?_)
 generalize World.drew w1 = v0 at h0 HQ0 HK0 HS0 ⊢
 refine wpAnyH_take (i := 0) (v := .pointer (some ⟨P, 0, none⟩)) rfl (by kernel_rfl) (by kernel_rfl) (by kernel_rfl) (fun _ _ _ h => h) (Or.inl ⟨by rfl, fun w hSw => by go_simp⟩) h0 ?_
 try simp only [z1, z2, z3, z4, z5, z6, z7, z8]
 refine wpAnyH_take (i := 1) (v := .pointer (some ⟨P, 0, none⟩)) rfl (by kernel_rfl) (by kernel_rfl) (by kernel_rfl) (fun _ _ _ h => h) (Or.inl ⟨by rfl, fun w hSw => by go_simp⟩) h0 ?_
 try simp only [z1, z2, z3, z4, z5, z6, z7, z8]
 refine wpAnyH_take (i := 2) (v := .pointer (some ⟨P, 2, none⟩)) rfl (by kernel_rfl) (by kernel_rfl) (by kernel_rfl) (fun _ _ _ h => h) (Or.inl ⟨by rfl, fun w hSw => by go_simp⟩) h0 ?_
 try simp only [z1, z2, z3, z4, z5, z6, z7, z8]
 refine wpAnyH_take (i := 3) (v := .pointer (some ⟨D, 0, none⟩)) rfl (by kernel_rfl) (by kernel_rfl) (by kernel_rfl) (fun _ _ _ h => h) (Or.inl ⟨by rfl, fun w hSw => by have c0 := hSw.p2; go_simp⟩) h0 ?_
 try simp only [z1, z2, z3, z4, z5, z6, z7, z8]
 refine wpAnyH_take (i := 4) (v := .pointer (some ⟨bx, 5, none⟩)) rfl (by kernel_rfl) (by kernel_rfl) (by kernel_rfl) (fun _ _ _ h => h) (Or.inl ⟨by rfl, fun w hSw => by go_simp⟩) h0 ?_
 try simp only [z1, z2, z3, z4, z5, z6, z7, z8]
 refine wpAnyH_take (i := 5) (v := .slice da dn dc) rfl (by kernel_rfl) (by kernel_rfl) (by kernel_rfl) (fun _ _ _ h => h) (Or.inl ⟨by rfl, fun w hSw => by have c0 := hSw.bx 5 _ rfl; go_simp⟩) h0 ?_
 try simp only [z1, z2, z3, z4, z5, z6, z7, z8]
 refine wpAnyH_ready (rs := [6]) (by kernel_rfl) (by simp) (AllReadyH.cons (i := 6) rfl (fun K hK => ?_) AllReadyH.nil)
 rw [if_pos (by rfl)]
 go_simp
 refine (lies_ok D g da dn dc m ds _ HQ0.out.dk HDL.out HS0.out hnm).mono ?_
 rintro e v1 ⟨rfl, kk, hw⟩
 have hS1 : Rd2 P p q D bx [.int .i64 kd, encStr name, encStr to, .int .i64 at_, .int .i64 n, .slice da dn dc, .int .i64 po, .int .i64 pf, .int .i64 pt, .slice pa pn pc] v1 := by rw [hw]; exact h0.kept ((Kept.refl [] _).drewN kk)
 have HQ1 : Hid (Pq (fun b => X b ∨ b = bx) v1 P p q D (some g) (laid ds m) S N T M) := hide (by rw [hw]; exact HQ0.out.kept ((Kept.refl [] _).drewN kk))
 have HK1 : Hid (Keep (fun b => ¬ X b) w v1) := hide (by rw [hw]; exact HK0.out.drewN kk)
 clear HQ0 HK0 HS0 hw
 refine hK.out _ _ (hS1) (fun h1 => ?_)
 clear hK K
 try simp only [z1, z2, z3, z4, z5, z6, z7, z8]
 refine wpAnyH_take (i := 7) (v := .bool true) rfl (by kernel_rfl) (by kernel_rfl) (by kernel_rfl) (fun _ _ _ h => h) (Or.inl ⟨by rfl, fun w hSw => by go_simp⟩) h1 ?_
 try simp only [z1, z2, z3, z4, z5, z6, z7, z8]
 refine wpAnyH_done (by kernel_rfl) ?_ _
 have c2 := h1.p2
 have hly := lay_p HQ1.out (ao := none) (n := 0) (c := 0) (d := []) rfl (Sl.nil _ _) (fun h => absurd rfl h) (by omega)
 clear HQ1
 go_wp2_with (go_at_call 53; refine hly.mono ?_; rintro e w5 ⟨g5, m5, rfl, hq5, hm5, hk5⟩; have H5 := hide (And.intro hq5 hk5); clear hly hq5 hm5 hk5 c2)
 go_ret
 exact ⟨rfl, ⟨_, _, H5.out.1.less (fun _ h => .inl h)⟩, HK1.out.trans H5.out.2 (fun b hb _ hx => hb (.inl (.inl hx)))⟩
set_option maxHeartbeats 3200000 in
set_option maxRecDepth 100000 in
theorem st_writeAt {X : Nat → Prop} {w : World} {P p q D : Nat} {bo : Option Nat} {R : List UInt8} {S : Ds} {N : Nat} (h : Pq X w P p q D bo R S N S N) (name to : By) (at_ n : Int) (da : Option Addr) (dn dc : Nat) (ds : By) (po pf pt : Int) (pa : Option Addr) (pn pc : Nat) (ps : List Int) (hi : StpIn w ⟨2, name, to, at_, n, da, dn, dc, ds, po, pf, pt, pa, pn, pc, ps⟩) (hx : ds ≠ [] → ∀ a, da = some a → X a.block) (hN : N + dn + 5 ≤ 268435456) (hdn : dn ≤ 200000) :
  Calls Tryz.prog 12 #[.pointer (some ⟨P, 0, none⟩), .agg #[.int .i64 2, encStr name, encStr to, .int .i64 at_, .int .i64 n, .slice da dn dc, .int .i64 po, .int .i64 pf, .int .i64 pt, .slice pa pn pc]] w fun e w' => e = .returned (.bool true) ∧ (∃ bo' R', Pq X w' P p q D bo' R' (S.writeAt name at_ ds).2 (N + dn + 2) (S.writeAt name at_ ds).2 (N + dn + 2)) ∧ Keep (fun b => ¬ X b) w w' := by
 have hnm : name.length ≤ 4611686018427387904 := hi.nm
 have haw : (Lit.int .i64 at_).wf = true := hi.wa
 have HX := hide hx
 have HDL : Hid (ds.length = dn) := hide hi.inb.len
 have HNI : Hid (da = none → dn = 0 ∧ dc = 0) := hide (fun e => ⟨by have h9 : ds = [] := (hi.inb.nil e).1; rw [← HDL.out, h9]; rfl, (hi.inb.nil e).2⟩)
 obtain ⟨w1, hw1⟩ : ∃ w1, w1 = w.alloc (.cells #[.int .i64 2, encStr name, encStr to, .int .i64 at_, .int .i64 n, .slice da dn dc, .int .i64 po, .int .i64 pf, .int .i64 pt, .slice pa pn pc] 52) := ⟨_, rfl⟩
 obtain ⟨h1, hR, hk1⟩ := h.box [.int .i64 2, encStr name, encStr to, .int .i64 at_, .int .i64 n, .slice da dn dc, .int .i64 po, .int .i64 pf, .int .i64 pt, .slice pa pn pc] 52 hw1
 have i0 : w1.cell? ⟨w.heap.size, 0, none⟩ = some (.int .i64 2) := hR.bx 0 _ rfl
 have HK : Hid (Keep (fun b => ¬ X b) w w1) := hide (Keep.ofNone hk1)
 have HSD : Hid (Sl w1 da ds) := hide (hi.inb.sl.kept hk1 (by simp))
 clear h hk1 hi hx
 go_enter Tryz.func12, Tryz.ntmps12
 go_upto_region 1 with (fail)
 rw [← hw1]
 clear hw1
 generalize w.heap.size = bx at *
 have HQ := hide h1
 have HR := hide hR
 clear h1 hR
 go_upto_region 5 with (fail)
 clear i0
 have HQ0 : Hid (Pq (fun b => X b ∨ b = bx) w1.drew P p q D bo R S N S N) := hide (HQ.out.kept ((Kept.refl [] w1).drew))
 have HK0 : Hid (Keep (fun b => ¬ X b) w w1.drew) := hide (HK.out.kept ((Kept.refl [] w1).drew))
 have HS0 : Hid (Sl w1.drew da ds) := hide (HSD.out.kept ((Kept.refl [] w1).drew) (by simp))
 clear HQ HK HSD
 refine wp_region_held_drew (S := (Rd2 P p q D bx [.int .i64 2, encStr name, encStr to, .int .i64 at_, .int .i64 n, .slice da dn dc, .int .i64 po, .int .i64 pf, .int .i64 pt, .slice pa pn pc])) (by kernel_rfl) (HR.out.kept ((Kept.refl [] w1).drew)) (fun h0 => ?_)
 generalize World.drew w1 = v0 at h0 HQ0 HK0 HS0 ⊢
 refine wpAnyH_take (i := 0) (v := .pointer (some ⟨P, 0, none⟩)) rfl (by kernel_rfl) (by kernel_rfl) (by kernel_rfl) (fun _ _ _ h => h) (Or.inl ⟨by rfl, fun w hSw => by go_simp⟩) h0 ?_
 try simp only [z1, z2, z3, z4, z5, z6, z7, z8]
 refine wpAnyH_take (i := 1) (v := .pointer (some ⟨P, 0, none⟩)) rfl (by kernel_rfl) (by kernel_rfl) (by kernel_rfl) (fun _ _ _ h => h) (Or.inl ⟨by rfl, fun w hSw => by go_simp⟩) h0 ?_
 try simp only [z1, z2, z3, z4, z5, z6, z7, z8]
 refine wpAnyH_take (i := 2) (v := .pointer (some ⟨P, 0, none⟩)) rfl (by kernel_rfl) (by kernel_rfl) (by kernel_rfl) (fun _ _ _ h => h) (Or.inl ⟨by rfl, fun w hSw => by go_simp⟩) h0 ?_
 try simp only [z1, z2, z3, z4, z5, z6, z7, z8]
 refine wpAnyH_take (i := 3) (v := .pointer (some ⟨p, 0, none⟩)) rfl (by kernel_rfl) (by kernel_rfl) (by kernel_rfl) (fun _ _ _ h => h) (Or.inl ⟨by rfl, fun w hSw => by have c0 := hSw.p0; go_simp⟩) h0 ?_
 try simp only [z1, z2, z3, z4, z5, z6, z7, z8]
 refine wpAnyH_take (i := 4) (v := .pointer (some ⟨bx, 1, none⟩)) rfl (by kernel_rfl) (by kernel_rfl) (by kernel_rfl) (fun _ _ _ h => h) (Or.inl ⟨by rfl, fun w hSw => by go_simp⟩) h0 ?_
 try simp only [z1, z2, z3, z4, z5, z6, z7, z8]
 refine wpAnyH_take (i := 5) (v := encStr name) rfl (by kernel_rfl) (by kernel_rfl) (by kernel_rfl) (fun _ _ _ h => h) (Or.inl ⟨by rfl, fun w hSw => by have c0 := hSw.bx 1 _ rfl; go_simp⟩) h0 ?_
 try simp only [z1, z2, z3, z4, z5, z6, z7, z8]
 refine wpAnyH_take (i := 6) (v := .pointer (some ⟨bx, 3, none⟩)) rfl (by kernel_rfl) (by kernel_rfl) (by kernel_rfl) (fun _ _ _ h => h) (Or.inl ⟨by rfl, fun w hSw => by go_simp⟩) h0 ?_
 try simp only [z1, z2, z3, z4, z5, z6, z7, z8]
 refine wpAnyH_take (i := 7) (v := .int .i64 at_) rfl (by kernel_rfl) (by kernel_rfl) (by kernel_rfl) (fun _ _ _ h => h) (Or.inl ⟨by rfl, fun w hSw => by have c0 := hSw.bx 3 _ rfl; go_simp⟩) h0 ?_
 try simp only [z1, z2, z3, z4, z5, z6, z7, z8]
 refine wpAnyH_take (i := 8) (v := .pointer (some ⟨P, 0, none⟩)) rfl (by kernel_rfl) (by kernel_rfl) (by kernel_rfl) (fun _ _ _ h => h) (Or.inl ⟨by rfl, fun w hSw => by go_simp⟩) h0 ?_
 try simp only [z1, z2, z3, z4, z5, z6, z7, z8]
 refine wpAnyH_take (i := 9) (v := .pointer (some ⟨P, 0, none⟩)) rfl (by kernel_rfl) (by kernel_rfl) (by kernel_rfl) (fun _ _ _ h => h) (Or.inl ⟨by rfl, fun w hSw => by go_simp⟩) h0 ?_
 try simp only [z1, z2, z3, z4, z5, z6, z7, z8]
 refine wpAnyH_take (i := 10) (v := .pointer (some ⟨P, 2, none⟩)) rfl (by kernel_rfl) (by kernel_rfl) (by kernel_rfl) (fun _ _ _ h => h) (Or.inl ⟨by rfl, fun w hSw => by go_simp⟩) h0 ?_
 try simp only [z1, z2, z3, z4, z5, z6, z7, z8]
 refine wpAnyH_take (i := 11) (v := .pointer (some ⟨D, 0, none⟩)) rfl (by kernel_rfl) (by kernel_rfl) (by kernel_rfl) (fun _ _ _ h => h) (Or.inl ⟨by rfl, fun w hSw => by have c0 := hSw.p2; go_simp⟩) h0 ?_
 try simp only [z1, z2, z3, z4, z5, z6, z7, z8]
 refine wpAnyH_take (i := 12) (v := .pointer (some ⟨bx, 5, none⟩)) rfl (by kernel_rfl) (by kernel_rfl) (by kernel_rfl) (fun _ _ _ h => h) (Or.inl ⟨by rfl, fun w hSw => by go_simp⟩) h0 ?_
 try simp only [z1, z2, z3, z4, z5, z6, z7, z8]
 refine wpAnyH_take (i := 13) (v := .slice da dn dc) rfl (by kernel_rfl) (by kernel_rfl) (by kernel_rfl) (fun _ _ _ h => h) (Or.inl ⟨by rfl, fun w hSw => by have c0 := hSw.bx 5 _ rfl; go_simp⟩) h0 ?_
 try simp only [z1, z2, z3, z4, z5, z6, z7, z8]
 refine wpAnyH_take (i := 17) (v := .pointer (some ⟨P, 0, none⟩)) rfl (by kernel_rfl) (by kernel_rfl) (by kernel_rfl) (fun _ _ _ h => h) (Or.inl ⟨by rfl, fun w hSw => by go_simp⟩) h0 ?_
 try simp only [z1, z2, z3, z4, z5, z6, z7, z8]
 refine wpAnyH_take (i := 18) (v := .pointer (some ⟨P, 0, none⟩)) rfl (by kernel_rfl) (by kernel_rfl) (by kernel_rfl) (fun _ _ _ h => h) (Or.inl ⟨by rfl, fun w hSw => by go_simp⟩) h0 ?_
 try simp only [z1, z2, z3, z4, z5, z6, z7, z8]
 refine wpAnyH_take (i := 19) (v := .pointer (some ⟨P, 1, none⟩)) rfl (by kernel_rfl) (by kernel_rfl) (by kernel_rfl) (fun _ _ _ h => h) (Or.inl ⟨by rfl, fun w hSw => by go_simp⟩) h0 ?_
 try simp only [z1, z2, z3, z4, z5, z6, z7, z8]
 refine wpAnyH_take (i := 20) (v := .pointer (some ⟨q, 0, none⟩)) rfl (by kernel_rfl) (by kernel_rfl) (by kernel_rfl) (fun _ _ _ h => h) (Or.inl ⟨by rfl, fun w hSw => by have c0 := hSw.p1; go_simp⟩) h0 ?_
 try simp only [z1, z2, z3, z4, z5, z6, z7, z8]
 refine wpAnyH_take (i := 21) (v := .pointer (some ⟨bx, 1, none⟩)) rfl (by kernel_rfl) (by kernel_rfl) (by kernel_rfl) (fun _ _ _ h => h) (Or.inl ⟨by rfl, fun w hSw => by go_simp⟩) h0 ?_
 try simp only [z1, z2, z3, z4, z5, z6, z7, z8]
 refine wpAnyH_take (i := 22) (v := encStr name) rfl (by kernel_rfl) (by kernel_rfl) (by kernel_rfl) (fun _ _ _ h => h) (Or.inl ⟨by rfl, fun w hSw => by have c0 := hSw.bx 1 _ rfl; go_simp⟩) h0 ?_
 try simp only [z1, z2, z3, z4, z5, z6, z7, z8]
 refine wpAnyH_take (i := 23) (v := .pointer (some ⟨bx, 3, none⟩)) rfl (by kernel_rfl) (by kernel_rfl) (by kernel_rfl) (fun _ _ _ h => h) (Or.inl ⟨by rfl, fun w hSw => by go_simp⟩) h0 ?_
 try simp only [z1, z2, z3, z4, z5, z6, z7, z8]
 refine wpAnyH_take (i := 24) (v := .int .i64 at_) rfl (by kernel_rfl) (by kernel_rfl) (by kernel_rfl) (fun _ _ _ h => h) (Or.inl ⟨by rfl, fun w hSw => by have c0 := hSw.bx 3 _ rfl; go_simp⟩) h0 ?_
 try simp only [z1, z2, z3, z4, z5, z6, z7, z8]
 refine wpAnyH_take (i := 25) (v := .pointer (some ⟨bx, 5, none⟩)) rfl (by kernel_rfl) (by kernel_rfl) (by kernel_rfl) (fun _ _ _ h => h) (Or.inl ⟨by rfl, fun w hSw => by go_simp⟩) h0 ?_
 try simp only [z1, z2, z3, z4, z5, z6, z7, z8]
 refine wpAnyH_take (i := 26) (v := .slice da dn dc) rfl (by kernel_rfl) (by kernel_rfl) (by kernel_rfl) (fun _ _ _ h => h) (Or.inl ⟨by rfl, fun w hSw => by have c0 := hSw.bx 5 _ rfl; go_simp⟩) h0 ?_
 try simp only [z1, z2, z3, z4, z5, z6, z7, z8]
 refine wpAnyH_ready (rs := [14]) (by kernel_rfl) (by simp) (AllReadyH.cons (i := 14) rfl (fun K hK => ?_) AllReadyH.nil)
 rw [if_pos (by rfl)]
 go_simp
 refine (lay_p HQ0.out HDL.out HS0.out (fun hd a ha => .inl (HX.out hd a ha)) hdn).mono ?_
 rintro e v1 ⟨g, m, rfl, hq, hm, hk⟩
 have HK1 : Hid (Keep (fun b => ¬ X b) w v1) := hide (HK0.out.trans hk (fun b hb _ hx => hb (.inl (.inl hx))))
 have HS1 : Hid (Sl v1 da ds) := hide (HS0.out.keep hk (fun hd a ha hm => hm (.inl (.inl (HX.out hd a ha)))))
 have HQ1 := hide hq
 clear hq HQ0 HK0 HS0
 refine hK.out _ _ (h0.keep hk (fun hn => hn (.inr rfl)) (fun hn => hn (.inl (.inr rfl)))) (fun h1 => ?_)
 clear hK K
 try simp only [z1, z2, z3, z4, z5, z6, z7, z8]
 refine wpAnyH_ready (rs := [15]) (by kernel_rfl) (by simp) (AllReadyH.cons (i := 15) rfl (fun K hK => ?_) AllReadyH.nil)
 rw [if_pos (by rfl)]
 go_simp
 refine (writeAt_p1 HQ1.out name hnm at_ haw (c := m) (by omega) HDL.out (dk_sl HQ1.out.dk) (fun e => by cases e) (fun hd a ha => by cases ha; exact .inr (.inr (.inr rfl)))).mono ?_
 rintro e v2 ⟨rfl, hq, hk⟩
 have HK2 : Hid (Keep (fun b => ¬ X b) w v2) := hide (HK1.out.trans hk (fun b hb _ hx => hb (.inl (.inl hx))))
 have HS2 : Hid (Sl v2 da ds) := hide (HS1.out.keep hk (fun hd a ha hm => hm (.inl (.inl (HX.out hd a ha)))))
 have HQ2 := hide hq
 clear hq HQ1 HK1 HS1
 refine hK.out _ _ (h1.mv hk (.inr rfl)) (fun h2 => ?_)
 clear hK K
 try simp only [z1, z2, z3, z4, z5, z6, z7, z8]
 refine wpAnyH_ready (rs := [16]) (by kernel_rfl) (by simp) (AllReadyH.cons (i := 16) rfl (fun K hK => ?_) AllReadyH.nil)
 rw [if_pos (by rfl)]
 go_simp
 refine (num_ok _ _).mono ?_
 rintro e v3 ⟨rfl, hw⟩
 obtain rfl := hw.symm
 refine hK.out _ _ (h2) (fun h3 => ?_)
 clear hK K
 try simp only [z1, z2, z3, z4, z5, z6, z7, z8]
 refine wpAnyH_ready (rs := [27]) (by kernel_rfl) (by simp) (AllReadyH.cons (i := 27) rfl (fun K hK => ?_) AllReadyH.nil)
 rw [if_pos (by rfl)]
 go_simp
 refine (writeAt_p2 HQ2.out name hnm at_ haw (by omega) HDL.out HS2.out HNI.out (fun hd a ha => .inl (.inl (HX.out hd a ha)))).mono ?_
 rintro e v4 ⟨rfl, hq, hk⟩
 have HK4 : Hid (Keep (fun b => ¬ X b) w v4) := hide (HK2.out.trans hk (fun b hb _ hx => hb (.inl (.inl hx))))
 have HS4 : Hid (Sl v4 da ds) := hide (HS2.out.keep hk (fun hd a ha hm => hm (.inl (.inl (HX.out hd a ha)))))
 have HQ4 := hide hq
 clear hq HQ2 HK2 HS2
 refine hK.out _ _ (h3.mv hk (.inr rfl)) (fun h4 => ?_)
 clear hK K
 try simp only [z1, z2, z3, z4, z5, z6, z7, z8]
 refine wpAnyH_take (i := 28) (v := .bool true) rfl (by kernel_rfl) (by kernel_rfl) (by kernel_rfl) (fun _ _ _ h => h) (Or.inl ⟨by rfl, fun w hSw => by go_simp⟩) h4 ?_
 try simp only [z1, z2, z3, z4, z5, z6, z7, z8]
 refine wpAnyH_take (i := 29) (v := .bool true) rfl (by kernel_rfl) (by kernel_rfl) (by kernel_rfl) (fun _ _ _ h => h) (Or.inl ⟨by rfl, fun w hSw => by go_simp⟩) h4 ?_
 try simp only [z1, z2, z3, z4, z5, z6, z7, z8]
 refine wpAnyH_take (i := 30) (v := .pointer (some ⟨P, 0, none⟩)) rfl (by kernel_rfl) (by kernel_rfl) (by kernel_rfl) (fun _ _ _ h => h) (Or.inl ⟨by rfl, fun w hSw => by go_simp⟩) h4 ?_
 try simp only [z1, z2, z3, z4, z5, z6, z7, z8]
 refine wpAnyH_take (i := 31) (v := .agg #[.int .i64 2, encStr name, encStr to, .int .i64 at_, .int .i64 n, .slice da dn dc, .int .i64 po, .int .i64 pf, .int .i64 pt, .slice pa pn pc]) rfl (by kernel_rfl) (by kernel_rfl) (by kernel_rfl) (fun _ _ _ h => h) (Or.inl ⟨by rfl, fun w hSw => by have c0 := hSw.bx 0 _ rfl; have c1 := hSw.bx 1 _ rfl; have c2 := hSw.bx 2 _ rfl; have c3 := hSw.bx 3 _ rfl; have c4 := hSw.bx 4 _ rfl; have c5 := hSw.bx 5 _ rfl; have c6 := hSw.bx 6 _ rfl; have c7 := hSw.bx 7 _ rfl; have c8 := hSw.bx 8 _ rfl; have c9 := hSw.bx 9 _ rfl; go_simp⟩) h4 ?_
 try simp only [z1, z2, z3, z4, z5, z6, z7, z8]
 refine wpAnyH_ready (rs := [32]) (by kernel_rfl) (by simp) (AllReadyH.cons (i := 32) rfl (fun K hK => ?_) AllReadyH.nil)
 rw [if_pos (by rfl)]
 go_simp
 refine (laid_ok 2 name to at_ n da dn dc ds po pf pt pa pn pc ps HQ4.out HDL.out HS4.out hm).mono ?_
 rintro e v5 ⟨rfl, ⟨g', R', hq⟩, hk⟩
 have HQ5 := hide hq
 have HK5 : Hid (Keep (fun b => ¬ X b) w v5) := hide (HK4.out.trans hk (fun b hb _ hx => hb (.inl hx)))
 clear HQ4 HK4 HS4
 refine hK.out _ _ (⟨hq.cell 0 _ rfl, hq.cell 1 _ rfl, hq.cell 2 _ rfl, fun j u hu => hk.cellOf (h4.bx j u hu) (fun hn => hn (.inr rfl))⟩) (fun h5 => ?_)
 clear hK K
 try simp only [z1, z2, z3, z4, z5, z6, z7, z8]
 refine wpAnyH_take (i := 33) (v := .bool true) rfl (by kernel_rfl) (by kernel_rfl) (by kernel_rfl) (fun _ _ _ h => h) (Or.inl ⟨by rfl, fun w hSw => by go_simp⟩) h5 ?_
 try simp only [z1, z2, z3, z4, z5, z6, z7, z8]
 refine wpAnyH_take (i := 34) (v := .bool true) rfl (by kernel_rfl) (by kernel_rfl) (by kernel_rfl) (fun _ _ _ h => h) (Or.inl ⟨by rfl, fun w hSw => by go_simp⟩) h5 ?_
 try simp only [z1, z2, z3, z4, z5, z6, z7, z8]
 refine wpAnyH_done (by kernel_rfl) ?_ _
 go_wp2
 go_ret
 exact ⟨rfl, ⟨_, _, HQ5.out.less (fun _ h => .inl h)⟩, HK5.out⟩
set_option maxHeartbeats 3200000 in
set_option maxRecDepth 100000 in
theorem st_append {X : Nat → Prop} {w : World} {P p q D : Nat} {bo : Option Nat} {R : List UInt8} {S : Ds} {N : Nat} (h : Pq X w P p q D bo R S N S N) (name to : By) (at_ n : Int) (da : Option Addr) (dn dc : Nat) (ds : By) (po pf pt : Int) (pa : Option Addr) (pn pc : Nat) (ps : List Int) (hi : StpIn w ⟨3, name, to, at_, n, da, dn, dc, ds, po, pf, pt, pa, pn, pc, ps⟩) (hx : ds ≠ [] → ∀ a, da = some a → X a.block) (hN : N + dn + 5 ≤ 268435456) (hdn : dn ≤ 200000) :
  Calls Tryz.prog 12 #[.pointer (some ⟨P, 0, none⟩), .agg #[.int .i64 3, encStr name, encStr to, .int .i64 at_, .int .i64 n, .slice da dn dc, .int .i64 po, .int .i64 pf, .int .i64 pt, .slice pa pn pc]] w fun e w' => e = .returned (.bool true) ∧ (∃ bo' R', Pq X w' P p q D bo' R' (S.append name ds).2 (N + dn + 2) (S.append name ds).2 (N + dn + 2)) ∧ Keep (fun b => ¬ X b) w w' := by
 have hnm : name.length ≤ 4611686018427387904 := hi.nm
 have haw : (Lit.int .i64 at_).wf = true := hi.wa
 have HX := hide hx
 have HDL : Hid (ds.length = dn) := hide hi.inb.len
 have HNI : Hid (da = none → dn = 0 ∧ dc = 0) := hide (fun e => ⟨by have h9 : ds = [] := (hi.inb.nil e).1; rw [← HDL.out, h9]; rfl, (hi.inb.nil e).2⟩)
 obtain ⟨w1, hw1⟩ : ∃ w1, w1 = w.alloc (.cells #[.int .i64 3, encStr name, encStr to, .int .i64 at_, .int .i64 n, .slice da dn dc, .int .i64 po, .int .i64 pf, .int .i64 pt, .slice pa pn pc] 52) := ⟨_, rfl⟩
 obtain ⟨h1, hR, hk1⟩ := h.box [.int .i64 3, encStr name, encStr to, .int .i64 at_, .int .i64 n, .slice da dn dc, .int .i64 po, .int .i64 pf, .int .i64 pt, .slice pa pn pc] 52 hw1
 have i0 : w1.cell? ⟨w.heap.size, 0, none⟩ = some (.int .i64 3) := hR.bx 0 _ rfl
 have HK : Hid (Keep (fun b => ¬ X b) w w1) := hide (Keep.ofNone hk1)
 have HSD : Hid (Sl w1 da ds) := hide (hi.inb.sl.kept hk1 (by simp))
 clear h hk1 hi hx
 go_enter Tryz.func12, Tryz.ntmps12
 go_upto_region 1 with (fail)
 rw [← hw1]
 clear hw1
 generalize w.heap.size = bx at *
 have HQ := hide h1
 have HR := hide hR
 clear h1 hR
 go_upto_region 7 with (fail)
 clear i0
 have HQ0 : Hid (Pq (fun b => X b ∨ b = bx) w1.drew P p q D bo R S N S N) := hide (HQ.out.kept ((Kept.refl [] w1).drew))
 have HK0 : Hid (Keep (fun b => ¬ X b) w w1.drew) := hide (HK.out.kept ((Kept.refl [] w1).drew))
 have HS0 : Hid (Sl w1.drew da ds) := hide (HSD.out.kept ((Kept.refl [] w1).drew) (by simp))
 clear HQ HK HSD
 refine wp_region_held_drew (S := (Rd2 P p q D bx [.int .i64 3, encStr name, encStr to, .int .i64 at_, .int .i64 n, .slice da dn dc, .int .i64 po, .int .i64 pf, .int .i64 pt, .slice pa pn pc])) (by kernel_rfl) (HR.out.kept ((Kept.refl [] w1).drew)) (fun h0 => ?_)
 generalize World.drew w1 = v0 at h0 HQ0 HK0 HS0 ⊢
 refine wpAnyH_take (i := 0) (v := .pointer (some ⟨P, 0, none⟩)) rfl (by kernel_rfl) (by kernel_rfl) (by kernel_rfl) (fun _ _ _ h => h) (Or.inl ⟨by rfl, fun w hSw => by go_simp⟩) h0 ?_
 try simp only [z1, z2, z3, z4, z5, z6, z7, z8]
 refine wpAnyH_take (i := 1) (v := .pointer (some ⟨P, 0, none⟩)) rfl (by kernel_rfl) (by kernel_rfl) (by kernel_rfl) (fun _ _ _ h => h) (Or.inl ⟨by rfl, fun w hSw => by go_simp⟩) h0 ?_
 try simp only [z1, z2, z3, z4, z5, z6, z7, z8]
 refine wpAnyH_take (i := 2) (v := .pointer (some ⟨P, 0, none⟩)) rfl (by kernel_rfl) (by kernel_rfl) (by kernel_rfl) (fun _ _ _ h => h) (Or.inl ⟨by rfl, fun w hSw => by go_simp⟩) h0 ?_
 try simp only [z1, z2, z3, z4, z5, z6, z7, z8]
 refine wpAnyH_take (i := 3) (v := .pointer (some ⟨p, 0, none⟩)) rfl (by kernel_rfl) (by kernel_rfl) (by kernel_rfl) (fun _ _ _ h => h) (Or.inl ⟨by rfl, fun w hSw => by have c0 := hSw.p0; go_simp⟩) h0 ?_
 try simp only [z1, z2, z3, z4, z5, z6, z7, z8]
 refine wpAnyH_take (i := 4) (v := .pointer (some ⟨bx, 1, none⟩)) rfl (by kernel_rfl) (by kernel_rfl) (by kernel_rfl) (fun _ _ _ h => h) (Or.inl ⟨by rfl, fun w hSw => by go_simp⟩) h0 ?_
 try simp only [z1, z2, z3, z4, z5, z6, z7, z8]
 refine wpAnyH_take (i := 5) (v := encStr name) rfl (by kernel_rfl) (by kernel_rfl) (by kernel_rfl) (fun _ _ _ h => h) (Or.inl ⟨by rfl, fun w hSw => by have c0 := hSw.bx 1 _ rfl; go_simp⟩) h0 ?_
 try simp only [z1, z2, z3, z4, z5, z6, z7, z8]
 refine wpAnyH_take (i := 6) (v := .pointer (some ⟨P, 0, none⟩)) rfl (by kernel_rfl) (by kernel_rfl) (by kernel_rfl) (fun _ _ _ h => h) (Or.inl ⟨by rfl, fun w hSw => by go_simp⟩) h0 ?_
 try simp only [z1, z2, z3, z4, z5, z6, z7, z8]
 refine wpAnyH_take (i := 7) (v := .pointer (some ⟨P, 0, none⟩)) rfl (by kernel_rfl) (by kernel_rfl) (by kernel_rfl) (fun _ _ _ h => h) (Or.inl ⟨by rfl, fun w hSw => by go_simp⟩) h0 ?_
 try simp only [z1, z2, z3, z4, z5, z6, z7, z8]
 refine wpAnyH_take (i := 8) (v := .pointer (some ⟨P, 2, none⟩)) rfl (by kernel_rfl) (by kernel_rfl) (by kernel_rfl) (fun _ _ _ h => h) (Or.inl ⟨by rfl, fun w hSw => by go_simp⟩) h0 ?_
 try simp only [z1, z2, z3, z4, z5, z6, z7, z8]
 refine wpAnyH_take (i := 9) (v := .pointer (some ⟨D, 0, none⟩)) rfl (by kernel_rfl) (by kernel_rfl) (by kernel_rfl) (fun _ _ _ h => h) (Or.inl ⟨by rfl, fun w hSw => by have c0 := hSw.p2; go_simp⟩) h0 ?_
 try simp only [z1, z2, z3, z4, z5, z6, z7, z8]
 refine wpAnyH_take (i := 10) (v := .pointer (some ⟨bx, 5, none⟩)) rfl (by kernel_rfl) (by kernel_rfl) (by kernel_rfl) (fun _ _ _ h => h) (Or.inl ⟨by rfl, fun w hSw => by go_simp⟩) h0 ?_
 try simp only [z1, z2, z3, z4, z5, z6, z7, z8]
 refine wpAnyH_take (i := 11) (v := .slice da dn dc) rfl (by kernel_rfl) (by kernel_rfl) (by kernel_rfl) (fun _ _ _ h => h) (Or.inl ⟨by rfl, fun w hSw => by have c0 := hSw.bx 5 _ rfl; go_simp⟩) h0 ?_
 try simp only [z1, z2, z3, z4, z5, z6, z7, z8]
 refine wpAnyH_take (i := 15) (v := .pointer (some ⟨P, 0, none⟩)) rfl (by kernel_rfl) (by kernel_rfl) (by kernel_rfl) (fun _ _ _ h => h) (Or.inl ⟨by rfl, fun w hSw => by go_simp⟩) h0 ?_
 try simp only [z1, z2, z3, z4, z5, z6, z7, z8]
 refine wpAnyH_take (i := 16) (v := .pointer (some ⟨P, 0, none⟩)) rfl (by kernel_rfl) (by kernel_rfl) (by kernel_rfl) (fun _ _ _ h => h) (Or.inl ⟨by rfl, fun w hSw => by go_simp⟩) h0 ?_
 try simp only [z1, z2, z3, z4, z5, z6, z7, z8]
 refine wpAnyH_take (i := 17) (v := .pointer (some ⟨P, 1, none⟩)) rfl (by kernel_rfl) (by kernel_rfl) (by kernel_rfl) (fun _ _ _ h => h) (Or.inl ⟨by rfl, fun w hSw => by go_simp⟩) h0 ?_
 try simp only [z1, z2, z3, z4, z5, z6, z7, z8]
 refine wpAnyH_take (i := 18) (v := .pointer (some ⟨q, 0, none⟩)) rfl (by kernel_rfl) (by kernel_rfl) (by kernel_rfl) (fun _ _ _ h => h) (Or.inl ⟨by rfl, fun w hSw => by have c0 := hSw.p1; go_simp⟩) h0 ?_
 try simp only [z1, z2, z3, z4, z5, z6, z7, z8]
 refine wpAnyH_take (i := 19) (v := .pointer (some ⟨bx, 1, none⟩)) rfl (by kernel_rfl) (by kernel_rfl) (by kernel_rfl) (fun _ _ _ h => h) (Or.inl ⟨by rfl, fun w hSw => by go_simp⟩) h0 ?_
 try simp only [z1, z2, z3, z4, z5, z6, z7, z8]
 refine wpAnyH_take (i := 20) (v := encStr name) rfl (by kernel_rfl) (by kernel_rfl) (by kernel_rfl) (fun _ _ _ h => h) (Or.inl ⟨by rfl, fun w hSw => by have c0 := hSw.bx 1 _ rfl; go_simp⟩) h0 ?_
 try simp only [z1, z2, z3, z4, z5, z6, z7, z8]
 refine wpAnyH_take (i := 21) (v := .pointer (some ⟨bx, 5, none⟩)) rfl (by kernel_rfl) (by kernel_rfl) (by kernel_rfl) (fun _ _ _ h => h) (Or.inl ⟨by rfl, fun w hSw => by go_simp⟩) h0 ?_
 try simp only [z1, z2, z3, z4, z5, z6, z7, z8]
 refine wpAnyH_take (i := 22) (v := .slice da dn dc) rfl (by kernel_rfl) (by kernel_rfl) (by kernel_rfl) (fun _ _ _ h => h) (Or.inl ⟨by rfl, fun w hSw => by have c0 := hSw.bx 5 _ rfl; go_simp⟩) h0 ?_
 try simp only [z1, z2, z3, z4, z5, z6, z7, z8]
 refine wpAnyH_ready (rs := [12]) (by kernel_rfl) (by simp) (AllReadyH.cons (i := 12) rfl (fun K hK => ?_) AllReadyH.nil)
 rw [if_pos (by rfl)]
 go_simp
 refine (lay_p HQ0.out HDL.out HS0.out (fun hd a ha => .inl (HX.out hd a ha)) hdn).mono ?_
 rintro e v1 ⟨g, m, rfl, hq, hm, hk⟩
 have HK1 : Hid (Keep (fun b => ¬ X b) w v1) := hide (HK0.out.trans hk (fun b hb _ hx => hb (.inl (.inl hx))))
 have HS1 : Hid (Sl v1 da ds) := hide (HS0.out.keep hk (fun hd a ha hm => hm (.inl (.inl (HX.out hd a ha)))))
 have HQ1 := hide hq
 clear hq HQ0 HK0 HS0
 refine hK.out _ _ (h0.keep hk (fun hn => hn (.inr rfl)) (fun hn => hn (.inl (.inr rfl)))) (fun h1 => ?_)
 clear hK K
 try simp only [z1, z2, z3, z4, z5, z6, z7, z8]
 refine wpAnyH_ready (rs := [13]) (by kernel_rfl) (by simp) (AllReadyH.cons (i := 13) rfl (fun K hK => ?_) AllReadyH.nil)
 rw [if_pos (by rfl)]
 go_simp
 refine (append_p1 HQ1.out name hnm (c := m) (by omega) HDL.out (dk_sl HQ1.out.dk) (fun e => by cases e) (fun hd a ha => by cases ha; exact .inr (.inr (.inr rfl)))).mono ?_
 rintro e v2 ⟨rfl, hq, hk⟩
 have HK2 : Hid (Keep (fun b => ¬ X b) w v2) := hide (HK1.out.trans hk (fun b hb _ hx => hb (.inl (.inl hx))))
 have HS2 : Hid (Sl v2 da ds) := hide (HS1.out.keep hk (fun hd a ha hm => hm (.inl (.inl (HX.out hd a ha)))))
 have HQ2 := hide hq
 clear hq HQ1 HK1 HS1
 refine hK.out _ _ (h1.mv hk (.inr rfl)) (fun h2 => ?_)
 clear hK K
 try simp only [z1, z2, z3, z4, z5, z6, z7, z8]
 refine wpAnyH_ready (rs := [14]) (by kernel_rfl) (by simp) (AllReadyH.cons (i := 14) rfl (fun K hK => ?_) AllReadyH.nil)
 rw [if_pos (by rfl)]
 go_simp
 refine (num_ok _ _).mono ?_
 rintro e v3 ⟨rfl, hw⟩
 obtain rfl := hw.symm
 refine hK.out _ _ (h2) (fun h3 => ?_)
 clear hK K
 try simp only [z1, z2, z3, z4, z5, z6, z7, z8]
 refine wpAnyH_ready (rs := [23]) (by kernel_rfl) (by simp) (AllReadyH.cons (i := 23) rfl (fun K hK => ?_) AllReadyH.nil)
 rw [if_pos (by rfl)]
 go_simp
 refine (append_p2 HQ2.out name hnm (by omega) HDL.out HS2.out HNI.out (fun hd a ha => .inl (.inl (HX.out hd a ha)))).mono ?_
 rintro e v4 ⟨rfl, hq, hk⟩
 have HK4 : Hid (Keep (fun b => ¬ X b) w v4) := hide (HK2.out.trans hk (fun b hb _ hx => hb (.inl (.inl hx))))
 have HS4 : Hid (Sl v4 da ds) := hide (HS2.out.keep hk (fun hd a ha hm => hm (.inl (.inl (HX.out hd a ha)))))
 have HQ4 := hide hq
 clear hq HQ2 HK2 HS2
 refine hK.out _ _ (h3.mv hk (.inr rfl)) (fun h4 => ?_)
 clear hK K
 try simp only [z1, z2, z3, z4, z5, z6, z7, z8]
 refine wpAnyH_take (i := 24) (v := .bool true) rfl (by kernel_rfl) (by kernel_rfl) (by kernel_rfl) (fun _ _ _ h => h) (Or.inl ⟨by rfl, fun w hSw => by go_simp⟩) h4 ?_
 try simp only [z1, z2, z3, z4, z5, z6, z7, z8]
 refine wpAnyH_take (i := 25) (v := .bool true) rfl (by kernel_rfl) (by kernel_rfl) (by kernel_rfl) (fun _ _ _ h => h) (Or.inl ⟨by rfl, fun w hSw => by go_simp⟩) h4 ?_
 try simp only [z1, z2, z3, z4, z5, z6, z7, z8]
 refine wpAnyH_take (i := 26) (v := .pointer (some ⟨P, 0, none⟩)) rfl (by kernel_rfl) (by kernel_rfl) (by kernel_rfl) (fun _ _ _ h => h) (Or.inl ⟨by rfl, fun w hSw => by go_simp⟩) h4 ?_
 try simp only [z1, z2, z3, z4, z5, z6, z7, z8]
 refine wpAnyH_take (i := 27) (v := .agg #[.int .i64 3, encStr name, encStr to, .int .i64 at_, .int .i64 n, .slice da dn dc, .int .i64 po, .int .i64 pf, .int .i64 pt, .slice pa pn pc]) rfl (by kernel_rfl) (by kernel_rfl) (by kernel_rfl) (fun _ _ _ h => h) (Or.inl ⟨by rfl, fun w hSw => by have c0 := hSw.bx 0 _ rfl; have c1 := hSw.bx 1 _ rfl; have c2 := hSw.bx 2 _ rfl; have c3 := hSw.bx 3 _ rfl; have c4 := hSw.bx 4 _ rfl; have c5 := hSw.bx 5 _ rfl; have c6 := hSw.bx 6 _ rfl; have c7 := hSw.bx 7 _ rfl; have c8 := hSw.bx 8 _ rfl; have c9 := hSw.bx 9 _ rfl; go_simp⟩) h4 ?_
 try simp only [z1, z2, z3, z4, z5, z6, z7, z8]
 refine wpAnyH_ready (rs := [28]) (by kernel_rfl) (by simp) (AllReadyH.cons (i := 28) rfl (fun K hK => ?_) AllReadyH.nil)
 rw [if_pos (by rfl)]
 go_simp
 refine (laid_ok 3 name to at_ n da dn dc ds po pf pt pa pn pc ps HQ4.out HDL.out HS4.out hm).mono ?_
 rintro e v5 ⟨rfl, ⟨g', R', hq⟩, hk⟩
 have HQ5 := hide hq
 have HK5 : Hid (Keep (fun b => ¬ X b) w v5) := hide (HK4.out.trans hk (fun b hb _ hx => hb (.inl hx)))
 clear HQ4 HK4 HS4
 refine hK.out _ _ (⟨hq.cell 0 _ rfl, hq.cell 1 _ rfl, hq.cell 2 _ rfl, fun j u hu => hk.cellOf (h4.bx j u hu) (fun hn => hn (.inr rfl))⟩) (fun h5 => ?_)
 clear hK K
 try simp only [z1, z2, z3, z4, z5, z6, z7, z8]
 refine wpAnyH_take (i := 29) (v := .bool true) rfl (by kernel_rfl) (by kernel_rfl) (by kernel_rfl) (fun _ _ _ h => h) (Or.inl ⟨by rfl, fun w hSw => by go_simp⟩) h5 ?_
 try simp only [z1, z2, z3, z4, z5, z6, z7, z8]
 refine wpAnyH_take (i := 30) (v := .bool true) rfl (by kernel_rfl) (by kernel_rfl) (by kernel_rfl) (fun _ _ _ h => h) (Or.inl ⟨by rfl, fun w hSw => by go_simp⟩) h5 ?_
 try simp only [z1, z2, z3, z4, z5, z6, z7, z8]
 refine wpAnyH_done (by kernel_rfl) ?_ _
 go_wp2
 go_ret
 exact ⟨rfl, ⟨_, _, HQ5.out.less (fun _ h => .inl h)⟩, HK5.out⟩
end Go.Proofs.YteckiednnaianaaGreat
