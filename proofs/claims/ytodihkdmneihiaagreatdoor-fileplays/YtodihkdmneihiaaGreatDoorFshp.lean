import Derived.Test.YtodihkdmneihiaaGreatDoorFsgp
import Derived.Deep.RegionHeld3
namespace Go.Proofs.YtodihkdmneihiaaGreatDoor
open Go.RowKit Dsk
set_option linter.unusedVariables false
set_option linter.unusedSimpArgs false
structure Rdz (P p q bx : Nat) (cs : List Value) (v : World) : Prop where
 p0 : v.cell? ⟨P, 0, none⟩ = some (.pointer (some ⟨p, 0, none⟩))
 p1 : v.cell? ⟨P, 1, none⟩ = some (.pointer (some ⟨q, 0, none⟩))
 bx : ∀ j u, cs[j]? = some u → v.cell? ⟨bx, j, none⟩ = some u
theorem Rdz.keep {F : Nat → Prop} {P p q bx : Nat} {cs : List Value} {v v' : World} (h : Rdz P p q bx cs v) (hk : Keep F v v') (h1 : ¬ F P) (h2 : ¬ F bx) : Rdz P p q bx cs v' :=
 ⟨hk.cellOf h.p0 h1, hk.cellOf h.p1 h1, fun j u hu => hk.cellOf (h.bx j u hu) h2⟩
theorem Rdz.kept {P p q bx : Nat} {cs : List Value} {v v' : World} (h : Rdz P p q bx cs v) (hk : Kept [] v v') : Rdz P p q bx cs v' := h.keep (Keep.ofNone (F := fun _ => False) hk) id id
theorem Rdz.mv {X : Nat → Prop} {P p q bx : Nat} {cs : List Value} {v v' : World} (h : Rdz P p q bx cs v) (hk : Keep (fun b => ¬ (X b ∨ b = P)) v v') (hx : X bx) : Rdz P p q bx cs v' :=
 h.keep hk (fun hn => hn (.inr rfl)) (fun hn => hn (.inl hx))
theorem Pz.lt {X : Nat → Prop} {w : World} {P p q : Nat} {S : Ds} {N : Nat} {T : Ds} {M : Nat} (h : Pz X w P p q S N T M) {b : Nat} (hb : X b) : b < w.heap.size := by
 obtain ⟨A, o, A', o', h1, h2, h3, h4, h5, h6⟩ := h.tw
 exact (h4 b (.inl hb)).2.2
theorem Pz.box {X : Nat → Prop} {w : World} {P p q : Nat} {S : Ds} {N : Nat} {T : Ds} {M : Nat} (h : Pz X w P p q S N T M) (cs : List Value) (t : TypeId) {w1 : World} (hw : w1 = w.alloc (.cells cs.toArray t)) :
  Pz (fun b => X b ∨ b = w.heap.size) w1 P p q S N T M ∧ Rdz P p q w.heap.size cs w1 ∧ Kept [] w w1 := by
 have hk : Kept [] w w1 := by rw [hw]; exact (Kept.refl [] w).alloc _
 have hb : w1.heap[w.heap.size]? = some (.cells cs.toArray t (0, 0)) := by rw [hw]; exact (MapKept.heap_alloc w _).1
 have hl := (Array.getElem?_eq_some_iff.1 hb).1
 have hPl := (Array.getElem?_eq_some_iff.1 h.cell).1
 have h1 : Pz (fun b => X b ∨ b = w.heap.size) w1 P p q S N T M := ⟨h.tw.free (F := fun _ => False) (Keep.ofNone hk) (fun _ _ h => h.elim) (fun b hb => by
  rcases hb with (hb | rfl) | rfl
  ·exact ⟨.inl (.inl hb), Nat.lt_of_lt_of_le (h.lt hb) hk.size⟩
  ·exact ⟨.inr (Nat.le_refl _), hl⟩
  ·exact ⟨.inl (.inr rfl), Nat.lt_of_lt_of_le hPl hk.size⟩), (Keep.ofNone (F := fun _ => False) hk).heapOf h.cell (fun h => h)⟩
 exact ⟨h1, ⟨h1.rp.p0, h1.rp.p1, fun j u hu => by rw [cell_of_row w1 _ j _ _ _ hb]; simpa using hu⟩, hk⟩
section
variable {X : Nat → Prop} {w : World} {P p q : Nat} {S : Ds} {N : Nat} {T : Ds} {M : Nat}
theorem create_z1 (h : Pz X w P p q S N T M) (hN : N ≤ 268435456) (n : By) (hn : n.length ≤ 4611686018427387904) : Calls Tryz.prog 23 #[.pointer (some ⟨p, 0, none⟩), encStr n] w fun e w' => e = .returned (.int .i64 (S.create n).1) ∧ Pz X w' P p q (S.create n).2 (N + 1) T M ∧ Keep (fun b => ¬ (X b ∨ b = P)) w w' := by
 obtain ⟨Y, hY, h1, h2⟩ := h.one
 refine (create_ax h1 hN n hn).mono ?_
 rintro e w' ⟨rfl, ha⟩
 exact ⟨rfl, h2 _ _ _ ha⟩
theorem create_z2 (h : Pz X w P p q S N T M) (hM : M ≤ 268435456) (n : By) (hn : n.length ≤ 4611686018427387904) : Calls Tryz.prog 24 #[.pointer (some ⟨q, 0, none⟩), encStr n] w fun e w' => e = .returned (.int .i64 (T.create n).1) ∧ Pz X w' P p q S N (T.create n).2 (M + 1) ∧ Keep (fun b => ¬ (X b ∨ b = P)) w w' := by
 obtain ⟨Y, hY, h1, h2⟩ := h.two
 refine (create_rx h1 hM n hn).mono ?_
 rintro e w' ⟨rfl, ha⟩
 exact ⟨rfl, h2 _ _ _ ha⟩
theorem truncate_z1 (h : Pz X w P p q S N T M) (hN : N ≤ 268435456) (n : By) (hn : n.length ≤ 4611686018427387904) (a : Int) : Calls Tryz.prog 27 #[.pointer (some ⟨p, 0, none⟩), encStr n, .int .i64 a] w fun e w' => e = .returned (.int .i64 (S.truncate n a).1) ∧ Pz X w' P p q (S.truncate n a).2 (N + 3) T M ∧ Keep (fun b => ¬ (X b ∨ b = P)) w w' := by
 obtain ⟨Y, hY, h1, h2⟩ := h.one
 refine (truncate_ax h1 hN n hn a).mono ?_
 rintro e w' ⟨rfl, ha⟩
 exact ⟨rfl, h2 _ _ _ ha⟩
theorem truncate_z2 (h : Pz X w P p q S N T M) (hM : M ≤ 268435456) (n : By) (hn : n.length ≤ 4611686018427387904) (a : Int) : Calls Tryz.prog 28 #[.pointer (some ⟨q, 0, none⟩), encStr n, .int .i64 a] w fun e w' => e = .returned (.int .i64 (T.truncate n a).1) ∧ Pz X w' P p q S N (T.truncate n a).2 (M + 3) ∧ Keep (fun b => ¬ (X b ∨ b = P)) w w' := by
 obtain ⟨Y, hY, h1, h2⟩ := h.two
 refine (truncate_rx h1 hM n hn a).mono ?_
 rintro e w' ⟨rfl, ha⟩
 exact ⟨rfl, h2 _ _ _ ha⟩
theorem rename_z1 (h : Pz X w P p q S N T M) (hN : N ≤ 268435456) (f t : By) (hf : f.length ≤ 4611686018427387904) (ht : t.length ≤ 4611686018427387904) : Calls Tryz.prog 29 #[.pointer (some ⟨p, 0, none⟩), encStr f, encStr t] w fun e w' => e = .returned (.int .i64 (S.rename f t).1) ∧ Pz X w' P p q (S.rename f t).2 (N + 2) T M ∧ Keep (fun b => ¬ (X b ∨ b = P)) w w' := by
 obtain ⟨Y, hY, h1, h2⟩ := h.one
 refine (rename_ax h1 hN f t hf ht).mono ?_
 rintro e w' ⟨rfl, ha⟩
 exact ⟨rfl, h2 _ _ _ ha⟩
theorem rename_z2 (h : Pz X w P p q S N T M) (hM : M ≤ 268435456) (f t : By) (hf : f.length ≤ 4611686018427387904) (ht : t.length ≤ 4611686018427387904) : Calls Tryz.prog 30 #[.pointer (some ⟨q, 0, none⟩), encStr f, encStr t] w fun e w' => e = .returned (.int .i64 (T.rename f t).1) ∧ Pz X w' P p q S N (T.rename f t).2 (M + 2) ∧ Keep (fun b => ¬ (X b ∨ b = P)) w w' := by
 obtain ⟨Y, hY, h1, h2⟩ := h.two
 refine (rename_rx h1 hM f t hf ht).mono ?_
 rintro e w' ⟨rfl, ha⟩
 exact ⟨rfl, h2 _ _ _ ha⟩
theorem remove_z1 (h : Pz X w P p q S N T M) (hN : N ≤ 268435456) (n : By) (hn : n.length ≤ 4611686018427387904) : Calls Tryz.prog 31 #[.pointer (some ⟨p, 0, none⟩), encStr n] w fun e w' => e = .returned (.int .i64 (S.remove n).1) ∧ Pz X w' P p q (S.remove n).2 (N + 2) T M ∧ Keep (fun b => ¬ (X b ∨ b = P)) w w' := by
 obtain ⟨Y, hY, h1, h2⟩ := h.one
 refine (remove_ax h1 hN n hn).mono ?_
 rintro e w' ⟨rfl, ha⟩
 exact ⟨rfl, h2 _ _ _ ha⟩
theorem remove_z2 (h : Pz X w P p q S N T M) (hM : M ≤ 268435456) (n : By) (hn : n.length ≤ 4611686018427387904) : Calls Tryz.prog 32 #[.pointer (some ⟨q, 0, none⟩), encStr n] w fun e w' => e = .returned (.int .i64 (T.remove n).1) ∧ Pz X w' P p q S N (T.remove n).2 (M + 2) ∧ Keep (fun b => ¬ (X b ∨ b = P)) w w' := by
 obtain ⟨Y, hY, h1, h2⟩ := h.two
 refine (remove_rx h1 hM n hn).mono ?_
 rintro e w' ⟨rfl, ha⟩
 exact ⟨rfl, h2 _ _ _ ha⟩
theorem sync_z1 (h : Pz X w P p q S N T M) (hN : N ≤ 268435456) (n : By) (hn : n.length ≤ 4611686018427387904) : Calls Tryz.prog 33 #[.pointer (some ⟨p, 0, none⟩), encStr n] w fun e w' => e = .returned (.int .i64 (S.sync n).1) ∧ Pz X w' P p q (S.sync n).2 (N + 1) T M ∧ Keep (fun b => ¬ (X b ∨ b = P)) w w' := by
 obtain ⟨Y, hY, h1, h2⟩ := h.one
 refine (sync_ax h1 hN n hn).mono ?_
 rintro e w' ⟨rfl, ha⟩
 exact ⟨rfl, h2 _ _ _ ha⟩
theorem sync_z2 (h : Pz X w P p q S N T M) (hM : M ≤ 268435456) (n : By) (hn : n.length ≤ 4611686018427387904) : Calls Tryz.prog 34 #[.pointer (some ⟨q, 0, none⟩), encStr n] w fun e w' => e = .returned (.int .i64 (T.sync n).1) ∧ Pz X w' P p q S N (T.sync n).2 (M + 1) ∧ Keep (fun b => ¬ (X b ∨ b = P)) w w' := by
 obtain ⟨Y, hY, h1, h2⟩ := h.two
 refine (sync_rx h1 hM n hn).mono ?_
 rintro e w' ⟨rfl, ha⟩
 exact ⟨rfl, h2 _ _ _ ha⟩
theorem syncNames_z1 (h : Pz X w P p q S N T M) (hN : N ≤ 268435456) : Calls Tryz.prog 35 #[.pointer (some ⟨p, 0, none⟩)] w fun e w' => e = .returned (.int .i64 (S.syncNames).1) ∧ Pz X w' P p q (S.syncNames).2 (N + 1) T M ∧ Keep (fun b => ¬ (X b ∨ b = P)) w w' := by
 obtain ⟨Y, hY, h1, h2⟩ := h.one
 refine (syncNames_ax h1 hN ).mono ?_
 rintro e w' ⟨rfl, ha⟩
 exact ⟨rfl, h2 _ _ _ ha⟩
theorem syncNames_z2 (h : Pz X w P p q S N T M) (hM : M ≤ 268435456) : Calls Tryz.prog 36 #[.pointer (some ⟨q, 0, none⟩)] w fun e w' => e = .returned (.int .i64 (T.syncNames).1) ∧ Pz X w' P p q S N (T.syncNames).2 (M + 1) ∧ Keep (fun b => ¬ (X b ∨ b = P)) w w' := by
 obtain ⟨Y, hY, h1, h2⟩ := h.two
 refine (syncNames_rx h1 hM ).mono ?_
 rintro e w' ⟨rfl, ha⟩
 exact ⟨rfl, h2 _ _ _ ha⟩
theorem append_z1 (h : Pz X w P p q S N T M) (hN : N + 1048576 ≤ 268435456) (n : By) (hn : n.length ≤ 4611686018427387904) {ao : Option Addr} {m c : Nat} {d : By} (hm8 : m ≤ 4611686018427387900) (hl : d.length = m) (hs : Sl w ao d) (h0 : ao = none → m = 0 ∧ c = 0) (hfar : d ≠ [] → ∀ a, ao = some a → X a.block) : Calls Tryz.prog 25 #[.pointer (some ⟨p, 0, none⟩), encStr n, .slice ao m c] w fun e w' => e = .returned (.int .i64 (S.append n d).1) ∧ Pz X w' P p q (S.append n d).2 (N + min m 1048576 + 2) T M ∧ Keep (fun b => ¬ (X b ∨ b = P)) w w' := by
 obtain ⟨Y, hY, h1, h2⟩ := h.one
 refine (append_axm h1 (Kept.refl [] w) hN hm8 n hn hl hs (fun e => (h0 e).1) (fun hd a ha => .inr (hY _ (hfar hd a ha)))).mono ?_
 rintro e w' ⟨rfl, ha⟩
 exact ⟨rfl, h2 _ _ _ ha⟩
theorem append_z2 (h : Pz X w P p q S N T M) (hM : M + 1048576 ≤ 268435456) (n : By) (hn : n.length ≤ 4611686018427387904) {ao : Option Addr} {m c : Nat} {d : By} (hm8 : m ≤ 4611686018427387900) (hl : d.length = m) (hs : Sl w ao d) (h0 : ao = none → m = 0 ∧ c = 0) (hfar : d ≠ [] → ∀ a, ao = some a → X a.block) : Calls Tryz.prog 26 #[.pointer (some ⟨q, 0, none⟩), encStr n, .slice ao m c] w fun e w' => e = .returned (.int .i64 (T.append n d).1) ∧ Pz X w' P p q S N (T.append n d).2 (M + min m 1048576 + 2) ∧ Keep (fun b => ¬ (X b ∨ b = P)) w w' := by
 obtain ⟨Y, hY, h1, h2⟩ := h.two
 refine (append_rxm h1 n hn hM hm8 hl hs h0 (fun hd a ha => hY _ (hfar hd a ha))).mono ?_
 rintro e w' ⟨rfl, ha⟩
 exact ⟨rfl, h2 _ _ _ ha⟩
end
set_option maxHeartbeats 1600000 in
set_option maxRecDepth 100000 in
theorem be_create {X : Nat → Prop} {w : World} {P p q : Nat} {S : Ds} {N M : Nat} (h : Pz X w P p q S N S M) (name to : By) (da : Option Addr) (dn dc : Nat) (ds : By) (n po pf pt : Int) (pa : Option Addr) (pn pc : Nat) (hnm : name.length ≤ 4611686018427387904) (htm : to.length ≤ 4611686018427387904) (hN : N + 1 ≤ 268435456) (hM : M + 1 ≤ 268435456) :
  Calls Tryz.prog 8 #[.pointer (some ⟨P, 0, none⟩), .agg #[.int .i64 5, encStr name, encStr to, .slice da dn dc, .int .i64 n, .int .i64 po, .int .i64 pf, .int .i64 pt, .slice pa pn pc]] w fun e w' => e = .returned (.bool true) ∧ Pz X w' P p q (S.create name).2 (N + 1) (S.create name).2 (M + 1) ∧ Keep (fun b => ¬ X b) w w' := by
 obtain ⟨w1, hw1⟩ : ∃ w1, w1 = w.alloc (.cells #[.int .i64 5, encStr name, encStr to, .slice da dn dc, .int .i64 n, .int .i64 po, .int .i64 pf, .int .i64 pt, .slice pa pn pc] 33) := ⟨_, rfl⟩
 obtain ⟨h1, hR, hk1⟩ := h.box [.int .i64 5, encStr name, encStr to, .slice da dn dc, .int .i64 n, .int .i64 po, .int .i64 pf, .int .i64 pt, .slice pa pn pc] 33 hw1
 have i0 : w1.cell? ⟨w.heap.size, 0, none⟩ = some (.int .i64 5) := hR.bx 0 _ rfl
 have HK : Hid (Keep (fun b => ¬ X b) w w1) := hide (Keep.ofNone hk1)
 skip
 clear h hk1
 go_enter Tryz.func8, Tryz.ntmps8
 go_upto_region 1 with (fail)
 rw [← hw1]
 clear hw1
 generalize w.heap.size = bx at *
 have HQ := hide h1
 have HR := hide hR
 clear h1 hR
 go_upto_region 3 with (fail)
 clear i0
 have HQ0 : Hid (Pz (fun b => X b ∨ b = bx) w1.drew P p q S N S M) := hide (HQ.out.kept ((Kept.refl [] w1).drew))
 have HK0 : Hid (Keep (fun b => ¬ X b) w w1.drew) := hide (HK.out.kept ((Kept.refl [] w1).drew))
 clear HQ HK
 refine wp_region_held_drew (S := (Rdz P p q bx [.int .i64 5, encStr name, encStr to, .slice da dn dc, .int .i64 n, .int .i64 po, .int .i64 pf, .int .i64 pt, .slice pa pn pc])) (by kernel_rfl) (HR.out.kept ((Kept.refl [] w1).drew)) (fun h0 => ?_)
 generalize World.drew w1 = v0 at h0 HQ0 HK0 ⊢
 refine wpAnyH_take (i := 0) (v := .pointer (some ⟨P, 0, none⟩)) rfl (by kernel_rfl) (by kernel_rfl) (by kernel_rfl) (fun _ _ _ h => h) (Or.inl ⟨by rfl, fun w hSw => by go_simp⟩) h0 ?_
 try simp only [z1, z2, z3, z4, z5, z6, z7, z8]
 refine wpAnyH_take (i := 1) (v := .pointer (some ⟨P, 0, none⟩)) rfl (by kernel_rfl) (by kernel_rfl) (by kernel_rfl) (fun _ _ _ h => h) (Or.inl ⟨by rfl, fun w hSw => by go_simp⟩) h0 ?_
 try simp only [z1, z2, z3, z4, z5, z6, z7, z8]
 refine wpAnyH_take (i := 2) (v := .pointer (some ⟨P, 0, none⟩)) rfl (by kernel_rfl) (by kernel_rfl) (by kernel_rfl) (fun _ _ _ h => h) (Or.inl ⟨by rfl, fun w hSw => by go_simp⟩) h0 ?_
 try simp only [z1, z2, z3, z4, z5, z6, z7, z8]
 refine wpAnyH_take (i := 3) (v := .pointer (some ⟨p, 0, none⟩)) rfl (by kernel_rfl) (by kernel_rfl) (by kernel_rfl) (fun _ _ _ h => h) (Or.inl ⟨by rfl, fun w hSw => by have c0 := hSw.p0; go_simp⟩) h0 ?_
 try simp only [z1, z2, z3, z4, z5, z6, z7, z8]
 refine wpAnyH_take (i := 4) (v := .pointer (some ⟨bx, 1, none⟩)) rfl (by kernel_rfl) (by kernel_rfl) (by kernel_rfl) (fun _ _ _ h => h) (Or.inl ⟨by rfl, fun w hSw => by go_simp⟩) h0 ?_
 try simp only [z1, z2, z3, z4, z5, z6, z7, z8]
 refine wpAnyH_take (i := 5) (v := encStr name) rfl (by kernel_rfl) (by kernel_rfl) (by kernel_rfl) (fun _ _ _ h => h) (Or.inl ⟨by rfl, fun w hSw => by have c0 := hSw.bx 1 _ rfl; go_simp⟩) h0 ?_
 try simp only [z1, z2, z3, z4, z5, z6, z7, z8]
 refine wpAnyH_take (i := 7) (v := .pointer (some ⟨P, 0, none⟩)) rfl (by kernel_rfl) (by kernel_rfl) (by kernel_rfl) (fun _ _ _ h => h) (Or.inl ⟨by rfl, fun w hSw => by go_simp⟩) h0 ?_
 try simp only [z1, z2, z3, z4, z5, z6, z7, z8]
 refine wpAnyH_take (i := 8) (v := .pointer (some ⟨P, 0, none⟩)) rfl (by kernel_rfl) (by kernel_rfl) (by kernel_rfl) (fun _ _ _ h => h) (Or.inl ⟨by rfl, fun w hSw => by go_simp⟩) h0 ?_
 try simp only [z1, z2, z3, z4, z5, z6, z7, z8]
 refine wpAnyH_take (i := 9) (v := .pointer (some ⟨P, 1, none⟩)) rfl (by kernel_rfl) (by kernel_rfl) (by kernel_rfl) (fun _ _ _ h => h) (Or.inl ⟨by rfl, fun w hSw => by go_simp⟩) h0 ?_
 try simp only [z1, z2, z3, z4, z5, z6, z7, z8]
 refine wpAnyH_take (i := 10) (v := .pointer (some ⟨q, 0, none⟩)) rfl (by kernel_rfl) (by kernel_rfl) (by kernel_rfl) (fun _ _ _ h => h) (Or.inl ⟨by rfl, fun w hSw => by have c0 := hSw.p1; go_simp⟩) h0 ?_
 try simp only [z1, z2, z3, z4, z5, z6, z7, z8]
 refine wpAnyH_take (i := 11) (v := .pointer (some ⟨bx, 1, none⟩)) rfl (by kernel_rfl) (by kernel_rfl) (by kernel_rfl) (fun _ _ _ h => h) (Or.inl ⟨by rfl, fun w hSw => by go_simp⟩) h0 ?_
 try simp only [z1, z2, z3, z4, z5, z6, z7, z8]
 refine wpAnyH_take (i := 12) (v := encStr name) rfl (by kernel_rfl) (by kernel_rfl) (by kernel_rfl) (fun _ _ _ h => h) (Or.inl ⟨by rfl, fun w hSw => by have c0 := hSw.bx 1 _ rfl; go_simp⟩) h0 ?_
 try simp only [z1, z2, z3, z4, z5, z6, z7, z8]
 refine wpAnyH_ready (rs := [6]) (by kernel_rfl) (by simp) (AllReadyH.cons (i := 6) rfl (fun K hK => ?_) AllReadyH.nil)
 rw [if_pos (by rfl)]
 go_simp
 refine (create_z1 HQ0.out (by omega) name hnm).mono ?_
 rintro e v1 ⟨rfl, hq, hk⟩
 have HQ1 := hide hq
 have HK1 : Hid (Keep (fun b => ¬ X b) w v1) := hide (HK0.out.trans hk (fun b hb _ hx => hb (.inl (.inl hx))))
 clear hq HQ0 HK0
 refine hK.out _ _ (h0.mv hk (.inr rfl)) (fun h1 => ?_)
 clear hK K
 try simp only [z1, z2, z3, z4, z5, z6, z7, z8]
 refine wpAnyH_ready (rs := [13]) (by kernel_rfl) (by simp) (AllReadyH.cons (i := 13) rfl (fun K hK => ?_) AllReadyH.nil)
 rw [if_pos (by rfl)]
 go_simp
 refine (create_z2 HQ1.out (by omega) name hnm).mono ?_
 rintro e v2 ⟨rfl, hq, hk⟩
 have HQ2 := hide hq
 have HK2 : Hid (Keep (fun b => ¬ X b) w v2) := hide (HK1.out.trans hk (fun b hb _ hx => hb (.inl (.inl hx))))
 clear hq HQ1 HK1
 refine hK.out _ _ (h1.mv hk (.inr rfl)) (fun h2 => ?_)
 clear hK K
 try simp only [z1, z2, z3, z4, z5, z6, z7, z8]
 refine wpAnyH_take (i := 14) (v := .bool true) rfl (by kernel_rfl) (by kernel_rfl) (by kernel_rfl) (fun _ _ _ h => h) (Or.inl ⟨by rfl, fun w hSw => by go_simp⟩) h2 ?_
 try simp only [z1, z2, z3, z4, z5, z6, z7, z8]
 refine wpAnyH_take (i := 15) (v := .bool true) rfl (by kernel_rfl) (by kernel_rfl) (by kernel_rfl) (fun _ _ _ h => h) (Or.inl ⟨by rfl, fun w hSw => by go_simp⟩) h2 ?_
 try simp only [z1, z2, z3, z4, z5, z6, z7, z8]
 refine wpAnyH_done (by kernel_rfl) ?_ _
 go_wp2
 go_ret
 exact ⟨rfl, HQ2.out.less (fun _ h => .inl h), HK2.out⟩
set_option maxHeartbeats 1600000 in
set_option maxRecDepth 100000 in
theorem be_append {X : Nat → Prop} {w : World} {P p q : Nat} {S : Ds} {N M : Nat} (h : Pz X w P p q S N S M) (name to : By) (da : Option Addr) (dn dc : Nat) (ds : By) (n po pf pt : Int) (pa : Option Addr) (pn pc : Nat) (hnm : name.length ≤ 4611686018427387904) (htm : to.length ≤ 4611686018427387904) (hd8 : dn ≤ 4611686018427387900) (hl : ds.length = dn) (hs : Sl w da ds) (hda0 : da = none → dn = 0 ∧ dc = 0) (hfar : ds ≠ [] → ∀ a, da = some a → X a.block) (hN : N + 1048580 ≤ 268435456) (hM : M + 1048580 ≤ 268435456) :
  Calls Tryz.prog 8 #[.pointer (some ⟨P, 0, none⟩), .agg #[.int .i64 6, encStr name, encStr to, .slice da dn dc, .int .i64 n, .int .i64 po, .int .i64 pf, .int .i64 pt, .slice pa pn pc]] w fun e w' => e = .returned (.bool true) ∧ Pz X w' P p q (S.append name ds).2 (N + min dn 1048576 + 2) (S.append name ds).2 (M + min dn 1048576 + 2) ∧ Keep (fun b => ¬ X b) w w' := by
 obtain ⟨w1, hw1⟩ : ∃ w1, w1 = w.alloc (.cells #[.int .i64 6, encStr name, encStr to, .slice da dn dc, .int .i64 n, .int .i64 po, .int .i64 pf, .int .i64 pt, .slice pa pn pc] 33) := ⟨_, rfl⟩
 obtain ⟨h1, hR, hk1⟩ := h.box [.int .i64 6, encStr name, encStr to, .slice da dn dc, .int .i64 n, .int .i64 po, .int .i64 pf, .int .i64 pt, .slice pa pn pc] 33 hw1
 have i0 : w1.cell? ⟨w.heap.size, 0, none⟩ = some (.int .i64 6) := hR.bx 0 _ rfl
 have HK : Hid (Keep (fun b => ¬ X b) w w1) := hide (Keep.ofNone hk1)
 have HSD : Hid (Sl w1 da ds) := hide (hs.kept hk1 (by simp))
 clear h hk1 hs
 go_enter Tryz.func8, Tryz.ntmps8
 go_upto_region 1 with (fail)
 rw [← hw1]
 clear hw1
 generalize w.heap.size = bx at *
 have HQ := hide h1
 have HR := hide hR
 clear h1 hR
 go_upto_region 5 with (fail)
 clear i0
 have HQ0 : Hid (Pz (fun b => X b ∨ b = bx) w1.drew P p q S N S M) := hide (HQ.out.kept ((Kept.refl [] w1).drew))
 have HK0 : Hid (Keep (fun b => ¬ X b) w w1.drew) := hide (HK.out.kept ((Kept.refl [] w1).drew))
 clear HQ HK
 have HS0 : Hid (Sl w1.drew da ds) := hide (HSD.out.kept ((Kept.refl [] w1).drew) (by simp))
 clear HSD
 refine wp_region_held_drew (S := (Rdz P p q bx [.int .i64 6, encStr name, encStr to, .slice da dn dc, .int .i64 n, .int .i64 po, .int .i64 pf, .int .i64 pt, .slice pa pn pc])) (by kernel_rfl) (HR.out.kept ((Kept.refl [] w1).drew)) (fun h0 => ?_)
 generalize World.drew w1 = v0 at h0 HQ0 HK0 HS0 ⊢
 refine wpAnyH_take (i := 0) (v := .pointer (some ⟨P, 0, none⟩)) rfl (by kernel_rfl) (by kernel_rfl) (by kernel_rfl) (fun _ _ _ h => h) (Or.inl ⟨by rfl, fun w hSw => by go_simp⟩) h0 ?_
 try simp only [z1, z2, z3, z4, z5, z6, z7, z8]
 refine wpAnyH_take (i := 1) (v := .pointer (some ⟨P, 0, none⟩)) rfl (by kernel_rfl) (by kernel_rfl) (by kernel_rfl) (fun _ _ _ h => h) (Or.inl ⟨by rfl, fun w hSw => by go_simp⟩) h0 ?_
 try simp only [z1, z2, z3, z4, z5, z6, z7, z8]
 refine wpAnyH_take (i := 2) (v := .pointer (some ⟨P, 0, none⟩)) rfl (by kernel_rfl) (by kernel_rfl) (by kernel_rfl) (fun _ _ _ h => h) (Or.inl ⟨by rfl, fun w hSw => by go_simp⟩) h0 ?_
 try simp only [z1, z2, z3, z4, z5, z6, z7, z8]
 refine wpAnyH_take (i := 3) (v := .pointer (some ⟨p, 0, none⟩)) rfl (by kernel_rfl) (by kernel_rfl) (by kernel_rfl) (fun _ _ _ h => h) (Or.inl ⟨by rfl, fun w hSw => by have c0 := hSw.p0; go_simp⟩) h0 ?_
 try simp only [z1, z2, z3, z4, z5, z6, z7, z8]
 refine wpAnyH_take (i := 4) (v := .pointer (some ⟨bx, 1, none⟩)) rfl (by kernel_rfl) (by kernel_rfl) (by kernel_rfl) (fun _ _ _ h => h) (Or.inl ⟨by rfl, fun w hSw => by go_simp⟩) h0 ?_
 try simp only [z1, z2, z3, z4, z5, z6, z7, z8]
 refine wpAnyH_take (i := 5) (v := encStr name) rfl (by kernel_rfl) (by kernel_rfl) (by kernel_rfl) (fun _ _ _ h => h) (Or.inl ⟨by rfl, fun w hSw => by have c0 := hSw.bx 1 _ rfl; go_simp⟩) h0 ?_
 try simp only [z1, z2, z3, z4, z5, z6, z7, z8]
 refine wpAnyH_take (i := 6) (v := .pointer (some ⟨bx, 3, none⟩)) rfl (by kernel_rfl) (by kernel_rfl) (by kernel_rfl) (fun _ _ _ h => h) (Or.inl ⟨by rfl, fun w hSw => by go_simp⟩) h0 ?_
 try simp only [z1, z2, z3, z4, z5, z6, z7, z8]
 refine wpAnyH_take (i := 7) (v := .slice da dn dc) rfl (by kernel_rfl) (by kernel_rfl) (by kernel_rfl) (fun _ _ _ h => h) (Or.inl ⟨by rfl, fun w hSw => by have c0 := hSw.bx 3 _ rfl; go_simp⟩) h0 ?_
 try simp only [z1, z2, z3, z4, z5, z6, z7, z8]
 refine wpAnyH_take (i := 9) (v := .pointer (some ⟨P, 0, none⟩)) rfl (by kernel_rfl) (by kernel_rfl) (by kernel_rfl) (fun _ _ _ h => h) (Or.inl ⟨by rfl, fun w hSw => by go_simp⟩) h0 ?_
 try simp only [z1, z2, z3, z4, z5, z6, z7, z8]
 refine wpAnyH_take (i := 10) (v := .pointer (some ⟨P, 0, none⟩)) rfl (by kernel_rfl) (by kernel_rfl) (by kernel_rfl) (fun _ _ _ h => h) (Or.inl ⟨by rfl, fun w hSw => by go_simp⟩) h0 ?_
 try simp only [z1, z2, z3, z4, z5, z6, z7, z8]
 refine wpAnyH_take (i := 11) (v := .pointer (some ⟨P, 1, none⟩)) rfl (by kernel_rfl) (by kernel_rfl) (by kernel_rfl) (fun _ _ _ h => h) (Or.inl ⟨by rfl, fun w hSw => by go_simp⟩) h0 ?_
 try simp only [z1, z2, z3, z4, z5, z6, z7, z8]
 refine wpAnyH_take (i := 12) (v := .pointer (some ⟨q, 0, none⟩)) rfl (by kernel_rfl) (by kernel_rfl) (by kernel_rfl) (fun _ _ _ h => h) (Or.inl ⟨by rfl, fun w hSw => by have c0 := hSw.p1; go_simp⟩) h0 ?_
 try simp only [z1, z2, z3, z4, z5, z6, z7, z8]
 refine wpAnyH_take (i := 13) (v := .pointer (some ⟨bx, 1, none⟩)) rfl (by kernel_rfl) (by kernel_rfl) (by kernel_rfl) (fun _ _ _ h => h) (Or.inl ⟨by rfl, fun w hSw => by go_simp⟩) h0 ?_
 try simp only [z1, z2, z3, z4, z5, z6, z7, z8]
 refine wpAnyH_take (i := 14) (v := encStr name) rfl (by kernel_rfl) (by kernel_rfl) (by kernel_rfl) (fun _ _ _ h => h) (Or.inl ⟨by rfl, fun w hSw => by have c0 := hSw.bx 1 _ rfl; go_simp⟩) h0 ?_
 try simp only [z1, z2, z3, z4, z5, z6, z7, z8]
 refine wpAnyH_take (i := 15) (v := .pointer (some ⟨bx, 3, none⟩)) rfl (by kernel_rfl) (by kernel_rfl) (by kernel_rfl) (fun _ _ _ h => h) (Or.inl ⟨by rfl, fun w hSw => by go_simp⟩) h0 ?_
 try simp only [z1, z2, z3, z4, z5, z6, z7, z8]
 refine wpAnyH_take (i := 16) (v := .slice da dn dc) rfl (by kernel_rfl) (by kernel_rfl) (by kernel_rfl) (fun _ _ _ h => h) (Or.inl ⟨by rfl, fun w hSw => by have c0 := hSw.bx 3 _ rfl; go_simp⟩) h0 ?_
 try simp only [z1, z2, z3, z4, z5, z6, z7, z8]
 refine wpAnyH_ready (rs := [8]) (by kernel_rfl) (by simp) (AllReadyH.cons (i := 8) rfl (fun K hK => ?_) AllReadyH.nil)
 rw [if_pos (by rfl)]
 go_simp
 refine (append_z1 HQ0.out (by omega) name hnm hd8 hl HS0.out hda0 (fun hd a ha => .inl (hfar hd a ha))).mono ?_
 rintro e v1 ⟨rfl, hq, hk⟩
 have HQ1 := hide hq
 have HK1 : Hid (Keep (fun b => ¬ X b) w v1) := hide (HK0.out.trans hk (fun b hb _ hx => hb (.inl (.inl hx))))
 have HS1 : Hid (Sl v1 da ds) := hide (HS0.out.keep hk (fun hd a ha hm => hm (.inl (.inl (hfar hd a ha)))))
 clear HS0
 clear hq HQ0 HK0
 refine hK.out _ _ (h0.mv hk (.inr rfl)) (fun h1 => ?_)
 clear hK K
 try simp only [z1, z2, z3, z4, z5, z6, z7, z8]
 refine wpAnyH_ready (rs := [17]) (by kernel_rfl) (by simp) (AllReadyH.cons (i := 17) rfl (fun K hK => ?_) AllReadyH.nil)
 rw [if_pos (by rfl)]
 go_simp
 refine (append_z2 HQ1.out (by omega) name hnm hd8 hl HS1.out hda0 (fun hd a ha => .inl (hfar hd a ha))).mono ?_
 rintro e v2 ⟨rfl, hq, hk⟩
 have HQ2 := hide hq
 have HK2 : Hid (Keep (fun b => ¬ X b) w v2) := hide (HK1.out.trans hk (fun b hb _ hx => hb (.inl (.inl hx))))
 clear hq HQ1 HK1
 refine hK.out _ _ (h1.mv hk (.inr rfl)) (fun h2 => ?_)
 clear hK K
 try simp only [z1, z2, z3, z4, z5, z6, z7, z8]
 refine wpAnyH_take (i := 18) (v := .bool true) rfl (by kernel_rfl) (by kernel_rfl) (by kernel_rfl) (fun _ _ _ h => h) (Or.inl ⟨by rfl, fun w hSw => by go_simp⟩) h2 ?_
 try simp only [z1, z2, z3, z4, z5, z6, z7, z8]
 refine wpAnyH_take (i := 19) (v := .bool true) rfl (by kernel_rfl) (by kernel_rfl) (by kernel_rfl) (fun _ _ _ h => h) (Or.inl ⟨by rfl, fun w hSw => by go_simp⟩) h2 ?_
 try simp only [z1, z2, z3, z4, z5, z6, z7, z8]
 refine wpAnyH_done (by kernel_rfl) ?_ _
 go_wp2
 go_ret
 exact ⟨rfl, HQ2.out.less (fun _ h => .inl h), HK2.out⟩
set_option maxHeartbeats 1600000 in
set_option maxRecDepth 100000 in
theorem be_truncate {X : Nat → Prop} {w : World} {P p q : Nat} {S : Ds} {N M : Nat} (h : Pz X w P p q S N S M) (name to : By) (da : Option Addr) (dn dc : Nat) (ds : By) (n po pf pt : Int) (pa : Option Addr) (pn pc : Nat) (hnm : name.length ≤ 4611686018427387904) (htm : to.length ≤ 4611686018427387904) (hN : N + 3 ≤ 268435456) (hM : M + 3 ≤ 268435456) :
  Calls Tryz.prog 8 #[.pointer (some ⟨P, 0, none⟩), .agg #[.int .i64 7, encStr name, encStr to, .slice da dn dc, .int .i64 n, .int .i64 po, .int .i64 pf, .int .i64 pt, .slice pa pn pc]] w fun e w' => e = .returned (.bool true) ∧ Pz X w' P p q (S.truncate name n).2 (N + 3) (S.truncate name n).2 (M + 3) ∧ Keep (fun b => ¬ X b) w w' := by
 obtain ⟨w1, hw1⟩ : ∃ w1, w1 = w.alloc (.cells #[.int .i64 7, encStr name, encStr to, .slice da dn dc, .int .i64 n, .int .i64 po, .int .i64 pf, .int .i64 pt, .slice pa pn pc] 33) := ⟨_, rfl⟩
 obtain ⟨h1, hR, hk1⟩ := h.box [.int .i64 7, encStr name, encStr to, .slice da dn dc, .int .i64 n, .int .i64 po, .int .i64 pf, .int .i64 pt, .slice pa pn pc] 33 hw1
 have i0 : w1.cell? ⟨w.heap.size, 0, none⟩ = some (.int .i64 7) := hR.bx 0 _ rfl
 have HK : Hid (Keep (fun b => ¬ X b) w w1) := hide (Keep.ofNone hk1)
 skip
 clear h hk1
 go_enter Tryz.func8, Tryz.ntmps8
 go_upto_region 1 with (fail)
 rw [← hw1]
 clear hw1
 generalize w.heap.size = bx at *
 have HQ := hide h1
 have HR := hide hR
 clear h1 hR
 go_upto_region 7 with (fail)
 clear i0
 have HQ0 : Hid (Pz (fun b => X b ∨ b = bx) w1.drew P p q S N S M) := hide (HQ.out.kept ((Kept.refl [] w1).drew))
 have HK0 : Hid (Keep (fun b => ¬ X b) w w1.drew) := hide (HK.out.kept ((Kept.refl [] w1).drew))
 clear HQ HK
 refine wp_region_held_drew (S := (Rdz P p q bx [.int .i64 7, encStr name, encStr to, .slice da dn dc, .int .i64 n, .int .i64 po, .int .i64 pf, .int .i64 pt, .slice pa pn pc])) (by kernel_rfl) (HR.out.kept ((Kept.refl [] w1).drew)) (fun h0 => ?_)
 generalize World.drew w1 = v0 at h0 HQ0 HK0 ⊢
 refine wpAnyH_take (i := 0) (v := .pointer (some ⟨P, 0, none⟩)) rfl (by kernel_rfl) (by kernel_rfl) (by kernel_rfl) (fun _ _ _ h => h) (Or.inl ⟨by rfl, fun w hSw => by go_simp⟩) h0 ?_
 try simp only [z1, z2, z3, z4, z5, z6, z7, z8]
 refine wpAnyH_take (i := 1) (v := .pointer (some ⟨P, 0, none⟩)) rfl (by kernel_rfl) (by kernel_rfl) (by kernel_rfl) (fun _ _ _ h => h) (Or.inl ⟨by rfl, fun w hSw => by go_simp⟩) h0 ?_
 try simp only [z1, z2, z3, z4, z5, z6, z7, z8]
 refine wpAnyH_take (i := 2) (v := .pointer (some ⟨P, 0, none⟩)) rfl (by kernel_rfl) (by kernel_rfl) (by kernel_rfl) (fun _ _ _ h => h) (Or.inl ⟨by rfl, fun w hSw => by go_simp⟩) h0 ?_
 try simp only [z1, z2, z3, z4, z5, z6, z7, z8]
 refine wpAnyH_take (i := 3) (v := .pointer (some ⟨p, 0, none⟩)) rfl (by kernel_rfl) (by kernel_rfl) (by kernel_rfl) (fun _ _ _ h => h) (Or.inl ⟨by rfl, fun w hSw => by have c0 := hSw.p0; go_simp⟩) h0 ?_
 try simp only [z1, z2, z3, z4, z5, z6, z7, z8]
 refine wpAnyH_take (i := 4) (v := .pointer (some ⟨bx, 1, none⟩)) rfl (by kernel_rfl) (by kernel_rfl) (by kernel_rfl) (fun _ _ _ h => h) (Or.inl ⟨by rfl, fun w hSw => by go_simp⟩) h0 ?_
 try simp only [z1, z2, z3, z4, z5, z6, z7, z8]
 refine wpAnyH_take (i := 5) (v := encStr name) rfl (by kernel_rfl) (by kernel_rfl) (by kernel_rfl) (fun _ _ _ h => h) (Or.inl ⟨by rfl, fun w hSw => by have c0 := hSw.bx 1 _ rfl; go_simp⟩) h0 ?_
 try simp only [z1, z2, z3, z4, z5, z6, z7, z8]
 refine wpAnyH_take (i := 6) (v := .pointer (some ⟨bx, 4, none⟩)) rfl (by kernel_rfl) (by kernel_rfl) (by kernel_rfl) (fun _ _ _ h => h) (Or.inl ⟨by rfl, fun w hSw => by go_simp⟩) h0 ?_
 try simp only [z1, z2, z3, z4, z5, z6, z7, z8]
 refine wpAnyH_take (i := 7) (v := .int .i64 n) rfl (by kernel_rfl) (by kernel_rfl) (by kernel_rfl) (fun _ _ _ h => h) (Or.inl ⟨by rfl, fun w hSw => by have c0 := hSw.bx 4 _ rfl; go_simp⟩) h0 ?_
 try simp only [z1, z2, z3, z4, z5, z6, z7, z8]
 refine wpAnyH_take (i := 9) (v := .pointer (some ⟨P, 0, none⟩)) rfl (by kernel_rfl) (by kernel_rfl) (by kernel_rfl) (fun _ _ _ h => h) (Or.inl ⟨by rfl, fun w hSw => by go_simp⟩) h0 ?_
 try simp only [z1, z2, z3, z4, z5, z6, z7, z8]
 refine wpAnyH_take (i := 10) (v := .pointer (some ⟨P, 0, none⟩)) rfl (by kernel_rfl) (by kernel_rfl) (by kernel_rfl) (fun _ _ _ h => h) (Or.inl ⟨by rfl, fun w hSw => by go_simp⟩) h0 ?_
 try simp only [z1, z2, z3, z4, z5, z6, z7, z8]
 refine wpAnyH_take (i := 11) (v := .pointer (some ⟨P, 1, none⟩)) rfl (by kernel_rfl) (by kernel_rfl) (by kernel_rfl) (fun _ _ _ h => h) (Or.inl ⟨by rfl, fun w hSw => by go_simp⟩) h0 ?_
 try simp only [z1, z2, z3, z4, z5, z6, z7, z8]
 refine wpAnyH_take (i := 12) (v := .pointer (some ⟨q, 0, none⟩)) rfl (by kernel_rfl) (by kernel_rfl) (by kernel_rfl) (fun _ _ _ h => h) (Or.inl ⟨by rfl, fun w hSw => by have c0 := hSw.p1; go_simp⟩) h0 ?_
 try simp only [z1, z2, z3, z4, z5, z6, z7, z8]
 refine wpAnyH_take (i := 13) (v := .pointer (some ⟨bx, 1, none⟩)) rfl (by kernel_rfl) (by kernel_rfl) (by kernel_rfl) (fun _ _ _ h => h) (Or.inl ⟨by rfl, fun w hSw => by go_simp⟩) h0 ?_
 try simp only [z1, z2, z3, z4, z5, z6, z7, z8]
 refine wpAnyH_take (i := 14) (v := encStr name) rfl (by kernel_rfl) (by kernel_rfl) (by kernel_rfl) (fun _ _ _ h => h) (Or.inl ⟨by rfl, fun w hSw => by have c0 := hSw.bx 1 _ rfl; go_simp⟩) h0 ?_
 try simp only [z1, z2, z3, z4, z5, z6, z7, z8]
 refine wpAnyH_take (i := 15) (v := .pointer (some ⟨bx, 4, none⟩)) rfl (by kernel_rfl) (by kernel_rfl) (by kernel_rfl) (fun _ _ _ h => h) (Or.inl ⟨by rfl, fun w hSw => by go_simp⟩) h0 ?_
 try simp only [z1, z2, z3, z4, z5, z6, z7, z8]
 refine wpAnyH_take (i := 16) (v := .int .i64 n) rfl (by kernel_rfl) (by kernel_rfl) (by kernel_rfl) (fun _ _ _ h => h) (Or.inl ⟨by rfl, fun w hSw => by have c0 := hSw.bx 4 _ rfl; go_simp⟩) h0 ?_
 try simp only [z1, z2, z3, z4, z5, z6, z7, z8]
 refine wpAnyH_ready (rs := [8]) (by kernel_rfl) (by simp) (AllReadyH.cons (i := 8) rfl (fun K hK => ?_) AllReadyH.nil)
 rw [if_pos (by rfl)]
 go_simp
 refine (truncate_z1 HQ0.out (by omega) name hnm n).mono ?_
 rintro e v1 ⟨rfl, hq, hk⟩
 have HQ1 := hide hq
 have HK1 : Hid (Keep (fun b => ¬ X b) w v1) := hide (HK0.out.trans hk (fun b hb _ hx => hb (.inl (.inl hx))))
 clear hq HQ0 HK0
 refine hK.out _ _ (h0.mv hk (.inr rfl)) (fun h1 => ?_)
 clear hK K
 try simp only [z1, z2, z3, z4, z5, z6, z7, z8]
 refine wpAnyH_ready (rs := [17]) (by kernel_rfl) (by simp) (AllReadyH.cons (i := 17) rfl (fun K hK => ?_) AllReadyH.nil)
 rw [if_pos (by rfl)]
 go_simp
 refine (truncate_z2 HQ1.out (by omega) name hnm n).mono ?_
 rintro e v2 ⟨rfl, hq, hk⟩
 have HQ2 := hide hq
 have HK2 : Hid (Keep (fun b => ¬ X b) w v2) := hide (HK1.out.trans hk (fun b hb _ hx => hb (.inl (.inl hx))))
 clear hq HQ1 HK1
 refine hK.out _ _ (h1.mv hk (.inr rfl)) (fun h2 => ?_)
 clear hK K
 try simp only [z1, z2, z3, z4, z5, z6, z7, z8]
 refine wpAnyH_take (i := 18) (v := .bool true) rfl (by kernel_rfl) (by kernel_rfl) (by kernel_rfl) (fun _ _ _ h => h) (Or.inl ⟨by rfl, fun w hSw => by go_simp⟩) h2 ?_
 try simp only [z1, z2, z3, z4, z5, z6, z7, z8]
 refine wpAnyH_take (i := 19) (v := .bool true) rfl (by kernel_rfl) (by kernel_rfl) (by kernel_rfl) (fun _ _ _ h => h) (Or.inl ⟨by rfl, fun w hSw => by go_simp⟩) h2 ?_
 try simp only [z1, z2, z3, z4, z5, z6, z7, z8]
 refine wpAnyH_done (by kernel_rfl) ?_ _
 go_wp2
 go_ret
 exact ⟨rfl, HQ2.out.less (fun _ h => .inl h), HK2.out⟩
set_option maxHeartbeats 1600000 in
set_option maxRecDepth 100000 in
theorem be_rename {X : Nat → Prop} {w : World} {P p q : Nat} {S : Ds} {N M : Nat} (h : Pz X w P p q S N S M) (name to : By) (da : Option Addr) (dn dc : Nat) (ds : By) (n po pf pt : Int) (pa : Option Addr) (pn pc : Nat) (hnm : name.length ≤ 4611686018427387904) (htm : to.length ≤ 4611686018427387904) (hN : N + 2 ≤ 268435456) (hM : M + 2 ≤ 268435456) :
  Calls Tryz.prog 8 #[.pointer (some ⟨P, 0, none⟩), .agg #[.int .i64 8, encStr name, encStr to, .slice da dn dc, .int .i64 n, .int .i64 po, .int .i64 pf, .int .i64 pt, .slice pa pn pc]] w fun e w' => e = .returned (.bool true) ∧ Pz X w' P p q (S.rename name to).2 (N + 2) (S.rename name to).2 (M + 2) ∧ Keep (fun b => ¬ X b) w w' := by
 obtain ⟨w1, hw1⟩ : ∃ w1, w1 = w.alloc (.cells #[.int .i64 8, encStr name, encStr to, .slice da dn dc, .int .i64 n, .int .i64 po, .int .i64 pf, .int .i64 pt, .slice pa pn pc] 33) := ⟨_, rfl⟩
 obtain ⟨h1, hR, hk1⟩ := h.box [.int .i64 8, encStr name, encStr to, .slice da dn dc, .int .i64 n, .int .i64 po, .int .i64 pf, .int .i64 pt, .slice pa pn pc] 33 hw1
 have i0 : w1.cell? ⟨w.heap.size, 0, none⟩ = some (.int .i64 8) := hR.bx 0 _ rfl
 have HK : Hid (Keep (fun b => ¬ X b) w w1) := hide (Keep.ofNone hk1)
 skip
 clear h hk1
 go_enter Tryz.func8, Tryz.ntmps8
 go_upto_region 1 with (fail)
 rw [← hw1]
 clear hw1
 generalize w.heap.size = bx at *
 have HQ := hide h1
 have HR := hide hR
 clear h1 hR
 go_upto_region 9 with (fail)
 clear i0
 have HQ0 : Hid (Pz (fun b => X b ∨ b = bx) w1.drew P p q S N S M) := hide (HQ.out.kept ((Kept.refl [] w1).drew))
 have HK0 : Hid (Keep (fun b => ¬ X b) w w1.drew) := hide (HK.out.kept ((Kept.refl [] w1).drew))
 clear HQ HK
 refine wp_region_held_drew (S := (Rdz P p q bx [.int .i64 8, encStr name, encStr to, .slice da dn dc, .int .i64 n, .int .i64 po, .int .i64 pf, .int .i64 pt, .slice pa pn pc])) (by kernel_rfl) (HR.out.kept ((Kept.refl [] w1).drew)) (fun h0 => ?_)
 generalize World.drew w1 = v0 at h0 HQ0 HK0 ⊢
 refine wpAnyH_take (i := 0) (v := .pointer (some ⟨P, 0, none⟩)) rfl (by kernel_rfl) (by kernel_rfl) (by kernel_rfl) (fun _ _ _ h => h) (Or.inl ⟨by rfl, fun w hSw => by go_simp⟩) h0 ?_
 try simp only [z1, z2, z3, z4, z5, z6, z7, z8]
 refine wpAnyH_take (i := 1) (v := .pointer (some ⟨P, 0, none⟩)) rfl (by kernel_rfl) (by kernel_rfl) (by kernel_rfl) (fun _ _ _ h => h) (Or.inl ⟨by rfl, fun w hSw => by go_simp⟩) h0 ?_
 try simp only [z1, z2, z3, z4, z5, z6, z7, z8]
 refine wpAnyH_take (i := 2) (v := .pointer (some ⟨P, 0, none⟩)) rfl (by kernel_rfl) (by kernel_rfl) (by kernel_rfl) (fun _ _ _ h => h) (Or.inl ⟨by rfl, fun w hSw => by go_simp⟩) h0 ?_
 try simp only [z1, z2, z3, z4, z5, z6, z7, z8]
 refine wpAnyH_take (i := 3) (v := .pointer (some ⟨p, 0, none⟩)) rfl (by kernel_rfl) (by kernel_rfl) (by kernel_rfl) (fun _ _ _ h => h) (Or.inl ⟨by rfl, fun w hSw => by have c0 := hSw.p0; go_simp⟩) h0 ?_
 try simp only [z1, z2, z3, z4, z5, z6, z7, z8]
 refine wpAnyH_take (i := 4) (v := .pointer (some ⟨bx, 1, none⟩)) rfl (by kernel_rfl) (by kernel_rfl) (by kernel_rfl) (fun _ _ _ h => h) (Or.inl ⟨by rfl, fun w hSw => by go_simp⟩) h0 ?_
 try simp only [z1, z2, z3, z4, z5, z6, z7, z8]
 refine wpAnyH_take (i := 5) (v := encStr name) rfl (by kernel_rfl) (by kernel_rfl) (by kernel_rfl) (fun _ _ _ h => h) (Or.inl ⟨by rfl, fun w hSw => by have c0 := hSw.bx 1 _ rfl; go_simp⟩) h0 ?_
 try simp only [z1, z2, z3, z4, z5, z6, z7, z8]
 refine wpAnyH_take (i := 6) (v := .pointer (some ⟨bx, 2, none⟩)) rfl (by kernel_rfl) (by kernel_rfl) (by kernel_rfl) (fun _ _ _ h => h) (Or.inl ⟨by rfl, fun w hSw => by go_simp⟩) h0 ?_
 try simp only [z1, z2, z3, z4, z5, z6, z7, z8]
 refine wpAnyH_take (i := 7) (v := encStr to) rfl (by kernel_rfl) (by kernel_rfl) (by kernel_rfl) (fun _ _ _ h => h) (Or.inl ⟨by rfl, fun w hSw => by have c0 := hSw.bx 2 _ rfl; go_simp⟩) h0 ?_
 try simp only [z1, z2, z3, z4, z5, z6, z7, z8]
 refine wpAnyH_take (i := 9) (v := .pointer (some ⟨P, 0, none⟩)) rfl (by kernel_rfl) (by kernel_rfl) (by kernel_rfl) (fun _ _ _ h => h) (Or.inl ⟨by rfl, fun w hSw => by go_simp⟩) h0 ?_
 try simp only [z1, z2, z3, z4, z5, z6, z7, z8]
 refine wpAnyH_take (i := 10) (v := .pointer (some ⟨P, 0, none⟩)) rfl (by kernel_rfl) (by kernel_rfl) (by kernel_rfl) (fun _ _ _ h => h) (Or.inl ⟨by rfl, fun w hSw => by go_simp⟩) h0 ?_
 try simp only [z1, z2, z3, z4, z5, z6, z7, z8]
 refine wpAnyH_take (i := 11) (v := .pointer (some ⟨P, 1, none⟩)) rfl (by kernel_rfl) (by kernel_rfl) (by kernel_rfl) (fun _ _ _ h => h) (Or.inl ⟨by rfl, fun w hSw => by go_simp⟩) h0 ?_
 try simp only [z1, z2, z3, z4, z5, z6, z7, z8]
 refine wpAnyH_take (i := 12) (v := .pointer (some ⟨q, 0, none⟩)) rfl (by kernel_rfl) (by kernel_rfl) (by kernel_rfl) (fun _ _ _ h => h) (Or.inl ⟨by rfl, fun w hSw => by have c0 := hSw.p1; go_simp⟩) h0 ?_
 try simp only [z1, z2, z3, z4, z5, z6, z7, z8]
 refine wpAnyH_take (i := 13) (v := .pointer (some ⟨bx, 1, none⟩)) rfl (by kernel_rfl) (by kernel_rfl) (by kernel_rfl) (fun _ _ _ h => h) (Or.inl ⟨by rfl, fun w hSw => by go_simp⟩) h0 ?_
 try simp only [z1, z2, z3, z4, z5, z6, z7, z8]
 refine wpAnyH_take (i := 14) (v := encStr name) rfl (by kernel_rfl) (by kernel_rfl) (by kernel_rfl) (fun _ _ _ h => h) (Or.inl ⟨by rfl, fun w hSw => by have c0 := hSw.bx 1 _ rfl; go_simp⟩) h0 ?_
 try simp only [z1, z2, z3, z4, z5, z6, z7, z8]
 refine wpAnyH_take (i := 15) (v := .pointer (some ⟨bx, 2, none⟩)) rfl (by kernel_rfl) (by kernel_rfl) (by kernel_rfl) (fun _ _ _ h => h) (Or.inl ⟨by rfl, fun w hSw => by go_simp⟩) h0 ?_
 try simp only [z1, z2, z3, z4, z5, z6, z7, z8]
 refine wpAnyH_take (i := 16) (v := encStr to) rfl (by kernel_rfl) (by kernel_rfl) (by kernel_rfl) (fun _ _ _ h => h) (Or.inl ⟨by rfl, fun w hSw => by have c0 := hSw.bx 2 _ rfl; go_simp⟩) h0 ?_
 try simp only [z1, z2, z3, z4, z5, z6, z7, z8]
 refine wpAnyH_ready (rs := [8]) (by kernel_rfl) (by simp) (AllReadyH.cons (i := 8) rfl (fun K hK => ?_) AllReadyH.nil)
 rw [if_pos (by rfl)]
 go_simp
 refine (rename_z1 HQ0.out (by omega) name to hnm htm).mono ?_
 rintro e v1 ⟨rfl, hq, hk⟩
 have HQ1 := hide hq
 have HK1 : Hid (Keep (fun b => ¬ X b) w v1) := hide (HK0.out.trans hk (fun b hb _ hx => hb (.inl (.inl hx))))
 clear hq HQ0 HK0
 refine hK.out _ _ (h0.mv hk (.inr rfl)) (fun h1 => ?_)
 clear hK K
 try simp only [z1, z2, z3, z4, z5, z6, z7, z8]
 refine wpAnyH_ready (rs := [17]) (by kernel_rfl) (by simp) (AllReadyH.cons (i := 17) rfl (fun K hK => ?_) AllReadyH.nil)
 rw [if_pos (by rfl)]
 go_simp
 refine (rename_z2 HQ1.out (by omega) name to hnm htm).mono ?_
 rintro e v2 ⟨rfl, hq, hk⟩
 have HQ2 := hide hq
 have HK2 : Hid (Keep (fun b => ¬ X b) w v2) := hide (HK1.out.trans hk (fun b hb _ hx => hb (.inl (.inl hx))))
 clear hq HQ1 HK1
 refine hK.out _ _ (h1.mv hk (.inr rfl)) (fun h2 => ?_)
 clear hK K
 try simp only [z1, z2, z3, z4, z5, z6, z7, z8]
 refine wpAnyH_take (i := 18) (v := .bool true) rfl (by kernel_rfl) (by kernel_rfl) (by kernel_rfl) (fun _ _ _ h => h) (Or.inl ⟨by rfl, fun w hSw => by go_simp⟩) h2 ?_
 try simp only [z1, z2, z3, z4, z5, z6, z7, z8]
 refine wpAnyH_take (i := 19) (v := .bool true) rfl (by kernel_rfl) (by kernel_rfl) (by kernel_rfl) (fun _ _ _ h => h) (Or.inl ⟨by rfl, fun w hSw => by go_simp⟩) h2 ?_
 try simp only [z1, z2, z3, z4, z5, z6, z7, z8]
 refine wpAnyH_done (by kernel_rfl) ?_ _
 go_wp2
 go_ret
 exact ⟨rfl, HQ2.out.less (fun _ h => .inl h), HK2.out⟩
set_option maxHeartbeats 1600000 in
set_option maxRecDepth 100000 in
theorem be_remove {X : Nat → Prop} {w : World} {P p q : Nat} {S : Ds} {N M : Nat} (h : Pz X w P p q S N S M) (name to : By) (da : Option Addr) (dn dc : Nat) (ds : By) (n po pf pt : Int) (pa : Option Addr) (pn pc : Nat) (hnm : name.length ≤ 4611686018427387904) (htm : to.length ≤ 4611686018427387904) (hN : N + 2 ≤ 268435456) (hM : M + 2 ≤ 268435456) :
  Calls Tryz.prog 8 #[.pointer (some ⟨P, 0, none⟩), .agg #[.int .i64 9, encStr name, encStr to, .slice da dn dc, .int .i64 n, .int .i64 po, .int .i64 pf, .int .i64 pt, .slice pa pn pc]] w fun e w' => e = .returned (.bool true) ∧ Pz X w' P p q (S.remove name).2 (N + 2) (S.remove name).2 (M + 2) ∧ Keep (fun b => ¬ X b) w w' := by
 obtain ⟨w1, hw1⟩ : ∃ w1, w1 = w.alloc (.cells #[.int .i64 9, encStr name, encStr to, .slice da dn dc, .int .i64 n, .int .i64 po, .int .i64 pf, .int .i64 pt, .slice pa pn pc] 33) := ⟨_, rfl⟩
 obtain ⟨h1, hR, hk1⟩ := h.box [.int .i64 9, encStr name, encStr to, .slice da dn dc, .int .i64 n, .int .i64 po, .int .i64 pf, .int .i64 pt, .slice pa pn pc] 33 hw1
 have i0 : w1.cell? ⟨w.heap.size, 0, none⟩ = some (.int .i64 9) := hR.bx 0 _ rfl
 have HK : Hid (Keep (fun b => ¬ X b) w w1) := hide (Keep.ofNone hk1)
 skip
 clear h hk1
 go_enter Tryz.func8, Tryz.ntmps8
 go_upto_region 1 with (fail)
 rw [← hw1]
 clear hw1
 generalize w.heap.size = bx at *
 have HQ := hide h1
 have HR := hide hR
 clear h1 hR
 go_upto_region 11 with (fail)
 clear i0
 have HQ0 : Hid (Pz (fun b => X b ∨ b = bx) w1.drew P p q S N S M) := hide (HQ.out.kept ((Kept.refl [] w1).drew))
 have HK0 : Hid (Keep (fun b => ¬ X b) w w1.drew) := hide (HK.out.kept ((Kept.refl [] w1).drew))
 clear HQ HK
 refine wp_region_held_drew (S := (Rdz P p q bx [.int .i64 9, encStr name, encStr to, .slice da dn dc, .int .i64 n, .int .i64 po, .int .i64 pf, .int .i64 pt, .slice pa pn pc])) (by kernel_rfl) (HR.out.kept ((Kept.refl [] w1).drew)) (fun h0 => ?_)
 generalize World.drew w1 = v0 at h0 HQ0 HK0 ⊢
 refine wpAnyH_take (i := 0) (v := .pointer (some ⟨P, 0, none⟩)) rfl (by kernel_rfl) (by kernel_rfl) (by kernel_rfl) (fun _ _ _ h => h) (Or.inl ⟨by rfl, fun w hSw => by go_simp⟩) h0 ?_
 try simp only [z1, z2, z3, z4, z5, z6, z7, z8]
 refine wpAnyH_take (i := 1) (v := .pointer (some ⟨P, 0, none⟩)) rfl (by kernel_rfl) (by kernel_rfl) (by kernel_rfl) (fun _ _ _ h => h) (Or.inl ⟨by rfl, fun w hSw => by go_simp⟩) h0 ?_
 try simp only [z1, z2, z3, z4, z5, z6, z7, z8]
 refine wpAnyH_take (i := 2) (v := .pointer (some ⟨P, 0, none⟩)) rfl (by kernel_rfl) (by kernel_rfl) (by kernel_rfl) (fun _ _ _ h => h) (Or.inl ⟨by rfl, fun w hSw => by go_simp⟩) h0 ?_
 try simp only [z1, z2, z3, z4, z5, z6, z7, z8]
 refine wpAnyH_take (i := 3) (v := .pointer (some ⟨p, 0, none⟩)) rfl (by kernel_rfl) (by kernel_rfl) (by kernel_rfl) (fun _ _ _ h => h) (Or.inl ⟨by rfl, fun w hSw => by have c0 := hSw.p0; go_simp⟩) h0 ?_
 try simp only [z1, z2, z3, z4, z5, z6, z7, z8]
 refine wpAnyH_take (i := 4) (v := .pointer (some ⟨bx, 1, none⟩)) rfl (by kernel_rfl) (by kernel_rfl) (by kernel_rfl) (fun _ _ _ h => h) (Or.inl ⟨by rfl, fun w hSw => by go_simp⟩) h0 ?_
 try simp only [z1, z2, z3, z4, z5, z6, z7, z8]
 refine wpAnyH_take (i := 5) (v := encStr name) rfl (by kernel_rfl) (by kernel_rfl) (by kernel_rfl) (fun _ _ _ h => h) (Or.inl ⟨by rfl, fun w hSw => by have c0 := hSw.bx 1 _ rfl; go_simp⟩) h0 ?_
 try simp only [z1, z2, z3, z4, z5, z6, z7, z8]
 refine wpAnyH_take (i := 7) (v := .pointer (some ⟨P, 0, none⟩)) rfl (by kernel_rfl) (by kernel_rfl) (by kernel_rfl) (fun _ _ _ h => h) (Or.inl ⟨by rfl, fun w hSw => by go_simp⟩) h0 ?_
 try simp only [z1, z2, z3, z4, z5, z6, z7, z8]
 refine wpAnyH_take (i := 8) (v := .pointer (some ⟨P, 0, none⟩)) rfl (by kernel_rfl) (by kernel_rfl) (by kernel_rfl) (fun _ _ _ h => h) (Or.inl ⟨by rfl, fun w hSw => by go_simp⟩) h0 ?_
 try simp only [z1, z2, z3, z4, z5, z6, z7, z8]
 refine wpAnyH_take (i := 9) (v := .pointer (some ⟨P, 1, none⟩)) rfl (by kernel_rfl) (by kernel_rfl) (by kernel_rfl) (fun _ _ _ h => h) (Or.inl ⟨by rfl, fun w hSw => by go_simp⟩) h0 ?_
 try simp only [z1, z2, z3, z4, z5, z6, z7, z8]
 refine wpAnyH_take (i := 10) (v := .pointer (some ⟨q, 0, none⟩)) rfl (by kernel_rfl) (by kernel_rfl) (by kernel_rfl) (fun _ _ _ h => h) (Or.inl ⟨by rfl, fun w hSw => by have c0 := hSw.p1; go_simp⟩) h0 ?_
 try simp only [z1, z2, z3, z4, z5, z6, z7, z8]
 refine wpAnyH_take (i := 11) (v := .pointer (some ⟨bx, 1, none⟩)) rfl (by kernel_rfl) (by kernel_rfl) (by kernel_rfl) (fun _ _ _ h => h) (Or.inl ⟨by rfl, fun w hSw => by go_simp⟩) h0 ?_
 try simp only [z1, z2, z3, z4, z5, z6, z7, z8]
 refine wpAnyH_take (i := 12) (v := encStr name) rfl (by kernel_rfl) (by kernel_rfl) (by kernel_rfl) (fun _ _ _ h => h) (Or.inl ⟨by rfl, fun w hSw => by have c0 := hSw.bx 1 _ rfl; go_simp⟩) h0 ?_
 try simp only [z1, z2, z3, z4, z5, z6, z7, z8]
 refine wpAnyH_ready (rs := [6]) (by kernel_rfl) (by simp) (AllReadyH.cons (i := 6) rfl (fun K hK => ?_) AllReadyH.nil)
 rw [if_pos (by rfl)]
 go_simp
 refine (remove_z1 HQ0.out (by omega) name hnm).mono ?_
 rintro e v1 ⟨rfl, hq, hk⟩
 have HQ1 := hide hq
 have HK1 : Hid (Keep (fun b => ¬ X b) w v1) := hide (HK0.out.trans hk (fun b hb _ hx => hb (.inl (.inl hx))))
 clear hq HQ0 HK0
 refine hK.out _ _ (h0.mv hk (.inr rfl)) (fun h1 => ?_)
 clear hK K
 try simp only [z1, z2, z3, z4, z5, z6, z7, z8]
 refine wpAnyH_ready (rs := [13]) (by kernel_rfl) (by simp) (AllReadyH.cons (i := 13) rfl (fun K hK => ?_) AllReadyH.nil)
 rw [if_pos (by rfl)]
 go_simp
 refine (remove_z2 HQ1.out (by omega) name hnm).mono ?_
 rintro e v2 ⟨rfl, hq, hk⟩
 have HQ2 := hide hq
 have HK2 : Hid (Keep (fun b => ¬ X b) w v2) := hide (HK1.out.trans hk (fun b hb _ hx => hb (.inl (.inl hx))))
 clear hq HQ1 HK1
 refine hK.out _ _ (h1.mv hk (.inr rfl)) (fun h2 => ?_)
 clear hK K
 try simp only [z1, z2, z3, z4, z5, z6, z7, z8]
 refine wpAnyH_take (i := 14) (v := .bool true) rfl (by kernel_rfl) (by kernel_rfl) (by kernel_rfl) (fun _ _ _ h => h) (Or.inl ⟨by rfl, fun w hSw => by go_simp⟩) h2 ?_
 try simp only [z1, z2, z3, z4, z5, z6, z7, z8]
 refine wpAnyH_take (i := 15) (v := .bool true) rfl (by kernel_rfl) (by kernel_rfl) (by kernel_rfl) (fun _ _ _ h => h) (Or.inl ⟨by rfl, fun w hSw => by go_simp⟩) h2 ?_
 try simp only [z1, z2, z3, z4, z5, z6, z7, z8]
 refine wpAnyH_done (by kernel_rfl) ?_ _
 go_wp2
 go_ret
 exact ⟨rfl, HQ2.out.less (fun _ h => .inl h), HK2.out⟩
set_option maxHeartbeats 1600000 in
set_option maxRecDepth 100000 in
theorem be_sync {X : Nat → Prop} {w : World} {P p q : Nat} {S : Ds} {N M : Nat} (h : Pz X w P p q S N S M) (name to : By) (da : Option Addr) (dn dc : Nat) (ds : By) (n po pf pt : Int) (pa : Option Addr) (pn pc : Nat) (hnm : name.length ≤ 4611686018427387904) (htm : to.length ≤ 4611686018427387904) (hN : N + 1 ≤ 268435456) (hM : M + 1 ≤ 268435456) :
  Calls Tryz.prog 8 #[.pointer (some ⟨P, 0, none⟩), .agg #[.int .i64 10, encStr name, encStr to, .slice da dn dc, .int .i64 n, .int .i64 po, .int .i64 pf, .int .i64 pt, .slice pa pn pc]] w fun e w' => e = .returned (.bool true) ∧ Pz X w' P p q (S.sync name).2 (N + 1) (S.sync name).2 (M + 1) ∧ Keep (fun b => ¬ X b) w w' := by
 obtain ⟨w1, hw1⟩ : ∃ w1, w1 = w.alloc (.cells #[.int .i64 10, encStr name, encStr to, .slice da dn dc, .int .i64 n, .int .i64 po, .int .i64 pf, .int .i64 pt, .slice pa pn pc] 33) := ⟨_, rfl⟩
 obtain ⟨h1, hR, hk1⟩ := h.box [.int .i64 10, encStr name, encStr to, .slice da dn dc, .int .i64 n, .int .i64 po, .int .i64 pf, .int .i64 pt, .slice pa pn pc] 33 hw1
 have i0 : w1.cell? ⟨w.heap.size, 0, none⟩ = some (.int .i64 10) := hR.bx 0 _ rfl
 have HK : Hid (Keep (fun b => ¬ X b) w w1) := hide (Keep.ofNone hk1)
 skip
 clear h hk1
 go_enter Tryz.func8, Tryz.ntmps8
 go_upto_region 1 with (fail)
 rw [← hw1]
 clear hw1
 generalize w.heap.size = bx at *
 have HQ := hide h1
 have HR := hide hR
 clear h1 hR
 go_upto_region 13 with (fail)
 clear i0
 have HQ0 : Hid (Pz (fun b => X b ∨ b = bx) w1.drew P p q S N S M) := hide (HQ.out.kept ((Kept.refl [] w1).drew))
 have HK0 : Hid (Keep (fun b => ¬ X b) w w1.drew) := hide (HK.out.kept ((Kept.refl [] w1).drew))
 clear HQ HK
 refine wp_region_held_drew (S := (Rdz P p q bx [.int .i64 10, encStr name, encStr to, .slice da dn dc, .int .i64 n, .int .i64 po, .int .i64 pf, .int .i64 pt, .slice pa pn pc])) (by kernel_rfl) (HR.out.kept ((Kept.refl [] w1).drew)) (fun h0 => ?_)
 generalize World.drew w1 = v0 at h0 HQ0 HK0 ⊢
 refine wpAnyH_take (i := 0) (v := .pointer (some ⟨P, 0, none⟩)) rfl (by kernel_rfl) (by kernel_rfl) (by kernel_rfl) (fun _ _ _ h => h) (Or.inl ⟨by rfl, fun w hSw => by go_simp⟩) h0 ?_
 try simp only [z1, z2, z3, z4, z5, z6, z7, z8]
 refine wpAnyH_take (i := 1) (v := .pointer (some ⟨P, 0, none⟩)) rfl (by kernel_rfl) (by kernel_rfl) (by kernel_rfl) (fun _ _ _ h => h) (Or.inl ⟨by rfl, fun w hSw => by go_simp⟩) h0 ?_
 try simp only [z1, z2, z3, z4, z5, z6, z7, z8]
 refine wpAnyH_take (i := 2) (v := .pointer (some ⟨P, 0, none⟩)) rfl (by kernel_rfl) (by kernel_rfl) (by kernel_rfl) (fun _ _ _ h => h) (Or.inl ⟨by rfl, fun w hSw => by go_simp⟩) h0 ?_
 try simp only [z1, z2, z3, z4, z5, z6, z7, z8]
 refine wpAnyH_take (i := 3) (v := .pointer (some ⟨p, 0, none⟩)) rfl (by kernel_rfl) (by kernel_rfl) (by kernel_rfl) (fun _ _ _ h => h) (Or.inl ⟨by rfl, fun w hSw => by have c0 := hSw.p0; go_simp⟩) h0 ?_
 try simp only [z1, z2, z3, z4, z5, z6, z7, z8]
 refine wpAnyH_take (i := 4) (v := .pointer (some ⟨bx, 1, none⟩)) rfl (by kernel_rfl) (by kernel_rfl) (by kernel_rfl) (fun _ _ _ h => h) (Or.inl ⟨by rfl, fun w hSw => by go_simp⟩) h0 ?_
 try simp only [z1, z2, z3, z4, z5, z6, z7, z8]
 refine wpAnyH_take (i := 5) (v := encStr name) rfl (by kernel_rfl) (by kernel_rfl) (by kernel_rfl) (fun _ _ _ h => h) (Or.inl ⟨by rfl, fun w hSw => by have c0 := hSw.bx 1 _ rfl; go_simp⟩) h0 ?_
 try simp only [z1, z2, z3, z4, z5, z6, z7, z8]
 refine wpAnyH_take (i := 7) (v := .pointer (some ⟨P, 0, none⟩)) rfl (by kernel_rfl) (by kernel_rfl) (by kernel_rfl) (fun _ _ _ h => h) (Or.inl ⟨by rfl, fun w hSw => by go_simp⟩) h0 ?_
 try simp only [z1, z2, z3, z4, z5, z6, z7, z8]
 refine wpAnyH_take (i := 8) (v := .pointer (some ⟨P, 0, none⟩)) rfl (by kernel_rfl) (by kernel_rfl) (by kernel_rfl) (fun _ _ _ h => h) (Or.inl ⟨by rfl, fun w hSw => by go_simp⟩) h0 ?_
 try simp only [z1, z2, z3, z4, z5, z6, z7, z8]
 refine wpAnyH_take (i := 9) (v := .pointer (some ⟨P, 1, none⟩)) rfl (by kernel_rfl) (by kernel_rfl) (by kernel_rfl) (fun _ _ _ h => h) (Or.inl ⟨by rfl, fun w hSw => by go_simp⟩) h0 ?_
 try simp only [z1, z2, z3, z4, z5, z6, z7, z8]
 refine wpAnyH_take (i := 10) (v := .pointer (some ⟨q, 0, none⟩)) rfl (by kernel_rfl) (by kernel_rfl) (by kernel_rfl) (fun _ _ _ h => h) (Or.inl ⟨by rfl, fun w hSw => by have c0 := hSw.p1; go_simp⟩) h0 ?_
 try simp only [z1, z2, z3, z4, z5, z6, z7, z8]
 refine wpAnyH_take (i := 11) (v := .pointer (some ⟨bx, 1, none⟩)) rfl (by kernel_rfl) (by kernel_rfl) (by kernel_rfl) (fun _ _ _ h => h) (Or.inl ⟨by rfl, fun w hSw => by go_simp⟩) h0 ?_
 try simp only [z1, z2, z3, z4, z5, z6, z7, z8]
 refine wpAnyH_take (i := 12) (v := encStr name) rfl (by kernel_rfl) (by kernel_rfl) (by kernel_rfl) (fun _ _ _ h => h) (Or.inl ⟨by rfl, fun w hSw => by have c0 := hSw.bx 1 _ rfl; go_simp⟩) h0 ?_
 try simp only [z1, z2, z3, z4, z5, z6, z7, z8]
 refine wpAnyH_ready (rs := [6]) (by kernel_rfl) (by simp) (AllReadyH.cons (i := 6) rfl (fun K hK => ?_) AllReadyH.nil)
 rw [if_pos (by rfl)]
 go_simp
 refine (sync_z1 HQ0.out (by omega) name hnm).mono ?_
 rintro e v1 ⟨rfl, hq, hk⟩
 have HQ1 := hide hq
 have HK1 : Hid (Keep (fun b => ¬ X b) w v1) := hide (HK0.out.trans hk (fun b hb _ hx => hb (.inl (.inl hx))))
 clear hq HQ0 HK0
 refine hK.out _ _ (h0.mv hk (.inr rfl)) (fun h1 => ?_)
 clear hK K
 try simp only [z1, z2, z3, z4, z5, z6, z7, z8]
 refine wpAnyH_ready (rs := [13]) (by kernel_rfl) (by simp) (AllReadyH.cons (i := 13) rfl (fun K hK => ?_) AllReadyH.nil)
 rw [if_pos (by rfl)]
 go_simp
 refine (sync_z2 HQ1.out (by omega) name hnm).mono ?_
 rintro e v2 ⟨rfl, hq, hk⟩
 have HQ2 := hide hq
 have HK2 : Hid (Keep (fun b => ¬ X b) w v2) := hide (HK1.out.trans hk (fun b hb _ hx => hb (.inl (.inl hx))))
 clear hq HQ1 HK1
 refine hK.out _ _ (h1.mv hk (.inr rfl)) (fun h2 => ?_)
 clear hK K
 try simp only [z1, z2, z3, z4, z5, z6, z7, z8]
 refine wpAnyH_take (i := 14) (v := .bool true) rfl (by kernel_rfl) (by kernel_rfl) (by kernel_rfl) (fun _ _ _ h => h) (Or.inl ⟨by rfl, fun w hSw => by go_simp⟩) h2 ?_
 try simp only [z1, z2, z3, z4, z5, z6, z7, z8]
 refine wpAnyH_take (i := 15) (v := .bool true) rfl (by kernel_rfl) (by kernel_rfl) (by kernel_rfl) (fun _ _ _ h => h) (Or.inl ⟨by rfl, fun w hSw => by go_simp⟩) h2 ?_
 try simp only [z1, z2, z3, z4, z5, z6, z7, z8]
 refine wpAnyH_done (by kernel_rfl) ?_ _
 go_wp2
 go_ret
 exact ⟨rfl, HQ2.out.less (fun _ h => .inl h), HK2.out⟩
set_option maxHeartbeats 1600000 in
set_option maxRecDepth 100000 in
theorem be_syncNames {X : Nat → Prop} {w : World} {P p q : Nat} {S : Ds} {N M : Nat} (h : Pz X w P p q S N S M) (name to : By) (da : Option Addr) (dn dc : Nat) (ds : By) (n po pf pt : Int) (pa : Option Addr) (pn pc : Nat) (hnm : name.length ≤ 4611686018427387904) (htm : to.length ≤ 4611686018427387904) (hN : N + 1 ≤ 268435456) (hM : M + 1 ≤ 268435456) :
  Calls Tryz.prog 8 #[.pointer (some ⟨P, 0, none⟩), .agg #[.int .i64 11, encStr name, encStr to, .slice da dn dc, .int .i64 n, .int .i64 po, .int .i64 pf, .int .i64 pt, .slice pa pn pc]] w fun e w' => e = .returned (.bool true) ∧ Pz X w' P p q (S.syncNames).2 (N + 1) (S.syncNames).2 (M + 1) ∧ Keep (fun b => ¬ X b) w w' := by
 obtain ⟨w1, hw1⟩ : ∃ w1, w1 = w.alloc (.cells #[.int .i64 11, encStr name, encStr to, .slice da dn dc, .int .i64 n, .int .i64 po, .int .i64 pf, .int .i64 pt, .slice pa pn pc] 33) := ⟨_, rfl⟩
 obtain ⟨h1, hR, hk1⟩ := h.box [.int .i64 11, encStr name, encStr to, .slice da dn dc, .int .i64 n, .int .i64 po, .int .i64 pf, .int .i64 pt, .slice pa pn pc] 33 hw1
 have i0 : w1.cell? ⟨w.heap.size, 0, none⟩ = some (.int .i64 11) := hR.bx 0 _ rfl
 have HK : Hid (Keep (fun b => ¬ X b) w w1) := hide (Keep.ofNone hk1)
 skip
 clear h hk1
 go_enter Tryz.func8, Tryz.ntmps8
 go_upto_region 1 with (fail)
 rw [← hw1]
 clear hw1
 generalize w.heap.size = bx at *
 have HQ := hide h1
 have HR := hide hR
 clear h1 hR
 go_upto_region 15 with (fail)
 clear i0
 have HQ0 : Hid (Pz (fun b => X b ∨ b = bx) w1.drew P p q S N S M) := hide (HQ.out.kept ((Kept.refl [] w1).drew))
 have HK0 : Hid (Keep (fun b => ¬ X b) w w1.drew) := hide (HK.out.kept ((Kept.refl [] w1).drew))
 clear HQ HK
 refine wp_region_held_drew (S := (Rdz P p q bx [.int .i64 11, encStr name, encStr to, .slice da dn dc, .int .i64 n, .int .i64 po, .int .i64 pf, .int .i64 pt, .slice pa pn pc])) (by kernel_rfl) (HR.out.kept ((Kept.refl [] w1).drew)) (fun h0 => ?_)
 generalize World.drew w1 = v0 at h0 HQ0 HK0 ⊢
 refine wpAnyH_take (i := 0) (v := .pointer (some ⟨P, 0, none⟩)) rfl (by kernel_rfl) (by kernel_rfl) (by kernel_rfl) (fun _ _ _ h => h) (Or.inl ⟨by rfl, fun w hSw => by go_simp⟩) h0 ?_
 try simp only [z1, z2, z3, z4, z5, z6, z7, z8]
 refine wpAnyH_take (i := 1) (v := .pointer (some ⟨P, 0, none⟩)) rfl (by kernel_rfl) (by kernel_rfl) (by kernel_rfl) (fun _ _ _ h => h) (Or.inl ⟨by rfl, fun w hSw => by go_simp⟩) h0 ?_
 try simp only [z1, z2, z3, z4, z5, z6, z7, z8]
 refine wpAnyH_take (i := 2) (v := .pointer (some ⟨P, 0, none⟩)) rfl (by kernel_rfl) (by kernel_rfl) (by kernel_rfl) (fun _ _ _ h => h) (Or.inl ⟨by rfl, fun w hSw => by go_simp⟩) h0 ?_
 try simp only [z1, z2, z3, z4, z5, z6, z7, z8]
 refine wpAnyH_take (i := 3) (v := .pointer (some ⟨p, 0, none⟩)) rfl (by kernel_rfl) (by kernel_rfl) (by kernel_rfl) (fun _ _ _ h => h) (Or.inl ⟨by rfl, fun w hSw => by have c0 := hSw.p0; go_simp⟩) h0 ?_
 try simp only [z1, z2, z3, z4, z5, z6, z7, z8]
 refine wpAnyH_take (i := 5) (v := .pointer (some ⟨P, 0, none⟩)) rfl (by kernel_rfl) (by kernel_rfl) (by kernel_rfl) (fun _ _ _ h => h) (Or.inl ⟨by rfl, fun w hSw => by go_simp⟩) h0 ?_
 try simp only [z1, z2, z3, z4, z5, z6, z7, z8]
 refine wpAnyH_take (i := 6) (v := .pointer (some ⟨P, 0, none⟩)) rfl (by kernel_rfl) (by kernel_rfl) (by kernel_rfl) (fun _ _ _ h => h) (Or.inl ⟨by rfl, fun w hSw => by go_simp⟩) h0 ?_
 try simp only [z1, z2, z3, z4, z5, z6, z7, z8]
 refine wpAnyH_take (i := 7) (v := .pointer (some ⟨P, 1, none⟩)) rfl (by kernel_rfl) (by kernel_rfl) (by kernel_rfl) (fun _ _ _ h => h) (Or.inl ⟨by rfl, fun w hSw => by go_simp⟩) h0 ?_
 try simp only [z1, z2, z3, z4, z5, z6, z7, z8]
 refine wpAnyH_take (i := 8) (v := .pointer (some ⟨q, 0, none⟩)) rfl (by kernel_rfl) (by kernel_rfl) (by kernel_rfl) (fun _ _ _ h => h) (Or.inl ⟨by rfl, fun w hSw => by have c0 := hSw.p1; go_simp⟩) h0 ?_
 try simp only [z1, z2, z3, z4, z5, z6, z7, z8]
 refine wpAnyH_ready (rs := [4]) (by kernel_rfl) (by simp) (AllReadyH.cons (i := 4) rfl (fun K hK => ?_) AllReadyH.nil)
 rw [if_pos (by rfl)]
 go_simp
 refine (syncNames_z1 HQ0.out (by omega) ).mono ?_
 rintro e v1 ⟨rfl, hq, hk⟩
 have HQ1 := hide hq
 have HK1 : Hid (Keep (fun b => ¬ X b) w v1) := hide (HK0.out.trans hk (fun b hb _ hx => hb (.inl (.inl hx))))
 clear hq HQ0 HK0
 refine hK.out _ _ (h0.mv hk (.inr rfl)) (fun h1 => ?_)
 clear hK K
 try simp only [z1, z2, z3, z4, z5, z6, z7, z8]
 refine wpAnyH_ready (rs := [9]) (by kernel_rfl) (by simp) (AllReadyH.cons (i := 9) rfl (fun K hK => ?_) AllReadyH.nil)
 rw [if_pos (by rfl)]
 go_simp
 refine (syncNames_z2 HQ1.out (by omega) ).mono ?_
 rintro e v2 ⟨rfl, hq, hk⟩
 have HQ2 := hide hq
 have HK2 : Hid (Keep (fun b => ¬ X b) w v2) := hide (HK1.out.trans hk (fun b hb _ hx => hb (.inl (.inl hx))))
 clear hq HQ1 HK1
 refine hK.out _ _ (h1.mv hk (.inr rfl)) (fun h2 => ?_)
 clear hK K
 try simp only [z1, z2, z3, z4, z5, z6, z7, z8]
 refine wpAnyH_take (i := 10) (v := .bool true) rfl (by kernel_rfl) (by kernel_rfl) (by kernel_rfl) (fun _ _ _ h => h) (Or.inl ⟨by rfl, fun w hSw => by go_simp⟩) h2 ?_
 try simp only [z1, z2, z3, z4, z5, z6, z7, z8]
 refine wpAnyH_take (i := 11) (v := .bool true) rfl (by kernel_rfl) (by kernel_rfl) (by kernel_rfl) (fun _ _ _ h => h) (Or.inl ⟨by rfl, fun w hSw => by go_simp⟩) h2 ?_
 try simp only [z1, z2, z3, z4, z5, z6, z7, z8]
 refine wpAnyH_done (by kernel_rfl) ?_ _
 go_wp2
 go_ret
 exact ⟨rfl, HQ2.out.less (fun _ h => .inl h), HK2.out⟩
end Go.Proofs.YtodihkdmneihiaaGreatDoor
