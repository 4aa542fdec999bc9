import Derived.Test.YtodihkdmneihiaaGreatDoorFsnp
import Derived.Deep.QuietTactic
import Derived.BigQuiet
namespace Go.Proofs.YtodihkdmneihiaaGreatDoor
open Go.RowKit Dsk
set_option linter.unusedVariables false
set_option linter.unusedSimpArgs false
def mk40 (k : Nat) : By := List.replicate k 99
theorem mk40_succ (ds : By) (k : Nat) : ds ++ mk40 (k + 1) = (ds ++ mk40 k) ++ [99] := by
 rw [mk40, List.replicate_succ', List.append_assoc]; rfl
def Hnd (w : World) (B : Nat) (L : By) : Prop := w.heap[B]? = some (.cells (bys L).toArray 5 (0, 0))
theorem Hnd.kept {w w' : World} {B : Nat} {L : By} (h : Hnd w B L) (hk : Kept [] w w') : Hnd w' B L := (Keep.ofNone (F := fun _ => False) hk).heapOf h (fun h => h)
theorem Hnd.cell {w : World} {B : Nat} {L : By} (h : Hnd w B L) (i : Nat) (hi : i < L.length) : w.cell? ⟨B, i, none⟩ = some (.int .u8 (L.getD i 0).toNat) := by
 rw [cell_of_row _ _ _ _ _ _ h, List.getElem?_toArray, bys_at hi]
theorem Hnd.set {w : World} {B : Nat} {L : By} (h : Hnd w B L) (i : Nat) (x : UInt8) : Hnd (w.setCell ⟨B, i, none⟩ (.int .u8 x.toNat)) B (L.set i x) := by
 show _ = _
 rw [heap_setCell_same w B i _ _ _ h, ← bys_set]; simp
theorem Hnd.sl {w : World} {B : Nat} {ds : By} {m : Nat} (h : Hnd w B (ds ++ mk40 40)) (hl : ds.length = m) : Sl w (some ⟨B, 0, none⟩) ds := fun i hi => by
 refine ⟨B, 0, rfl, ?_⟩
 have := h.cell i (by simp; omega)
 rw [Nat.zero_add, this, List.getD_eq_getElem?_getD, List.getD_eq_getElem?_getD, List.getElem?_append_left hi]
theorem Hnd.of {w : World} {base g n : Nat} {xs : By} (h : w.ownsRow base 5 1 (.slice (some ⟨g, 0, none⟩) n n) n (bys xs)) : Hnd w g xs := by
 rcases h.2 with ⟨hv, _⟩ | ⟨g', cap, cur, hv, hb, hg, hn, hx, hs, ht⟩
 ·cases hv
 ·cases hv
  show _ = _
  rw [hg]
  have : cur.toList = bys xs := by rw [← ht]; rw [List.take_of_length_le]; simp; omega
  rw [← this]
def ov77 (L : By) (i : Nat) : By := List.replicate i 77 ++ L.drop i
theorem ov77_len (L : By) (i : Nat) (h : i ≤ L.length) : (ov77 L i).length = L.length := by simp [ov77]; omega
theorem ov77_at (L : By) (i : Nat) : (ov77 L i).getD i 0 = L.getD i 0 := by
 rw [List.getD_eq_getElem?_getD, List.getD_eq_getElem?_getD, ov77, List.getElem?_append_right (by simp)]
 simp
theorem ov77_step (L : By) (i : Nat) (h : i < L.length) : (ov77 L i).set i 77 = ov77 L (i + 1) := by
 unfold ov77
 rw [List.set_append_right _ _ (by simp), List.length_replicate, Nat.sub_self, List.drop_eq_getElem_cons h, List.set_cons_zero, List.replicate_succ', List.append_assoc]
 rfl
theorem src_of6 {w : World} {ad : Addr} {m : By} (hs : Sl w (some ad) m) : ∀ j u, (bys m)[j]? = some u → w.cell? (ad.add j) = some u := by
 intro j u hu
 have hj : j < m.length := by have := (List.getElem?_eq_some_iff.1 hu).1; simpa [bys_length] using this
 obtain ⟨b, o, e, h⟩ := hs j hj
 injection e with e
 subst e
 rw [bys_at hj] at hu
 rw [Addr.add_mid, h, hu]
theorem run_room6 (w : World) (c : Nat) (h : c ≤ 281474976710656) : (Instr.makeSlice 28 (.int .i64 0) (.int .i64 ((c : Nat) : Int))).run Tryz.prog w = .ok (.slice (some ⟨w.heap.size, 0, none⟩) 0 c) (w.alloc (.cells (madeCells #[.int .u8 0] c) 5)) := by
 obtain ⟨i0, hi, hz0, hz1, hz2⟩ := info_parts Tryz.infoByte
 have hmk := run_make (P := Tryz.prog) w 28 5 i0 (.int .u8 0) Tryz.underlying28 hi hz0 .i64 .i64 0 c (by omega) (by omega) (by rw [hz2]; omega) (by omega)
 rw [hz1] at hmk
 simp only [Int.toNat_natCast, Nat.mul_one] at hmk
 exact hmk
theorem run_into6 (w : World) (c n : Nat) (ds : By) (da : Option Addr) (dc : Nat) (hn : ds.length = n) (hs : Sl w da ds) (h0 : da = none → n = 0 ∧ dc = 0) (hc : n ≤ c) (hb : c ≤ 281474976710656) :
  ∃ w', (Builtin.append_ #[28, 28] 28 #[.slice (some ⟨w.heap.size, 0, none⟩) 0 c, .slice da n dc]).run Tryz.prog (w.alloc (.cells (madeCells #[.int .u8 0] c) 5)) = .ok (.slice (some ⟨w.heap.size, 0, none⟩) n c) w' ∧ w'.ownsRow w.heap.size 5 1 (.slice (some ⟨w.heap.size, 0, none⟩) n c) n (bys ds) ∧ Kept [] w w' := by
 obtain ⟨i0, hi, hz0, hz1, hz2⟩ := info_parts Tryz.infoByte
 have hk := (Kept.refl [] w).alloc (.cells (madeCells #[.int .u8 0] c) 5)
 have hown : (w.alloc (.cells (madeCells #[.int .u8 0] c) 5)).ownsRow w.heap.size 5 1 (.slice (some ⟨w.heap.size, 0, none⟩) 0 c) 0 [] := World.ownsRow_made w _ c (Nat.le_refl _) (by unfold maxLen; omega) (by rw [size_madeCells, Nat.mul_one])
 cases da with
 | none =>
  obtain ⟨rfl, rfl⟩ := h0 rfl
  obtain rfl : ds = [] := List.eq_nil_of_length_eq_zero hn
  exact ⟨_, run_append_owned_none (P := Tryz.prog) _ w.heap.size 28 28 5 i0 1 Tryz.underlying28 hi _ 0 _ hown, hown, hk⟩
 | some ad =>
  obtain ⟨w', h1, h2, h3⟩ := run_append_fits (P := Tryz.prog) _ w.heap.size 28 28 5 i0 1 Tryz.underlying28 hi hz1 w.heap.size 0 c [] hown ad n dc (bys ds) (by rw [bys_length, hn, Nat.mul_one]) (src_of6 (hs.kept hk (by simp))) (bys_oneCell _) (by omega)
  rw [Nat.zero_add] at h1 h2
  exact ⟨w', h1, h2, hk.grown h3 (by intro k hk hlt; cases hk; omega)⟩
theorem one_at6 (w : World) (c : Value) (t : TypeId) (g : Nat) (hg : g = w.heap.size) : ∀ (j : Nat) (u : Value), [c][j]? = some u → (w.alloc (.cells #[c] t)).cell? ((⟨g, 0, none⟩ : Addr).add j) = some u := by
 intro j u hu
 have hj : j = 0 := by have := (List.getElem?_eq_some_iff.1 hu).1; simp at this; omega
 subst hj hg
 rw [show ((⟨w.heap.size, 0, none⟩ : Addr).add 0) = ⟨w.heap.size, 0, none⟩ by simp [Addr.add], World.cell?_alloc_new]
 simpa using hu
theorem wp_make_run6 {P : Program} {o : Oper} {a : Act} {w : World} {K : Act → World → Prop} {Q : Exit → Act → World → Prop} (l c : Operand) (t : TypeId) (ho : o.op = .makeSlice t l c) (vl vc : Value) (hl : a.eval l = vl) (hc : a.eval c = vc) (v' : Value) (w' : World)
  (hrun : (Instr.makeSlice t vl vc).run P w = .ok v' w') (hK : K (a.put o.dst v') w') : o.wp P a w K Q := by
 unfold Oper.wp execOp
 simp only [ho, Sem.run_bind, Sem.run_pure, Result.andThen_ok, hl, hc, hrun]
 exact hK
theorem Pz.over {X : Nat → Prop} {w w' : World} {P p q : Nat} {S : Ds} {N : Nat} {T : Ds} {M : Nat} {B : Nat} (h : Pz X w P p q S N T M) (hk : Keep (fun b => b = B) w w') (hB : X B) (hP : P ≠ B) : Pz X w' P p q S N T M := by
 have hPl := (Array.getElem?_eq_some_iff.1 h.cell).1
 refine ⟨h.tw.free hk (fun b _ e => by subst e; exact .inl hB) (fun b hb => ?_), hk.heapOf h.cell hP⟩
 rcases hb with hb | rfl
 ·exact ⟨.inl (.inl hb), Nat.lt_of_lt_of_le (h.lt hb) hk.size⟩
 ·exact ⟨.inl (.inr rfl), Nat.lt_of_lt_of_le hPl hk.size⟩
set_option maxHeartbeats 3200000 in
set_option maxRecDepth 100000 in
theorem ca_put {X : Nat → Prop} {w : World} {P p q : Nat} {S : Ds} {N M : Nat} (h : Pz X w P p q S N S M) (name to : By) (da : Option Addr) (dn dc : Nat) (n po pf pt : Int) (pa : Option Addr) (pn pc : Nat) (ds : By) (hg : Gl w) (hgx : X 0) (hnm : name.length ≤ 4611686018427387900) (hd8 : dn ≤ 140737488355328) (hl : ds.length = dn) (hs : Sl w da ds) (hda0 : da = none → dn = 0 ∧ dc = 0) (hfar : ds ≠ [] → ∀ a, da = some a → X a.block) (hN : N + 1048620 ≤ 80000000) (hM : M + 1048620 ≤ 80000000) :
  Calls Tryz.prog 7 #[.pointer (some ⟨P, 0, none⟩), .agg #[.int .i64 1, encStr name, encStr to, .slice da dn dc, .int .i64 n, .int .i64 po, .int .i64 pf, .int .i64 pt, .slice pa pn pc]] w fun e w' => e = .returned (.bool true) ∧ Pz X w' P p q (S.put name ds).2 (N + min dn 1048576 + 20) (S.put name ds).2 (M + min dn 1048576 + 20) ∧ Keep (fun b => ¬ X b) w w' := by
 obtain ⟨w1, hw1⟩ : ∃ w1, w1 = w.alloc (.cells #[.int .i64 1, encStr name, encStr to, .slice da dn dc, .int .i64 n, .int .i64 po, .int .i64 pf, .int .i64 pt, .slice pa pn pc] 33) := ⟨_, rfl⟩
 obtain ⟨h1, hR, hk1⟩ := h.box [.int .i64 1, encStr name, encStr to, .slice da dn dc, .int .i64 n, .int .i64 po, .int .i64 pf, .int .i64 pt, .slice pa pn pc] 33 hw1
 have i0 : w1.cell? ⟨w.heap.size, 0, none⟩ = some (.int .i64 1) := hR.bx 0 _ rfl
 have HK := hide hk1
 have HSD : Hid (Sl w1 da ds) := hide (hs.kept hk1 (by simp))
 have HG := hide hg
 have HXL : Hid (∀ b, X b → b < w.heap.size) := hide (fun b hb => h.lt hb)
 have HPL : Hid (P < w.heap.size) := hide (Array.getElem?_eq_some_iff.1 h.cell).1
 have hw40 : IntKind.i64.wrap ((dn : Int) + 40) = ((dn + 40 : Nat) : Int) := by rw [IntWalk.i64_in _ (by omega)]; omega
 clear h hk1 hg hs
 go_enter Tryz.func7, Tryz.ntmps7
 go_upto_region 1 with (fail)
 rw [← hw1]
 clear hw1
 have hbx : w.heap.size = w.heap.size := rfl
 generalize w.heap.size = bx at h1 hR i0 hbx ⊢
 have HBX := hide hbx
 clear hbx
 have HQ := hide h1
 have HR := hide hR
 clear h1 hR
 go_upto_region 3 with (fail)
 clear i0
 have HQ0 : Hid (Pz (fun b => X b ∨ b = bx) w1.drew P p q S N S M) := hide (HQ.out.kept ((Kept.refl [] w1).drew))
 have HK0 : Hid (Kept [] w w1.drew) := hide (HK.out.trans ((Kept.refl [] w1).drew) (by simp))
 have HS0 : Hid (Sl w1.drew da ds) := hide (HSD.out.kept ((Kept.refl [] w1).drew) (by simp))
 clear HQ HK HSD
 refine wp_region_held_drew (S := (Rdz P p q bx [.int .i64 1, encStr name, encStr to, .slice da dn dc, .int .i64 n, .int .i64 po, .int .i64 pf, .int .i64 pt, .slice pa pn pc])) (by kernel_rfl) (HR.out.kept ((Kept.refl [] w1).drew)) (fun h0 => ?_)
 generalize World.drew w1 = v0 at h0 HQ0 HK0 HS0 ⊢
 refine wpAnyH_take (i := 0) (v := .pointer (some ⟨bx, 3, none⟩)) rfl (by kernel_rfl) (by kernel_rfl) (by kernel_rfl) (fun _ _ _ h => h) (Or.inl ⟨by rfl, fun w hSw => by go_simp⟩) h0 ?_
 try simp only [z1, z2, z3, z4, z5, z6, z7, z8]
 refine wpAnyH_take (i := 1) (v := .slice da dn dc) rfl (by kernel_rfl) (by kernel_rfl) (by kernel_rfl) (fun _ _ _ h => h) (Or.inl ⟨by rfl, fun w hSw => by have c0 := hSw.bx 3 _ rfl; go_simp⟩) h0 ?_
 try simp only [z1, z2, z3, z4, z5, z6, z7, z8]
 refine wpAnyH_take (i := 2) (v := .int .i64 dn) rfl (by kernel_rfl) (by kernel_rfl) (by kernel_rfl) (fun _ _ _ h => h) (Or.inl ⟨by rfl, fun w hSw => by go_simp⟩) h0 ?_
 try simp only [z1, z2, z3, z4, z5, z6, z7, z8]
 refine wpAnyH_take (i := 3) (v := .int .i64 ((dn + 40 : Nat) : Int)) rfl (by kernel_rfl) (by kernel_rfl) (by kernel_rfl) (fun _ _ _ h => h) (Or.inl ⟨by rfl, fun w hSw => by have c0 := hw40; go_simp⟩) h0 ?_
 try simp only [z1, z2, z3, z4, z5, z6, z7, z8]
 refine wpAnyH_take (i := 5) (v := .pointer (some ⟨bx, 3, none⟩)) rfl (by kernel_rfl) (by kernel_rfl) (by kernel_rfl) (fun _ _ _ h => h) (Or.inl ⟨by rfl, fun w hSw => by go_simp⟩) h0 ?_
 try simp only [z1, z2, z3, z4, z5, z6, z7, z8]
 refine wpAnyH_take (i := 6) (v := .slice da dn dc) rfl (by kernel_rfl) (by kernel_rfl) (by kernel_rfl) (fun _ _ _ h => h) (Or.inl ⟨by rfl, fun w hSw => by have c0 := hSw.bx 3 _ rfl; go_simp⟩) h0 ?_
 try simp only [z1, z2, z3, z4, z5, z6, z7, z8]
 obtain ⟨w3, hrun3, hown3, hk3⟩ := run_into6 v0 (dn + 40) dn ds da dc hl HS0.out hda0 (by omega) (by omega)
 have hmk := run_room6 v0 (dn + 40) (by omega)
 refine wpAnyH_ready (rs := [4]) (by kernel_rfl) (by simp) (AllReadyH.cons (i := 4) rfl (fun K hK => ?_) AllReadyH.nil)
 rw [if_pos (by rfl)]
 refine wp_make_run6 (.const (.int .i64 0)) (.tmp 20) 28 rfl _ _ rfl rfl _ _ hmk ?_
 refine hK.out _ _ (h0.kept ((Kept.refl [] v0).alloc _)) (fun h1 => ?_)
 clear hK K hmk
 try simp only [z1, z2, z3, z4, z5, z6, z7, z8]
 refine wpAnyH_ready (rs := [7]) (by kernel_rfl) (by simp) (AllReadyH.cons (i := 7) rfl (fun K hK => ?_) AllReadyH.nil)
 rw [if_pos (by rfl)]
 refine wp_append_run (.tmp 21) (.tmp 23) 28 28 rfl (.slice (some ⟨v0.heap.size, 0, none⟩) 0 (dn + 40)) (.slice da dn dc) rfl rfl _ w3 hrun3 ?_
 refine hK.out _ _ (h0.kept hk3) (fun h2 => ?_)
 clear hK K h1 hrun3
 try simp only [z1, z2, z3, z4, z5, z6, z7, z8]
 refine wpAnyH_take (i := 8) (v := .slice (some ⟨v0.heap.size, 0, none⟩) dn (dn + 40)) rfl (by kernel_rfl) (by kernel_rfl) (by kernel_rfl) (fun _ _ _ h => h) (Or.inl ⟨by rfl, fun w hSw => by go_simp⟩) h2 ?_
 try simp only [z1, z2, z3, z4, z5, z6, z7, z8]
 refine wpAnyH_done (by kernel_rfl) ?_ _
 obtain ⟨B, hB⟩ : ∃ B, B = v0.heap.size := ⟨_, rfl⟩
 rw [← hB] at hown3 ⊢
 have HBB : Hid (w.heap.size ≤ B ∧ B ≠ bx ∧ B = v0.heap.size) := hide ⟨by rw [hB]; exact HK0.out.size, by have := HQ0.out.lt (.inr rfl : X bx ∨ bx = bx); omega, hB⟩
 have HO3 : Hid (w3.ownsRow B 5 1 (.slice (some ⟨B, 0, none⟩) (dn + 0) (dn + 40)) (dn + 0) (bys (ds ++ mk40 0))) := hide (by rw [mk40, List.replicate_zero, List.append_nil]; exact hown3)
 have HK3 := hide hk3
 have HR3 := hide h2
 clear hown3 hk3 h2 hB hw40
 obtain ⟨i0, hi, hz0, hz1, hz2⟩ := info_parts Tryz.infoByte
 go_wp2
 go_loopw [5, 6] (fun v i wr => ∃ k : Nat, k ≤ 40 ∧ i = .int .i64 k ∧ v = .slice (some ⟨B, 0, none⟩) (dn + k) (dn + 40) ∧ Hid (wr.ownsRow B 5 1 (.slice (some ⟨B, 0, none⟩) (dn + k) (dn + 40)) (dn + k) (bys (ds ++ mk40 k))) ∧ Hid (Kept [] v0 wr)) (fun v i wr => 40 - (intOf i).toNat)
 case atStart => exact ⟨0, by omega, rfl, rfl, HO3, HK3⟩
 case round =>
 clear HO3 HK3 HR3
 obtain ⟨k, hk, rfl, rfl, HO, HK3⟩ := hrel
 by_cases hlt : k < 40
 ·have hO1 := HO.out.alloc (.cells #[.int .u8 99] 5)
  go_wp2_with (at_builtin; refine wpList_append_fits _ rfl _ _ 28 rfl B 5 i0 1 Tryz.underlying28 hi hz1 B (dn + k) (dn + 40) _ rfl hO1 ⟨wr.heap.size, 0, none⟩ 1 1 [.int .u8 99] rfl rfl (one_at6 _ _ _ _ rfl) (by simp [Value.oneCell']) (by omega) ?_)
  intro w3' hown3 hgrow3
  have HO3 : Hid (w3'.ownsRow B 5 1 (.slice (some ⟨B, 0, none⟩) (dn + (k + 1)) (dn + 40)) (dn + (k + 1)) (bys (ds ++ mk40 (k + 1)))) := hide (by rw [mk40_succ, bys_append]; exact hown3)
  have HK4 : Hid (Kept [] v0 w3') := hide ((HK3.out.alloc _).grown hgrow3 (by intro k hk hlt; cases hk; have := HBB.out.2.2; omega))
  clear hown3 hgrow3 HO HK3 hO1
  go_wp2
  go_roundw
  case rel => exact ⟨k + 1, by omega, by go_num, rfl, HO3, HK4⟩
  case measure => simp [intOf]; omega
 have e40 : Hid (k = 40) := hide (by omega)
 go_upto_region 8 with (fail)
 clear hi hz0 hz1 hz2 i0
 have HB4 : Hid (Hnd wr B (ds ++ mk40 40)) := hide (Hnd.of (base := B) (n := dn + 40) (by have := HO.out; rw [e40.out] at this; exact this))
 have HR4 : Hid (Rdz P p q bx [.int .i64 1, encStr name, encStr to, .slice da dn dc, .int .i64 n, .int .i64 po, .int .i64 pf, .int .i64 pt, .slice pa pn pc] wr) := hide (h0.kept HK3.out)
 have HS4 : Hid (Sl wr da ds) := hide (HS0.out.kept HK3.out (by simp))
 have HK4 : Hid (Keep (fun b => ¬ X b) w wr) := hide (Keep.ofNone (HK0.out.trans HK3.out (by simp)))
 have HQ4 : Hid (Pz (fun b => (X b ∨ b = bx) ∨ b = B) wr P p q S N S M) := hide (HQ0.out.more HK3.out (fun b hb => by
  have hBl : B < wr.heap.size := (Array.getElem?_eq_some_iff.1 HB4.out).1
  rcases hb with hb | rfl
  ·exact ⟨.inl hb, Nat.lt_of_lt_of_le (HQ0.out.lt hb) HK3.out.size⟩
  ·exact ⟨.inr (by have := HBB.out.2.2; omega), hBl⟩))
 have HPB : Hid (P ≠ B) := hide (by have := HPL.out; have := HBB.out.1; omega)
 have HXB : Hid (¬ X B) := hide (fun hx => by have := HXL.out B hx; have := HBB.out.1; omega)
 have HBX2 : Hid (B ≠ bx) := hide HBB.out.2.1
 clear HO HK3 HS0 HK0 HQ0 h0 HPL HXL HBB hk hlt HBX
 generalize wr = w4 at HB4 HR4 HS4 HK4 HQ4 ⊢
 have hcut := fun W => Tryz.cutTo W (some ⟨B, 0, none⟩) (dn + 40) (dn + 40) dn (by omega)
 have e40' := e40.out
 rw [e40']
 clear e40 e40'
 have HQ5 : Hid (Pz (fun b => (X b ∨ b = bx) ∨ b = B) w4.drew P p q S N S M) := hide (HQ4.out.kept ((Kept.refl [] w4).drew))
 have HK5 : Hid (Keep (fun b => ¬ X b) w w4.drew) := hide (HK4.out.kept ((Kept.refl [] w4).drew))
 have HS5 : Hid (Sl w4.drew da ds) := hide (HS4.out.kept ((Kept.refl [] w4).drew) (by simp))
 have HB5 : Hid (Hnd w4.drew B (ds ++ mk40 40)) := hide (HB4.out.kept ((Kept.refl [] w4).drew))
 clear HQ4 HK4 HS4 HB4
 refine wp_region_held_drew (S := (Rdz P p q bx [.int .i64 1, encStr name, encStr to, .slice da dn dc, .int .i64 n, .int .i64 po, .int .i64 pf, .int .i64 pt, .slice pa pn pc])) (by kernel_rfl) (HR4.out.kept ((Kept.refl [] w4).drew)) (fun hu0 => ?_)
 generalize World.drew w4 = u0 at hu0 HQ5 HK5 HS5 HB5 ⊢
 refine wpAnyH_take (i := 0) (v := .pointer (some ⟨P, 0, none⟩)) rfl (by kernel_rfl) (by kernel_rfl) (by kernel_rfl) (fun _ _ _ h => h) (Or.inl ⟨by rfl, fun w hSw => by go_simp⟩) hu0 ?_
 try simp only [z1, z2, z3, z4, z5, z6, z7, z8]
 refine wpAnyH_take (i := 1) (v := .pointer (some ⟨P, 0, none⟩)) rfl (by kernel_rfl) (by kernel_rfl) (by kernel_rfl) (fun _ _ _ h => h) (Or.inl ⟨by rfl, fun w hSw => by go_simp⟩) hu0 ?_
 try simp only [z1, z2, z3, z4, z5, z6, z7, z8]
 refine wpAnyH_take (i := 2) (v := .pointer (some ⟨P, 0, none⟩)) rfl (by kernel_rfl) (by kernel_rfl) (by kernel_rfl) (fun _ _ _ h => h) (Or.inl ⟨by rfl, fun w hSw => by go_simp⟩) hu0 ?_
 try simp only [z1, z2, z3, z4, z5, z6, z7, z8]
 refine wpAnyH_take (i := 3) (v := .pointer (some ⟨p, 0, none⟩)) rfl (by kernel_rfl) (by kernel_rfl) (by kernel_rfl) (fun _ _ _ h => h) (Or.inl ⟨by rfl, fun w hSw => by have c0 := hSw.p0; go_simp⟩) hu0 ?_
 try simp only [z1, z2, z3, z4, z5, z6, z7, z8]
 refine wpAnyH_take (i := 4) (v := .pointer (some ⟨bx, 1, none⟩)) rfl (by kernel_rfl) (by kernel_rfl) (by kernel_rfl) (fun _ _ _ h => h) (Or.inl ⟨by rfl, fun w hSw => by go_simp⟩) hu0 ?_
 try simp only [z1, z2, z3, z4, z5, z6, z7, z8]
 refine wpAnyH_take (i := 5) (v := encStr name) rfl (by kernel_rfl) (by kernel_rfl) (by kernel_rfl) (fun _ _ _ h => h) (Or.inl ⟨by rfl, fun w hSw => by have c0 := hSw.bx 1 _ rfl; go_simp⟩) hu0 ?_
 try simp only [z1, z2, z3, z4, z5, z6, z7, z8]
 refine wpAnyH_take (i := 6) (v := .slice (some ⟨B, 0, none⟩) (dn + 40) (dn + 40)) rfl (by kernel_rfl) (by kernel_rfl) (by kernel_rfl) (fun _ _ _ h => h) (Or.inl ⟨by rfl, fun w hSw => by go_simp⟩) hu0 ?_
 try simp only [z1, z2, z3, z4, z5, z6, z7, z8]
 refine wpAnyH_take (i := 7) (v := .pointer (some ⟨bx, 3, none⟩)) rfl (by kernel_rfl) (by kernel_rfl) (by kernel_rfl) (fun _ _ _ h => h) (Or.inl ⟨by rfl, fun w hSw => by go_simp⟩) hu0 ?_
 try simp only [z1, z2, z3, z4, z5, z6, z7, z8]
 refine wpAnyH_take (i := 8) (v := .slice da dn dc) rfl (by kernel_rfl) (by kernel_rfl) (by kernel_rfl) (fun _ _ _ h => h) (Or.inl ⟨by rfl, fun w hSw => by have c0 := hSw.bx 3 _ rfl; go_simp⟩) hu0 ?_
 try simp only [z1, z2, z3, z4, z5, z6, z7, z8]
 refine wpAnyH_take (i := 9) (v := .int .i64 dn) rfl (by kernel_rfl) (by kernel_rfl) (by kernel_rfl) (fun _ _ _ h => h) (Or.inl ⟨by rfl, fun w hSw => by go_simp⟩) hu0 ?_
 try simp only [z1, z2, z3, z4, z5, z6, z7, z8]
 refine wpAnyH_take (i := 10) (v := .slice (some ⟨B, 0, none⟩) dn (dn + 40)) rfl (by kernel_rfl) (by kernel_rfl) (by kernel_rfl) (fun _ _ _ h => h) (Or.inl ⟨by rfl, fun w hSw => by have c0 := hcut w; go_simp⟩) hu0 ?_
 try simp only [z1, z2, z3, z4, z5, z6, z7, z8]
 refine wpAnyH_take (i := 12) (v := .pointer (some ⟨bx, 1, none⟩)) rfl (by kernel_rfl) (by kernel_rfl) (by kernel_rfl) (fun _ _ _ h => h) (Or.inl ⟨by rfl, fun w hSw => by go_simp⟩) hu0 ?_
 try simp only [z1, z2, z3, z4, z5, z6, z7, z8]
 refine wpAnyH_take (i := 13) (v := encStr name) rfl (by kernel_rfl) (by kernel_rfl) (by kernel_rfl) (fun _ _ _ h => h) (Or.inl ⟨by rfl, fun w hSw => by have c0 := hSw.bx 1 _ rfl; go_simp⟩) hu0 ?_
 try simp only [z1, z2, z3, z4, z5, z6, z7, z8]
 refine wpAnyH_take (i := 14) (v := .pointer (some ⟨P, 0, none⟩)) rfl (by kernel_rfl) (by kernel_rfl) (by kernel_rfl) (fun _ _ _ h => h) (Or.inl ⟨by rfl, fun w hSw => by go_simp⟩) hu0 ?_
 try simp only [z1, z2, z3, z4, z5, z6, z7, z8]
 refine wpAnyH_take (i := 15) (v := .pointer (some ⟨P, 0, none⟩)) rfl (by kernel_rfl) (by kernel_rfl) (by kernel_rfl) (fun _ _ _ h => h) (Or.inl ⟨by rfl, fun w hSw => by go_simp⟩) hu0 ?_
 try simp only [z1, z2, z3, z4, z5, z6, z7, z8]
 refine wpAnyH_take (i := 16) (v := .pointer (some ⟨P, 1, none⟩)) rfl (by kernel_rfl) (by kernel_rfl) (by kernel_rfl) (fun _ _ _ h => h) (Or.inl ⟨by rfl, fun w hSw => by go_simp⟩) hu0 ?_
 try simp only [z1, z2, z3, z4, z5, z6, z7, z8]
 refine wpAnyH_take (i := 17) (v := .pointer (some ⟨q, 0, none⟩)) rfl (by kernel_rfl) (by kernel_rfl) (by kernel_rfl) (fun _ _ _ h => h) (Or.inl ⟨by rfl, fun w hSw => by have c0 := hSw.p1; go_simp⟩) hu0 ?_
 try simp only [z1, z2, z3, z4, z5, z6, z7, z8]
 refine wpAnyH_take (i := 18) (v := .pointer (some ⟨bx, 1, none⟩)) rfl (by kernel_rfl) (by kernel_rfl) (by kernel_rfl) (fun _ _ _ h => h) (Or.inl ⟨by rfl, fun w hSw => by go_simp⟩) hu0 ?_
 try simp only [z1, z2, z3, z4, z5, z6, z7, z8]
 refine wpAnyH_take (i := 19) (v := encStr name) rfl (by kernel_rfl) (by kernel_rfl) (by kernel_rfl) (fun _ _ _ h => h) (Or.inl ⟨by rfl, fun w hSw => by have c0 := hSw.bx 1 _ rfl; go_simp⟩) hu0 ?_
 try simp only [z1, z2, z3, z4, z5, z6, z7, z8]
 refine wpAnyH_take (i := 20) (v := .pointer (some ⟨bx, 3, none⟩)) rfl (by kernel_rfl) (by kernel_rfl) (by kernel_rfl) (fun _ _ _ h => h) (Or.inl ⟨by rfl, fun w hSw => by go_simp⟩) hu0 ?_
 try simp only [z1, z2, z3, z4, z5, z6, z7, z8]
 refine wpAnyH_take (i := 21) (v := .slice da dn dc) rfl (by kernel_rfl) (by kernel_rfl) (by kernel_rfl) (fun _ _ _ h => h) (Or.inl ⟨by rfl, fun w hSw => by have c0 := hSw.bx 3 _ rfl; go_simp⟩) hu0 ?_
 try simp only [z1, z2, z3, z4, z5, z6, z7, z8]
 refine wpAnyH_ready (rs := [11]) (by kernel_rfl) (by simp) (AllReadyH.cons (i := 11) rfl (fun K hK => ?_) AllReadyH.nil)
 rw [if_pos (by rfl)]
 go_simp
 refine (put_z1 HQ5.out name (ao := (some ⟨B, 0, none⟩)) (cp := dn + 40) (d := ds) (by omega) (by omega) hnm hl (HB5.out.sl hl) (fun h => by cases h) (fun _ a ha => by cases ha; exact .inr rfl)).mono ?_
 rintro e u1 ⟨ve, rfl, hv, hq, hk⟩
 have HQ6 := hide hq
 have HK6 : Hid (Keep (fun b => ¬ X b) w u1) := hide (HK5.out.trans hk (fun b hb _ hx => hb (.inl (.inl (.inl hx)))))
 have HV6 := hide hv
 have HS6 : Hid (Sl u1 da ds) := hide (HS5.out.keep hk (fun hd a ha hm => hm (.inl (.inl (.inl (hfar hd a ha))))))
 have HB6 : Hid (Hnd u1 B (ds ++ mk40 40)) := hide (hk.heapOf HB5.out (fun hn => hn (.inl (.inr rfl))))
 clear hq hv HQ5 HK5 HS5 HB5
 refine hK.out _ _ (hu0.mv hk (.inl (.inr rfl))) (fun hu1 => ?_)
 clear hK K
 try simp only [z1, z2, z3, z4, z5, z6, z7, z8]
 refine wpAnyH_ready (rs := [22]) (by kernel_rfl) (by simp) (AllReadyH.cons (i := 22) rfl (fun K hK => ?_) AllReadyH.nil)
 rw [if_pos (by rfl)]
 go_simp
 refine (put_z2 HQ6.out name (ao := da) (c := dc) (d := ds) (by omega) (by omega) hnm hl HS6.out hda0 (fun hd a ha => .inl (.inl (.inl (hfar hd a ha))))).mono ?_
 rintro e u2 ⟨rfl, hq, hk⟩
 have HQ7 := hide hq
 have HK7 : Hid (Keep (fun b => ¬ X b) w u2) := hide (HK6.out.trans hk (fun b hb _ hx => hb (.inl (.inl (.inl (.inl hx))))))
 have HV7 : Hid (ErrV u2 ve opPut name (S.put name ds).1) := hide (HV6.out.keepE hk (fun b hb hn => hn (.inl (.inr hb))))
 have HS7 : Hid (Sl u2 da ds) := hide (HS6.out.keep hk (fun hd a ha hm => hm (.inl (.inl (.inl (.inl (hfar hd a ha)))))))
 have HB7 : Hid (Hnd u2 B (ds ++ mk40 40)) := hide (hk.heapOf HB6.out (fun hn => hn (.inl (.inl (.inr rfl)))))
 have HG7 : Hid (Gl u2) := hide (HK7.out.cellOf HG.out (fun hn => hn hgx))
 clear hq HQ6 HK6 HV6 HS6 HB6 HG
 refine hK.out _ _ (hu1.mv hk (.inl (.inl (.inr rfl)))) (fun hu2 => ?_)
 clear hK K
 try simp only [z1, z2, z3, z4, z5, z6, z7, z8]
 refine wpAnyH_ready (rs := [23]) (by kernel_rfl) (by simp) (AllReadyH.cons (i := 23) rfl (fun K hK => ?_) AllReadyH.nil)
 rw [if_pos (by rfl)]
 go_simp
 refine (says_yes ve [112, 117, 116] name _ _ HG7.out (by decide) HV7.out).mono ?_
 rintro e u3 ⟨rfl, hk⟩
 have HQ8 := hide (HQ7.out.kept hk)
 have HK8 := hide (HK7.out.kept hk)
 have HS8 := hide (HS7.out.kept hk (by simp))
 have HB8 := hide (HB7.out.kept hk)
 clear HQ7 HK7 HV7 HG7 HS7 HB7
 refine hK.out _ _ (hu2.kept hk) (fun hu3 => ?_)
 clear hK K
 try simp only [z1, z2, z3, z4, z5, z6, z7, z8]
 refine wpAnyH_take (i := 24) (v := .bool true) rfl (by kernel_rfl) (by kernel_rfl) (by kernel_rfl) (fun _ _ _ h => h) (Or.inl ⟨by rfl, fun w hSw => by go_simp⟩) hu3 ?_
 try simp only [z1, z2, z3, z4, z5, z6, z7, z8]
 refine wpAnyH_done (by kernel_rfl) ?_ _
 clear hcut hnm
 have HL : Hid ((ds ++ mk40 40).length = dn + 40) := hide (by simp [mk40, hl])
 have HD := hide hl
 have HFAR := hide hfar
 clear hl hfar
 go_wp2
 go_loopw [7, 8] (fun ok i wr => ∃ k : Nat, k ≤ dn + 40 ∧ ok = .bool true ∧ i = .int .i64 k ∧ Hid (Hnd wr B (ov77 (ds ++ mk40 40) k) ∧ Sl wr da ds ∧ Rdz P p q bx [.int .i64 1, encStr name, encStr to, .slice da dn dc, .int .i64 n, .int .i64 po, .int .i64 pf, .int .i64 pt, .slice pa pn pc] wr ∧ Pz (fun b => (X b ∨ b = bx) ∨ b = B) wr P p q (S.put name ds).2 (N + min dn 1048576 + 20) (S.put name ds).2 (M + min dn 1048576 + 20) ∧ Keep (fun b => ¬ X b) w wr)) (fun ok i wr => dn + 40 - (intOf i).toNat)
 case atStart => exact ⟨0, by omega, rfl, rfl, hide ⟨HB8.out, HS8.out, hu3, HQ8.out.less (fun _ h => .inl h), HK8.out⟩⟩
 case round =>
 clear HB8 HS8 hu3 HQ8 HK8
 obtain ⟨k, hk, rfl, rfl, HI⟩ := hrel
 by_cases hlt : k < dn + 40
 ·have c3 : wr.cell? ⟨bx, 3, none⟩ = some (.slice da dn dc) := HI.out.2.2.1.bx 3 _ rfl
  have hL := HL.out
  have hq1 : (k : Int) < (dn : Int) + 40 := by omega
  have cB : wr.cell? ⟨B, k, none⟩ = some (.int .u8 ((ds ++ mk40 40).getD k 0).toNat) := by
   have := HI.out.1.cell k (by rw [ov77_len _ _ (by omega)]; omega)
   rwa [ov77_at] at this
  by_cases hd : k < dn
  ·have hq2 : decide (k < dn) = true := by simpa using hd
   have hq3 : decide ((k : Int) < (dn : Int)) = true := by simpa using hd
   have hq4 : decide ((dn : Int) ≤ (k : Int)) = false := by simpa using hd
   have hq5 : decide (dn ≤ k) = false := by simpa using hd
   have hdl := HD.out
   obtain ⟨db, dof, hda, hcd⟩ := HI.out.2.1 k (by omega)
   subst hda
   have eB : (ds ++ mk40 40).getD k 0 = ds.getD k 0 := by rw [List.getD_eq_getElem?_getD, List.getD_eq_getElem?_getD, List.getElem?_append_left (by omega)]
   rw [eB] at cB
   have hc8 : (ds.getD k 0).toNat < 256 := UInt8.toNat_lt _
   generalize (ds.getD k 0).toNat = c at cB hcd hc8
   clear eB hdl hL
   go_upto_region 12 with (fail)
   go_quiet (fail)
   go_upto_region 14 with (fail)
   have hkd : Kept [] wr (wr.drewN nq) := (Kept.refl [] wr).drewN nq
   have HI2 : Hid (Hnd (wr.drewN nq) B (ov77 (ds ++ mk40 40) k) ∧ Sl (wr.drewN nq) (some ⟨db, dof, none⟩) ds ∧ Rdz P p q bx [.int .i64 1, encStr name, encStr to, .slice (some ⟨db, dof, none⟩) dn dc, .int .i64 n, .int .i64 po, .int .i64 pf, .int .i64 pt, .slice pa pn pc] (wr.drewN nq) ∧ Pz (fun b => (X b ∨ b = bx) ∨ b = B) (wr.drewN nq) P p q (S.put name ds).2 (N + min dn 1048576 + 20) (S.put name ds).2 (M + min dn 1048576 + 20) ∧ Keep (fun b => ¬ X b) w (wr.drewN nq)) := hide ⟨HI.out.1.kept hkd, HI.out.2.1.kept hkd (by simp), HI.out.2.2.1.kept hkd, HI.out.2.2.2.1.kept hkd, HI.out.2.2.2.2.kept hkd⟩
   clear HI hkd c3 cB
   generalize wr.drewN nq = w9 at HI2 ⊢
   have cB9 := HI2.out.1.cell k (by have := HL.out; rw [ov77_len _ _ (by omega)]; omega)
   have fB9 := frozen_of_row w9 B k _ _ HI2.out.1
   go_wp2
   go_roundw
   case rel =>
    have hkk : Keep (fun b => b = B) w9 (w9.setCell ⟨B, k, none⟩ (.int .u8 77)) := (Keep.refl (fun b => b = B) w9).setCell (p := ⟨B, k, none⟩) (fun _ => rfl) _
    have hL := HL.out
    refine ⟨k + 1, by omega, rfl, by go_num, hide ⟨?_, HI2.out.2.1.keep hkk (fun hd a ha e => HXB.out (e ▸ HFAR.out hd a ha)), HI2.out.2.2.1.keep hkk HPB.out (fun e => HBX2.out e.symm), HI2.out.2.2.2.1.over hkk (.inr rfl) HPB.out, HI2.out.2.2.2.2.trans hkk (fun b hb _ hx => HXB.out (hb ▸ hx))⟩⟩
    have := HI2.out.1.set k 77
    rwa [ov77_step _ _ (by omega)] at this
   case measure => simp [intOf]; omega
  ·have hq2 : decide (k < dn) = false := by simpa using hd
   have hq3 : decide ((k : Int) < (dn : Int)) = false := by simpa using hd
   have hq4 : decide ((dn : Int) ≤ (k : Int)) = true := by simp; omega
   have hq5 : decide (dn ≤ k) = true := by simp; omega
   have hdl := HD.out
   have eB : (ds ++ mk40 40).getD k 0 = 99 := by
    rw [List.getD_eq_getElem?_getD, List.getElem?_append_right (by omega)]
    unfold mk40
    rw [List.getElem?_replicate, if_pos (by omega)]
    rfl
   rw [eB] at cB
   have cB : wr.cell? ⟨B, k, none⟩ = some (.int .u8 99) := cB
   clear eB hdl hL
   go_upto_region 12 with (fail)
   go_quiet (fail)
   go_upto_region 14 with (fail)
   have hkd : Kept [] wr (wr.drewN nq) := (Kept.refl [] wr).drewN nq
   have HI2 : Hid (Hnd (wr.drewN nq) B (ov77 (ds ++ mk40 40) k) ∧ Sl (wr.drewN nq) da ds ∧ Rdz P p q bx [.int .i64 1, encStr name, encStr to, .slice da dn dc, .int .i64 n, .int .i64 po, .int .i64 pf, .int .i64 pt, .slice pa pn pc] (wr.drewN nq) ∧ Pz (fun b => (X b ∨ b = bx) ∨ b = B) (wr.drewN nq) P p q (S.put name ds).2 (N + min dn 1048576 + 20) (S.put name ds).2 (M + min dn 1048576 + 20) ∧ Keep (fun b => ¬ X b) w (wr.drewN nq)) := hide ⟨HI.out.1.kept hkd, HI.out.2.1.kept hkd (by simp), HI.out.2.2.1.kept hkd, HI.out.2.2.2.1.kept hkd, HI.out.2.2.2.2.kept hkd⟩
   clear HI hkd c3 cB
   generalize wr.drewN nq = w9 at HI2 ⊢
   have cB9 := HI2.out.1.cell k (by have := HL.out; rw [ov77_len _ _ (by omega)]; omega)
   have fB9 := frozen_of_row w9 B k _ _ HI2.out.1
   go_wp2
   go_roundw
   case rel =>
    have hkk : Keep (fun b => b = B) w9 (w9.setCell ⟨B, k, none⟩ (.int .u8 77)) := (Keep.refl (fun b => b = B) w9).setCell (p := ⟨B, k, none⟩) (fun _ => rfl) _
    have hL := HL.out
    refine ⟨k + 1, by omega, rfl, by go_num, hide ⟨?_, HI2.out.2.1.keep hkk (fun hd a ha e => HXB.out (e ▸ HFAR.out hd a ha)), HI2.out.2.2.1.keep hkk HPB.out (fun e => HBX2.out e.symm), HI2.out.2.2.2.1.over hkk (.inr rfl) HPB.out, HI2.out.2.2.2.2.trans hkk (fun b hb _ hx => HXB.out (hb ▸ hx))⟩⟩
    have := HI2.out.1.set k 77
    rwa [ov77_step _ _ (by omega)] at this
   case measure => simp [intOf]; omega
 ·go_wp2
  go_ret
  exact ⟨rfl, HI.out.2.2.2.1.less (fun _ h => .inl (.inl h)), HI.out.2.2.2.2⟩
end Go.Proofs.YtodihkdmneihiaaGreatDoor
