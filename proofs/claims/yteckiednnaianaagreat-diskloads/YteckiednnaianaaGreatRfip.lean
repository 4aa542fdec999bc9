import Derived.Test.YteckiednnaianaaGreatId2p
import Derived.Test.YteckiednnaianaaGreatKfp
import Derived.Lib.SlBytesConst
import Derived.Test.YteckiednnaianaaGreatRffp
import Derived.Test.YteckiednnaianaaGreatRfhp
import Derived.Test.YteckiednnaianaaGreatHmp
import Derived.Test.YteckiednnaianaaGreatIbp
namespace Go.Proofs.YteckiednnaianaaGreat
section
open Go.RowKit Dsk
set_option linter.unusedVariables false
set_option linter.unusedSimpArgs false
section
variable {X : Nat → Prop} {w : World} {P p q D : Nat} {bo : Option Nat} {R : List UInt8} {S : Ds} {N : Nat}
theorem keep_setCell (w : World) (P j : Nat) (v : Value) : Keep (· = P) w (w.setCell ⟨P, j, none⟩ v) := (Keep.refl (· = P) w).setCell (fun _ => rfl) v
theorem Pq.twin {p' q' : Nat} {w2 w3 w4 w5 : World} (h : Pq X w P p q D bo R S N S N) (h2 : At w w2 p' S.compact N) (hw3 : w3 = w2.setCell ⟨P, 0, none⟩ (.pointer (some ⟨p', 0, none⟩)))
  (h4 : ∃ B oX, RD w4 q' S B oX ∧ (∀ b, oX b ≠ 0 → w3.heap.size ≤ b) ∧ Kept [] w3 w4) (hw5 : w5 = w4.setCell ⟨P, 1, none⟩ (.pointer (some ⟨q', 0, none⟩))) :
  ∃ Y, (∀ b, X b ∨ prB P D bo b → Y b) ∧ Ax Y w5 w5 p S N ∧ Keep (· = P) w w5 ∧ ∀ w6 S6 N6, Ax Y w5 w6 p S6 N6 → Pq X w6 P p' q' D bo R S.compact N S.compact N := by
 obtain ⟨A, o, A', o', hP, hRq, ap, hx, b1, b2⟩ := h.tw
 obtain ⟨A2, o2, g1, g2, g3, g4⟩ := h2
 obtain ⟨B, oX, r1, r2, r3⟩ := h4
 have hPl : P < w.heap.size := (hx P (.inr (.inl rfl))).2.2
 have k23 : Keep (· = P) w2 w3 := by rw [hw3]; exact keep_setCell _ _ _ _
 have k45 : Keep (· = P) w4 w5 := by rw [hw5]; exact keep_setCell _ _ _ _
 have k24 : Keep (· = P) w2 w4 := k23.kept r3
 have k25 : Keep (· = P) w2 w5 := k24.trans k45 (fun _ h _ => h)
 have k05 : Keep (· = P) w w5 := (Keep.ofNone (F := (· = P)) g3).trans k25 (fun _ h _ => h)
 have s23 : w3.heap.size = w2.heap.size := by rw [hw3]; simp [World.setCell]
 have s02 := g3.size
 have s34 := r3.size
 have s45 := k45.size
 obtain ⟨oC, hoC⟩ : ∃ oC : Lab, oC = fun b => if oX b = 0 then 0 else if oX b = 1 then 1 else S.rho (oX b - 2) + 2 := ⟨_, rfl⟩
 have hC : ∀ b, oC b ≠ 0 → oX b ≠ 0 := fun b hb he => hb (by rw [hoC]; simp [he])
 have r1c := r1.compact
 rw [← hoC] at r1c
 have p5 : PD w5 p S A o := hP.keep k05 (fun b hb e => hb (by rw [show b = P from e]; exact (hx P (.inr (.inl rfl))).1))
 have p5' : PD w5 p' S.compact A2 o2 := g1.keep k25 (fun b hb e => by have := g2 b hb; have : b = P := e; omega)
 have q5 := r1c.keep k45 (fun b hb e => by have := r2 b (hC b hb); have : b = P := e; omega)
 have n2 : ∀ b, b < w.heap.size → o2 b = 0 := fun b hb => Classical.byContradiction fun hn => by have := g2 b hn; omega
 have nC : ∀ b, b < w2.heap.size → oC b = 0 := fun b hb => Classical.byContradiction fun hn => by have := r2 b (hC b hn); omega
 have hc2 : w2.heap[P]? = some (.cells #[.pointer (some ⟨p, 0, none⟩), .pointer (some ⟨q, 0, none⟩), .pointer (some ⟨D, 0, none⟩)] 47 (0, 0)) := by rw [g3.block P hPl (by simp)]; exact h.cells
 have hc3 : w3.heap[P]? = some (.cells #[.pointer (some ⟨p', 0, none⟩), .pointer (some ⟨q, 0, none⟩), .pointer (some ⟨D, 0, none⟩)] 47 (0, 0)) := by rw [hw3, heap_setCell_same _ _ _ _ _ _ hc2]; rfl
 have hc4 : w4.heap[P]? = some (.cells #[.pointer (some ⟨p', 0, none⟩), .pointer (some ⟨q, 0, none⟩), .pointer (some ⟨D, 0, none⟩)] 47 (0, 0)) := by rw [r3.block P (by omega) (by simp)]; exact hc3
 have hc5 : w5.heap[P]? = some (.cells #[.pointer (some ⟨p', 0, none⟩), .pointer (some ⟨q', 0, none⟩), .pointer (some ⟨D, 0, none⟩)] 47 (0, 0)) := by rw [hw5, heap_setCell_same _ _ _ _ _ _ hc4]; rfl
 obtain ⟨v0, hv0⟩ := h.dp
 have tw5 : Twr (fun b => X b ∨ prB P D bo b) w5 p' S.compact N q' S.compact N := ⟨A2, o2, _, oC, p5', q5, fun b hb => nC b (g1.lim hb), fun b hb => by
  have := (hx b hb).2.2
  exact ⟨n2 b this, nC b (by omega), by omega⟩, g4, g4⟩
 have hD : ¬ D = P := fun e => h.pD e.symm
 have h5 : Pq X w5 P p' q' D bo R S.compact N S.compact N := ⟨tw5, hc5, ⟨k05.cellOf h.dk.cell hD, (k05.frozen (World.block_lt_of_cell? _ _ h.dk.cell) hD).trans h.dk.fr, h.dk.none, fun g e => ⟨(h.dk.row g e).1, by
   rw [k05.block g (Array.getElem?_eq_some_iff.1 (h.dk.row g e).2).1 (fun eq => h.pb (by rw [← show g = P from eq]; exact e))]; exact (h.dk.row g e).2⟩, h.dk.small⟩, ⟨v0, k05.cellOf hv0 hD⟩, (k05.frozen (World.block_lt_of_cell? _ _ hv0) hD).trans h.df, h.far, h.pD, h.pb⟩
 refine ⟨fun b => (X b ∨ prB P D bo b) ∨ o2 b ≠ 0 ∨ oC b ≠ 0, fun _ h => .inl h, ⟨A, o, p5, fun b hb => ?_, Keep.refl _ _, b1⟩, k05, fun w6 S6 N6 ha => ?_⟩
 ·rcases hb with hb | hb | hb
  ·exact ⟨(hx b hb).1, by have := (hx b hb).2.2; omega⟩
  ·exact ⟨Classical.byContradiction fun hn => by have := hP.lim hn; have := g2 b hb; omega, p5'.lim hb⟩
  ·exact ⟨Classical.byContradiction fun hn => by have := hP.lim hn; have := r2 b (hC b hb); omega, q5.lim b hb⟩
 ·have hk := ha.old
  have hk2 : Keep (fun b => ¬ (X b ∨ prB P D bo b)) w5 w6 := hk.mono (fun b hb _ hx => hb (.inl hx))
  refine h5.step (p' := p') (q' := q') ⟨A2, o2, _, oC, p5'.keep hk (fun b hb hn => hn (.inr (.inl hb))), q5.keep hk (fun b hb hn => hn (.inr (.inr hb))), fun b hb => nC b (g1.lim hb), fun b hb => ?_, g4, g4⟩ hk2
  have := (hx b hb).2.2
  have := hk.size
  exact ⟨n2 b (by omega), nC b (by omega), by omega⟩
end
set_option maxHeartbeats 3200000 in
set_option maxRecDepth 100000 in
theorem ot_twin {X : Nat → Prop} {w : World} {P p q D : Nat} {bo : Option Nat} {R : List UInt8} {S : Ds} {N : Nat} (h : Pq X w P p q D bo R S N S N) (name tx : By) (at_ n : Int) (da : Option Addr) (dn dc : Nat) (ds : By) (po pf pt : Int) (pa : Option Addr) (pn pc : Nat) (ps : List Int) (hi : StpIn w ⟨14, name, tx, at_, n, da, dn, dc, ds, po, pf, pt, pa, pn, pc, ps⟩) (hN : N + dn + 5 ≤ 268435456) :
  Calls Tryz.prog 63 #[.pointer (some ⟨P, 0, none⟩), .agg #[.int .i64 14, encStr name, encStr tx, .int .i64 at_, .int .i64 n, .slice da dn dc, .int .i64 po, .int .i64 pf, .int .i64 pt, .slice pa pn pc]] w fun e w' => e = .returned (.bool true) ∧ (∃ p' q', Pq X w' P p' q' D bo R S.compact N S.compact N) ∧ Keep (fun b => ¬ X b) w w' := by
 have hnm : name.length ≤ 4611686018427387904 := hi.nm
 have haw : (Lit.int .i64 at_).wf = true := hi.wa
 have hnw : (Lit.int .i64 n).wf = true := hi.wn
 have hpw : (Lit.int .i64 po).wf = true ∧ (Lit.int .i64 pf).wf = true ∧ (Lit.int .i64 pt).wf = true := ⟨hi.wo, hi.wf, hi.wt⟩
 obtain ⟨w1, hw1⟩ : ∃ w1, w1 = w.alloc (.cells #[.int .i64 14, encStr name, encStr tx, .int .i64 at_, .int .i64 n, .slice da dn dc, .int .i64 po, .int .i64 pf, .int .i64 pt, .slice pa pn pc] 52) := ⟨_, rfl⟩
 obtain ⟨h1, hR, hk1⟩ := h.box [.int .i64 14, encStr name, encStr tx, .int .i64 at_, .int .i64 n, .slice da dn dc, .int .i64 po, .int .i64 pf, .int .i64 pt, .slice pa pn pc] 52 hw1
 have i0 : w1.cell? ⟨w.heap.size, 0, none⟩ = some (.int .i64 14) := hR.bx 0 _ rfl
 have HK : Hid (Keep (fun b => ¬ X b) w w1) := hide (Keep.ofNone hk1)
 clear h hk1 hi
 go_enter Tryz.func63, Tryz.ntmps63
 go_upto_region 1 with (fail)
 rw [← hw1]
 clear hw1
 generalize w.heap.size = bx at *
 have HQ := hide h1
 have HR := hide hR
 clear h1 hR
 have c0 := HR.out.p0
 have c1 := HR.out.p1
 have htw : Calls Tryz.prog 96 #[.pointer (some ⟨p, 0, none⟩)] w1 fun e w' => ∃ q, e = .returned (.pointer (some ⟨q, 0, none⟩)) ∧ At w1 w' q S.compact N := by
  obtain ⟨A, o, A', o', hP, hRq, ap, hx, b1, b2⟩ := HQ.out.tw
  exact twin_ok hP b1 (by omega)
 have HRT : Hid (∀ v, Keep (· = P) w1 v → Calls Tryz.prog 97 #[.pointer (some ⟨q, 0, none⟩)] v fun e w' => RTwin v w' S e) := hide (fun v hv => by
  obtain ⟨A, o, A', o', hP, hRq, ap, hx, b1, b2⟩ := HQ.out.tw
  obtain ⟨hwf, nv, bv, tv, sv, hr⟩ := hRq.keep hv (fun b hb e => hb (by rw [show b = P from e]; exact (hx P (.inr (.inl rfl))).2.1))
  exact rtwin_ok hr hwf b2 (by omega))
 go_upto_region 24 with (go_at_call 96; refine htw.mono ?_; rintro e w2 ⟨p', rfl, hA⟩; have HA := hide hA; clear htw hA)
 have hk2 : Kept [] w1 w2 := by obtain ⟨_, _, _, _, h, _⟩ := HA.out; exact h
 have d0 := hk2.cellOf c0 (by simp)
 have d1 := hk2.cellOf c1 (by simp)
 have f0 : w2.frozen? ⟨P, 0, none⟩ = false := (hk2.frozen (p := ⟨P, 0, none⟩) (World.block_lt_of_cell? _ _ c0) (by simp)).trans (frozen_of_row _ _ _ _ _ HQ.out.cells)
 clear c0 i0
 go_upto_region 28 with (fail)
 obtain ⟨w3, hw3⟩ : ∃ w3, w3 = w2.setCell ⟨P, 0, none⟩ (.pointer (some ⟨p', 0, none⟩)) := ⟨_, rfl⟩
 rw [← hw3]
 have k3 : Keep (· = P) w1 w3 := (Keep.ofNone (F := (· = P)) hk2).trans (by rw [hw3]; exact keep_setCell _ _ _ _) (fun _ h _ => h)
 have e1 : w3.cell? ⟨P, 1, none⟩ = some (.pointer (some ⟨q, 0, none⟩)) := by rw [hw3, World.cell?_setCell_other _ _ _ _ (by intro e; cases e)]; exact d1
 have f1 : w3.frozen? ⟨P, 1, none⟩ = false := by rw [hw3, World.frozen?_setCell]; exact (hk2.frozen (p := ⟨P, 1, none⟩) (World.block_lt_of_cell? _ _ c1) (by simp)).trans (frozen_of_row _ _ _ _ _ HQ.out.cells)
 have hrt := HRT.out w3 k3
 have HW3 := hide hw3
 clear hw3 d0 d1 f0 c1 HRT k3 hk2
 have HCALL : Hid (Calls Tryz.prog 97 #[.pointer (some ⟨q, 0, none⟩)] w3 fun e w4 => ∃ q', e = .returned (.pointer (some ⟨q', 0, none⟩)) ∧ (∃ B oX, RD w4 q' S B oX ∧ (∀ b, oX b ≠ 0 → w3.heap.size ≤ b) ∧ Kept [] w3 w4) ∧ (∃ u, w4.cell? ⟨P, 1, none⟩ = some u) ∧ w4.frozen? ⟨P, 1, none⟩ = false) := hide (hrt.mono (by
  rintro e w4 ⟨q', rfl, B, oX, r1, r2, r3⟩
  exact ⟨q', rfl, ⟨B, oX, r1, r2, r3⟩, ⟨_, r3.cellOf e1 (by simp)⟩, (r3.frozen (p := ⟨P, 1, none⟩) (World.block_lt_of_cell? _ _ e1) (by simp)).trans f1⟩))
 clear hrt f1
 go_upto_region 29 with (go_at_call 97; refine HCALL.out.mono ?_; rintro e w4 ⟨q', rfl, h4, ⟨u1, e4⟩, f4⟩; have H4 := hide h4; clear HCALL h4 e1)
 obtain ⟨w5, hw5⟩ : ∃ w5, w5 = w4.setCell ⟨P, 1, none⟩ (.pointer (some ⟨q', 0, none⟩)) := ⟨_, rfl⟩
 rw [← hw5]
 obtain ⟨Y, hY, h5, k5, hfin⟩ := HQ.out.twin HA.out HW3.out H4.out hw5
 have HF := hide hfin
 have HK5 : Hid (Keep (fun b => ¬ X b) w w5) := hide (HK.out.trans k5 (fun b e _ hx => HQ.out.far b (.inl hx) (.inl e)))
 have HYX : Hid (∀ b, X b → Y b) := hide (fun b hb => hY b (.inl (.inl hb)))
 clear hw5 e4 f4 H4 HW3 HA HQ HK k5 hY hfin HR
 have hz : ([122, 122] : By).length ≤ 4611686018427387904 := by decide
 have hcr := create_ax h5 (by omega) [122, 122] hz
 clear h5
 go_upto_region 30 with (go_at_call 24; refine hcr.mono ?_; rintro e w6 ⟨rfl, ha⟩; have H6 := hide ha; clear ha hcr)
 obtain ⟨w7, hw7⟩ : ∃ w7, w7 = w6.alloc (.cells #[.int .u8 119] 5 (1, 2)) := ⟨_, rfl⟩
 have hk7 : Kept [] w6 w7 := by rw [hw7]; exact (Kept.refl [] w6).alloc _
 have hb7 : w7.heap[w6.heap.size]? = some (.cells #[.int .u8 119] 5 (1, 2)) := by rw [hw7]; exact (MapKept.heap_alloc w6 _).1
 have hap := fun c => append_ax H6.out hk7 (ao := some ⟨w6.heap.size, 0, none⟩) (n := 1) (c := c) (d := [119]) (by omega) [122, 122] hz rfl (Sl.of fun i hi => by obtain rfl : i = 0 := (by simpa using hi); rw [cell_of_row w7 _ 0 _ _ _ hb7]; rfl) (fun e => by cases e) (fun _ a ha => by cases ha; exact .inl (Nat.le_refl _))
 clear hb7 H6
 have kc := fun (w : World) (C : Array Value) (n c : Nat) => Lib.run_convert_bytes_const (P := Tryz.prog) w 24 5 C n c Tryz.underlying24 Tryz.underlying5
 go_upto_region 31 with (rw [← hw7]; go_at_call 25; refine (hap _).mono ?_; rintro e w8 ⟨rfl, ha⟩; have H8 := hide ha; clear ha hap hw7 hk7)
 have hsn := syncNames_ax H8.out (by omega)
 clear H8
 go_upto_region 32 with (go_at_call 27; refine hsn.mono ?_; rintro e w9 ⟨rfl, ha⟩; have H9 := hide ha; clear ha hsn)
 have hlk := look_ax H9.out
 clear H9
 go_upto_region 33 with (go_at_call 94; refine hlk.mono ?_; rintro e wa ⟨rfl, ha⟩; have Ha := hide ha; clear ha hlk)
 have hpl := plan_ax Ha.out 1 0 0 (by decide)
 clear Ha
 go_upto_region 34 with (go_at_call 89; refine hpl.mono ?_; rintro e wb ⟨rfl, ha⟩; have Hb := hide ha; clear ha hpl)
 have hrm := remove_ax Hb.out (by omega) [122, 122] hz
 clear Hb
 go_wp2_with (go_at_call 34; refine hrm.mono ?_; rintro e wc ⟨rfl, ha⟩; have Hc := hide ha; clear ha hrm)
 go_ret
 exact ⟨rfl, ⟨_, _, (HF.out _ _ _ Hc.out).less (fun _ h => .inl h)⟩, HK5.out.trans Hc.out.old (fun b hb _ hx => hb (HYX.out b hx))⟩
end

section
open Go.RowKit Dsk
set_option linter.unusedVariables false
set_option linter.unusedSimpArgs false
def stepP (S : Ds) (s : Stp) : Ds :=
 if s.kind = 1 then (S.create s.name).2 else
 if s.kind = 2 then (S.writeAt s.name s.at_ s.ds).2 else
 if s.kind = 3 then (S.append s.name s.ds).2 else
 if s.kind = 4 then (S.truncate s.name s.n).2 else
 if s.kind = 5 then (S.rename s.name s.to).2 else
 if s.kind = 6 then (S.remove s.name).2 else
 if s.kind = 7 then (S.sync s.name).2 else
 if s.kind = 8 then S.syncNames.2 else
 if s.kind = 9 then S.read s.name s.at_ s.n else
 if s.kind = 11 then S.setPlan s.po s.pf s.pt else
 if s.kind = 12 then S.crash s.ps else
 if s.kind = 13 then S.look else
 if s.kind = 14 then S.compact else S
def StpX (X : Nat → Prop) (s : Stp) : Prop := (s.ds ≠ [] → ∀ a, s.da = some a → X a.block) ∧ (s.ps ≠ [] → ∀ a, s.pa = some a → X a.block)
theorem StpIn.kept {w w' : World} {s : Stp} (h : StpIn w s) (hk : Kept [] w w') : StpIn w' s :=
 ⟨⟨h.inb.len, h.inb.le, h.inb.max, h.inb.sl.kept hk (by simp), h.inb.nil, h.inb.spot⟩, h.nm, h.tm, h.wk, h.wa, h.wn, h.wo, h.wf, h.wt, h.pl, h.pc, h.pm, h.pr.kept (Keep.ofNone (F := fun _ => False) hk) (fun _ _ _ h => h), h.pw, h.pz⟩
set_option maxHeartbeats 3200000 in
set_option maxRecDepth 100000 in
theorem st_other {X : Nat → Prop} {w : World} {P p q D : Nat} {bo : Option Nat} {R : List UInt8} {S : Ds} {N : Nat} (h : Pq X w P p q D bo R S N S N) (kd : Int) (name tx : By) (at_ n : Int) (da : Option Addr) (dn dc : Nat) (ds : By) (po pf pt : Int) (pa : Option Addr) (pn pc : Nat) (ps : List Int) (hkd : (kd == 1) = false ∧ (kd == 2) = false ∧ (kd == 3) = false ∧ (kd == 4) = false ∧ (kd == 5) = false ∧ (kd == 6) = false ∧ (kd == 7) = false ∧ (kd == 8) = false) (Q : Ending → World → Prop)
  (ho : ∀ w1, Pq X w1 P p q D bo R S N S N → Kept [] w w1 → Calls Tryz.prog 63 #[.pointer (some ⟨P, 0, none⟩), .agg #[.int .i64 kd, encStr name, encStr tx, .int .i64 at_, .int .i64 n, .slice da dn dc, .int .i64 po, .int .i64 pf, .int .i64 pt, .slice pa pn pc]] w1 fun e w' => Q e w' ∧ e = .returned (.bool true)) :
  Calls Tryz.prog 12 #[.pointer (some ⟨P, 0, none⟩), .agg #[.int .i64 kd, encStr name, encStr tx, .int .i64 at_, .int .i64 n, .slice da dn dc, .int .i64 po, .int .i64 pf, .int .i64 pt, .slice pa pn pc]] w Q := by
 obtain ⟨w1, hw1⟩ : ∃ w1, w1 = w.alloc (.cells #[.int .i64 kd, encStr name, encStr tx, .int .i64 at_, .int .i64 n, .slice da dn dc, .int .i64 po, .int .i64 pf, .int .i64 pt, .slice pa pn pc] 52) := ⟨_, rfl⟩
 obtain ⟨h1, hR, hk1⟩ := h.box [.int .i64 kd, encStr name, encStr tx, .int .i64 at_, .int .i64 n, .slice da dn dc, .int .i64 po, .int .i64 pf, .int .i64 pt, .slice pa pn pc] 52 hw1
 have i0 := hR.bx 0 _ rfl
 have i1 := hR.bx 1 _ rfl
 have i2 := hR.bx 2 _ rfl
 have i3 := hR.bx 3 _ rfl
 have i4 := hR.bx 4 _ rfl
 have i5 := hR.bx 5 _ rfl
 have i6 := hR.bx 6 _ rfl
 have i7 := hR.bx 7 _ rfl
 have i8 := hR.bx 8 _ rfl
 have i9 := hR.bx 9 _ rfl
 have hoc := ho w1 (h1.less (fun _ h => .inl h)) hk1
 clear h hk1 h1 hR ho
 obtain ⟨k1, k2, k3, k4, k5, k6, k7, k8⟩ := hkd
 go_enter Tryz.func12, Tryz.ntmps12
 go_upto_region 1 with (fail)
 rw [← hw1]
 clear hw1
 generalize w.heap.size = bx at *
 go_wp2_with (go_at_call 63; refine hoc.mono ?_; rintro e w2 ⟨hQ, rfl⟩; have HQ := hide hQ; clear hoc hQ)
 exact HQ.out
set_option maxRecDepth 100000 in
theorem step_ok {X : Nat → Prop} {w : World} {P p q D : Nat} {bo : Option Nat} {R : List UInt8} {S : Ds} {N : Nat} (h : Pq X w P p q D bo R S N S N) (s : Stp) (hi : StpIn w s) (hx : StpX X s) (hN : N + s.dn + 5 ≤ 268435456) (hdn : s.dn ≤ 200000) (hpn : s.pn ≤ 1000000) :
  Calls Tryz.prog 12 #[.pointer (some ⟨P, 0, none⟩), .agg s.cells.toArray] w fun e w' => e = .returned (.bool true) ∧ (∃ p' q' bo' R', Pq X w' P p' q' D bo' R' (stepP S s) (N + s.dn + 3) (stepP S s) (N + s.dn + 3)) ∧ Keep (fun b => ¬ X b) w w' := by
 obtain ⟨kind, name, tx, at_, n, da, dn, dc, ds, po, pf, pt, pa, pn, pc, ps⟩ := s
 simp only at hN hdn hpn
 simp only [Stp.cells]
 by_cases h1 : kind = 1
 ·subst h1
  have hs : stepP S ⟨1, name, tx, at_, n, da, dn, dc, ds, po, pf, pt, pa, pn, pc, ps⟩ = (S.create name).2 := by simp [stepP]
  rw [hs]
  refine (st_create h name tx at_ n da dn dc ds po pf pt pa pn pc ps hi (by omega)).mono ?_
  rintro e w' ⟨rfl, hq, hk⟩
  exact ⟨rfl, ⟨_, _, _, _, hq.mono (by omega) (by omega)⟩, hk⟩
 by_cases h2 : kind = 2
 ·subst h2
  have hs : stepP S ⟨2, name, tx, at_, n, da, dn, dc, ds, po, pf, pt, pa, pn, pc, ps⟩ = (S.writeAt name at_ ds).2 := by simp [stepP]
  rw [hs]
  refine (st_writeAt h name tx at_ n da dn dc ds po pf pt pa pn pc ps hi hx.1 (by omega) hdn).mono ?_
  rintro e w' ⟨rfl, ⟨bo', R', hq⟩, hk⟩
  exact ⟨rfl, ⟨_, _, _, _, hq.mono (by omega) (by omega)⟩, hk⟩
 by_cases h3 : kind = 3
 ·subst h3
  have hs : stepP S ⟨3, name, tx, at_, n, da, dn, dc, ds, po, pf, pt, pa, pn, pc, ps⟩ = (S.append name ds).2 := by simp [stepP]
  rw [hs]
  refine (st_append h name tx at_ n da dn dc ds po pf pt pa pn pc ps hi hx.1 (by omega) hdn).mono ?_
  rintro e w' ⟨rfl, ⟨bo', R', hq⟩, hk⟩
  exact ⟨rfl, ⟨_, _, _, _, hq.mono (by omega) (by omega)⟩, hk⟩
 by_cases h4 : kind = 4
 ·subst h4
  have hs : stepP S ⟨4, name, tx, at_, n, da, dn, dc, ds, po, pf, pt, pa, pn, pc, ps⟩ = (S.truncate name n).2 := by simp [stepP]
  rw [hs]
  refine (st_truncate h name tx at_ n da dn dc ds po pf pt pa pn pc ps hi (by omega)).mono ?_
  rintro e w' ⟨rfl, hq, hk⟩
  exact ⟨rfl, ⟨_, _, _, _, hq.mono (by omega) (by omega)⟩, hk⟩
 by_cases h5 : kind = 5
 ·subst h5
  have hs : stepP S ⟨5, name, tx, at_, n, da, dn, dc, ds, po, pf, pt, pa, pn, pc, ps⟩ = (S.rename name tx).2 := by simp [stepP]
  rw [hs]
  refine (st_rename h name tx at_ n da dn dc ds po pf pt pa pn pc ps hi (by omega)).mono ?_
  rintro e w' ⟨rfl, hq, hk⟩
  exact ⟨rfl, ⟨_, _, _, _, hq.mono (by omega) (by omega)⟩, hk⟩
 by_cases h6 : kind = 6
 ·subst h6
  have hs : stepP S ⟨6, name, tx, at_, n, da, dn, dc, ds, po, pf, pt, pa, pn, pc, ps⟩ = (S.remove name).2 := by simp [stepP]
  rw [hs]
  refine (st_remove h name tx at_ n da dn dc ds po pf pt pa pn pc ps hi (by omega)).mono ?_
  rintro e w' ⟨rfl, hq, hk⟩
  exact ⟨rfl, ⟨_, _, _, _, hq.mono (by omega) (by omega)⟩, hk⟩
 by_cases h7 : kind = 7
 ·subst h7
  have hs : stepP S ⟨7, name, tx, at_, n, da, dn, dc, ds, po, pf, pt, pa, pn, pc, ps⟩ = (S.sync name).2 := by simp [stepP]
  rw [hs]
  refine (st_sync h name tx at_ n da dn dc ds po pf pt pa pn pc ps hi (by omega)).mono ?_
  rintro e w' ⟨rfl, hq, hk⟩
  exact ⟨rfl, ⟨_, _, _, _, hq.mono (by omega) (by omega)⟩, hk⟩
 by_cases h8 : kind = 8
 ·subst h8
  have hs : stepP S ⟨8, name, tx, at_, n, da, dn, dc, ds, po, pf, pt, pa, pn, pc, ps⟩ = (S.syncNames).2 := by simp [stepP]
  rw [hs]
  refine (st_syncNames h name tx at_ n da dn dc ds po pf pt pa pn pc ps hi (by omega)).mono ?_
  rintro e w' ⟨rfl, hq, hk⟩
  exact ⟨rfl, ⟨_, _, _, _, hq.mono (by omega) (by omega)⟩, hk⟩
 by_cases h9 : kind = 9
 ·subst h9
  have hs : stepP S ⟨9, name, tx, at_, n, da, dn, dc, ds, po, pf, pt, pa, pn, pc, ps⟩ = S.read name at_ n := by simp [stepP]
  rw [hs]
  refine st_other h 9 name tx at_ n da dn dc ds po pf pt pa pn pc ps (by decide) _ (fun w1 g1 hk1 => (ot_read g1 name tx at_ n da dn dc ds po pf pt pa pn pc ps (hi.kept hk1) (by omega)).mono ?_)
  rintro e w' ⟨rfl, hq, hk⟩
  exact ⟨⟨rfl, ⟨_, _, _, _, hq.mono (by omega) (by omega)⟩, (Keep.ofNone hk1).trans hk (fun _ h _ => h)⟩, rfl⟩
 by_cases h10 : kind = 10
 ·subst h10
  have hs : stepP S ⟨10, name, tx, at_, n, da, dn, dc, ds, po, pf, pt, pa, pn, pc, ps⟩ = S := by simp [stepP]
  rw [hs]
  refine st_other h 10 name tx at_ n da dn dc ds po pf pt pa pn pc ps (by decide) _ (fun w1 g1 hk1 => (ot_size g1 name tx at_ n da dn dc ds po pf pt pa pn pc ps (hi.kept hk1) (by omega)).mono ?_)
  rintro e w' ⟨rfl, hq, hk⟩
  exact ⟨⟨rfl, ⟨_, _, _, _, hq.mono (by omega) (by omega)⟩, (Keep.ofNone hk1).trans hk (fun _ h _ => h)⟩, rfl⟩
 by_cases h11 : kind = 11
 ·subst h11
  have hs : stepP S ⟨11, name, tx, at_, n, da, dn, dc, ds, po, pf, pt, pa, pn, pc, ps⟩ = S.setPlan po pf pt := by simp [stepP]
  rw [hs]
  refine st_other h 11 name tx at_ n da dn dc ds po pf pt pa pn pc ps (by decide) _ (fun w1 g1 hk1 => (ot_plan g1 name tx at_ n da dn dc ds po pf pt pa pn pc ps (hi.kept hk1) (by omega)).mono ?_)
  rintro e w' ⟨rfl, hq, hk⟩
  exact ⟨⟨rfl, ⟨_, _, _, _, hq.mono (by omega) (by omega)⟩, (Keep.ofNone hk1).trans hk (fun _ h _ => h)⟩, rfl⟩
 by_cases h12 : kind = 12
 ·subst h12
  have hs : stepP S ⟨12, name, tx, at_, n, da, dn, dc, ds, po, pf, pt, pa, pn, pc, ps⟩ = S.crash ps := by simp [stepP]
  rw [hs]
  refine st_other h 12 name tx at_ n da dn dc ds po pf pt pa pn pc ps (by decide) _ (fun w1 g1 hk1 => (ot_crash g1 name tx at_ n da dn dc ds po pf pt pa pn pc ps (hi.kept hk1) (by omega) hx.2 hpn).mono ?_)
  rintro e w' ⟨rfl, hq, hk⟩
  exact ⟨⟨rfl, ⟨_, _, _, _, hq.mono (by omega) (by omega)⟩, (Keep.ofNone hk1).trans hk (fun _ h _ => h)⟩, rfl⟩
 by_cases h13 : kind = 13
 ·subst h13
  have hs : stepP S ⟨13, name, tx, at_, n, da, dn, dc, ds, po, pf, pt, pa, pn, pc, ps⟩ = S.look := by simp [stepP]
  rw [hs]
  refine st_other h 13 name tx at_ n da dn dc ds po pf pt pa pn pc ps (by decide) _ (fun w1 g1 hk1 => (ot_look g1 name tx at_ n da dn dc ds po pf pt pa pn pc ps (hi.kept hk1) (by omega)).mono ?_)
  rintro e w' ⟨rfl, hq, hk⟩
  exact ⟨⟨rfl, ⟨_, _, _, _, hq.mono (by omega) (by omega)⟩, (Keep.ofNone hk1).trans hk (fun _ h _ => h)⟩, rfl⟩
 by_cases h14 : kind = 14
 ·subst h14
  have hs : stepP S ⟨14, name, tx, at_, n, da, dn, dc, ds, po, pf, pt, pa, pn, pc, ps⟩ = S.compact := by simp [stepP]
  rw [hs]
  refine st_other h 14 name tx at_ n da dn dc ds po pf pt pa pn pc ps (by decide) _ (fun w1 g1 hk1 => (ot_twin g1 name tx at_ n da dn dc ds po pf pt pa pn pc ps (hi.kept hk1) (by omega)).mono ?_)
  rintro e w' ⟨rfl, ⟨p', q', hq⟩, hk⟩
  exact ⟨⟨rfl, ⟨_, _, _, _, hq.mono (by omega) (by omega)⟩, (Keep.ofNone hk1).trans hk (fun _ h _ => h)⟩, rfl⟩
 have hs : stepP S ⟨kind, name, tx, at_, n, da, dn, dc, ds, po, pf, pt, pa, pn, pc, ps⟩ = S := by simp [stepP, h1, h2, h3, h4, h5, h6, h7, h8, h9, h10, h11, h12, h13, h14]
 rw [hs]
 refine st_other h kind name tx at_ n da dn dc ds po pf pt pa pn pc ps (by simp [h1, h2, h3, h4, h5, h6, h7, h8]) _ (fun w1 g1 hk1 => (ot_none g1 kind (by simp [h9, h10, h11, h12, h13, h14]) name tx at_ n da dn dc ds po pf pt pa pn pc ps (hi.kept hk1) (by omega)).mono ?_)
 rintro e w' ⟨rfl, hq, hk⟩
 exact ⟨⟨rfl, ⟨_, _, _, _, hq.mono (by omega) (by omega)⟩, (Keep.ofNone hk1).trans hk (fun _ h _ => h)⟩, rfl⟩
end

section
open Go.RowKit Dsk
set_option linter.unusedVariables false
set_option linter.unusedSimpArgs false
theorem size_alloc (w : World) (o : Obj) : (w.alloc o).heap.size = w.heap.size + 1 := by
 show (w.heap.push o).size = _
 simp
theorem Pq.new {X : Nat → Prop} {w w1 w2 w4 : World} {p q : Nat} {S : Ds} {A A' : Nat → Nat} {o o' : Lab} (hX : ∀ b, X b → b < w.heap.size) (hp : PD w1 p S A o) (ho : ∀ b, o b ≠ 0 → w.heap.size ≤ b) (hk1 : Kept [] w w1) (hq : RD w2 q S A' o') (ho' : ∀ b, o' b ≠ 0 → w1.heap.size ≤ b) (hk2 : Kept [] w1 w2) (hb : S.Bd 0)
  (hw4 : w4 = (w2.alloc (.cells #[.slice none 0 0, .slice none 0 0] 45)).alloc (.cells #[.pointer (some ⟨p, 0, none⟩), .pointer (some ⟨q, 0, none⟩), .pointer (some ⟨w2.heap.size, 0, none⟩)] 47)) :
  Pq X w4 (w2.heap.size + 1) p q w2.heap.size none [] S 0 S 0 ∧ Kept [] w w4 := by
 obtain ⟨w3, hw3⟩ : ∃ w3, w3 = w2.alloc (.cells #[.slice none 0 0, .slice none 0 0] 45) := ⟨_, rfl⟩
 rw [← hw3] at hw4
 have hD3 : w3.heap[w2.heap.size]? = some (.cells #[.slice none 0 0, .slice none 0 0] 45 (0, 0)) := by rw [hw3]; exact (MapKept.heap_alloc w2 _).1
 have s3 : w3.heap.size = w2.heap.size + 1 := by rw [hw3]; exact size_alloc _ _
 have hP4 : w4.heap[w3.heap.size]? = some (.cells #[.pointer (some ⟨p, 0, none⟩), .pointer (some ⟨q, 0, none⟩), .pointer (some ⟨w2.heap.size, 0, none⟩)] 47 (0, 0)) := by rw [hw4]; exact (MapKept.heap_alloc w3 _).1
 have s4 : w4.heap.size = w3.heap.size + 1 := by rw [hw4]; exact size_alloc _ _
 have k23 : Kept [] w2 w3 := by rw [hw3]; exact (Kept.refl [] w2).alloc _
 have k34 : Kept [] w3 w4 := by rw [hw4]; exact (Kept.refl [] w3).alloc _
 have k24 := k23.trans k34 (by simp)
 have k14 := hk2.trans k24 (by simp)
 have hD4 : w4.heap[w2.heap.size]? = some (.cells #[.slice none 0 0, .slice none 0 0] 45 (0, 0)) := by rw [k34.block _ (by omega) (by simp)]; exact hD3
 have z1 := hk1.size
 have z2 := hk2.size
 have hlo : ∀ b, o b ≠ 0 → b < w1.heap.size := fun b hb => hp.lim hb
 have hlo' : ∀ b, o' b ≠ 0 → b < w2.heap.size := fun b hb => hq.lim b hb
 refine ⟨⟨⟨A, o, A', o', hp.keep (Keep.ofNone (F := fun _ => False) k14) (fun _ _ h => h), hq.kept k24, fun b hb => Classical.byContradiction fun hn => ?_, fun b hb => ?_, hb, hb⟩, ?_, ⟨?_, frozen_of_row _ _ _ _ _ hD4, fun _ => rfl, fun g e => (by cases e), (by simp)⟩, ⟨.slice none 0 0, ?_⟩, frozen_of_row _ _ _ _ _ hD4, fun b hb hp => ?_, by omega, by simp⟩, hk1.trans k14 (by simp)⟩
 ·have := hlo b hb; have := ho' b hn; omega
 ·have e0 : ∀ b, b < w.heap.size ∨ w2.heap.size ≤ b → o b = 0 ∧ o' b = 0 := fun b hb => ⟨Classical.byContradiction fun hn => by have := ho b hn; have := hlo b hn; omega, Classical.byContradiction fun hn => by have := ho' b hn; have := hlo' b hn; omega⟩
  rcases hb with hb | hb | hb | hb
  ·have := hX b hb
   exact ⟨(e0 b (.inl this)).1, (e0 b (.inl this)).2, by omega⟩
  ·exact ⟨(e0 b (.inr (by omega))).1, (e0 b (.inr (by omega))).2, by omega⟩
  ·exact ⟨(e0 b (.inr (by omega))).1, (e0 b (.inr (by omega))).2, by omega⟩
  ·cases hb
 ·rw [← s3]; exact hP4
 ·rw [cell_of_row w4 _ 0 _ _ _ hD4]; rfl
 ·rw [cell_of_row w4 _ 1 _ _ _ hD4]; rfl
 ·have := hX b hb
  rcases hp with hp | hp | hp
  ·omega
  ·omega
  ·cases hp
end

section
open Go.RowKit Dsk
set_option linter.unusedVariables false
set_option linter.unusedSimpArgs false
def StandsOk : Prop := ∀ (X : Nat → Prop) (w : World) (P p q D : Nat) (bo : Option Nat) (R : List UInt8) (S : Ds) (N : Nat), Pq X w P p q D bo R S N S N → N ≤ 268435456 →
 Calls Tryz.prog 11 #[.pointer (some ⟨P, 0, none⟩)] w fun e w' => e = .returned (.bool true) ∧ Kept [] w w'
def Pl (w wr : World) (P N : Nat) : Prop := Kept [] w wr ∧ ∃ p q D bo R S, Pq (fun b => b < w.heap.size) wr P p q D bo R S N S N
theorem kept_of_keep {w wr : World} (h : Keep (fun b => ¬ b < w.heap.size) w wr) : Kept [] w wr := ⟨h.os, h.tape, h.output, h.size, fun k hk _ => h.block k hk (fun hn => hn hk)⟩
theorem Pl.kept {w wr w' : World} {P N : Nat} (h : Pl w wr P N) (hk : Kept [] wr w') : Pl w w' P N := by
 obtain ⟨h1, p, q, D, bo, R, S, h2⟩ := h
 exact ⟨h1.trans hk (by simp), p, q, D, bo, R, S, h2.kept hk⟩
theorem stpX_old {w : World} {s : Stp} (h : StpIn w s) : StpX (fun b => b < w.heap.size) s := by
 refine ⟨fun hd a ha => ?_, fun hp a ha => ?_⟩
 ·obtain ⟨b, off, e, hb, _⟩ := h.inb.sl.open hd
  rw [e] at ha
  cases ha
  exact hb
 ·obtain ⟨b, off, e, hc⟩ := h.pr 0 (List.length_pos_iff.2 hp)
  rw [e] at ha
  cases ha
  exact World.block_lt_of_cell? _ _ hc
theorem pl_stands (hst : StandsOk) {w wr : World} {P N : Nat} (h : Pl w wr P N) (hN : N ≤ 268435456) : Calls Tryz.prog 11 #[.pointer (some ⟨P, 0, none⟩)] wr fun e w' => e = .returned (.bool true) ∧ Pl w w' P N := by
 obtain ⟨h1, p, q, D, bo, R, S, h2⟩ := h
 refine (hst _ _ _ _ _ _ _ _ _ _ h2 hN).mono ?_
 rintro e w' ⟨rfl, hk⟩
 exact ⟨rfl, Pl.kept ⟨h1, p, q, D, bo, R, S, h2⟩ hk⟩
end

section
open Go.RowKit Dsk
set_option linter.unusedVariables false
set_option linter.unusedSimpArgs false
structure Foot (Z : Nat → Prop) (w : World) (A : (Nat → Prop) → World → Prop) : Prop where
 lt : ∀ b, Z b → b < w.heap.size
 on : ∀ (X : Nat → Prop) (w' : World), Keep (fun b => ¬ Z b) w w' → (∀ b, X b → ¬ Z b ∧ b < w'.heap.size) → A X w'
theorem Foot.keep {Z F : Nat → Prop} {w w' : World} {A : (Nat → Prop) → World → Prop} (h : Foot Z w A) (hk : Keep F w w') (hF : ∀ b, F b → ¬ Z b) : Foot Z w' A :=
 ⟨fun b hb => Nat.lt_of_lt_of_le (h.lt b hb) hk.size, fun X w'' h1 h2 => h.on X w'' ((hk.mono (G := fun b => ¬ Z b) (fun b hb _ => hF b hb)).trans h1 (fun _ h _ => h)) h2⟩
section
variable {X : Nat → Prop} {w w' : World} {P p q D : Nat} {bo : Option Nat} {R : List UInt8} {S : Ds} {N : Nat} {T : Ds} {M : Nat}
theorem Pq.foot (h : Pq X w P p q D bo R S N T M) : ∃ Z : Nat → Prop, (∀ b, X b → ¬ Z b) ∧ Foot Z w (fun X w => Pq X w P p q D bo R S N T M) := by
 obtain ⟨A, o, A', o', h1, h2, h3, h4, h5, h6⟩ := h.tw
 refine ⟨fun b => o b ≠ 0 ∨ o' b ≠ 0 ∨ prB P D bo b, fun b hb hz => ?_, ⟨fun b hb => ?_, fun Y w' hk hY => ?_⟩⟩
 ·rcases hz with hz | hz | hz
  ·exact hz (h4 b (.inl hb)).1
  ·exact hz (h4 b (.inl hb)).2.1
  ·exact h.far b hb hz
 ·rcases hb with hb | hb | hb
  ·exact h1.lim hb
  ·exact h2.lim b hb
  ·exact (h4 b (.inr hb)).2.2
 ·refine (h.less (Y := fun _ => False) (fun _ h => h.elim)).stepY (Y := Y) ⟨A, o, A', o', h1.keep hk (fun b hb hn => hn (.inl hb)), h2.keep hk (fun b hb hn => hn (.inr (.inl hb))), h3, fun b hb => ?_, h5, h6⟩ (hk.mono (fun b hb _ hx => hb (hx.elim False.elim (fun h => .inr (.inr h))))) (fun b hb hp => (hY b hb).1 (.inr (.inr hp)))
  rcases hb with hb | hb
  ·obtain ⟨g1, g2⟩ := hY b hb
   exact ⟨Classical.byContradiction fun hn => g1 (.inl hn), Classical.byContradiction fun hn => g1 (.inr (.inl hn)), g2⟩
  ·exact ⟨(h4 b (.inr hb)).1, (h4 b (.inr hb)).2.1, Nat.lt_of_lt_of_le (h4 b (.inr hb)).2.2 hk.size⟩
end
def PlF (w wr : World) (P N : Nat) (Z : Nat → Prop) : Prop := (∀ b, Z b → w.heap.size ≤ b) ∧ ∃ p q D bo R S, Foot Z wr (fun X w => Pq X w P p q D bo R S N S N)
def Tp (w wr : World) (P N P' N' : Nat) : Prop := Kept [] w wr ∧ ∃ Z Z' : Nat → Prop, (∀ b, Z b → ¬ Z' b) ∧ PlF w wr P N Z ∧ PlF w wr P' N' Z'
theorem Tp.swap {w wr : World} {P N P' N' : Nat} (h : Tp w wr P N P' N') : Tp w wr P' N' P N := by
 obtain ⟨h1, Z, Z', h2, h3, h4⟩ := h
 exact ⟨h1, Z', Z, fun b hb hn => h2 b hn hb, h4, h3⟩
theorem PlF.keep {w wr w' : World} {P N : Nat} {Z F : Nat → Prop} (h : PlF w wr P N Z) (hk : Keep F wr w') (hF : ∀ b, F b → ¬ Z b) : PlF w w' P N Z := by
 obtain ⟨h1, p, q, D, bo, R, S, h2⟩ := h
 exact ⟨h1, p, q, D, bo, R, S, h2.keep hk hF⟩
theorem Tp.kept {w wr w' : World} {P N P' N' : Nat} (h : Tp w wr P N P' N') (hk : Kept [] wr w') : Tp w w' P N P' N' := by
 obtain ⟨h1, Z, Z', h2, h3, h4⟩ := h
 have hk' : Keep (fun _ => False) wr w' := Keep.ofNone hk
 exact ⟨h1.trans hk (by simp), Z, Z', h2, h3.keep hk' (fun _ h => h.elim), h4.keep hk' (fun _ h => h.elim)⟩
theorem Tp.mono {w wr : World} {P N P' N' M M' : Nat} (h : Tp w wr P N P' N') (hm : N ≤ M) (hm' : N' ≤ M') : Tp w wr P M P' M' := by
 obtain ⟨h1, Z, Z', h2, ⟨a1, p, q, D, bo, R, S, a2⟩, ⟨b1, p', q', D', bo', R', S', b2⟩⟩ := h
 exact ⟨h1, Z, Z', h2, ⟨a1, p, q, D, bo, R, S, a2.lt, fun X v g1 g2 => (a2.on X v g1 g2).mono hm hm⟩, ⟨b1, p', q', D', bo', R', S', b2.lt, fun X v g1 g2 => (b2.on X v g1 g2).mono hm' hm'⟩⟩
theorem Tp.one {w wr : World} {P N P' N' : Nat} (h : Tp w wr P N P' N') : ∃ X : Nat → Prop, (∀ b, b < w.heap.size → X b) ∧ (∃ p q D bo R S, Pq X wr P p q D bo R S N S N) ∧
  ∀ w' p q D bo R S M, Pq X w' P p q D bo R S M S M → Keep (fun b => ¬ X b) wr w' → Tp w w' P M P' N' := by
 obtain ⟨h1, Z, Z', h2, ⟨a1, p, q, D, bo, R, S, a2⟩, h4⟩ := h
 have hs := h1.size
 refine ⟨fun b => b < w.heap.size ∨ Z' b, fun b hb => .inl hb, ⟨p, q, D, bo, R, S, a2.on _ wr (Keep.refl _ _) (fun b hb => ?_)⟩, fun w' p q D bo R S M hq hk => ?_⟩
 ·obtain ⟨b1, _, _, _, _, _, _, b2⟩ := h4
  rcases hb with hb | hb
  ·exact ⟨fun hz => by have := a1 b hz; omega, by omega⟩
  ·exact ⟨fun hz => h2 b hz hb, b2.lt b hb⟩
 ·obtain ⟨Y, hY, hf⟩ := hq.foot
  refine ⟨kept_of_keep ((Keep.ofNone h1).trans hk (fun b hn _ hb => hn (.inl hb))), Y, Z', fun b hb hz => hY b (.inr hz) hb, ⟨fun b hb => Nat.le_of_not_lt fun hn => hY b (.inl hn) hb, p, q, D, bo, R, S, hf⟩, h4.keep hk (fun b hn hz => hn (.inr hz))⟩
theorem Pl.two {w wr w' : World} {P N P' : Nat} (h : Pl w wr P N) (hk : Kept [] wr w') {r : Nat} (h2 : ∀ X : Nat → Prop, (∀ b, X b → b < wr.heap.size) → ∃ p q D, Pq X w' P' p q D none [] (Ds.fresh r) 0 (Ds.fresh r) 0) : Tp w w' P N P' 0 := by
 obtain ⟨h1, p, q, D, bo, R, S, h3⟩ := h
 obtain ⟨Z, hZ, hf⟩ := h3.foot
 have hs := h1.size
 obtain ⟨p', q', D', g⟩ := h2 (fun b => b < wr.heap.size) (fun b hb => hb)
 obtain ⟨Z', hZ', hf'⟩ := g.foot
 refine ⟨h1.trans hk (by simp), Z, Z', fun b hb hz => hZ' b (hf.lt b hb) hz, ⟨fun b hb => Nat.le_of_not_lt fun hn => hZ b hn hb, p, q, D, bo, R, S, hf.keep (F := fun _ => False) (Keep.ofNone hk) (fun _ h => h.elim)⟩, ⟨fun b hb => Nat.le_of_not_lt fun hn => hZ' b (by omega) hb, p', q', D', _, _, _, hf'⟩⟩
end

end Go.Proofs.YteckiednnaianaaGreat
