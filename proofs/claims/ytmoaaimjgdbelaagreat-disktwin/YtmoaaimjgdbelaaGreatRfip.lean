/-
  Pair.other: Twin. (Written by tools/rfi.py.)
-/
import Derived.Test.YtmoaaimjgdbelaaGreatRfgp
import Derived.Test.YtmoaaimjgdbelaaGreatKhp
import Derived.Lib.SlBytesConst
namespace Go.Proofs.YtmoaaimjgdbelaaGreat
open Go.RowKit Dsk
set_option linter.unusedVariables false
set_option linter.unusedSimpArgs false
section
variable {X : Nat → Prop} {w : World} {P p q D : Nat} {bo : Option Nat} {R : List UInt8} {S : Ds} {N : Nat}
theorem keep_setCell (w : World) (P j : Nat) (v : Value) : Keep (· = P) w (w.setCell ⟨P, j, none⟩ v) := (Keep.refl (· = P) w).setCell (fun _ => rfl) v
/-- Both disks' twins take their places; the old disk of the program's lives on beside them. -/
theorem Pq.twin {p' q' : Nat} {w2 w3 w4 w5 : World} (h : Pq X w P p q D bo R S N S N) (h2 : At w w2 p' S.compact N) (hw3 : w3 = w2.setCell ⟨P, 0, none⟩ (.pointer (some ⟨p', 0, none⟩)))
    (h4 : ∃ B oX, RD w4 q' S B oX ∧ (∀ b, oX b ≠ 0 → w3.heap.size ≤ b) ∧ Kept [] w3 w4) (hw5 : w5 = w4.setCell ⟨P, 1, none⟩ (.pointer (some ⟨q', 0, none⟩))) :
    ∃ Y, (∀ b, X b ∨ prB P D bo b → Y b) ∧ Ax Y w5 w5 p S N ∧ Keep (· = P) w w5 ∧ ∀ w6 S6 N6, Ax Y w5 w6 p S6 N6 → Pq X w6 P p' q' D bo R S.compact N S.compact N := by
  obtain ⟨A, o, A', o', hP, hRq, ap, hx, b1, b2⟩ := h.tw
  obtain ⟨A2, o2, g1, g2, g3, g4⟩ := h2
  obtain ⟨B, oX, r1, r2, r3⟩ := h4
  have hPl : P < w.heap.size := (hx P (.inr (.inl rfl))).2.2
  have k23 : Keep (· = P) w2 w3 := by rw [hw3]; exact keep_setCell _ _ _ _
  have k45 : Keep (· = P) w4 w5 := by rw [hw5]; exact keep_setCell _ _ _ _
  have k24 : Keep (· = P) w2 w4 := k23.kept r3
  have k25 : Keep (· = P) w2 w5 := k24.trans k45 (fun _ h _ => h)
  have k05 : Keep (· = P) w w5 := (Keep.ofNone (F := (· = P)) g3).trans k25 (fun _ h _ => h)
  have s23 : w3.heap.size = w2.heap.size := by rw [hw3]; simp [World.setCell]
  have s02 := g3.size
  have s34 := r3.size
  have s45 := k45.size
  obtain ⟨oC, hoC⟩ : ∃ oC : Lab, oC = fun b => if oX b = 0 then 0 else if oX b = 1 then 1 else S.rho (oX b - 2) + 2 := ⟨_, rfl⟩
  have hC : ∀ b, oC b ≠ 0 → oX b ≠ 0 := fun b hb he => hb (by rw [hoC]; simp [he])
  have r1c := r1.compact
  rw [← hoC] at r1c
  have p5 : PD w5 p S A o := hP.keep k05 (fun b hb e => hb (by rw [show b = P from e]; exact (hx P (.inr (.inl rfl))).1))
  have p5' : PD w5 p' S.compact A2 o2 := g1.keep k25 (fun b hb e => by have := g2 b hb; have : b = P := e; omega)
  have q5 := r1c.keep k45 (fun b hb e => by have := r2 b (hC b hb); have : b = P := e; omega)
  have n2 : ∀ b, b < w.heap.size → o2 b = 0 := fun b hb => Classical.byContradiction fun hn => by have := g2 b hn; omega
  have nC : ∀ b, b < w2.heap.size → oC b = 0 := fun b hb => Classical.byContradiction fun hn => by have := r2 b (hC b hn); omega
  have hc2 : w2.heap[P]? = some (.cells #[.pointer (some ⟨p, 0, none⟩), .pointer (some ⟨q, 0, none⟩), .pointer (some ⟨D, 0, none⟩)] 47 (0, 0)) := by rw [g3.block P hPl (by simp)]; exact h.cells
  have hc3 : w3.heap[P]? = some (.cells #[.pointer (some ⟨p', 0, none⟩), .pointer (some ⟨q, 0, none⟩), .pointer (some ⟨D, 0, none⟩)] 47 (0, 0)) := by rw [hw3, heap_setCell_same _ _ _ _ _ _ hc2]; rfl
  have hc4 : w4.heap[P]? = some (.cells #[.pointer (some ⟨p', 0, none⟩), .pointer (some ⟨q, 0, none⟩), .pointer (some ⟨D, 0, none⟩)] 47 (0, 0)) := by rw [r3.block P (by omega) (by simp)]; exact hc3
  have hc5 : w5.heap[P]? = some (.cells #[.pointer (some ⟨p', 0, none⟩), .pointer (some ⟨q', 0, none⟩), .pointer (some ⟨D, 0, none⟩)] 47 (0, 0)) := by rw [hw5, heap_setCell_same _ _ _ _ _ _ hc4]; rfl
  obtain ⟨v0, hv0⟩ := h.dp
  have tw5 : Twr (fun b => X b ∨ prB P D bo b) w5 p' S.compact N q' S.compact N := ⟨A2, o2, _, oC, p5', q5, fun b hb => nC b (g1.lim hb), fun b hb => by
    have := (hx b hb).2.2
    exact ⟨n2 b this, nC b (by omega), by omega⟩, g4, g4⟩
  have hD : ¬ D = P := fun e => h.pD e.symm
  have h5 : Pq X w5 P p' q' D bo R S.compact N S.compact N := ⟨tw5, hc5, ⟨k05.cellOf h.dk.cell hD, (k05.frozen (World.block_lt_of_cell? _ _ h.dk.cell) hD).trans h.dk.fr, h.dk.none, fun g e => ⟨(h.dk.row g e).1, by
      rw [k05.block g (Array.getElem?_eq_some_iff.1 (h.dk.row g e).2).1 (fun eq => h.pb (by rw [← show g = P from eq]; exact e))]; exact (h.dk.row g e).2⟩, h.dk.small⟩, ⟨v0, k05.cellOf hv0 hD⟩, (k05.frozen (World.block_lt_of_cell? _ _ hv0) hD).trans h.df, h.far, h.pD, h.pb⟩
  refine ⟨fun b => (X b ∨ prB P D bo b) ∨ o2 b ≠ 0 ∨ oC b ≠ 0, fun _ h => .inl h, ⟨A, o, p5, fun b hb => ?_, Keep.refl _ _, b1⟩, k05, fun w6 S6 N6 ha => ?_⟩
  · rcases hb with hb | hb | hb
    · exact ⟨(hx b hb).1, by have := (hx b hb).2.2; omega⟩
    · exact ⟨Classical.byContradiction fun hn => by have := hP.lim hn; have := g2 b hb; omega, p5'.lim hb⟩
    · exact ⟨Classical.byContradiction fun hn => by have := hP.lim hn; have := r2 b (hC b hb); omega, q5.lim b hb⟩
  · have hk := ha.old
    have hk2 : Keep (fun b => ¬ (X b ∨ prB P D bo b)) w5 w6 := hk.mono (fun b hb _ hx => hb (.inl hx))
    refine h5.step (p' := p') (q' := q') ⟨A2, o2, _, oC, p5'.keep hk (fun b hb hn => hn (.inr (.inl hb))), q5.keep hk (fun b hb hn => hn (.inr (.inr hb))), fun b hb => nC b (g1.lim hb), fun b hb => ?_, g4, g4⟩ hk2
    have := (hx b hb).2.2
    have := hk.size
    exact ⟨n2 b (by omega), nC b (by omega), by omega⟩
end

set_option maxHeartbeats 3200000 in
set_option maxRecDepth 100000 in
theorem ot_twin {X : Nat → Prop} {w : World} {P p q D : Nat} {bo : Option Nat} {R : List UInt8} {S : Ds} {N : Nat} (h : Pq X w P p q D bo R S N S N) (name tx : By) (at_ n : Int) (da : Option Addr) (dn dc : Nat) (ds : By) (po pf pt : Int) (pa : Option Addr) (pn pc : Nat) (ps : List Int) (hi : StpIn w ⟨14, name, tx, at_, n, da, dn, dc, ds, po, pf, pt, pa, pn, pc, ps⟩) (hN : N + dn + 5 ≤ 268435456) :
    Calls Tryz.prog 70 #[.pointer (some ⟨P, 0, none⟩), .agg #[.int .i64 14, encStr name, encStr tx, .int .i64 at_, .int .i64 n, .slice da dn dc, .int .i64 po, .int .i64 pf, .int .i64 pt, .slice pa pn pc]] w fun e w' => e = .returned (.bool true) ∧ (∃ p' q', Pq X w' P p' q' D bo R S.compact N S.compact N) ∧ Keep (fun b => ¬ X b) w w' := by
  have hnm : name.length ≤ 4611686018427387904 := hi.nm
  have haw : (Lit.int .i64 at_).wf = true := hi.wa
  have hnw : (Lit.int .i64 n).wf = true := hi.wn
  have hpw : (Lit.int .i64 po).wf = true ∧ (Lit.int .i64 pf).wf = true ∧ (Lit.int .i64 pt).wf = true := ⟨hi.wo, hi.wf, hi.wt⟩
  obtain ⟨w1, hw1⟩ : ∃ w1, w1 = w.alloc (.cells #[.int .i64 14, encStr name, encStr tx, .int .i64 at_, .int .i64 n, .slice da dn dc, .int .i64 po, .int .i64 pf, .int .i64 pt, .slice pa pn pc] 52) := ⟨_, rfl⟩
  obtain ⟨h1, hR, hk1⟩ := h.box [.int .i64 14, encStr name, encStr tx, .int .i64 at_, .int .i64 n, .slice da dn dc, .int .i64 po, .int .i64 pf, .int .i64 pt, .slice pa pn pc] 52 hw1
  have i0 : w1.cell? ⟨w.heap.size, 0, none⟩ = some (.int .i64 14) := hR.bx 0 _ rfl
  have HK : Hid (Keep (fun b => ¬ X b) w w1) := hide (Keep.ofNone hk1)
  clear h hk1 hi
  go_enter Tryz.func70, Tryz.ntmps70
  go_upto_region 1 with (fail)
  rw [← hw1]
  clear hw1
  generalize w.heap.size = bx at *
  have HQ := hide h1
  have HR := hide hR
  clear h1 hR
  have c0 := HR.out.p0
  have c1 := HR.out.p1
  have htw : Calls Tryz.prog 20 #[.pointer (some ⟨p, 0, none⟩)] w1 fun e w' => ∃ q, e = .returned (.pointer (some ⟨q, 0, none⟩)) ∧ At w1 w' q S.compact N := by
    obtain ⟨A, o, A', o', hP, hRq, ap, hx, b1, b2⟩ := HQ.out.tw
    exact twin_ok hP b1 (by omega)
  have HRT : Hid (∀ v, Keep (· = P) w1 v → Calls Tryz.prog 21 #[.pointer (some ⟨q, 0, none⟩)] v fun e w' => RTwin v w' S e) := hide (fun v hv => by
    obtain ⟨A, o, A', o', hP, hRq, ap, hx, b1, b2⟩ := HQ.out.tw
    obtain ⟨hwf, nv, bv, tv, sv, hr⟩ := hRq.keep hv (fun b hb e => hb (by rw [show b = P from e]; exact (hx P (.inr (.inl rfl))).2.1))
    exact rtwin_ok hr hwf b2 (by omega))
  go_upto_region 24 with (go_at_call 20; refine htw.mono ?_; rintro e w2 ⟨p', rfl, hA⟩; have HA := hide hA; clear htw hA)
  have hk2 : Kept [] w1 w2 := by obtain ⟨_, _, _, _, h, _⟩ := HA.out; exact h
  have d0 := hk2.cellOf c0 (by simp)
  have d1 := hk2.cellOf c1 (by simp)
  have f0 : w2.frozen? ⟨P, 0, none⟩ = false := (hk2.frozen (p := ⟨P, 0, none⟩) (World.block_lt_of_cell? _ _ c0) (by simp)).trans (frozen_of_row _ _ _ _ _ HQ.out.cells)
  clear c0 i0
  go_upto_region 28 with (fail)
  obtain ⟨w3, hw3⟩ : ∃ w3, w3 = w2.setCell ⟨P, 0, none⟩ (.pointer (some ⟨p', 0, none⟩)) := ⟨_, rfl⟩
  rw [← hw3]
  have k3 : Keep (· = P) w1 w3 := (Keep.ofNone (F := (· = P)) hk2).trans (by rw [hw3]; exact keep_setCell _ _ _ _) (fun _ h _ => h)
  have e1 : w3.cell? ⟨P, 1, none⟩ = some (.pointer (some ⟨q, 0, none⟩)) := by rw [hw3, World.cell?_setCell_other _ _ _ _ (by intro e; cases e)]; exact d1
  have f1 : w3.frozen? ⟨P, 1, none⟩ = false := by rw [hw3, World.frozen?_setCell]; exact (hk2.frozen (p := ⟨P, 1, none⟩) (World.block_lt_of_cell? _ _ c1) (by simp)).trans (frozen_of_row _ _ _ _ _ HQ.out.cells)
  have hrt := HRT.out w3 k3
  have HW3 := hide hw3
  clear hw3 d0 d1 f0 c1 HRT k3 hk2
  have HCALL : Hid (Calls Tryz.prog 21 #[.pointer (some ⟨q, 0, none⟩)] w3 fun e w4 => ∃ q', e = .returned (.pointer (some ⟨q', 0, none⟩)) ∧ (∃ B oX, RD w4 q' S B oX ∧ (∀ b, oX b ≠ 0 → w3.heap.size ≤ b) ∧ Kept [] w3 w4) ∧ (∃ u, w4.cell? ⟨P, 1, none⟩ = some u) ∧ w4.frozen? ⟨P, 1, none⟩ = false) := hide (hrt.mono (by
    rintro e w4 ⟨q', rfl, B, oX, r1, r2, r3⟩
    exact ⟨q', rfl, ⟨B, oX, r1, r2, r3⟩, ⟨_, r3.cellOf e1 (by simp)⟩, (r3.frozen (p := ⟨P, 1, none⟩) (World.block_lt_of_cell? _ _ e1) (by simp)).trans f1⟩))
  clear hrt f1
  go_upto_region 29 with (go_at_call 21; refine HCALL.out.mono ?_; rintro e w4 ⟨q', rfl, h4, ⟨u1, e4⟩, f4⟩; have H4 := hide h4; clear HCALL h4 e1)
  obtain ⟨w5, hw5⟩ : ∃ w5, w5 = w4.setCell ⟨P, 1, none⟩ (.pointer (some ⟨q', 0, none⟩)) := ⟨_, rfl⟩
  rw [← hw5]
  obtain ⟨Y, hY, h5, k5, hfin⟩ := HQ.out.twin HA.out HW3.out H4.out hw5
  have HF := hide hfin
  have HK5 : Hid (Keep (fun b => ¬ X b) w w5) := hide (HK.out.trans k5 (fun b e _ hx => HQ.out.far b (.inl hx) (.inl e)))
  have HYX : Hid (∀ b, X b → Y b) := hide (fun b hb => hY b (.inl (.inl hb)))
  clear hw5 e4 f4 H4 HW3 HA HQ HK k5 hY hfin HR
  have hz : ([122, 122] : By).length ≤ 4611686018427387904 := by decide
  have hcr := create_ax h5 (by omega) [122, 122] hz
  clear h5
  go_upto_region 30 with (go_at_call 17; refine hcr.mono ?_; rintro e w6 ⟨rfl, ha⟩; have H6 := hide ha; clear ha hcr)
  obtain ⟨w7, hw7⟩ : ∃ w7, w7 = w6.alloc (.cells #[.int .u8 119] 5 (1, 2)) := ⟨_, rfl⟩
  have hk7 : Kept [] w6 w7 := by rw [hw7]; exact (Kept.refl [] w6).alloc _
  have hb7 : w7.heap[w6.heap.size]? = some (.cells #[.int .u8 119] 5 (1, 2)) := by rw [hw7]; exact (MapKept.heap_alloc w6 _).1
  have hap := fun c => append_ax H6.out hk7 (ao := some ⟨w6.heap.size, 0, none⟩) (n := 1) (c := c) (d := [119]) (by omega) [122, 122] hz rfl (Sl.of fun i hi => by obtain rfl : i = 0 := (by simpa using hi); rw [cell_of_row w7 _ 0 _ _ _ hb7]; rfl) (fun e => by cases e) (fun _ a ha => by cases ha; exact .inl (Nat.le_refl _))
  clear hb7 H6
  have kc := fun (w : World) (C : Array Value) (n c : Nat) => Lib.run_convert_bytes_const (P := Tryz.prog) w 24 5 C n c Tryz.underlying24 Tryz.underlying5
  go_upto_region 31 with (rw [← hw7]; go_at_call 19; refine (hap _).mono ?_; rintro e w8 ⟨rfl, ha⟩; have H8 := hide ha; clear ha hap hw7 hk7)
  have hsn := syncNames_ax H8.out (by omega)
  clear H8
  go_upto_region 32 with (go_at_call 36; refine hsn.mono ?_; rintro e w9 ⟨rfl, ha⟩; have H9 := hide ha; clear ha hsn)
  have hlk := look_ax H9.out
  clear H9
  go_upto_region 33 with (go_at_call 103; refine hlk.mono ?_; rintro e wa ⟨rfl, ha⟩; have Ha := hide ha; clear ha hlk)
  have hpl := plan_ax Ha.out 1 0 0 (by decide)
  clear Ha
  go_upto_region 34 with (go_at_call 18; refine hpl.mono ?_; rintro e wb ⟨rfl, ha⟩; have Hb := hide ha; clear ha hpl)
  have hrm := remove_ax Hb.out (by omega) [122, 122] hz
  clear Hb
  go_wp2_with (go_at_call 43; refine hrm.mono ?_; rintro e wc ⟨rfl, ha⟩; have Hc := hide ha; clear ha hrm)
  go_ret
  exact ⟨rfl, ⟨_, _, (HF.out _ _ _ Hc.out).less (fun _ h => .inl h)⟩, HK5.out.trans Hc.out.old (fun b hb _ hx => hb (HYX.out b hx))⟩
end Go.Proofs.YtmoaaimjgdbelaaGreat
