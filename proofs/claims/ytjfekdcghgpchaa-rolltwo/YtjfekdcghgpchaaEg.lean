/-
  Contracts: Roll.Push.
-/
import Derived.Test.YtjfekdcghgpchaaEf
namespace Go.Proofs.Ytjfekdcghgpchaa
open Go.RowKit
set_option linter.unusedVariables false
set_option linter.unusedSimpArgs false

/-- A Roll's cells, whatever they say. -/
structure Rq (w : World) (p g cap n f a b : Nat) (ring : List UInt8) : Prop where
  c0 : w.cell? ⟨p, 0, none⟩ = some (.slice (some ⟨g, 0, none⟩) n cap)
  c1 : w.cell? ⟨p, 1, none⟩ = some (.int .i64 f)
  c2 : w.cell? ⟨p, 2, none⟩ = some (.int .u16 a)
  c3 : w.cell? ⟨p, 3, none⟩ = some (.int .u16 b)
  fp : ∀ i, w.frozen? ⟨p, i, none⟩ = false
  cg : ∀ i, i < n → w.cell? ⟨g, i, none⟩ = some (.int .u8 (ring.getD i 0).toNat)
  fg : ∀ i, w.frozen? ⟨g, i, none⟩ = false

theorem Rq.drewN {w : World} {p g cap n f a b : Nat} {ring : List UInt8} (h : Rq w p g cap n f a b ring) (k : Nat) : Rq (w.drewN k) p g cap n f a b ring := ⟨h.c0, h.c1, h.c2, h.c3, h.fp, h.cg, h.fg⟩
theorem Rq.drew {w : World} {p g cap n f a b : Nat} {ring : List UInt8} (h : Rq w p g cap n f a b ring) : Rq w.drew p g cap n f a b ring := ⟨h.c0, h.c1, h.c2, h.c3, h.fp, h.cg, h.fg⟩
theorem Rq.setg {w : World} {p g cap n f a b : Nat} {ring : List UInt8} (h : Rq w p g cap n f a b ring) (hne : g ≠ p) (hn : n = ring.length) (i : Nat) (hi : i < n) (c : UInt8) : Rq (w.setCell ⟨g, i, none⟩ (.int .u8 c.toNat)) p g cap n f a b (ring.set i c) := by
  have ne : ∀ j, (⟨g, i, none⟩ : Addr) ≠ ⟨p, j, none⟩ := fun j e => by injection e with e1; exact hne e1
  refine ⟨?_, ?_, ?_, ?_, ?_, ?_, ?_⟩
  · rw [World.cell?_setCell_other _ _ _ _ (ne 0)]; exact h.c0
  · rw [World.cell?_setCell_other _ _ _ _ (ne 1)]; exact h.c1
  · rw [World.cell?_setCell_other _ _ _ _ (ne 2)]; exact h.c2
  · rw [World.cell?_setCell_other _ _ _ _ (ne 3)]; exact h.c3
  · intro j; rw [World.frozen?_setCell]; exact h.fp j
  · intro j hj
    by_cases e : j = i
    · subst e
      rw [World.cell?_setCell_same _ _ _ (h.cg j hj)]
      simp [show j < ring.length by omega]
    · rw [World.cell?_setCell_other _ _ _ _ (by intro e'; injection e' with _ e2; exact e e2.symm), h.cg j hj]
      simp [List.getElem?_set_ne (Ne.symm e)]
  · intro j; rw [World.frozen?_setCell]; exact h.fg j
theorem Rq.setf {w : World} {p g cap n f a b : Nat} {ring : List UInt8} (h : Rq w p g cap n f a b ring) (hne : g ≠ p) (f' : Nat) : Rq (w.setCell ⟨p, 1, none⟩ (.int .i64 f')) p g cap n f' a b ring := by
  refine ⟨?_, ?_, ?_, ?_, ?_, ?_, ?_⟩
  · rw [World.cell?_setCell_other _ _ _ _ (by simp)]; exact h.c0
  · exact World.cell?_setCell_same _ _ _ h.c1
  · rw [World.cell?_setCell_other _ _ _ _ (by simp)]; exact h.c2
  · rw [World.cell?_setCell_other _ _ _ _ (by simp)]; exact h.c3
  · intro j; rw [World.frozen?_setCell]; exact h.fp j
  · intro j hj; rw [World.cell?_setCell_other _ _ _ _ (by intro e; injection e with e1; exact hne e1.symm)]; exact h.cg j hj
  · intro j; rw [World.frozen?_setCell]; exact h.fg j
theorem Rq.setab {w : World} {p g cap n f a b : Nat} {ring : List UInt8} (h : Rq w p g cap n f a b ring) (hne : g ≠ p) (a' b' : Nat) : Rq ((w.setCell ⟨p, 2, none⟩ (.int .u16 a')).setCell ⟨p, 3, none⟩ (.int .u16 b')) p g cap n f a' b' ring := by
  have e3 : (w.setCell ⟨p, 2, none⟩ (.int .u16 a')).cell? ⟨p, 3, none⟩ = some (.int .u16 b) := by rw [World.cell?_setCell_other _ _ _ _ (by simp)]; exact h.c3
  refine ⟨?_, ?_, ?_, ?_, ?_, ?_, ?_⟩
  · rw [World.cell?_setCell_other _ _ _ _ (by simp), World.cell?_setCell_other _ _ _ _ (by simp)]; exact h.c0
  · rw [World.cell?_setCell_other _ _ _ _ (by simp), World.cell?_setCell_other _ _ _ _ (by simp)]; exact h.c1
  · rw [World.cell?_setCell_other _ _ _ _ (by simp)]; exact World.cell?_setCell_same _ _ _ h.c2
  · exact World.cell?_setCell_same _ _ _ e3
  · intro j; rw [World.frozen?_setCell, World.frozen?_setCell]; exact h.fp j
  · intro j hj; rw [World.cell?_setCell_other _ _ _ _ (by intro e; injection e with e1; exact hne e1.symm), World.cell?_setCell_other _ _ _ _ (by intro e; injection e with e1; exact hne e1.symm)]; exact h.cg j hj
  · intro j; rw [World.frozen?_setCell, World.frozen?_setCell]; exact h.fg j
theorem Rq.kept {l : List Nat} {w w' : World} {p g cap n f a b : Nat} {ring : List UInt8} (h : Rq w p g cap n f a b ring) (hn : 0 < n) (hk : Kept l w w') (hp : p ∉ l) (hg : g ∉ l) : Rq w' p g cap n f a b ring := by
  have hgl : g < w.heap.size := World.block_lt_of_cell? _ _ (h.cg 0 hn)
  have hpl : p < w.heap.size := World.block_lt_of_cell? _ _ h.c0
  exact ⟨hk.cellOf h.c0 hp, hk.cellOf h.c1 hp, hk.cellOf h.c2 hp, hk.cellOf h.c3 hp, fun i => (hk.frozen (p := ⟨p, i, none⟩) hpl hp).trans (h.fp i), fun i hi => hk.cellOf (h.cg i hi) hg, fun i => (hk.frozen (p := ⟨g, i, none⟩) hgl hg).trans (h.fg i)⟩

set_option maxHeartbeats 1000000 in
set_option maxRecDepth 100000 in
theorem rollPush_rq {w : World} {p g cap n f a b : Nat} {ring : List UInt8} (h : Rq w p g cap n f a b ring) (hne : g ≠ p) (hnr : n = ring.length) (hf : f < n) (hs : n ≤ 4096) (ha : a < 65536) (hb : b < 65536) (c : UInt8) :
    Calls Try.prog 16 #[.pointer (some ⟨p, 0, none⟩), .int .u8 c.toNat] w fun e w' => e = .returned (.int .u8 (ring.getD f 0).toNat) ∧ Rq w' p g cap n ((f + 1) % n) (mva a (ring.getD f 0).toNat c.toNat) (mvb a b (ring.getD f 0).toNat c.toNat n) (ring.set f c) ∧ Kept [p, g] w w' := by
  have H : Hid (Rq w p g cap n f a b ring) := h
  have HN : Hid (n = ring.length) := hnr
  have c0 := h.c0
  have c1 := h.c1
  have cg := h.cg f hf
  have hx : (ring.getD f 0).toNat < 256 := UInt8.toNat_lt _
  have hcc : c.toNat < 256 := UInt8.toNat_lt _
  generalize (ring.getD f 0).toNat = x at cg hx ⊢
  clear h hnr
  have hmv := fun w => moved_any a b x c.toNat n w ha hb hx hcc (by omega)
  have HMV : Hid (∀ w, Calls Try.prog 26 #[pv a b, .int .u8 x, .int .u8 c.toNat, .int .i64 n] w fun e w' => e = .returned (pv (mva a x c.toNat) (mvb a b x c.toNat n)) ∧ Kept [] w w') := hmv
  clear hmv
  have HSG : Hid (∀ w, Rq w p g cap n f a b ring → Rq (w.setCell ⟨g, f, none⟩ (.int .u8 c.toNat)) p g cap n f a b (ring.set f c)) := fun w h => h.setg hne HN.out f hf c
  have l1 : mva a x c.toNat < 65536 := Nat.mod_lt _ (by omega)
  have l2 : mvb a b x c.toNat n < 65536 := Nat.mod_lt _ (by omega)
  generalize mvb a b x c.toNat n = b2 at HMV l2 ⊢
  generalize mva a x c.toNat = a2 at HMV l1 ⊢
  generalize c.toNat = d at HMV hcc HSG ⊢
  generalize ring.set f c = ring2 at HSG ⊢
  obtain ⟨m, hm⟩ : ∃ m, m = (f + 1) % n := ⟨_, rfl⟩
  rw [← hm]
  have hml : m < n := by rw [hm]; exact Nat.mod_lt _ (by omega)
  have q1 : IntKind.i64.wrap ((f : Int) + 1) = (f : Int) + 1 := by simp [IntKind.wrap, IntKind.bits, IntKind.signed]; omega
  have q2 : ¬ ((n : Int) = 0) := by omega
  have q2' : ¬ (n = 0) := by omega
  have q3 : Int.tmod ((f : Int) + 1) (n : Int) = (m : Int) := by rw [Int.tmod_eq_emod_of_nonneg (by omega), hm]; simp
  have q4 : IntKind.i64.wrap (m : Int) = (m : Int) := by simp [IntKind.wrap, IntKind.bits, IntKind.signed]; omega
  clear hm
  go_enter Try.func16, Try.ntmps16
  go_wp2
  go_quiet (fail)
  have H1 : Hid (Rq (w.drewN nq) p g cap n f a b ring) := H.out.drewN nq
  have K1 : Hid (Kept [p, g] w (w.drewN nq)) := (Kept.refl _ w).drewN nq
  clear H c0 c1 cg
  generalize w.drewN nq = w1 at H1 K1 ⊢
  have c0 := H1.out.c0
  have c1 := H1.out.c1
  have cg := H1.out.cg f hf
  have fg := H1.out.fg f
  go_wp2
  go_still_tail 10, Try.follows
  rw [World.drew_eq]
  go_wp2
  have H2 : Hid (Rq (w1.setCell ⟨g, f, none⟩ (.int .u8 d)).drew p g cap n f a b ring2) := (HSG.out w1 H1.out).drew
  have K2 : Hid (Kept [p, g] w (w1.setCell ⟨g, f, none⟩ (.int .u8 d)).drew) := (K1.out.setCell (by simp) _).drew
  clear H1 K1 c0 c1 cg fg HSG
  generalize (w1.setCell ⟨g, f, none⟩ (.int .u8 d)).drew = w2 at H2 K2 ⊢
  have c0 := H2.out.c0
  have c1 := H2.out.c1
  have f1 := H2.out.fp 1
  go_still_tail 14, Try.follows
  rw [World.drew_eq]
  go_wp2
  have H3 : Hid (Rq (w2.setCell ⟨p, 1, none⟩ (.int .i64 m)).drew p g cap n m a b ring2) := (H2.out.setf hne m).drew
  have K3 : Hid (Kept [p, g] w (w2.setCell ⟨p, 1, none⟩ (.int .i64 m)).drew) := (K2.out.setCell (by simp) _).drew
  clear H2 K2 c0 c1 f1
  generalize (w2.setCell ⟨p, 1, none⟩ (.int .i64 m)).drew = w3 at H3 K3 ⊢
  have c0 := H3.out.c0
  have c2 := H3.out.c2
  have c3 := H3.out.c3
  have f2 := H3.out.fp 2
  have f3 := H3.out.fp 3
  have HMV3 := HMV.out
  clear HMV
  go_region_with (go_at_call 26; refine (HMV3 _).mono ?_; rintro e w4 ⟨rfl, hk4⟩; have H4 : Hid (Rq w4 p g cap n m a b ring2) := H3.out.drew.kept (by omega) hk4 (by simp) (by simp); have d2 := H4.out.c2; have d3 := H4.out.c3; have g2 := H4.out.fp 2; have g3 := H4.out.fp 3)
  all_goals
    have H5 : Hid (Rq ((w4.setCell ⟨p, 2, none⟩ (.int .u16 a2)).setCell ⟨p, 3, none⟩ (.int .u16 b2)) p g cap n m a2 b2 ring2) := H4.out.setab hne a2 b2
    have K5 : Hid (Kept [p, g] w ((w4.setCell ⟨p, 2, none⟩ (.int .u16 a2)).setCell ⟨p, 3, none⟩ (.int .u16 b2))) := ((K3.out.drew.trans hk4 (by simp)).setCell (by simp) _).setCell (by simp) _
    clear H3 K3 c0 c2 c3 f2 f3 HMV3 H4 d2 d3 g2 g3 hk4
    go_wp2
    go_ret
    exact ⟨rfl, H5.out, K5.out⟩

/-- Roll.Push: the first byte goes, one comes in at the end. -/
theorem rollPush_ok {w : World} {p g : Nat} {x : UInt8} {rest : List UInt8} (h : Ro w p g (x :: rest)) (c : UInt8) :
    Calls Try.prog 16 #[.pointer (some ⟨p, 0, none⟩), .int .u8 c.toNat] w fun e w' => e = .returned (.int .u8 x.toNat) ∧ Ro w' p g (rest ++ [c]) ∧ Kept [p, g] w w' := by
  obtain ⟨cap, f, ring, h, e⟩ := h
  have hq : Rq w p g cap ring.length f (Rol.pa (wnd ring f)) (Rol.pb (wnd ring f)) ring := ⟨h.c0, h.c1, h.c2, h.c3, h.fp, h.cg, h.fg⟩
  have hw := wnd_head ring f h.lt
  have e2 := e.symm.trans hw
  injection e2 with e3 e4
  refine (rollPush_rq hq h.ne rfl h.lt h.small (Rol.pa_lt _) (Rol.pb_lt _) c).mono fun e' w' ⟨he, hq', hk⟩ => ?_
  refine ⟨by rw [he, e3], ?_, hk⟩
  have hp := wnd_push ring f h.lt c
  rw [← e4] at hp
  refine ⟨cap, (f + 1) % ring.length, ring.set f c, ?_, hp⟩
  have el : (ring.set f c).length = ring.length := by simp
  have hlen : ring.length = rest.length + 1 := by rw [← wnd_length ring f, e]; rfl
  have ha : mva (Rol.pa (wnd ring f)) (ring.getD f 0).toNat c.toNat = Rol.pa (wnd (ring.set f c) ((f + 1) % ring.length)) := by
    rw [hp, e, ← e3]; exact mva_move x rest c
  have hb : mvb (Rol.pa (wnd ring f)) (Rol.pb (wnd ring f)) (ring.getD f 0).toNat c.toNat ring.length = Rol.pb (wnd (ring.set f c) ((f + 1) % ring.length)) := by
    rw [hp, e, ← e3]; exact mvb_move x rest c _ hlen
  exact ⟨by rw [el]; exact hq'.c0, hq'.c1, by rw [← ha]; exact hq'.c2, by rw [← hb]; exact hq'.c3, hq'.fp, fun i hi => hq'.cg i (by omega), hq'.fg, h.ne, by rw [el]; exact Nat.mod_lt _ (by have := h.lt; omega), by rw [el]; exact h.small, by rw [el]; exact h.le⟩

end Go.Proofs.Ytjfekdcghgpchaa
