/-
  The disk: its cells; contracts: Off, isNone, Strokes, Room, find, stroke.
-/
import Derived.Test.YtmoaaimjgdbelaaGreatGw
import Derived.Test.YtmoaaimjgdbelaaGreatGr
namespace Go.Proofs.YtmoaaimjgdbelaaGreat
open Go.RowKit Dsk
set_option linter.unusedVariables false
set_option linter.unusedSimpArgs false

theorem Tg.ext {F : Nat → Prop} {w w' : World} {o : Lab} {l b l' : Nat} {t : Th} (h : Tg w o l b t) (hk : Keep F w w') (hF : ∀ g, o g = l → ¬ F g) : Tg w' (o.ext w w' l') l b t := by
  obtain ⟨rv, sv, h⟩ := h
  have h' := h.keep hk hF
  have hr := h.row.lt
  exact ⟨rv, sv, h'.cells, h'.row, h'.shown, (Lab.ext_old h.lt).trans h.lb, fun g hg => (Lab.ext_old (h.row.lt g hg).2).trans (h.lr g hg), fun g hg => (Lab.ext_old (h.shown.lt hg)).trans (h.ls g hg)⟩
theorem Ext_ext (o : Lab) (w w' : World) (l : Nat) : o.Ext (o.ext w w' l) w := fun b hb h => by rwa [Lab.ext_old hb] at h
theorem lim_ext {o : Lab} {w w' : World} {l : Nat} (h : ∀ b, o b ≠ 0 → b < w.heap.size) (hs : w.heap.size ≤ w'.heap.size) : ∀ b, o.ext w w' l b ≠ 0 → b < w'.heap.size := by
  intro b hb
  unfold Lab.ext at hb
  split at hb
  · omega
  · split at hb
    · assumption
    · exact absurd rfl hb

section
variable {w : World} {p : Nat} {S : Ds} {A : Nat → Nat} {o : Lab} {ms mh : Nat} {rv sv : Value}
theorem PDx.lt (h : PDx w p S A o ms mh rv sv) : p < w.heap.size := (Array.getElem?_eq_some_iff.1 h.cells).1
theorem PDx.c (h : PDx w p S A o ms mh rv sv) (j : Nat) : w.cell? ⟨p, j, none⟩ = #[.int .i64 S.room, .bool S.on, .map (some ms), rv, .map (some mh), .int .i64 S.strokes, .int .i64 S.off, .int .i64 S.from_, .int .i64 S.to, .int .i64 S.planned, sv][j]? := cell_of_row w p j _ _ _ h.cells
theorem PDx.c0 (h : PDx w p S A o ms mh rv sv) : w.cell? ⟨p, 0, none⟩ = some (.int .i64 S.room) := h.c 0
theorem PDx.c1 (h : PDx w p S A o ms mh rv sv) : w.cell? ⟨p, 1, none⟩ = some (.bool S.on) := h.c 1
theorem PDx.c2 (h : PDx w p S A o ms mh rv sv) : w.cell? ⟨p, 2, none⟩ = some (.map (some ms)) := h.c 2
theorem PDx.c3 (h : PDx w p S A o ms mh rv sv) : w.cell? ⟨p, 3, none⟩ = some rv := h.c 3
theorem PDx.c4 (h : PDx w p S A o ms mh rv sv) : w.cell? ⟨p, 4, none⟩ = some (.map (some mh)) := h.c 4
theorem PDx.c5 (h : PDx w p S A o ms mh rv sv) : w.cell? ⟨p, 5, none⟩ = some (.int .i64 S.strokes) := h.c 5
theorem PDx.c6 (h : PDx w p S A o ms mh rv sv) : w.cell? ⟨p, 6, none⟩ = some (.int .i64 S.off) := h.c 6
theorem PDx.c7 (h : PDx w p S A o ms mh rv sv) : w.cell? ⟨p, 7, none⟩ = some (.int .i64 S.from_) := h.c 7
theorem PDx.c8 (h : PDx w p S A o ms mh rv sv) : w.cell? ⟨p, 8, none⟩ = some (.int .i64 S.to) := h.c 8
theorem PDx.c9 (h : PDx w p S A o ms mh rv sv) : w.cell? ⟨p, 9, none⟩ = some (.int .i64 S.planned) := h.c 9
theorem PDx.c10 (h : PDx w p S A o ms mh rv sv) : w.cell? ⟨p, 10, none⟩ = some sv := h.c 10
theorem PDx.fr (h : PDx w p S A o ms mh rv sv) (j : Nat) : w.frozen? ⟨p, j, none⟩ = false := frozen_of_row w p j _ _ h.cells
theorem PDx.ne_m (h : PDx w p S A o ms mh rv sv) : ms ≠ p := map_ne h.safe h.cells (by simp)
theorem PDx.ne_h (h : PDx w p S A o ms mh rv sv) : mh ≠ p := map_ne h.shown h.cells (by simp)
theorem PDx.ne_r (h : PDx w p S A o ms mh rv sv) : rv.ownBlock ≠ some p := own_ne h.row h.cells (by decide)
theorem PDx.ne_s (h : PDx w p S A o ms mh rv sv) : sv.ownBlock ≠ some p := own_ne h.reads h.cells (by decide)

/-- Only cells of the disk itself have turned. -/
theorem PDx.recell {S' : Ds} {w' : World} (h : PDx w p S A o ms mh rv sv) (hk : Keep (· = p) w w') (hwf : S'.Wf) (hc : w'.heap[p]? = some (.cells #[.int .i64 S'.room, .bool S'.on, .map (some ms), rv, .map (some mh), .int .i64 S'.strokes, .int .i64 S'.off, .int .i64 S'.from_, .int .i64 S'.to, .int .i64 S'.planned, sv] 70 (0, 0)))
    (e1 : S'.safe = S.safe) (e2 : S'.shown = S.shown) (e3 : S'.row = S.row) (e4 : S'.reads = S.reads) (e5 : S'.th = S.th) (e6 : S'.nx = S.nx) (hp : (Lit.int .i64 S'.off).wf = true ∧ (Lit.int .i64 S'.from_).wf = true ∧ (Lit.int .i64 S'.to).wf = true) : PDx w' p S' A o ms mh rv sv := by
  refine ⟨hwf, hc, h.ne, ?_, ?_, ?_, ?_, ?_, h.lp, h.lm, h.lh, h.lr, h.ls, fun b hb => Nat.lt_of_lt_of_le (h.lim b hb) hk.size, hp⟩
  · rw [e1]; exact h.safe.keep hk h.ne_m
  · rw [e2]; exact h.shown.keep hk h.ne_h
  · rw [e3]; exact own_keeps h.row hk (fun g hg e => h.ne_r (by rw [hg, e]))
  · rw [e4]; exact own_keeps h.reads hk (fun g hg e => h.ne_s (by rw [hg, e]))
  · rw [e5, e6]
    intro k hk'
    obtain ⟨a, b, ht⟩ := h.th k hk'
    exact ⟨a, b, ht.keep hk (fun g hg e => by subst e; rw [h.lp] at hg; omega)⟩
end

set_option maxHeartbeats 800000 in
set_option maxRecDepth 100000 in
theorem off_ok {w : World} {p : Nat} {S : Ds} {A : Nat → Nat} {o : Lab} {ms mh : Nat} {rv sv : Value} (h : PDx w p S A o ms mh rv sv) : Calls Tryz.prog 22 #[.pointer (some ⟨p, 0, none⟩)] w fun e w' => e = .returned (.bool (!S.on)) ∧ w' = w := by
  have c1 := h.c1
  clear h
  go_enter Tryz.func22, Tryz.ntmps22
  go_wp2
  go_ret
  exact ⟨rfl, rfl⟩

/-- What find answers. -/
def findV (S : Ds) (A : Nat → Nat) (n : By) : Value := if (S.find n).1 = 0 then .pointer (some ⟨A (S.find n).2, 0, none⟩) else .pointer none

set_option maxHeartbeats 800000 in
set_option maxRecDepth 100000 in
theorem find_ok {w : World} {p : Nat} {S : Ds} {A : Nat → Nat} {o : Lab} {ms mh : Nat} {rv sv : Value} (h : PDx w p S A o ms mh rv sv) (n : By) (hn : n.length ≤ 4611686018427387904) : Calls Tryz.prog 71 #[.pointer (some ⟨p, 0, none⟩), encStr n] w fun e w' => e = .returned (.tuple #[findV S A n, .int .i64 (S.find n).1]) ∧ w' = w := by
  have c4 := h.c4
  have hoff := off_ok h
  have hisn := isName_ok n w hn
  go_enter Tryz.func71, Tryz.ntmps71
  by_cases hon : S.on = true
  · rw [hon] at hoff
    by_cases hnm : isNm n = true
    · rw [hnm] at hisn
      have hlk := h.shown.look n (by unfold isNm at hnm; simp at hnm; unfold maxLen; omega)
      cases hg : S.shown.get n with
      | none =>
        rw [hg] at hlk
        have hv : Hid (S.find n = (53, 0)) := hide (by simp [Ds.find, hon, hnm, hg])
        clear hg h
        go_wp2_with (first
          | (go_at_call 22; refine hoff.mono ?_; rintro e w' ⟨rfl, rfl⟩)
          | (go_at_call 81; refine hisn.mono ?_; rintro e w' ⟨rfl, rfl⟩))
        go_ret2
        exact ⟨by unfold findV; rw [hv.out]; rfl, rfl⟩
      | some k =>
        rw [hg] at hlk
        have hv : Hid (S.find n = (0, k)) := hide (by simp [Ds.find, hon, hnm, hg])
        clear hg h
        go_wp2_with (first
          | (go_at_call 22; refine hoff.mono ?_; rintro e w' ⟨rfl, rfl⟩)
          | (go_at_call 81; refine hisn.mono ?_; rintro e w' ⟨rfl, rfl⟩))
        go_ret2
        exact ⟨by unfold findV; rw [hv.out]; rfl, rfl⟩
    · simp only [Bool.not_eq_true] at hnm
      rw [hnm] at hisn
      have hv : Hid (S.find n = (51, 0)) := hide (by simp [Ds.find, hon, hnm])
      clear h
      go_wp2_with (first
        | (go_at_call 22; refine hoff.mono ?_; rintro e w' ⟨rfl, rfl⟩)
        | (go_at_call 81; refine hisn.mono ?_; rintro e w' ⟨rfl, rfl⟩))
      go_ret2
      exact ⟨by unfold findV; rw [hv.out]; rfl, rfl⟩
  · simp only [Bool.not_eq_true] at hon
    rw [hon] at hoff
    have hv : Hid (S.find n = (50, 0)) := hide (by simp [Ds.find, hon])
    clear h
    go_wp2_with (go_at_call 22; refine hoff.mono ?_; rintro e w' ⟨rfl, rfl⟩)
    go_ret2
    exact ⟨by unfold findV; rw [hv.out]; rfl, rfl⟩

set_option maxHeartbeats 800000 in
set_option maxRecDepth 100000 in
theorem stroke_ok {w : World} {p : Nat} {S : Ds} {A : Nat → Nat} {o : Lab} {ms mh : Nat} {rv sv : Value} (h : PDx w p S A o ms mh rv sv) (r : Int) (hs : S.strokes < 1073741824) (hp : S.planned < 1073741824) : Calls Tryz.prog 73 #[.pointer (some ⟨p, 0, none⟩), .int .i64 r] w fun e w' => e = .returned (.int .i64 (S.ans r)) ∧ PDx w' p S.tick A o ms mh rv sv ∧ Keep (· = p) w w' := by
  have c5 := h.c5
  have f5 := h.fr 5
  obtain ⟨w1, hw1⟩ : ∃ w1, w1 = w.setCell ⟨p, 5, none⟩ (.int .i64 ((S.strokes : Int) + 1)) := ⟨_, rfl⟩
  have hQ1 := heap_setCell_same w p 5 _ _ (.int .i64 ((S.strokes : Int) + 1)) h.cells
  rw [← hw1] at hQ1
  have hk1 : Keep (· = p) w w1 := by rw [hw1]; exact (Keep.refl (· = p) w).setCell (p := ⟨p, 5, none⟩) (fun _ => rfl) _
  have c9 : w1.cell? ⟨p, 9, none⟩ = some (.int .i64 S.planned) := by rw [cell_of_row w1 p 9 _ _ _ hQ1]; rfl
  have f9 : w1.frozen? ⟨p, 9, none⟩ = false := frozen_of_row w1 p 9 _ _ hQ1
  obtain ⟨w2, hw2⟩ : ∃ w2, w2 = w1.setCell ⟨p, 9, none⟩ (.int .i64 ((S.planned : Int) + 1)) := ⟨_, rfl⟩
  have hQ2 := heap_setCell_same w1 p 9 _ _ (.int .i64 ((S.planned : Int) + 1)) hQ1
  rw [← hw2] at hQ2
  have hk2 : Keep (· = p) w w2 := by rw [hw2]; exact hk1.setCell (p := ⟨p, 9, none⟩) (fun _ => rfl) _
  have d9 : w2.cell? ⟨p, 9, none⟩ = some (.int .i64 ((S.planned : Int) + 1)) := by rw [cell_of_row w2 p 9 _ _ _ hQ2]; rfl
  have d6 : w2.cell? ⟨p, 6, none⟩ = some (.int .i64 S.off) := by rw [cell_of_row w2 p 6 _ _ _ hQ2]; rfl
  have FIN : Hid (∀ w3, Kept [] w2 w3 → ∀ b, S.tick.on = b → (w3.setCell ⟨p, 1, none⟩ (.bool b)).heap[p]? = some (.cells #[.int .i64 S.tick.room, .bool S.tick.on, .map (some ms), rv, .map (some mh), .int .i64 S.tick.strokes, .int .i64 S.tick.off, .int .i64 S.tick.from_, .int .i64 S.tick.to, .int .i64 S.tick.planned, sv] 70 (0, 0)) ∧ w3.cell? ⟨p, 1, none⟩ = some (.bool S.on) ∧ w3.frozen? ⟨p, 1, none⟩ = false ∧ w3.heap[p]? = some (.cells #[.int .i64 S.room, .bool S.on, .map (some ms), rv, .map (some mh), .int .i64 S.tick.strokes, .int .i64 S.off, .int .i64 S.from_, .int .i64 S.to, .int .i64 S.tick.planned, sv] 70 (0, 0))) := fun w3 hk3 b hb => by
    have hQ3 : w3.heap[p]? = _ := (hk3.block p (by have := hk2.size; have := h.lt; omega) (by simp)).trans hQ2
    have hQ4 := heap_setCell_same w3 p 1 _ _ (.bool b) hQ3
    subst hb
    have e5 : ((S.strokes : Int) + 1) = ((S.tick.strokes : Nat) : Int) := by simp [Ds.tick]
    have e9 : ((S.planned : Int) + 1) = ((S.tick.planned : Nat) : Int) := by simp [Ds.tick]
    rw [e5, e9] at hQ3 hQ4
    exact ⟨hQ4, by rw [cell_of_row w3 p 1 _ _ _ hQ3]; rfl, frozen_of_row w3 p 1 _ _ hQ3, hQ3⟩
  have HP := hide (And.intro h hk2)
  clear h hk1 hk2 hQ1 hQ2
  go_enter Tryz.func73, Tryz.ntmps73
  go_upto_region 2 with (fail)
  rw [← hw1]
  clear hw1 c5 f5
  go_upto_region 3 with (fail)
  rw [← hw2]
  clear hw2 c9 f9
  cases hgo : S.goesOff
  · have hd : ((S.planned : Int) + 1 == S.off) = false := hgo
    have HG := hide hgo
    clear hgo
    go_quiet (fail)
    go_wp2
    go_ret
    have hk : Kept [] w2 (w2.drewN nq) := (Kept.refl [] w2).drewN nq
    have hon : S.tick.on = S.on := by simp [Ds.tick, HG.out]
    obtain ⟨_, _, _, hq⟩ := FIN.out _ hk _ rfl
    refine ⟨by unfold Ds.ans; rw [HG.out]; rfl, HP.out.1.recell (HP.out.2.kept hk) HP.out.1.wf.tick ?_ rfl rfl rfl rfl rfl rfl HP.out.1.pl, HP.out.2.kept hk⟩
    rw [hon]
    exact hq
  · have hd : ((S.planned : Int) + 1 == S.off) = true := hgo
    have HG := hide hgo
    clear hgo
    go_quiet (fail)
    have hk : Kept [] w2 (w2.drewN nq) := (Kept.refl [] w2).drewN nq
    have hon : S.tick.on = false := by simp [Ds.tick, HG.out]
    obtain ⟨h4, k1, k2, _⟩ := FIN.out _ hk false hon
    have HH := hide (And.intro h4 (And.intro hk hon))
    clear h4 hk hon FIN
    generalize w2.drewN nq = w3 at HH k1 k2 ⊢
    go_wp2
    go_ret
    obtain ⟨h4, hk, hon⟩ := HH.out
    have hk5 : Keep (· = p) w (w3.setCell ⟨p, 1, none⟩ (.bool false)) := (HP.out.2.kept hk).setCell (p := ⟨p, 1, none⟩) (fun _ => rfl) _
    exact ⟨by unfold Ds.ans; rw [HG.out]; rfl, HP.out.1.recell hk5 HP.out.1.wf.tick h4 rfl rfl rfl rfl rfl rfl HP.out.1.pl, hk5⟩
end Go.Proofs.YtmoaaimjgdbelaaGreat
