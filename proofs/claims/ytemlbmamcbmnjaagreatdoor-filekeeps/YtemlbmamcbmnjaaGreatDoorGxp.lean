import Derived.Test.YtemlbmamcbmnjaaGreatDoorGwp
import Derived.Test.YtemlbmamcbmnjaaGreatDoorGrp
import Derived.Maps.RangeWalk
namespace Go.Proofs.YtemlbmamcbmnjaaGreatDoor
section
open Go.RowKit Dsk
set_option linter.unusedVariables false
set_option linter.unusedSimpArgs false

theorem Tg.ext {F : Nat → Prop} {w w' : World} {o : Lab} {l b l' : Nat} {t : Th} (h : Tg w o l b t) (hk : Keep F w w') (hF : ∀ g, o g = l → ¬ F g) : Tg w' (o.ext w w' l') l b t := by
  obtain ⟨rv, sv, h⟩ := h
  have h' := h.keep hk hF
  have hr := h.row.lt
  exact ⟨rv, sv, h'.cells, h'.row, h'.shown, (Lab.ext_old h.lt).trans h.lb, fun g hg => (Lab.ext_old (h.row.lt g hg).2).trans (h.lr g hg), fun g hg => (Lab.ext_old (h.shown.lt hg)).trans (h.ls g hg)⟩
theorem Ext_ext (o : Lab) (w w' : World) (l : Nat) : o.Ext (o.ext w w' l) w := fun b hb h => by rwa [Lab.ext_old hb] at h
theorem lim_ext {o : Lab} {w w' : World} {l : Nat} (h : ∀ b, o b ≠ 0 → b < w.heap.size) (hs : w.heap.size ≤ w'.heap.size) : ∀ b, o.ext w w' l b ≠ 0 → b < w'.heap.size := by
  intro b hb
  unfold Lab.ext at hb
  split at hb
  · omega
  · split at hb
    · assumption
    · exact absurd rfl hb

section
variable {w : World} {p : Nat} {S : Ds} {A : Nat → Nat} {o : Lab} {ms mh : Nat} {rv sv : Value}
theorem PDx.lt (h : PDx w p S A o ms mh rv sv) : p < w.heap.size := (Array.getElem?_eq_some_iff.1 h.cells).1
theorem PDx.c (h : PDx w p S A o ms mh rv sv) (j : Nat) : w.cell? ⟨p, j, none⟩ = #[.int .i64 S.room, .bool S.on, .map (some ms), rv, .map (some mh), .int .i64 S.strokes, .int .i64 S.off, .int .i64 S.from_, .int .i64 S.to, .int .i64 S.planned, sv][j]? := cell_of_row w p j _ _ _ h.cells
theorem PDx.c0 (h : PDx w p S A o ms mh rv sv) : w.cell? ⟨p, 0, none⟩ = some (.int .i64 S.room) := h.c 0
theorem PDx.c1 (h : PDx w p S A o ms mh rv sv) : w.cell? ⟨p, 1, none⟩ = some (.bool S.on) := h.c 1
theorem PDx.c2 (h : PDx w p S A o ms mh rv sv) : w.cell? ⟨p, 2, none⟩ = some (.map (some ms)) := h.c 2
theorem PDx.c3 (h : PDx w p S A o ms mh rv sv) : w.cell? ⟨p, 3, none⟩ = some rv := h.c 3
theorem PDx.c4 (h : PDx w p S A o ms mh rv sv) : w.cell? ⟨p, 4, none⟩ = some (.map (some mh)) := h.c 4
theorem PDx.c5 (h : PDx w p S A o ms mh rv sv) : w.cell? ⟨p, 5, none⟩ = some (.int .i64 S.strokes) := h.c 5
theorem PDx.c6 (h : PDx w p S A o ms mh rv sv) : w.cell? ⟨p, 6, none⟩ = some (.int .i64 S.off) := h.c 6
theorem PDx.c7 (h : PDx w p S A o ms mh rv sv) : w.cell? ⟨p, 7, none⟩ = some (.int .i64 S.from_) := h.c 7
theorem PDx.c8 (h : PDx w p S A o ms mh rv sv) : w.cell? ⟨p, 8, none⟩ = some (.int .i64 S.to) := h.c 8
theorem PDx.c9 (h : PDx w p S A o ms mh rv sv) : w.cell? ⟨p, 9, none⟩ = some (.int .i64 S.planned) := h.c 9
theorem PDx.c10 (h : PDx w p S A o ms mh rv sv) : w.cell? ⟨p, 10, none⟩ = some sv := h.c 10
theorem PDx.fr (h : PDx w p S A o ms mh rv sv) (j : Nat) : w.frozen? ⟨p, j, none⟩ = false := frozen_of_row w p j _ _ h.cells
theorem PDx.ne_m (h : PDx w p S A o ms mh rv sv) : ms ≠ p := map_ne h.safe h.cells (by simp)
theorem PDx.ne_h (h : PDx w p S A o ms mh rv sv) : mh ≠ p := map_ne h.shown h.cells (by simp)
theorem PDx.ne_r (h : PDx w p S A o ms mh rv sv) : rv.ownBlock ≠ some p := own_ne h.row h.cells (by decide)
theorem PDx.ne_s (h : PDx w p S A o ms mh rv sv) : sv.ownBlock ≠ some p := own_ne h.reads h.cells (by decide)

/-- Only cells of the disk itself have turned. -/
theorem PDx.recell {S' : Ds} {w' : World} (h : PDx w p S A o ms mh rv sv) (hk : Keep (· = p) w w') (hwf : S'.Wf) (hc : w'.heap[p]? = some (.cells #[.int .i64 S'.room, .bool S'.on, .map (some ms), rv, .map (some mh), .int .i64 S'.strokes, .int .i64 S'.off, .int .i64 S'.from_, .int .i64 S'.to, .int .i64 S'.planned, sv] 98 (0, 0)))
    (e1 : S'.safe = S.safe) (e2 : S'.shown = S.shown) (e3 : S'.row = S.row) (e4 : S'.reads = S.reads) (e5 : S'.th = S.th) (e6 : S'.nx = S.nx) (hp : (Lit.int .i64 S'.off).wf = true ∧ (Lit.int .i64 S'.from_).wf = true ∧ (Lit.int .i64 S'.to).wf = true) : PDx w' p S' A o ms mh rv sv := by
  refine ⟨hwf, hc, h.ne, ?_, ?_, ?_, ?_, ?_, h.lp, h.lm, h.lh, h.lr, h.ls, fun b hb => Nat.lt_of_lt_of_le (h.lim b hb) hk.size, hp⟩
  · rw [e1]; exact h.safe.keep hk h.ne_m
  · rw [e2]; exact h.shown.keep hk h.ne_h
  · rw [e3]; exact own_keeps h.row hk (fun g hg e => h.ne_r (by rw [hg, e]))
  · rw [e4]; exact own_keeps h.reads hk (fun g hg e => h.ne_s (by rw [hg, e]))
  · rw [e5, e6]
    intro k hk'
    obtain ⟨a, b, ht⟩ := h.th k hk'
    exact ⟨a, b, ht.keep hk (fun g hg e => by subst e; rw [h.lp] at hg; omega)⟩
end

set_option maxHeartbeats 800000 in
set_option maxRecDepth 100000 in
theorem off_ok {w : World} {p : Nat} {S : Ds} {A : Nat → Nat} {o : Lab} {ms mh : Nat} {rv sv : Value} (h : PDx w p S A o ms mh rv sv) : Calls Tryz.prog 25 #[.pointer (some ⟨p, 0, none⟩)] w fun e w' => e = .returned (.bool (!S.on)) ∧ w' = w := by
  have c1 := h.c1
  clear h
  go_enter Tryz.func25, Tryz.ntmps25
  go_wp2
  go_ret
  exact ⟨rfl, rfl⟩

/-- What find answers. -/
def findV (S : Ds) (A : Nat → Nat) (n : By) : Value := if (S.find n).1 = 0 then .pointer (some ⟨A (S.find n).2, 0, none⟩) else .pointer none

set_option maxHeartbeats 800000 in
set_option maxRecDepth 100000 in
theorem find_ok {w : World} {p : Nat} {S : Ds} {A : Nat → Nat} {o : Lab} {ms mh : Nat} {rv sv : Value} (h : PDx w p S A o ms mh rv sv) (n : By) (hn : n.length ≤ 4611686018427387904) : Calls Tryz.prog 82 #[.pointer (some ⟨p, 0, none⟩), encStr n] w fun e w' => e = .returned (.tuple #[findV S A n, .int .i64 (S.find n).1]) ∧ w' = w := by
  have c4 := h.c4
  have hoff := off_ok h
  have hisn := isName_ok n w hn
  go_enter Tryz.func82, Tryz.ntmps82
  by_cases hon : S.on = true
  · rw [hon] at hoff
    by_cases hnm : isNm n = true
    · rw [hnm] at hisn
      have hlk := h.shown.look n (by unfold isNm at hnm; simp at hnm; unfold maxLen; omega)
      cases hg : S.shown.get n with
      | none =>
        rw [hg] at hlk
        have hv : Hid (S.find n = (53, 0)) := hide (by simp [Ds.find, hon, hnm, hg])
        clear hg h
        go_wp2_with (first
          | (go_at_call 25; refine hoff.mono ?_; rintro e w' ⟨rfl, rfl⟩)
          | (go_at_call 95; refine hisn.mono ?_; rintro e w' ⟨rfl, rfl⟩))
        go_ret2
        exact ⟨by unfold findV; rw [hv.out]; rfl, rfl⟩
      | some k =>
        rw [hg] at hlk
        have hv : Hid (S.find n = (0, k)) := hide (by simp [Ds.find, hon, hnm, hg])
        clear hg h
        go_wp2_with (first
          | (go_at_call 25; refine hoff.mono ?_; rintro e w' ⟨rfl, rfl⟩)
          | (go_at_call 95; refine hisn.mono ?_; rintro e w' ⟨rfl, rfl⟩))
        go_ret2
        exact ⟨by unfold findV; rw [hv.out]; rfl, rfl⟩
    · simp only [Bool.not_eq_true] at hnm
      rw [hnm] at hisn
      have hv : Hid (S.find n = (51, 0)) := hide (by simp [Ds.find, hon, hnm])
      clear h
      go_wp2_with (first
        | (go_at_call 25; refine hoff.mono ?_; rintro e w' ⟨rfl, rfl⟩)
        | (go_at_call 95; refine hisn.mono ?_; rintro e w' ⟨rfl, rfl⟩))
      go_ret2
      exact ⟨by unfold findV; rw [hv.out]; rfl, rfl⟩
  · simp only [Bool.not_eq_true] at hon
    rw [hon] at hoff
    have hv : Hid (S.find n = (50, 0)) := hide (by simp [Ds.find, hon])
    clear h
    go_wp2_with (go_at_call 25; refine hoff.mono ?_; rintro e w' ⟨rfl, rfl⟩)
    go_ret2
    exact ⟨by unfold findV; rw [hv.out]; rfl, rfl⟩

set_option maxHeartbeats 800000 in
set_option maxRecDepth 100000 in
theorem stroke_ok {w : World} {p : Nat} {S : Ds} {A : Nat → Nat} {o : Lab} {ms mh : Nat} {rv sv : Value} (h : PDx w p S A o ms mh rv sv) (r : Int) (hs : S.strokes < 1073741824) (hp : S.planned < 1073741824) : Calls Tryz.prog 84 #[.pointer (some ⟨p, 0, none⟩), .int .i64 r] w fun e w' => e = .returned (.int .i64 (S.ans r)) ∧ PDx w' p S.tick A o ms mh rv sv ∧ Keep (· = p) w w' := by
  have c5 := h.c5
  have f5 := h.fr 5
  obtain ⟨w1, hw1⟩ : ∃ w1, w1 = w.setCell ⟨p, 5, none⟩ (.int .i64 ((S.strokes : Int) + 1)) := ⟨_, rfl⟩
  have hQ1 := heap_setCell_same w p 5 _ _ (.int .i64 ((S.strokes : Int) + 1)) h.cells
  rw [← hw1] at hQ1
  have hk1 : Keep (· = p) w w1 := by rw [hw1]; exact (Keep.refl (· = p) w).setCell (p := ⟨p, 5, none⟩) (fun _ => rfl) _
  have c9 : w1.cell? ⟨p, 9, none⟩ = some (.int .i64 S.planned) := by rw [cell_of_row w1 p 9 _ _ _ hQ1]; rfl
  have f9 : w1.frozen? ⟨p, 9, none⟩ = false := frozen_of_row w1 p 9 _ _ hQ1
  obtain ⟨w2, hw2⟩ : ∃ w2, w2 = w1.setCell ⟨p, 9, none⟩ (.int .i64 ((S.planned : Int) + 1)) := ⟨_, rfl⟩
  have hQ2 := heap_setCell_same w1 p 9 _ _ (.int .i64 ((S.planned : Int) + 1)) hQ1
  rw [← hw2] at hQ2
  have hk2 : Keep (· = p) w w2 := by rw [hw2]; exact hk1.setCell (p := ⟨p, 9, none⟩) (fun _ => rfl) _
  have d9 : w2.cell? ⟨p, 9, none⟩ = some (.int .i64 ((S.planned : Int) + 1)) := by rw [cell_of_row w2 p 9 _ _ _ hQ2]; rfl
  have d6 : w2.cell? ⟨p, 6, none⟩ = some (.int .i64 S.off) := by rw [cell_of_row w2 p 6 _ _ _ hQ2]; rfl
  have FIN : Hid (∀ w3, Kept [] w2 w3 → ∀ b, S.tick.on = b → (w3.setCell ⟨p, 1, none⟩ (.bool b)).heap[p]? = some (.cells #[.int .i64 S.tick.room, .bool S.tick.on, .map (some ms), rv, .map (some mh), .int .i64 S.tick.strokes, .int .i64 S.tick.off, .int .i64 S.tick.from_, .int .i64 S.tick.to, .int .i64 S.tick.planned, sv] 98 (0, 0)) ∧ w3.cell? ⟨p, 1, none⟩ = some (.bool S.on) ∧ w3.frozen? ⟨p, 1, none⟩ = false ∧ w3.heap[p]? = some (.cells #[.int .i64 S.room, .bool S.on, .map (some ms), rv, .map (some mh), .int .i64 S.tick.strokes, .int .i64 S.off, .int .i64 S.from_, .int .i64 S.to, .int .i64 S.tick.planned, sv] 98 (0, 0))) := fun w3 hk3 b hb => by
    have hQ3 : w3.heap[p]? = _ := (hk3.block p (by have := hk2.size; have := h.lt; omega) (by simp)).trans hQ2
    have hQ4 := heap_setCell_same w3 p 1 _ _ (.bool b) hQ3
    subst hb
    have e5 : ((S.strokes : Int) + 1) = ((S.tick.strokes : Nat) : Int) := by simp [Ds.tick]
    have e9 : ((S.planned : Int) + 1) = ((S.tick.planned : Nat) : Int) := by simp [Ds.tick]
    rw [e5, e9] at hQ3 hQ4
    exact ⟨hQ4, by rw [cell_of_row w3 p 1 _ _ _ hQ3]; rfl, frozen_of_row w3 p 1 _ _ hQ3, hQ3⟩
  have HP := hide (And.intro h hk2)
  clear h hk1 hk2 hQ1 hQ2
  go_enter Tryz.func84, Tryz.ntmps84
  go_upto_region 2 with (fail)
  rw [← hw1]
  clear hw1 c5 f5
  go_upto_region 3 with (fail)
  rw [← hw2]
  clear hw2 c9 f9
  cases hgo : S.goesOff
  · have hd : ((S.planned : Int) + 1 == S.off) = false := hgo
    have HG := hide hgo
    clear hgo
    go_quiet (fail)
    go_wp2
    go_ret
    have hk : Kept [] w2 (w2.drewN nq) := (Kept.refl [] w2).drewN nq
    have hon : S.tick.on = S.on := by simp [Ds.tick, HG.out]
    obtain ⟨_, _, _, hq⟩ := FIN.out _ hk _ rfl
    refine ⟨by unfold Ds.ans; rw [HG.out]; rfl, HP.out.1.recell (HP.out.2.kept hk) HP.out.1.wf.tick ?_ rfl rfl rfl rfl rfl rfl HP.out.1.pl, HP.out.2.kept hk⟩
    rw [hon]
    exact hq
  · have hd : ((S.planned : Int) + 1 == S.off) = true := hgo
    have HG := hide hgo
    clear hgo
    go_quiet (fail)
    have hk : Kept [] w2 (w2.drewN nq) := (Kept.refl [] w2).drewN nq
    have hon : S.tick.on = false := by simp [Ds.tick, HG.out]
    obtain ⟨h4, k1, k2, _⟩ := FIN.out _ hk false hon
    have HH := hide (And.intro h4 (And.intro hk hon))
    clear h4 hk hon FIN
    generalize w2.drewN nq = w3 at HH k1 k2 ⊢
    go_wp2
    go_ret
    obtain ⟨h4, hk, hon⟩ := HH.out
    have hk5 : Keep (· = p) w (w3.setCell ⟨p, 1, none⟩ (.bool false)) := (HP.out.2.kept hk).setCell (p := ⟨p, 1, none⟩) (fun _ => rfl) _
    exact ⟨by unfold Ds.ans; rw [HG.out]; rfl, HP.out.1.recell hk5 HP.out.1.wf.tick h4 rfl rfl rfl rfl rfl rfl HP.out.1.pl, hk5⟩
end

section
open Go.RowKit Dsk
set_option linter.unusedVariables false
set_option linter.unusedSimpArgs false

/-- The sum over those that are not left. -/
def sumNot (f : Nat → Nat) (left : Lit → Bool) : Nm → Nat
  | [] => 0
  | p :: r => (if left (.string p.1) then 0 else f p.2) + sumNot f left r
theorem sumNot_none (f : Nat → Nat) (left : Lit → Bool) (l : Nm) (h : ∀ p ∈ l, left (.string p.1) = true) : sumNot f left l = 0 := by
  induction l with
  | nil => rfl
  | cons p r ih => simp only [sumNot, h p (by simp), if_true, Nat.zero_add]; exact ih (fun q hq => h q (by simp [hq]))
theorem sumNot_all (f : Nat → Nat) (left : Lit → Bool) (l : Nm) (h : ∀ k, left k = false) : sumNot f left l = (l.map (fun p => f p.2)).sum := by
  induction l with
  | nil => rfl
  | cons p r ih => simp [sumNot, h, ih]
theorem sumNot_off (f : Nat → Nat) (left : Lit → Bool) (n : By) (l : Nm) (h : ∀ p ∈ l, p.1 ≠ n) : sumNot f (fun z => left z && !z.sameKey (.string n)) l = sumNot f left l := by
  induction l with
  | nil => rfl
  | cons p r ih =>
    have h1 : (Lit.string p.1).sameKey (.string n) = false := by rw [same_str]; simpa using h p (by simp)
    simp only [sumNot, h1, Bool.not_false, Bool.and_true]
    rw [ih (fun q hq => h q (by simp [hq]))]
theorem sumNot_step (f : Nat → Nat) (left : Lit → Bool) {n : By} {k : Nat} {l : Nm} (hup : l.Up) (hm : (n, k) ∈ l) (hl : left (.string n) = true) : sumNot f (fun z => left z && !z.sameKey (.string n)) l = sumNot f left l + f k := by
  induction l with
  | nil => simp at hm
  | cons p r ih =>
    have hp := List.pairwise_cons.1 hup
    rcases List.mem_cons.1 hm with e | hm'
    · subst e
      have h1 : (Lit.string n).sameKey (.string n) = true := by rw [same_str]; simp
      have h2 : ∀ q ∈ r, q.1 ≠ n := fun q hq e => by have := hp.1 q hq; rw [e, before_irrefl] at this; cases this
      simp only [sumNot, h1, hl]
      rw [sumNot_off f left n r h2]
      simp
      omega
    · have h1 : p.1 ≠ n := fun e => by have := hp.1 _ hm'; rw [e, before_irrefl] at this; cases this
      have h2 : (Lit.string p.1).sameKey (.string n) = false := by rw [same_str]; simpa using h1
      simp only [sumNot, h2, Bool.not_false, Bool.and_true]
      rw [ih hp.2 hm']
      omega
theorem sumNot_le (f : Nat → Nat) (left : Lit → Bool) (l : Nm) (N : Nat) (h : ∀ p ∈ l, f p.2 ≤ N) : sumNot f left l ≤ l.length * N := by
  induction l with
  | nil => simp [sumNot]
  | cons p r ih =>
    have h1 := h p (by simp)
    have h2 := ih (fun q hq => h q (by simp [hq]))
    simp only [sumNot, List.length_cons, Nat.add_mul, Nat.one_mul]
    split <;> omega
theorem Ds.used_le {S : Ds} {N : Nat} (hw : S.Wf) (hB : S.Bd N) : S.used ≤ N * N := by
  have h1 := sumNot_le (fun k => (S.th k).shown.length) (fun _ => false) S.shown N (fun p hp => hB.len hw (hw.slt (n := p.1) hp))
  rw [sumNot_all _ _ _ (fun _ => rfl)] at h1
  exact Nat.le_trans h1 (Nat.mul_le_mul_right _ (hB.shown hw))

def mkP : Option Nat → Value
  | none => .pointer none
  | some b => .pointer (some ⟨b, 0, none⟩)
theorem mkP_inv (v : Value) (y : DataW Unit × List MemPlace) (h : ptrElem v = some y) : ∃ c, v = mkP c := by
  unfold ptrElem at h
  split at h
  · exact ⟨none, rfl⟩
  · exact ⟨some _, rfl⟩
  · cases h
/-- Which entry has come. -/
theorem came {A : Nat → Nat} {l : Nm} {x : By} {c : Option Nat} {y : DataW Unit × List MemPlace} (hv : ptrElem (mkP c) = some y) (hat : ∀ zd, (nmD A l).atKey (.string x) zd = y.1) : ∃ k, l.get x = some k ∧ c = some (A k) := by
  cases hg : l.get x with
  | none =>
    have h1 := hat .nil
    have h2 := hat (.lit (.bool true))
    rw [nmD_at, hg] at h1 h2
    rw [← h1] at h2
    cases h2
  | some k =>
    have h1 := hat .nil
    rw [nmD_at, hg] at h1
    refine ⟨k, rfl, ?_⟩
    cases c with
    | none => simp only [mkP, ptrElem, Option.some.injEq] at hv; rw [← hv] at h1; cases h1
    | some b =>
      simp only [mkP, ptrElem, Option.some.injEq] at hv
      rw [← hv] at h1
      simp only [DataW.lit.injEq, Lit.int.injEq, true_and] at h1
      congr 1
      omega

set_option maxHeartbeats 1600000 in
set_option maxRecDepth 100000 in
theorem used_ok {w : World} {p : Nat} {S : Ds} {A : Nat → Nat} {o : Lab} {ms mh : Nat} {rv sv : Value} {N : Nat} (h : PDx w p S A o ms mh rv sv) (hB : S.Bd N) (hN : N ≤ 536870912) : Calls Tryz.prog 120 #[.pointer (some ⟨p, 0, none⟩)] w fun e w' => e = .returned (.int .i64 S.used) ∧ Kept [] w w' := by
  have c4 := h.c4
  have HP := hide (And.intro h hB)
  have hown : w.ownsMap Tryz.prog 9 ptrElem mh S.shown.length (nmD A S.shown) := h.shown
  have hNN : N * N ≤ 536870912 * 536870912 := Nat.mul_le_mul hN hN
  clear h hB
  go_enter Tryz.func120, Tryz.ntmps120
  go_wp2_with (at_range; refine wpList_range_own _ rfl _ 92 rfl 9 109 Tryz.keyed Tryz.underlying92 ptrElem mh S.shown.length (nmD A S.shown) rfl hown ?_; intro w1 hrg hgr hsz)
  have hR : Hid (w1.ranges Tryz.prog 9 ptrElem mh w.heap.size S.shown.length (nmD A S.shown) (Maps.has (nmD A S.shown)) (Maps.size (nmD A S.shown)) ∧ Keep (· = w.heap.size) w w1) := ⟨hrg, (Keep.refl _ w).grown hgr (by simp)⟩
  clear hrg hgr
  generalize hr : w.heap.size = r at hR ⊢
  have HS : Hid (sumNot (fun k => (S.th k).shown.length) (Maps.has (nmD A S.shown)) S.shown = 0) := hide (sumNot_none _ _ _ (fun q hq => by
    rw [nmD, Maps.has_eq]
    simp only [List.any_map, List.any_eq_true]
    exact ⟨q, hq, by show (Lit.string q.1).sameKey (.string q.1) = true; rw [same_str]; simp⟩))
  go_frame
  go_loopw [3, 5] (fun s _ wr => ∃ (left : Lit → Bool) (cnt : Nat), Hid (wr.ranges Tryz.prog 9 ptrElem mh r S.shown.length (nmD A S.shown) left cnt ∧ Keep (· = r) w wr) ∧ s = .int .i64 (sumNot (fun k => (S.th k).shown.length) left S.shown)) (fun _ _ wr => wr.rangeLeft mh r)
  case atStart => exact ⟨_, _, hR, by rw [HS.out]; rfl⟩
  case round =>
    obtain ⟨left, cnt, HR, rfl⟩ := hrel
    have hrg := HR.out.1
    have hle := sumNot_le (fun k => (S.th k).shown.length) left S.shown N (fun q hq => HP.out.2.len HP.out.1.wf (HP.out.1.wf.slt (n := q.1) hq))
    have hsl := HP.out.2.shown HP.out.1.wf
    have hle2 : sumNot (fun k => (S.th k).shown.length) left S.shown ≤ 536870912 * 536870912 := Nat.le_trans hle (Nat.le_trans (Nat.mul_le_mul_right _ hsl) hNN)
    go_wp2_with (first
      | (at_next; refine wpList_next_ranges _ rfl _ rfl 9 Tryz.keyed ptrElem encStr mkP (fun key kl hk => by obtain ⟨x, hx, _⟩ := Maps.keyOf_str Tryz.underlying9 hk; exact ⟨x, hx⟩) mkP_inv mh r S.shown.length _ _ _ rfl hrg ?_ ?_)
      | go_in)
    · intro _ hl0
      have HU : Hid (sumNot (fun k => (S.th k).shown.length) left S.shown = S.used) := hide (sumNot_all _ _ _ hl0)
      go_wp2
      go_ret
      refine ⟨by rw [← HU.out]; rfl, ?_⟩
      have hk := HR.out.2
      exact ⟨hk.os, hk.tape, hk.output, hk.size, fun i hi _ => hk.block i hi (by show ¬ i = r; omega)⟩
    · intro x c kl yd yp w2 cnt2 hkey hlk hv hat hrg2 hlt hgr2 hsz2 hen
      obtain ⟨x', ex, rfl, _⟩ := Maps.keyOf_str Tryz.underlying9 hkey
      obtain rfl : x = x' := encStr_inj ex
      obtain ⟨k, hg, rfl⟩ := came (y := (yd, yp)) hv hat
      have hm := (Nm.get_some HP.out.1.wf.sup).1 hg
      have hK2 : Keep (· = r) w w2 := HR.out.2.grown hgr2 (fun j e _ => by injection e with e; exact e.symm)
      obtain ⟨rv1, sv1, ht⟩ := HP.out.1.th k (HP.out.1.wf.slt hm)
      have ht2 := (ht.th0).keep hK2 (fun j hj e => by
        have : j < w.heap.size := by
          rcases hj with rfl | e1 | e1
          · exact ht.lt
          · exact (ht.row.lt j e1).2
          · exact ht.shown.lt e1
        omega)
      obtain ⟨so, sc, rfl, _⟩ := ht.shown.shape
      have i2 := ht2.c2
      have HST : Hid (sumNot (fun k => (S.th k).shown.length) (fun z => left z && !z.sameKey (.string x)) S.shown = sumNot (fun k => (S.th k).shown.length) left S.shown + (S.th k).shown.length) := hide (sumNot_step (fun k => (S.th k).shown.length) left HP.out.1.wf.sup hm hlk)
      have hlk2 := HP.out.2.len HP.out.1.wf (HP.out.1.wf.slt hm)
      have H2 := hide (And.intro hrg2 hK2)
      have HL := hide (And.intro hrg hlt)
      simp only [mkP] at hen
      clear hle hsl hat hv hkey hgr2 hrg2 hK2 ht ht2 hg hm hrg hlt hlk HR
      generalize sumNot (fun k => (S.th k).shown.length) left S.shown = s0 at hle2 HST
      generalize (S.th k).shown.length = m at HST hlk2 i2
      go_wp2
      go_roundw
      case rel => exact ⟨_, cnt2, H2, by rw [HST.out]; go_num⟩
      case measure => rw [H2.out.1.left_eq, HL.out.1.left_eq]; exact HL.out.2
end

section
open Go.RowKit Dsk
set_option linter.unusedVariables false
set_option linter.unusedSimpArgs false

def fullE (S : Ds) (more : Int) : Int := if S.full more then 55 else 0

set_option maxHeartbeats 1600000 in
set_option maxRecDepth 100000 in
theorem refused_ok {w : World} {p : Nat} {S : Ds} {A : Nat → Nat} {o : Lab} {ms mh : Nat} {rv sv : Value} {N : Nat} (h : PDx w p S A o ms mh rv sv) (hB : S.Bd N) (hN : N ≤ 536870912) (more : Int) (hm1 : -1073741824 ≤ more) (hm2 : more ≤ 1073741824) : Calls Tryz.prog 83 #[.pointer (some ⟨p, 0, none⟩), .int .i64 more] w fun e w' => e = .returned (.int .i64 (fullE S more)) ∧ Kept [] w w' := by
  have c9 := h.c9
  have c7 := h.c7
  have c8 := h.c8
  have c0 := h.c0
  have hpl := hB.planned
  have HUS : Hid (∀ v, Kept [] w v → Calls Tryz.prog 120 #[.pointer (some ⟨p, 0, none⟩)] v fun e w' => e = .returned (.int .i64 S.used) ∧ Kept [] v w') := fun v hv => used_ok (h.keep (Keep.ofNone (F := fun _ => False) hv) (fun _ _ h => h)) hB hN
  have hule : S.used ≤ 536870912 * 536870912 := Nat.le_trans (Ds.used_le h.wf hB) (Nat.mul_le_mul hN hN)
  have hroom := h.wf.room
  clear h hB
  go_enter Tryz.func83, Tryz.ntmps83
  cases hlk : S.lacks
  · have HL : Hid (S.lacks = false) := hide hlk
    have hlk' : (decide (S.from_ ≤ (S.planned : Int) + 1) && decide ((S.planned : Int) + 1 ≤ S.to)) = false := hlk
    clear hlk
    have hcase : ¬ (S.from_ ≤ (S.planned : Int) + 1) ∨ (S.from_ ≤ (S.planned : Int) + 1 ∧ ¬ ((S.planned : Int) + 1 ≤ S.to)) := by
      simp only [Bool.and_eq_false_iff, decide_eq_false_iff_not] at hlk'
      omega
    clear hlk'
    have hwr : IntKind.i64.wrap ((S.used : Int) + more) = (S.used : Int) + more := IntWalk.i64_in _ (by omega)
    by_cases hmore : 0 < more
    · have HF : Hid (S.full more = decide ((S.room : Int) < S.used + more)) := hide (by unfold Ds.full; rw [HL.out]; simp [hmore])
      have hd : decide (0 < more) = true := by simpa using hmore
      rcases hcase with l1 | ⟨l1, l2⟩
      all_goals go_upto_region 4 with (fail)
      all_goals (
        refine wp_region_late (fun w' => Kept [] w w') (fun i => false) (by kernel_rfl) ?_
        have h0 : Kept [] w w.drew := (Kept.refl [] w).drew
        generalize World.drew w = v0 at h0 ⊢
        refine wpAnyL_free (i := 0) (v := .int .i64 more) rfl (by kernel_rfl) (by kernel_rfl) (by kernel_rfl) (fun _ _ _ h => h) (Or.inl ⟨by rfl, fun w _ => by go_simp⟩) ?_
        try simp only [List.getElem_toArray, List.getElem_cons_zero, List.getElem_cons_succ, Act.put, List.setIfInBounds_toArray, List.set_cons_zero, List.set_cons_succ]
        refine wpAnyL_free (i := 1) (v := .bool true) rfl (by kernel_rfl) (by kernel_rfl) (by kernel_rfl) (fun _ _ _ h => h) (Or.inl ⟨by rfl, fun w _ => by go_simp⟩) ?_
        try simp only [List.getElem_toArray, List.getElem_cons_zero, List.getElem_cons_succ, Act.put, List.setIfInBounds_toArray, List.set_cons_zero, List.set_cons_succ]
        refine wpAnyL_free (i := 2) (v := .bool true) rfl (by kernel_rfl) (by kernel_rfl) (by kernel_rfl) (fun _ _ _ h => h) (Or.inl ⟨by rfl, fun w _ => by go_simp⟩) ?_
        try simp only [List.getElem_toArray, List.getElem_cons_zero, List.getElem_cons_succ, Act.put, List.setIfInBounds_toArray, List.set_cons_zero, List.set_cons_succ]
        refine wpAnyL_free (i := 3) (v := .pointer (some ⟨p, 0, none⟩)) rfl (by kernel_rfl) (by kernel_rfl) (by kernel_rfl) (fun _ _ _ h => h) (Or.inl ⟨by rfl, fun w _ => by go_simp⟩) ?_
        try simp only [List.getElem_toArray, List.getElem_cons_zero, List.getElem_cons_succ, Act.put, List.setIfInBounds_toArray, List.set_cons_zero, List.set_cons_succ]
        refine wpAnyL_free (i := 5) (v := .int .i64 more) rfl (by kernel_rfl) (by kernel_rfl) (by kernel_rfl) (fun _ _ _ h => h) (Or.inl ⟨by rfl, fun w _ => by go_simp⟩) ?_
        try simp only [List.getElem_toArray, List.getElem_cons_zero, List.getElem_cons_succ, Act.put, List.setIfInBounds_toArray, List.set_cons_zero, List.set_cons_succ]
        refine wpAnyL_free (i := 7) (v := .pointer (some ⟨p, 0, none⟩)) rfl (by kernel_rfl) (by kernel_rfl) (by kernel_rfl) (fun _ _ _ h => h) (Or.inl ⟨by rfl, fun w _ => by go_simp⟩) ?_
        try simp only [List.getElem_toArray, List.getElem_cons_zero, List.getElem_cons_succ, Act.put, List.setIfInBounds_toArray, List.set_cons_zero, List.set_cons_succ]
        refine wpAnyL_free (i := 8) (v := .pointer (some ⟨p, 0, none⟩)) rfl (by kernel_rfl) (by kernel_rfl) (by kernel_rfl) (fun _ _ _ h => h) (Or.inl ⟨by rfl, fun w _ => by go_simp⟩) ?_
        try simp only [List.getElem_toArray, List.getElem_cons_zero, List.getElem_cons_succ, Act.put, List.setIfInBounds_toArray, List.set_cons_zero, List.set_cons_succ]
        refine wpAnyL_free (i := 9) (v := .pointer (some ⟨p, 0, none⟩)) rfl (by kernel_rfl) (by kernel_rfl) (by kernel_rfl) (fun _ _ _ h => h) (Or.inl ⟨by rfl, fun w _ => by go_simp⟩) ?_
        try simp only [List.getElem_toArray, List.getElem_cons_zero, List.getElem_cons_succ, Act.put, List.setIfInBounds_toArray, List.set_cons_zero, List.set_cons_succ]
        refine wpAnyL_take (i := 10) (v := .int .i64 S.room) rfl (by kernel_rfl) (by kernel_rfl) (by kernel_rfl) (by kernel_rfl) (by kernel_rfl) (fun _ _ _ h => h) (Or.inl ⟨by rfl, fun w hSw => by have c := Kept.cellOf hSw c0 (by simp); go_simp⟩) h0 ?_
        try simp only [List.getElem_toArray, List.getElem_cons_zero, List.getElem_cons_succ, Act.put, List.setIfInBounds_toArray, List.set_cons_zero, List.set_cons_succ]
        refine wpAnyL_one (i := 4) (by kernel_rfl) rfl (fun K hK => ?_)
        rw [if_pos (by rfl)]
        go_simp
        refine (HUS.out v0 h0).mono ?_
        rintro e v1 ⟨rfl, hq⟩
        have h1 : Kept [] w v1 := h0.trans hq (by simp)
        refine hK.out _ _ (fun _ _ => h1) ?_
        clear hK K hq h0
        try simp only [List.getElem_toArray, List.getElem_cons_zero, List.getElem_cons_succ, Act.put, List.setIfInBounds_toArray, List.set_cons_zero, List.set_cons_succ]
        refine wpAnyL_free (i := 6) (v := .int .i64 ((S.used : Int) + more)) rfl (by kernel_rfl) (by kernel_rfl) (by kernel_rfl) (fun _ _ _ h => h) (Or.inl ⟨by rfl, fun w _ => by go_simp⟩) ?_
        try simp only [List.getElem_toArray, List.getElem_cons_zero, List.getElem_cons_succ, Act.put, List.setIfInBounds_toArray, List.set_cons_zero, List.set_cons_succ]
        refine wpAnyL_free (i := 11) (v := .bool (decide ((S.room : Int) < (S.used : Int) + more))) rfl (by kernel_rfl) (by kernel_rfl) (by kernel_rfl) (fun _ _ _ h => h) (Or.inl ⟨by rfl, fun w _ => by go_simp⟩) ?_
        try simp only [List.getElem_toArray, List.getElem_cons_zero, List.getElem_cons_succ, Act.put, List.setIfInBounds_toArray, List.set_cons_zero, List.set_cons_succ]
        refine wpAnyL_free (i := 12) (v := .bool (decide ((S.room : Int) < (S.used : Int) + more))) rfl (by kernel_rfl) (by kernel_rfl) (by kernel_rfl) (fun _ _ _ h => h) (Or.inl ⟨by rfl, fun w _ => by go_simp⟩) ?_
        try simp only [List.getElem_toArray, List.getElem_cons_zero, List.getElem_cons_succ, Act.put, List.setIfInBounds_toArray, List.set_cons_zero, List.set_cons_succ]
        refine wpAnyL_done (by kernel_rfl) ?_ _
        cases hfin : decide ((S.room : Int) < (S.used : Int) + more)
        · go_wp2
          go_ret
          exact ⟨by unfold fullE; rw [HF.out, hfin]; rfl, h1⟩
        · go_wp2
          go_ret
          exact ⟨by unfold fullE; rw [HF.out, hfin]; rfl, h1⟩)
    · have HF : Hid (S.full more = false) := hide (by unfold Ds.full; rw [HL.out]; simp [hmore])
      have hd : decide (0 < more) = false := by simpa using hmore
      rcases hcase with l1 | ⟨l1, l2⟩
      all_goals go_upto_region 4 with (fail)
      all_goals (
        go_quiet (fail)
        go_wp2
        go_ret
        exact ⟨by unfold fullE; rw [HF.out]; rfl, (Kept.refl [] w).drewN nq⟩)
  · have HF : Hid (S.full more = true) := hide (by unfold Ds.full; rw [hlk]; rfl)
    have hlk' : (decide (S.from_ ≤ (S.planned : Int) + 1) && decide ((S.planned : Int) + 1 ≤ S.to)) = true := hlk
    clear hlk
    simp only [Bool.and_eq_true, decide_eq_true_eq] at hlk'
    obtain ⟨l1, l2⟩ := hlk'
    go_wp2
    go_ret
    exact ⟨by unfold fullE; rw [HF.out]; rfl, Kept.refl _ _⟩
end

end Go.Proofs.YtemlbmamcbmnjaaGreatDoor
