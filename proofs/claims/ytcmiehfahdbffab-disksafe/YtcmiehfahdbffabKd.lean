/-
  directory.twin: the state of its loops.
-/
import Derived.Test.YtcmiehfahdbffabKc
import Derived.Test.YtcmiehfahdbffabGy
namespace Go.Proofs.Ytcmiehfahdbffab
open Go.RowKit Dsk
set_option linter.unusedVariables false
set_option linter.unusedSimpArgs false
namespace Dsk
theorem Nm.Up.ext {l l' : Nm} (h : l.Up) (h' : l'.Up) (hm : ∀ p, p ∈ l ↔ p ∈ l') : l = l' := by
  induction l generalizing l' with
  | nil =>
    cases l' with
    | nil => rfl
    | cons y s => exact absurd ((hm y).2 (by simp)) (by simp)
  | cons x r ih =>
    cases l' with
    | nil => exact absurd ((hm x).1 (by simp)) (by simp)
    | cons y s =>
      have hx := List.pairwise_cons.1 h
      have hy := List.pairwise_cons.1 h'
      have e : x = y := by
        rcases List.mem_cons.1 ((hm x).1 (by simp)) with e | e
        · exact e
        · rcases List.mem_cons.1 ((hm y).2 (by simp)) with e2 | e2
          · exact e2.symm
          · have a1 := hy.1 x e
            have a2 := hx.1 y e2
            have := before_trans a1 a2
            rw [before_irrefl] at this
            cases this
      subst e
      congr 1
      refine ih hx.2 hy.2 (fun p => ?_)
      have hp := hm p
      simp only [List.mem_cons] at hp
      constructor
      · intro hr
        rcases hp.1 (.inr hr) with e | e
        · have := hx.1 p hr; rw [e, before_irrefl] at this; cases this
        · exact e
      · intro hr
        rcases hp.2 (.inr hr) with e | e
        · have := hy.1 p hr; rw [e, before_irrefl] at this; cases this
        · exact e
/-- The names that have come. -/
def notLeft (left : Lit → Bool) (l : Nm) : Nm := l.filter (fun p => !left (.string p.1))
theorem notLeft_none {left : Lit → Bool} {l : Nm} (h : ∀ p ∈ l, left (.string p.1) = true) : notLeft left l = [] := List.filter_eq_nil_iff.2 (fun p hp => by simp [h p hp])
theorem notLeft_all {left : Lit → Bool} {l : Nm} (h : ∀ k, left k = false) : notLeft left l = l := List.filter_eq_self.2 (fun p hp => by simp [h])
theorem notLeft_step {left : Lit → Bool} {l : Nm} (hu : l.Up) {n : By} {k : Nat} (hm : (n, k) ∈ l) (hl : left (.string n) = true) : (notLeft left l).put n k = notLeft (fun z => left z && !z.sameKey (.string n)) l := by
  have u1 : (notLeft left l).Up := hu.filter _
  refine Nm.Up.ext (u1.put n k) (hu.filter _) (fun p => ?_)
  rw [Nm.mem_put]
  simp only [notLeft, List.mem_filter, same_str, Bool.not_and, Bool.not_not, Bool.or_eq_true, Bool.not_eq_true', beq_iff_eq]
  constructor
  · rintro (rfl | ⟨⟨h1, h2⟩, h3⟩)
    · exact ⟨hm, .inr rfl⟩
    · exact ⟨h1, .inl h2⟩
  · rintro ⟨h1, h2⟩
    by_cases e : p.1 = n
    · left
      have : p.2 = k := hu.uniq (n := n) (j := p.2) (k := k) (by rw [← e]; exact h1) hm
      rw [← this, ← e]
    · right
      exact ⟨⟨h1, h2.resolve_right e⟩, e⟩
theorem notLeft_len (left : Lit → Bool) (l : Nm) : (notLeft left l).length ≤ l.length := List.length_filter_le _ _
end Dsk

/-- While the safe names are taken: those that are not left have their twins. -/
structure TwA (S : Ds) (w wr : World) (db mb rb : Nat) (left : Lit → Bool) (A : Nat → Nat) (o : Lab) : Prop where
  keep : Kept [] w wr
  dir : wr.heap[db]? = some (.cells #[.map (some mb), .slice none 0 0, .map none] 65 (0, 0))
  res : wr.heap[rb]? = some (.cells #[.map none, .slice none 0 0, .map none] 65 (0, 0))
  map : Mp wr mb A ((notLeft left S.safe).ren S.rho)
  th : ∀ p ∈ S.safe, left (.string p.1) = false → Tg wr o (S.rho p.2 + 2) (A (S.rho p.2)) (S.th p.2)
  lim : ∀ b, o b ≠ 0 → w.heap.size ≤ b ∧ b < wr.heap.size
  lm : o mb = 1
  nd : o db = 0
  nr : o rb = 0
  ge : w.heap.size ≤ mb
theorem safe_rho {S : Ds} (hw : S.Wf) {p q : By × Nat} (hp : p ∈ S.safe) (hq : q ∈ S.safe) (h : S.rho p.2 = S.rho q.2) : p = q := by
  have e := Ds.rho_inj (Ds.safe_lives hp) (Ds.safe_lives hq) h
  have hn : S.safe.ids.Nodup := (List.nodup_append.1 hw.nodup).1
  obtain ⟨i, hi, e1⟩ := List.mem_iff_getElem.1 hp
  obtain ⟨j, hj, e2⟩ := List.mem_iff_getElem.1 hq
  have h1 : S.safe.ids[i]'(by simpa [Nm.ids] using hi) = p.2 := by simp [Nm.ids, e1]
  have h2 : S.safe.ids[j]'(by simpa [Nm.ids] using hj) = q.2 := by simp [Nm.ids, e2]
  have : i = j := (List.getElem_inj hn).1 (by rw [h1, h2, e])
  subst this
  rw [← e1, ← e2]
theorem Tg.keep {F : Nat → Prop} {w w' : World} {o : Lab} {l b : Nat} {t : Th} (h : Tg w o l b t) (hk : Keep F w w') (hF : ∀ g, o g = l → ¬ F g) : Tg w' o l b t := by
  obtain ⟨rv, sv, h⟩ := h
  exact ⟨rv, sv, h.keep hk hF⟩
theorem Tg.relab {w : World} {o o' : Lab} {l b : Nat} {t : Th} (h : Tg w o l b t) (ho : ∀ g, g < w.heap.size → o' g = o g) : Tg w o' l b t := by
  obtain ⟨rv, sv, h⟩ := h
  exact ⟨rv, sv, h.relab ho⟩
/-- One name more. -/
theorem TwA.step {S : Ds} {w wr v v1 w5 : World} {db mb rb r : Nat} {left : Lit → Bool} {A : Nat → Nat} {o : Lab} (h : TwA S w wr db mb rb left A o) (hw : S.Wf) {n : By} {k : Nat} (hm : (n, k) ∈ S.safe) (hl : left (.string n) = true)
    (hor : o r = 0) (hrge : w.heap.size ≤ r) (hrd : r ≠ db ∧ r ≠ rb ∧ r ≠ mb) (hK : Keep (· = r) wr v) {b1 : Nat} {rv sv : Value} (hn : NewTh v v1 b1 rv sv (S.th k)) (hk1 : Kept [] v v1) (hM : Mp w5 mb (upd A (S.rho k) b1) (((notLeft left S.safe).ren S.rho).put n (S.rho k))) (hK5 : Keep (· = mb) v1 w5) :
    TwA S w w5 db mb rb (fun z => left z && !z.sameKey (.string n)) (upd A (S.rho k) b1) (o.ext v v1 (S.rho k + 2)) := by
  have hz1 := hK.size
  have hz2 := hk1.size
  have hz3 := hK5.size
  have hz0 := h.keep.size
  have kA : Keep (fun b => b = r ∨ b = mb) wr w5 := ((hK.mono (fun b e _ => .inl e)).kept hk1).trans hK5 (fun b e _ => .inr e)
  have hdl := (Array.getElem?_eq_some_iff.1 h.dir).1
  have hrl := (Array.getElem?_eq_some_iff.1 h.res).1
  have hml := h.map.lt
  have hmd : mb ≠ db := map_ne h.map h.dir (by simp)
  have hmr : mb ≠ rb := map_ne h.map h.res (by simp)
  have old : ∀ b, b < wr.heap.size → o.ext v v1 (S.rho k + 2) b = o b := fun b hb => Lab.ext_old (by omega)
  refine ⟨⟨kA.os.trans h.keep.os, kA.tape.trans h.keep.tape, kA.output.trans h.keep.output, Nat.le_trans h.keep.size kA.size, fun i hi _ => (kA.block i (by omega) (fun e => by have := h.ge; rcases e with e | e <;> omega)).trans (h.keep.block i hi (by simp))⟩, kA.heapOf h.dir (fun e => by rcases e with e | e; exact hrd.1 e.symm; exact hmd e.symm), kA.heapOf h.res (fun e => by rcases e with e | e; exact hrd.2.1 e.symm; exact hmr e.symm), ?_, fun p hp hlp => ?_, fun b hb => ?_, by rw [old mb hml]; exact h.lm, by rw [old db hdl]; exact h.nd, by rw [old rb hrl]; exact h.nr, h.ge⟩
  · rw [← notLeft_step hw.up hm hl, ← Nm.ren_put]
    exact hM
  · by_cases e : p = (n, k)
    · subst e
      rw [upd_same]
      have h5 : ThAt v1 (o.ext v v1 (S.rho k + 2)) (S.rho k + 2) b1 rv sv (S.th k) := hn.at o _
      exact ⟨rv, sv, h5.keep hK5 (fun g hg e2 => by
        rw [e2, old mb hml, h.lm] at hg
        omega)⟩
    · have hne : S.rho p.2 ≠ S.rho k := fun e2 => e (safe_rho hw hp hm e2)
      rw [upd_other _ _ hne]
      have hlp2 : left (.string p.1) = false := by
        simp only [same_str, Bool.and_eq_false_iff, Bool.not_eq_false'] at hlp
        rcases hlp with h1 | h1
        · exact h1
        · simp only [beq_iff_eq] at h1
          exfalso
          apply e
          have : p.2 = k := hw.up.uniq (n := n) (j := p.2) (k := k) (by rw [← h1]; exact hp) hm
          rw [← this, ← h1]
      have h5 := (h.th p hp hlp2).keep kA (fun g hg e2 => by
        rcases e2 with e2 | e2
        · rw [e2, hor] at hg; omega
        · rw [e2, h.lm] at hg; omega)
      obtain ⟨rv3, sv3, h3⟩ := h.th p hp hlp2
      obtain ⟨rv5, sv5, h6⟩ := h5
      refine ⟨rv3, sv3, ?_⟩
      have h7 := h3.keep kA (fun g hg e2 => by
        rcases e2 with e2 | e2
        · rw [e2, hor] at hg; omega
        · rw [e2, h.lm] at hg; omega)
      exact ⟨h7.cells, h7.row, h7.shown, (old _ h3.lt).trans h3.lb, fun g hg => (old g (h3.row.lt g hg).2).trans (h3.lr g hg), fun g hg => (old g (h3.shown.lt hg)).trans (h3.ls g hg)⟩
  · by_cases hb1 : b < v.heap.size
    · rw [Lab.ext_old hb1] at hb
      have := h.lim b hb
      exact ⟨this.1, by omega⟩
    · by_cases hb2 : b < v1.heap.size
      · exact ⟨by omega, by omega⟩
      · simp [Lab.ext, hb1, hb2] at hb
end Go.Proofs.Ytcmiehfahdbffab
