/-
  DiskFront, as mathematics.
-/
import Derived.Test.YtlokekjljibmbaaGc
namespace Go.Proofs.Ytlokekjljibmbaa
open Go.RowKit Dsk
set_option linter.unusedVariables false
set_option linter.unusedSimpArgs false
namespace Dsk
open Ds
/-- A disk without a plan, its power on. -/
structure Calm (S : Ds) : Prop where
  on : S.on = true
  off : S.off = 0
  to : S.to = 0
theorem Calm.goes {S : Ds} (h : Calm S) : S.goesOff = false := by
  unfold Ds.goesOff
  rw [h.off]
  simp only [decide_eq_false_iff_not]
  omega
theorem Calm.lacks {S : Ds} (h : Calm S) : S.lacks = false := by
  unfold Ds.lacks
  rw [h.to]
  simp only [Bool.and_eq_false_iff, decide_eq_false_iff_not]
  right
  omega
theorem Calm.tick {S : Ds} (h : Calm S) : Calm S.tick := ⟨by simp [Ds.tick, h.on, h.goes], h.off, h.to⟩
theorem Calm.ans {S : Ds} (h : Calm S) (r : Int) : S.ans r = r := by simp [Ds.ans, h.goes]
theorem Calm.find {S T : Ds} (h : Calm S) (g : Calm T) (hs : S.shown = T.shown) (n : By) : T.find n = S.find n := by
  unfold Ds.find
  rw [h.on, g.on, hs]
/-- The disk and the other one, while files are laid: i names have been asked. -/
structure Pr (S T : Ds) (i : Nat) : Prop where
  cs : Calm S
  ct : Calm T
  rs : S.room = 1000
  rt : T.room = 1000
  shown : T.shown = S.shown
  nx : T.nx = S.nx
  th : ∀ k, k < S.nx → (T.th k).shown = (S.th k).shown ∧ (S.th k).row = [] ∧ (S.th k).safe = (S.th k).shown ∧ (S.th k).shown.length ≤ 1
  len : S.shown.length ≤ i
theorem sum_le_len {l : Nm} {th : Nat → Th} (h : ∀ k ∈ l.ids, (th k).shown.length ≤ 1) : (l.map (fun p => (th p.2).shown.length)).sum ≤ l.length := by
  induction l with
  | nil => simp
  | cons x r ih =>
    have h1 := h x.2 (by simp [Nm.ids])
    have h2 := ih (fun k hk => h k (by simp only [Nm.ids, List.map_cons, List.mem_cons]; exact .inr hk))
    simp only [List.map_cons, List.sum_cons, List.length_cons]
    omega
theorem get_put_same {l : Nm} (h : l.Up) (n : By) (k : Nat) : (l.put n k).get n = some k := (Nm.get_some (h.put n k)).2 (Nm.mem_put.2 (.inl rfl))
/-- Create, on a calm disk with fewer than 256 files. -/
theorem calm_create {S : Ds} (h : Calm S) (hl : S.shown.length < 256) (n : By) : ((S.create n).1 = 0 ∧ isNm n = true ∧ S.shown.get n = none ∧ (S.create n).2 = ({ S.tick with th := upd S.th S.nx Th.new, nx := S.nx + 1 } : Ds).addName (.mk n S.nx)) ∨ ((S.create n).1 ≠ 0 ∧ (S.create n).2 = S) := by
  have hr : S.refusedCreate = 0 := by simp [Ds.refusedCreate, h.lacks, show ¬ 256 ≤ S.shown.length by omega]
  unfold Ds.create
  by_cases h1 : (S.find n).1 = 0
  · rw [if_pos h1]
    exact .inr ⟨by simp, rfl⟩
  · rw [if_neg h1]
    by_cases h2 : (S.find n).1 = 53
    · obtain ⟨_, h4, h5⟩ := find_none h2
      rw [if_neg (by omega), if_pos hr]
      exact .inl ⟨h.ans 0, h4, h5, rfl⟩
    · rw [if_pos h2]
      exact .inr ⟨h1, rfl⟩
/-- Append of one byte to a file of none. -/
theorem calm_append {S : Ds} (h : Calm S) {n : By} {k : Nat} (hf : S.find n = (0, k)) (h0 : (S.th k).shown = []) (hu : S.used + 1 ≤ S.room) (c : UInt8) : S.append n [c] = (0, S.tick.addByte k (.wr 0 [c])) := by
  unfold Ds.append Ds.write
  rw [hf]
  simp only [ne_eq, not_true_eq_false, if_false, h0, List.length_nil, List.length_singleton]
  have hfull : S.full ((((0 : Nat) : Int) + ((1 : Nat) : Int)) - ((0 : Nat) : Int)) = false := by
    simp only [Ds.full, h.lacks, Bool.false_or, Bool.and_eq_false_iff, decide_eq_false_iff_not]
    right
    omega
  rw [if_neg (by rw [hfull]; decide), h.ans]
theorem calm_sync {S : Ds} (h : Calm S) {n : By} {k : Nat} (hf : S.find n = (0, k)) : S.sync n = (0, { S.tick with th := upd S.th k (S.th k).sync }) := by
  unfold Ds.sync
  rw [hf]
  simp [h.goes]
/-- A file is laid on both. -/
theorem Pr.lay {S T : Ds} {i : Nat} (h : Pr S T i) (hws : S.Wf) (hwt : T.Wf) (hi : i < 40) (n : By) (c : UInt8) (h0 : (S.create n).1 = 0) :
    Pr (((S.create n).2.append n [c]).2.sync n).2 ((T.create n).2.append n [c]).2 (i + 1) := by
  have hl := h.len
  rcases calm_create h.cs (by omega) n with ⟨_, hn, hg, e1⟩ | ⟨hx, _⟩
  · rcases calm_create h.ct (by rw [h.shown]; omega) n with ⟨_, _, _, e2⟩ | ⟨hx, _⟩
    · have hus : S.used ≤ i := by
        have := sum_le_len (l := S.shown) (th := S.th) (fun k hk => (h.th k (by obtain ⟨m, hm⟩ := Nm.mem_ids.1 hk; exact hws.slt hm)).2.2.2)
        have e : S.used = (S.shown.map (fun p => (S.th p.2).shown.length)).sum := rfl
        omega
      have usedP : ∀ {U : Ds}, U.Wf → (∀ k, k < U.nx → (U.th k).shown.length ≤ 1) → U.shown.length ≤ i → ((U.shown.put n U.nx).map (fun p => (upd U.th U.nx Th.new p.2).shown.length)).sum ≤ i + 1 := fun {U} hU hk hlU => by
        have := sum_le_len (l := U.shown.put n U.nx) (th := upd U.th U.nx Th.new) (fun k hk2 => by
          by_cases e : k = U.nx
          · rw [e, upd_same]; simp [Th.new]
          · rw [upd_other _ _ e]
            obtain ⟨m, hm⟩ := Nm.mem_ids.1 hk2
            rcases Nm.mem_put.1 hm with e2 | e2
            · exact absurd (by injection e2) e
            · exact hk k (hU.slt e2.1))
        have h2 := Nm.put_length_le U.shown n U.nx
        omega
      generalize hS1 : (({ S.tick with th := upd S.th S.nx Th.new, nx := S.nx + 1 } : Ds).addName (.mk n S.nx)) = S1 at *
      generalize hT1 : (({ T.tick with th := upd T.th T.nx Th.new, nx := T.nx + 1 } : Ds).addName (.mk n T.nx)) = T1 at *
      rw [e1, e2]
      have cS1 : Calm S1 := by rw [← hS1]; exact ⟨h.cs.tick.on, h.cs.off, h.cs.to⟩
      have cT1 : Calm T1 := by rw [← hT1]; exact ⟨h.ct.tick.on, h.ct.off, h.ct.to⟩
      have sS1 : S1.shown = S.shown.put n S.nx := by rw [← hS1]; rfl
      have sT1 : T1.shown = S.shown.put n S.nx := by rw [← hT1, ← h.shown, ← h.nx]; rfl
      have fS1 : S1.find n = (0, S.nx) := by
        unfold Ds.find
        rw [if_pos cS1.on, if_pos hn, sS1, get_put_same hws.sup]
      have fT1 : T1.find n = (0, S.nx) := by
        unfold Ds.find
        rw [if_pos cT1.on, if_pos hn, sT1, get_put_same hws.sup]
      have tS1 : S1.th = upd S.th S.nx Th.new := by rw [← hS1]; rfl
      have tT1 : T1.th = upd T.th S.nx Th.new := by rw [← hT1, ← h.nx]; rfl
      have uS1 : S1.used ≤ i + 1 := by
        have := usedP hws (fun k hk => (h.th k hk).2.2.2) hl
        unfold Ds.used
        rw [sS1, tS1]
        exact this
      have uT1 : T1.used ≤ i + 1 := by
        have := usedP hwt (fun k hk => by rw [(h.th k (by rw [← h.nx]; exact hk)).1]; exact (h.th k (by rw [← h.nx]; exact hk)).2.2.2) (by rw [h.shown]; exact hl)
        unfold Ds.used
        rw [sT1, tT1]
        rw [h.shown, h.nx] at this
        exact this
      have rS1 : S1.room = 1000 := by rw [← hS1]; exact h.rs
      have rT1 : T1.room = 1000 := by rw [← hT1]; exact h.rt
      have nS1 : S1.nx = S.nx + 1 := by rw [← hS1]; rfl
      have nT1 : T1.nx = S.nx + 1 := by rw [← hT1, ← h.nx]; rfl
      rw [calm_append cS1 fS1 (by rw [tS1, upd_same]; rfl) (by omega) c, calm_append cT1 fT1 (by rw [tT1, upd_same]; rfl) (by omega) c]
      have cS2 : Calm (S1.tick.addByte S.nx (.wr 0 [c])) := ⟨cS1.tick.on, cS1.off, cS1.to⟩
      have fS2 : (S1.tick.addByte S.nx (.wr 0 [c])).find n = (0, S.nx) := by
        rw [← fS1]
        unfold Ds.find
        rw [if_pos cS2.on, if_pos cS1.on]
        rfl
      show Pr ((S1.tick.addByte S.nx (.wr 0 [c])).sync n).2 (T1.tick.addByte S.nx (.wr 0 [c])) (i + 1)
      rw [calm_sync cS2 fS2]
      refine ⟨⟨cS2.tick.on, cS2.off, cS2.to⟩, ⟨cT1.tick.on, cT1.off, cT1.to⟩, rS1, rT1, ?_, ?_, fun k hk => ?_, ?_⟩
      · show T1.shown = S1.shown
        rw [sS1, sT1]
      · show T1.nx = S1.nx
        rw [nS1, nT1]
      · have hk2 : k < S.nx + 1 := by rw [← nS1]; exact hk
        show (upd T1.th S.nx ((T1.th S.nx).change (.wr 0 [c])) k).shown = (upd (upd S1.th S.nx ((S1.th S.nx).change (.wr 0 [c]))) S.nx ((upd S1.th S.nx ((S1.th S.nx).change (.wr 0 [c])) S.nx)).sync k).shown ∧ (upd (upd S1.th S.nx ((S1.th S.nx).change (.wr 0 [c]))) S.nx ((upd S1.th S.nx ((S1.th S.nx).change (.wr 0 [c])) S.nx)).sync k).row = [] ∧ (upd (upd S1.th S.nx ((S1.th S.nx).change (.wr 0 [c]))) S.nx ((upd S1.th S.nx ((S1.th S.nx).change (.wr 0 [c])) S.nx)).sync k).safe = (upd (upd S1.th S.nx ((S1.th S.nx).change (.wr 0 [c]))) S.nx ((upd S1.th S.nx ((S1.th S.nx).change (.wr 0 [c])) S.nx)).sync k).shown ∧ (upd (upd S1.th S.nx ((S1.th S.nx).change (.wr 0 [c]))) S.nx ((upd S1.th S.nx ((S1.th S.nx).change (.wr 0 [c])) S.nx)).sync k).shown.length ≤ 1
        by_cases e : k = S.nx
        · subst e
          simp only [upd_same, tS1, tT1]
          exact ⟨rfl, rfl, rfl, by simp [Th.new, Th.change, Th.sync, Ch.apply, Ch.units]⟩
        · simp only [upd_other _ _ e, tS1, tT1]
          exact h.th k (by omega)
      · show S1.shown.length ≤ i + 1
        rw [sS1]
        have := Nm.put_length_le S.shown n S.nx
        omega
    · exfalso
      apply hx
      unfold Ds.create at h0 ⊢
      rw [h.cs.find h.ct h.shown.symm]
      have hr : T.refusedCreate = 0 := by simp [Ds.refusedCreate, h.ct.lacks, show ¬ 256 ≤ T.shown.length by rw [h.shown]; omega]
      have hr2 : S.refusedCreate = 0 := by simp [Ds.refusedCreate, h.cs.lacks, show ¬ 256 ≤ S.shown.length by omega]
      rw [hr]
      rw [hr2] at h0
      by_cases h1 : (S.find n).1 = 0
      · rw [if_pos h1] at h0; exact absurd h0 (by simp)
      · rw [if_neg h1] at h0 ⊢
        by_cases h2 : (S.find n).1 = 53
        · rw [if_neg (by omega), if_pos rfl]; exact h.ct.ans 0
        · rw [if_pos h2] at h0; exact absurd h0 h1
  · exact absurd h0 hx
theorem Pr.skip {S T : Ds} {i : Nat} (h : Pr S T i) (hi : i < 40) (n : By) (h0 : (S.create n).1 ≠ 0) : Pr (S.create n).2 T (i + 1) := by
  have hl := h.len
  rcases calm_create h.cs (by omega) n with ⟨hx, _⟩ | ⟨_, e⟩
  · exact absurd hx h0
  · rw [e]
    exact ⟨h.cs, h.ct, h.rs, h.rt, h.shown, h.nx, h.th, by omega⟩
theorem Pr.start : Pr (Ds.fresh 1000) (Ds.fresh 1000) 0 := ⟨⟨rfl, rfl, rfl⟩, ⟨rfl, rfl, rfl⟩, rfl, rfl, rfl, rfl, fun k hk => absurd hk (by simp [Ds.fresh]), Nat.le_refl _⟩
theorem Pr.names {S T : Ds} {i : Nat} (h : Pr S T i) : S.syncNames = (0, { S.tick with safe := S.shown, row := [] }) := by
  unfold Ds.syncNames
  rw [if_pos h.cs.on, h.cs.goes]
  rfl

/-- A change of names, as the law has it: to nothing: away. -/
abbrev Mov := By × By
def ncOf (m : Mov) : Nc := if m.2 = [] then .tk m.1 else .gv m.1 m.2
def moveD (S : Ds) (m : Mov) : Int × Ds := if m.2 = [] then S.remove m.1 else S.rename m.1 m.2
/-- A calm disk's move. -/
theorem move_calm {S : Ds} (h : Calm S) (m : Mov) : ((moveD S m).1 = 0 ∧ (S.find m.1).1 = 0 ∧ (m.2 = [] ∨ isNm m.2 = true) ∧ (moveD S m).2 = if m.1 = m.2 then S.tick else S.tick.addName (ncOf m)) ∨ ((moveD S m).1 ≠ 0 ∧ (moveD S m).2 = S) := by
  unfold moveD ncOf
  by_cases h2 : m.2 = []
  · simp only [if_pos h2]
    unfold Ds.remove
    by_cases hf : (S.find m.1).1 = 0
    · rw [if_neg (by omega)]
      have hne : m.1 ≠ m.2 := fun e => by
        rw [h2] at e
        unfold Ds.find at hf
        rw [if_pos h.on, e] at hf
        rw [if_neg (by decide)] at hf
        exact absurd hf (by simp)
      rw [if_neg hne]
      exact .inl ⟨h.ans 0, hf, .inl h2, rfl⟩
    · rw [if_pos hf]
      exact .inr ⟨hf, rfl⟩
  · simp only [if_neg h2]
    unfold Ds.rename
    rw [if_pos h.on]
    by_cases ht : isNm m.2 = true
    · rw [if_pos ht]
      by_cases hf : (S.find m.1).1 = 0
      · rw [if_neg (by omega)]
        by_cases hne : m.1 = m.2
        · rw [if_pos hne, if_pos hne]
          exact .inl ⟨h.ans 0, hf, .inr ht, rfl⟩
        · rw [if_neg hne, if_neg hne]
          exact .inl ⟨h.ans 0, hf, .inr ht, rfl⟩
      · rw [if_pos hf]
        exact .inr ⟨hf, rfl⟩
    · rw [if_neg ht]
      exact .inr ⟨by simp, rfl⟩
/-- The moves that were done can be done again, one by one. -/
def Can : Nm → List Mov → Prop
  | _, [] => True
  | l, m :: r => (m.1 ≠ m.2 ∧ isNm m.1 = true ∧ (m.2 = [] ∨ isNm m.2 = true) ∧ ∃ k, l.get m.1 = some k) ∧ Can ((ncOf m).apply l) r
theorem Can.snoc {l : Nm} {D : List Mov} (h : Can l D) {m : Mov} (hm : m.1 ≠ m.2 ∧ isNm m.1 = true ∧ (m.2 = [] ∨ isNm m.2 = true) ∧ ∃ k, (runN l (D.map ncOf)).get m.1 = some k) : Can l (D ++ [m]) := by
  induction D generalizing l with
  | nil => exact ⟨hm, trivial⟩
  | cons x r ih => exact ⟨h.1, ih h.2 hm⟩
theorem Can.at {l : Nm} {D : List Mov} (h : Can l D) {i : Nat} {m : Mov} (hi : D[i]? = some m) : m.1 ≠ m.2 ∧ isNm m.1 = true ∧ (m.2 = [] ∨ isNm m.2 = true) ∧ ∃ k, (runN l ((D.take i).map ncOf)).get m.1 = some k := by
  induction D generalizing l i with
  | nil => simp at hi
  | cons x r ih =>
    cases i with
    | zero =>
      simp only [List.getElem?_cons_zero, Option.some.injEq] at hi
      subst hi
      exact h.1
    | succ i => exact ih h.2 (by simpa using hi)
/-- While the moves are made: L the names, t the things that were there. -/
structure Mo (S : Ds) (L : Nm) (t : Nat → Th) (nx : Nat) (D : List Mov) : Prop where
  cs : Calm S
  safe : S.safe = L
  row : S.row = D.map ncOf
  th : S.th = t
  nx : S.nx = nx
  can : Can L D
theorem Mo.done {S : Ds} {L : Nm} {t : Nat → Th} {nx : Nat} {D : List Mov} (h : Mo S L t nx D) (hw : S.Wf) (m : Mov) (h0 : (moveD S m).1 = 0) (hne : m.1 ≠ m.2) : Mo (moveD S m).2 L t nx (D ++ [m]) := by
  rcases move_calm h.cs m with ⟨_, hf, h2, e⟩ | ⟨hx, _⟩
  · rw [if_neg hne] at e
    rw [e]
    obtain ⟨_, hn, hm, _⟩ := find_ok hw hf
    refine ⟨⟨h.cs.tick.on, h.cs.off, h.cs.to⟩, h.safe, ?_, h.th, h.nx, h.can.snoc ⟨hne, hn, h2, ?_⟩⟩
    · show S.row ++ [ncOf m] = _
      rw [h.row, List.map_append]
      rfl
    · refine ⟨(S.find m.1).2, ?_⟩
      rw [← h.row, ← h.safe, ← hw.shown]
      exact (Nm.get_some hw.sup).2 hm
  · exact absurd h0 hx
theorem Mo.skip {S : Ds} {L : Nm} {t : Nat → Th} {nx : Nat} {D : List Mov} (h : Mo S L t nx D) (m : Mov) (h0 : (moveD S m).1 ≠ 0 ∨ m.1 = m.2) : Mo (moveD S m).2 L t nx D := by
  rcases move_calm h.cs m with ⟨hx, hf, h2, e⟩ | ⟨_, e⟩
  · have he : m.1 = m.2 := h0.resolve_left (fun h => h hx)
    rw [if_pos he] at e
    rw [e]
    exact ⟨⟨h.cs.tick.on, h.cs.off, h.cs.to⟩, h.safe, h.row, h.th, h.nx, h.can⟩
  · rw [e]
    exact h
/-- The other disk, i of the moves made. -/
structure Fo (T : Ds) (L : Nm) (t : Nat → Th) (D : List Mov) (i : Nat) : Prop where
  ct : Calm T
  shown : T.shown = runN L ((D.take i).map ncOf)
  th : T.th = t
theorem Fo.step {T : Ds} {L : Nm} {t : Nat → Th} {D : List Mov} {i : Nat} (h : Fo T L t D i) (hc : Can L D) {m : Mov} (hi : D[i]? = some m) : (moveD T m).1 = 0 ∧ Fo (moveD T m).2 L t D (i + 1) := by
  obtain ⟨hne, hn, h2, k, hg⟩ := hc.at hi
  have hf : (T.find m.1).1 = 0 := by
    unfold Ds.find
    rw [if_pos h.ct.on, if_pos hn, h.shown, hg]
  rcases move_calm h.ct m with ⟨h0, _, _, e⟩ | ⟨hx, _⟩
  · refine ⟨h0, ?_⟩
    rw [if_neg hne] at e
    rw [e]
    refine ⟨⟨h.ct.tick.on, h.ct.off, h.ct.to⟩, ?_, h.th⟩
    show (ncOf m).apply T.shown = _
    rw [List.take_add_one, hi, List.map_append, h.shown]
    exact (runN_snoc _ _ _).symm
  · exfalso
    apply hx
    unfold moveD
    rcases h2 with h2 | h2
    · rw [if_pos h2]
      unfold Ds.remove
      rw [if_neg (by omega)]
      exact h.ct.ans 0
    · by_cases h3 : m.2 = []
      · rw [if_pos h3]
        unfold Ds.remove
        rw [if_neg (by omega)]
        exact h.ct.ans 0
      · rw [if_neg h3]
        unfold Ds.rename
        rw [if_pos h.ct.on, if_pos h2, if_neg (by omega), if_neg hne]
        exact h.ct.ans 0
theorem crashTh_still (ps : List Int) (i : Nat) (l : Nm) (th : Nat → Th) (h : ∀ k ∈ l.ids, (th k).row = [] ∧ (th k).safe = (th k).shown) (j : Nat) : (crashTh ps i l th j).shown = (th j).shown := by
  induction l generalizing i th with
  | nil => rfl
  | cons x r ih =>
    have hx := h x.2 (by simp [Nm.ids])
    have e : (th x.2).crash (ps.getD (i + 1) 0) = ⟨(th x.2).shown, [], (th x.2).shown⟩ := by
      unfold Th.crash
      rw [hx.1, hx.2]
      rfl
    have hu : ∀ k, ((upd th x.2 ((th x.2).crash (ps.getD (i + 1) 0))) k).shown = (th k).shown := fun k => by
      by_cases hk : k = x.2
      · rw [hk, upd_same, e]
      · rw [upd_other _ _ hk]
    show (crashTh ps (i + 1) r (upd th x.2 ((th x.2).crash (ps.getD (i + 1) 0))) j).shown = _
    rw [ih, hu]
    intro k hk
    by_cases hkx : k = x.2
    · rw [hkx, upd_same, e]
      exact ⟨rfl, rfl⟩
    · rw [upd_other _ _ hkx]
      exact h k (by simp only [Nm.ids, List.map_cons, List.mem_cons]; exact .inr hk)
/-- What the crash leaves is what the other disk shows. -/
theorem front_end {S T : Ds} {L : Nm} {t u : Nat → Th} {nx : Nat} {D : List Mov} (h : Mo S L t nx D) (hw : S.Wf) (pick : Int) (hT : Fo T L u D (rnd pick D.length)) (ht : ∀ k, k < nx → (u k).shown = (t k).shown ∧ (t k).row = [] ∧ (t k).safe = (t k).shown) : (S.crash [pick]).files = T.files := by
  have hnm : S.crashNm [pick] = T.shown := by
    unfold Ds.crashNm
    rw [hT.shown, h.safe, h.row]
    simp only [List.getD_cons_zero, List.length_map, List.map_take]
  have hlt : ∀ k ∈ T.shown.ids, k < nx := fun k hk => by
    rw [← hnm] at hk
    have := hw.crashSub [pick] hk
    rw [h.nx] at this
    exact this
  unfold Ds.files
  show (S.crashNm [pick]).map (fun p => (p.1, (crashTh [pick] 0 (S.crashNm [pick]) S.th p.2).shown)) = T.shown.map (fun p => (p.1, (T.th p.2).shown))
  rw [hnm]
  apply List.map_congr_left
  intro p hp
  have hp2 : p.2 ∈ T.shown.ids := List.mem_map.2 ⟨p, hp, rfl⟩
  rw [crashTh_still, h.th, hT.th, (ht _ (hlt _ hp2)).1]
  intro k hk
  rw [h.th]
  exact ⟨(ht k (hlt k hk)).2.1, (ht k (hlt k hk)).2.2⟩
end Dsk
end Go.Proofs.Ytlokekjljibmbaa
