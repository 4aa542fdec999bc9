import Derived.Test.YtemlbmamcbmnjaaGreatDoorGap
namespace Go.Proofs.YtemlbmamcbmnjaaGreatDoor
section
open Go.RowKit Dsk
set_option linter.unusedVariables false
set_option linter.unusedSimpArgs false
namespace Dsk
open _root_.Go.Proofs.YtemlbmamcbmnjaaGreatDoor.Dsk.Ds
/-- A disk without a plan, its power on. -/
structure Calm (S : Ds) : Prop where
  on : S.on = true
  off : S.off = 0
  to : S.to = 0
theorem Calm.goes {S : Ds} (h : Calm S) : S.goesOff = false := by
  unfold Ds.goesOff
  rw [h.off]
  simp only [decide_eq_false_iff_not]
  omega
theorem Calm.lacks {S : Ds} (h : Calm S) : S.lacks = false := by
  unfold Ds.lacks
  rw [h.to]
  simp only [Bool.and_eq_false_iff, decide_eq_false_iff_not]
  right
  omega
theorem Calm.tick {S : Ds} (h : Calm S) : Calm S.tick := ⟨by simp [Ds.tick, h.on, h.goes], h.off, h.to⟩
theorem Calm.ans {S : Ds} (h : Calm S) (r : Int) : S.ans r = r := by simp [Ds.ans, h.goes]
theorem Calm.find {S T : Ds} (h : Calm S) (g : Calm T) (hs : S.shown = T.shown) (n : By) : T.find n = S.find n := by
  unfold Ds.find
  rw [h.on, g.on, hs]
/-- The disk and the other one, while files are laid: i names have been asked. -/
structure Pr (S T : Ds) (i : Nat) : Prop where
  cs : Calm S
  ct : Calm T
  rs : S.room = 1000
  rt : T.room = 1000
  shown : T.shown = S.shown
  nx : T.nx = S.nx
  th : ∀ k, k < S.nx → (T.th k).shown = (S.th k).shown ∧ (S.th k).row = [] ∧ (S.th k).safe = (S.th k).shown ∧ (S.th k).shown.length ≤ 1
  len : S.shown.length ≤ i
theorem sum_le_len {l : Nm} {th : Nat → Th} (h : ∀ k ∈ l.ids, (th k).shown.length ≤ 1) : (l.map (fun p => (th p.2).shown.length)).sum ≤ l.length := by
  induction l with
  | nil => simp
  | cons x r ih =>
    have h1 := h x.2 (by simp [Nm.ids])
    have h2 := ih (fun k hk => h k (by simp only [Nm.ids, List.map_cons, List.mem_cons]; exact .inr hk))
    simp only [List.map_cons, List.sum_cons, List.length_cons]
    omega
theorem get_put_same {l : Nm} (h : l.Up) (n : By) (k : Nat) : (l.put n k).get n = some k := (Nm.get_some (h.put n k)).2 (Nm.mem_put.2 (.inl rfl))
/-- Create, on a calm disk with fewer than 256 files. -/
theorem calm_create {S : Ds} (h : Calm S) (hl : S.shown.length < 256) (n : By) : ((S.create n).1 = 0 ∧ isNm n = true ∧ S.shown.get n = none ∧ (S.create n).2 = ({ S.tick with th := upd S.th S.nx Th.new, nx := S.nx + 1 } : Ds).addName (.mk n S.nx)) ∨ ((S.create n).1 ≠ 0 ∧ (S.create n).2 = S) := by
  have hr : S.refusedCreate = 0 := by simp [Ds.refusedCreate, h.lacks, show ¬ 256 ≤ S.shown.length by omega]
  unfold Ds.create
  by_cases h1 : (S.find n).1 = 0
  · rw [if_pos h1]
    exact .inr ⟨by simp, rfl⟩
  · rw [if_neg h1]
    by_cases h2 : (S.find n).1 = 53
    · obtain ⟨_, h4, h5⟩ := find_none h2
      rw [if_neg (by omega), if_pos hr]
      exact .inl ⟨h.ans 0, h4, h5, rfl⟩
    · rw [if_pos h2]
      exact .inr ⟨h1, rfl⟩
/-- Append of one byte to a file of none. -/
theorem calm_append {S : Ds} (h : Calm S) {n : By} {k : Nat} (hf : S.find n = (0, k)) (h0 : (S.th k).shown = []) (hu : S.used + 1 ≤ S.room) (c : UInt8) : S.append n [c] = (0, S.tick.addByte k (.wr 0 [c])) := by
  unfold Ds.append Ds.write
  rw [hf]
  simp only [ne_eq, not_true_eq_false, if_false, h0, List.length_nil, List.length_singleton]
  have hfull : S.full ((((0 : Nat) : Int) + ((1 : Nat) : Int)) - ((0 : Nat) : Int)) = false := by
    simp only [Ds.full, h.lacks, Bool.false_or, Bool.and_eq_false_iff, decide_eq_false_iff_not]
    right
    omega
  rw [if_neg (by rw [hfull]; decide), h.ans]
theorem calm_sync {S : Ds} (h : Calm S) {n : By} {k : Nat} (hf : S.find n = (0, k)) : S.sync n = (0, { S.tick with th := upd S.th k (S.th k).sync }) := by
  unfold Ds.sync
  rw [hf]
  simp [h.goes]
/-- A file is laid on both. -/
theorem Pr.lay {S T : Ds} {i : Nat} (h : Pr S T i) (hws : S.Wf) (hwt : T.Wf) (hi : i < 40) (n : By) (c : UInt8) (h0 : (S.create n).1 = 0) :
    Pr (((S.create n).2.append n [c]).2.sync n).2 ((T.create n).2.append n [c]).2 (i + 1) := by
  have hl := h.len
  rcases calm_create h.cs (by omega) n with ⟨_, hn, hg, e1⟩ | ⟨hx, _⟩
  · rcases calm_create h.ct (by rw [h.shown]; omega) n with ⟨_, _, _, e2⟩ | ⟨hx, _⟩
    · have hus : S.used ≤ i := by
        have := sum_le_len (l := S.shown) (th := S.th) (fun k hk => (h.th k (by obtain ⟨m, hm⟩ := Nm.mem_ids.1 hk; exact hws.slt hm)).2.2.2)
        have e : S.used = (S.shown.map (fun p => (S.th p.2).shown.length)).sum := rfl
        omega
      have usedP : ∀ {U : Ds}, U.Wf → (∀ k, k < U.nx → (U.th k).shown.length ≤ 1) → U.shown.length ≤ i → ((U.shown.put n U.nx).map (fun p => (upd U.th U.nx Th.new p.2).shown.length)).sum ≤ i + 1 := fun {U} hU hk hlU => by
        have := sum_le_len (l := U.shown.put n U.nx) (th := upd U.th U.nx Th.new) (fun k hk2 => by
          by_cases e : k = U.nx
          · rw [e, upd_same]; simp [Th.new]
          · rw [upd_other _ _ e]
            obtain ⟨m, hm⟩ := Nm.mem_ids.1 hk2
            rcases Nm.mem_put.1 hm with e2 | e2
            · exact absurd (by injection e2) e
            · exact hk k (hU.slt e2.1))
        have h2 := Nm.put_length_le U.shown n U.nx
        omega
      generalize hS1 : (({ S.tick with th := upd S.th S.nx Th.new, nx := S.nx + 1 } : Ds).addName (.mk n S.nx)) = S1 at *
      generalize hT1 : (({ T.tick with th := upd T.th T.nx Th.new, nx := T.nx + 1 } : Ds).addName (.mk n T.nx)) = T1 at *
      rw [e1, e2]
      have cS1 : Calm S1 := by rw [← hS1]; exact ⟨h.cs.tick.on, h.cs.off, h.cs.to⟩
      have cT1 : Calm T1 := by rw [← hT1]; exact ⟨h.ct.tick.on, h.ct.off, h.ct.to⟩
      have sS1 : S1.shown = S.shown.put n S.nx := by rw [← hS1]; rfl
      have sT1 : T1.shown = S.shown.put n S.nx := by rw [← hT1, ← h.shown, ← h.nx]; rfl
      have fS1 : S1.find n = (0, S.nx) := by
        unfold Ds.find
        rw [if_pos cS1.on, if_pos hn, sS1, get_put_same hws.sup]
      have fT1 : T1.find n = (0, S.nx) := by
        unfold Ds.find
        rw [if_pos cT1.on, if_pos hn, sT1, get_put_same hws.sup]
      have tS1 : S1.th = upd S.th S.nx Th.new := by rw [← hS1]; rfl
      have tT1 : T1.th = upd T.th S.nx Th.new := by rw [← hT1, ← h.nx]; rfl
      have uS1 : S1.used ≤ i + 1 := by
        have := usedP hws (fun k hk => (h.th k hk).2.2.2) hl
        unfold Ds.used
        rw [sS1, tS1]
        exact this
      have uT1 : T1.used ≤ i + 1 := by
        have := usedP hwt (fun k hk => by rw [(h.th k (by rw [← h.nx]; exact hk)).1]; exact (h.th k (by rw [← h.nx]; exact hk)).2.2.2) (by rw [h.shown]; exact hl)
        unfold Ds.used
        rw [sT1, tT1]
        rw [h.shown, h.nx] at this
        exact this
      have rS1 : S1.room = 1000 := by rw [← hS1]; exact h.rs
      have rT1 : T1.room = 1000 := by rw [← hT1]; exact h.rt
      have nS1 : S1.nx = S.nx + 1 := by rw [← hS1]; rfl
      have nT1 : T1.nx = S.nx + 1 := by rw [← hT1, ← h.nx]; rfl
      rw [calm_append cS1 fS1 (by rw [tS1, upd_same]; rfl) (by omega) c, calm_append cT1 fT1 (by rw [tT1, upd_same]; rfl) (by omega) c]
      have cS2 : Calm (S1.tick.addByte S.nx (.wr 0 [c])) := ⟨cS1.tick.on, cS1.off, cS1.to⟩
      have fS2 : (S1.tick.addByte S.nx (.wr 0 [c])).find n = (0, S.nx) := by
        rw [← fS1]
        unfold Ds.find
        rw [if_pos cS2.on, if_pos cS1.on]
        rfl
      show Pr ((S1.tick.addByte S.nx (.wr 0 [c])).sync n).2 (T1.tick.addByte S.nx (.wr 0 [c])) (i + 1)
      rw [calm_sync cS2 fS2]
      refine ⟨⟨cS2.tick.on, cS2.off, cS2.to⟩, ⟨cT1.tick.on, cT1.off, cT1.to⟩, rS1, rT1, ?_, ?_, fun k hk => ?_, ?_⟩
      · show T1.shown = S1.shown
        rw [sS1, sT1]
      · show T1.nx = S1.nx
        rw [nS1, nT1]
      · have hk2 : k < S.nx + 1 := by rw [← nS1]; exact hk
        show (upd T1.th S.nx ((T1.th S.nx).change (.wr 0 [c])) k).shown = (upd (upd S1.th S.nx ((S1.th S.nx).change (.wr 0 [c]))) S.nx ((upd S1.th S.nx ((S1.th S.nx).change (.wr 0 [c])) S.nx)).sync k).shown ∧ (upd (upd S1.th S.nx ((S1.th S.nx).change (.wr 0 [c]))) S.nx ((upd S1.th S.nx ((S1.th S.nx).change (.wr 0 [c])) S.nx)).sync k).row = [] ∧ (upd (upd S1.th S.nx ((S1.th S.nx).change (.wr 0 [c]))) S.nx ((upd S1.th S.nx ((S1.th S.nx).change (.wr 0 [c])) S.nx)).sync k).safe = (upd (upd S1.th S.nx ((S1.th S.nx).change (.wr 0 [c]))) S.nx ((upd S1.th S.nx ((S1.th S.nx).change (.wr 0 [c])) S.nx)).sync k).shown ∧ (upd (upd S1.th S.nx ((S1.th S.nx).change (.wr 0 [c]))) S.nx ((upd S1.th S.nx ((S1.th S.nx).change (.wr 0 [c])) S.nx)).sync k).shown.length ≤ 1
        by_cases e : k = S.nx
        · subst e
          simp only [upd_same, tS1, tT1]
          exact ⟨rfl, rfl, rfl, by simp [Th.new, Th.change, Th.sync, Ch.apply, Ch.units]⟩
        · simp only [upd_other _ _ e, tS1, tT1]
          exact h.th k (by omega)
      · show S1.shown.length ≤ i + 1
        rw [sS1]
        have := Nm.put_length_le S.shown n S.nx
        omega
    · exfalso
      apply hx
      unfold Ds.create at h0 ⊢
      rw [h.cs.find h.ct h.shown.symm]
      have hr : T.refusedCreate = 0 := by simp [Ds.refusedCreate, h.ct.lacks, show ¬ 256 ≤ T.shown.length by rw [h.shown]; omega]
      have hr2 : S.refusedCreate = 0 := by simp [Ds.refusedCreate, h.cs.lacks, show ¬ 256 ≤ S.shown.length by omega]
      rw [hr]
      rw [hr2] at h0
      by_cases h1 : (S.find n).1 = 0
      · rw [if_pos h1] at h0; exact absurd h0 (by simp)
      · rw [if_neg h1] at h0 ⊢
        by_cases h2 : (S.find n).1 = 53
        · rw [if_neg (by omega), if_pos rfl]; exact h.ct.ans 0
        · rw [if_pos h2] at h0; exact absurd h0 h1
  · exact absurd h0 hx
theorem Pr.skip {S T : Ds} {i : Nat} (h : Pr S T i) (hi : i < 40) (n : By) (h0 : (S.create n).1 ≠ 0) : Pr (S.create n).2 T (i + 1) := by
  have hl := h.len
  rcases calm_create h.cs (by omega) n with ⟨hx, _⟩ | ⟨_, e⟩
  · exact absurd hx h0
  · rw [e]
    exact ⟨h.cs, h.ct, h.rs, h.rt, h.shown, h.nx, h.th, by omega⟩
theorem Pr.start : Pr (Ds.fresh 1000) (Ds.fresh 1000) 0 := ⟨⟨rfl, rfl, rfl⟩, ⟨rfl, rfl, rfl⟩, rfl, rfl, rfl, rfl, fun k hk => absurd hk (by simp [Ds.fresh]), Nat.le_refl _⟩
theorem Pr.names {S T : Ds} {i : Nat} (h : Pr S T i) : S.syncNames = (0, { S.tick with safe := S.shown, row := [] }) := by
  unfold Ds.syncNames
  rw [if_pos h.cs.on, h.cs.goes]
  rfl

/-- A change of names, as the law has it: to nothing: away. -/
abbrev Mov := By × By
def ncOf (m : Mov) : Nc := if m.2 = [] then .tk m.1 else .gv m.1 m.2
def moveD (S : Ds) (m : Mov) : Int × Ds := if m.2 = [] then S.remove m.1 else S.rename m.1 m.2
/-- A calm disk's move. -/
theorem move_calm {S : Ds} (h : Calm S) (m : Mov) : ((moveD S m).1 = 0 ∧ (S.find m.1).1 = 0 ∧ (m.2 = [] ∨ isNm m.2 = true) ∧ (moveD S m).2 = if m.1 = m.2 then S.tick else S.tick.addName (ncOf m)) ∨ ((moveD S m).1 ≠ 0 ∧ (moveD S m).2 = S) := by
  unfold moveD ncOf
  by_cases h2 : m.2 = []
  · simp only [if_pos h2]
    unfold Ds.remove
    by_cases hf : (S.find m.1).1 = 0
    · rw [if_neg (by omega)]
      have hne : m.1 ≠ m.2 := fun e => by
        rw [h2] at e
        unfold Ds.find at hf
        rw [if_pos h.on, e] at hf
        rw [if_neg (by decide)] at hf
        exact absurd hf (by simp)
      rw [if_neg hne]
      exact .inl ⟨h.ans 0, hf, .inl h2, rfl⟩
    · rw [if_pos hf]
      exact .inr ⟨hf, rfl⟩
  · simp only [if_neg h2]
    unfold Ds.rename
    rw [if_pos h.on]
    by_cases ht : isNm m.2 = true
    · rw [if_pos ht]
      by_cases hf : (S.find m.1).1 = 0
      · rw [if_neg (by omega)]
        by_cases hne : m.1 = m.2
        · rw [if_pos hne, if_pos hne]
          exact .inl ⟨h.ans 0, hf, .inr ht, rfl⟩
        · rw [if_neg hne, if_neg hne]
          exact .inl ⟨h.ans 0, hf, .inr ht, rfl⟩
      · rw [if_pos hf]
        exact .inr ⟨hf, rfl⟩
    · rw [if_neg ht]
      exact .inr ⟨by simp, rfl⟩
/-- The moves that were done can be done again, one by one. -/
def Can : Nm → List Mov → Prop
  | _, [] => True
  | l, m :: r => (m.1 ≠ m.2 ∧ isNm m.1 = true ∧ (m.2 = [] ∨ isNm m.2 = true) ∧ ∃ k, l.get m.1 = some k) ∧ Can ((ncOf m).apply l) r
theorem Can.snoc {l : Nm} {D : List Mov} (h : Can l D) {m : Mov} (hm : m.1 ≠ m.2 ∧ isNm m.1 = true ∧ (m.2 = [] ∨ isNm m.2 = true) ∧ ∃ k, (runN l (D.map ncOf)).get m.1 = some k) : Can l (D ++ [m]) := by
  induction D generalizing l with
  | nil => exact ⟨hm, trivial⟩
  | cons x r ih => exact ⟨h.1, ih h.2 hm⟩
theorem Can.at {l : Nm} {D : List Mov} (h : Can l D) {i : Nat} {m : Mov} (hi : D[i]? = some m) : m.1 ≠ m.2 ∧ isNm m.1 = true ∧ (m.2 = [] ∨ isNm m.2 = true) ∧ ∃ k, (runN l ((D.take i).map ncOf)).get m.1 = some k := by
  induction D generalizing l i with
  | nil => simp at hi
  | cons x r ih =>
    cases i with
    | zero =>
      simp only [List.getElem?_cons_zero, Option.some.injEq] at hi
      subst hi
      exact h.1
    | succ i => exact ih h.2 (by simpa using hi)
/-- While the moves are made: L the names, t the things that were there. -/
structure Mo (S : Ds) (L : Nm) (t : Nat → Th) (nx : Nat) (D : List Mov) : Prop where
  cs : Calm S
  safe : S.safe = L
  row : S.row = D.map ncOf
  th : S.th = t
  nx : S.nx = nx
  can : Can L D
theorem Mo.done {S : Ds} {L : Nm} {t : Nat → Th} {nx : Nat} {D : List Mov} (h : Mo S L t nx D) (hw : S.Wf) (m : Mov) (h0 : (moveD S m).1 = 0) (hne : m.1 ≠ m.2) : Mo (moveD S m).2 L t nx (D ++ [m]) := by
  rcases move_calm h.cs m with ⟨_, hf, h2, e⟩ | ⟨hx, _⟩
  · rw [if_neg hne] at e
    rw [e]
    obtain ⟨_, hn, hm, _⟩ := find_ok hw hf
    refine ⟨⟨h.cs.tick.on, h.cs.off, h.cs.to⟩, h.safe, ?_, h.th, h.nx, h.can.snoc ⟨hne, hn, h2, ?_⟩⟩
    · show S.row ++ [ncOf m] = _
      rw [h.row, List.map_append]
      rfl
    · refine ⟨(S.find m.1).2, ?_⟩
      rw [← h.row, ← h.safe, ← hw.shown]
      exact (Nm.get_some hw.sup).2 hm
  · exact absurd h0 hx
theorem Mo.skip {S : Ds} {L : Nm} {t : Nat → Th} {nx : Nat} {D : List Mov} (h : Mo S L t nx D) (m : Mov) (h0 : (moveD S m).1 ≠ 0 ∨ m.1 = m.2) : Mo (moveD S m).2 L t nx D := by
  rcases move_calm h.cs m with ⟨hx, hf, h2, e⟩ | ⟨_, e⟩
  · have he : m.1 = m.2 := h0.resolve_left (fun h => h hx)
    rw [if_pos he] at e
    rw [e]
    exact ⟨⟨h.cs.tick.on, h.cs.off, h.cs.to⟩, h.safe, h.row, h.th, h.nx, h.can⟩
  · rw [e]
    exact h
/-- The other disk, i of the moves made. -/
structure Fo (T : Ds) (L : Nm) (t : Nat → Th) (D : List Mov) (i : Nat) : Prop where
  ct : Calm T
  shown : T.shown = runN L ((D.take i).map ncOf)
  th : T.th = t
theorem Fo.step {T : Ds} {L : Nm} {t : Nat → Th} {D : List Mov} {i : Nat} (h : Fo T L t D i) (hc : Can L D) {m : Mov} (hi : D[i]? = some m) : (moveD T m).1 = 0 ∧ Fo (moveD T m).2 L t D (i + 1) := by
  obtain ⟨hne, hn, h2, k, hg⟩ := hc.at hi
  have hf : (T.find m.1).1 = 0 := by
    unfold Ds.find
    rw [if_pos h.ct.on, if_pos hn, h.shown, hg]
  rcases move_calm h.ct m with ⟨h0, _, _, e⟩ | ⟨hx, _⟩
  · refine ⟨h0, ?_⟩
    rw [if_neg hne] at e
    rw [e]
    refine ⟨⟨h.ct.tick.on, h.ct.off, h.ct.to⟩, ?_, h.th⟩
    show (ncOf m).apply T.shown = _
    rw [List.take_add_one, hi, List.map_append, h.shown]
    exact (runN_snoc _ _ _).symm
  · exfalso
    apply hx
    unfold moveD
    rcases h2 with h2 | h2
    · rw [if_pos h2]
      unfold Ds.remove
      rw [if_neg (by omega)]
      exact h.ct.ans 0
    · by_cases h3 : m.2 = []
      · rw [if_pos h3]
        unfold Ds.remove
        rw [if_neg (by omega)]
        exact h.ct.ans 0
      · rw [if_neg h3]
        unfold Ds.rename
        rw [if_pos h.ct.on, if_pos h2, if_neg (by omega), if_neg hne]
        exact h.ct.ans 0
theorem crashTh_still (ps : List Int) (i : Nat) (l : Nm) (th : Nat → Th) (h : ∀ k ∈ l.ids, (th k).row = [] ∧ (th k).safe = (th k).shown) (j : Nat) : (crashTh ps i l th j).shown = (th j).shown := by
  induction l generalizing i th with
  | nil => rfl
  | cons x r ih =>
    have hx := h x.2 (by simp [Nm.ids])
    have e : (th x.2).crash (ps.getD (i + 1) 0) = ⟨(th x.2).shown, [], (th x.2).shown⟩ := by
      unfold Th.crash
      rw [hx.1, hx.2]
      rfl
    have hu : ∀ k, ((upd th x.2 ((th x.2).crash (ps.getD (i + 1) 0))) k).shown = (th k).shown := fun k => by
      by_cases hk : k = x.2
      · rw [hk, upd_same, e]
      · rw [upd_other _ _ hk]
    show (crashTh ps (i + 1) r (upd th x.2 ((th x.2).crash (ps.getD (i + 1) 0))) j).shown = _
    rw [ih, hu]
    intro k hk
    by_cases hkx : k = x.2
    · rw [hkx, upd_same, e]
      exact ⟨rfl, rfl⟩
    · rw [upd_other _ _ hkx]
      exact h k (by simp only [Nm.ids, List.map_cons, List.mem_cons]; exact .inr hk)
/-- What the crash leaves is what the other disk shows. -/
theorem front_end {S T : Ds} {L : Nm} {t u : Nat → Th} {nx : Nat} {D : List Mov} (h : Mo S L t nx D) (hw : S.Wf) (pick : Int) (hT : Fo T L u D (rnd pick D.length)) (ht : ∀ k, k < nx → (u k).shown = (t k).shown ∧ (t k).row = [] ∧ (t k).safe = (t k).shown) : (S.crash [pick]).files = T.files := by
  have hnm : S.crashNm [pick] = T.shown := by
    unfold Ds.crashNm
    rw [hT.shown, h.safe, h.row]
    simp only [List.getD_cons_zero, List.length_map, List.map_take]
  have hlt : ∀ k ∈ T.shown.ids, k < nx := fun k hk => by
    rw [← hnm] at hk
    have := hw.crashSub [pick] hk
    rw [h.nx] at this
    exact this
  unfold Ds.files
  show (S.crashNm [pick]).map (fun p => (p.1, (crashTh [pick] 0 (S.crashNm [pick]) S.th p.2).shown)) = T.shown.map (fun p => (p.1, (T.th p.2).shown))
  rw [hnm]
  apply List.map_congr_left
  intro p hp
  have hp2 : p.2 ∈ T.shown.ids := List.mem_map.2 ⟨p, hp, rfl⟩
  rw [crashTh_still, h.th, hT.th, (ht _ (hlt _ hp2)).1]
  intro k hk
  rw [h.th]
  exact ⟨(ht k (hlt k hk)).2.1, (ht k (hlt k hk)).2.2⟩
end Dsk
end

section
open Go.RowKit Dsk
set_option linter.unusedVariables false
set_option linter.unusedSimpArgs false
namespace Dsk
open _root_.Go.Proofs.YtemlbmamcbmnjaaGreatDoor.Dsk.Ds
namespace Nm
def ren (f : Nat → Nat) (l : Nm) : Nm := l.map (fun p => (p.1, f p.2))
theorem ren_ids (f : Nat → Nat) (l : Nm) : (l.ren f).ids = l.ids.map f := by simp [ren, ids, Function.comp_def]
theorem ren_del (f : Nat → Nat) (l : Nm) (n : By) : (l.ren f).del n = (l.del n).ren f := by
  simp only [ren, del, List.filter_map, Function.comp_def]
theorem ren_ins (f : Nat → Nat) (x : By × Nat) (l : Nm) : ins (x.1, f x.2) (l.ren f) = (ins x l).ren f := by
  induction l with
  | nil => rfl
  | cons y r ih =>
    show ins (x.1, f x.2) ((y.1, f y.2) :: ren f r) = ren f (ins x (y :: r))
    simp only [ins]
    by_cases h : bytesBefore x.1 y.1 = true
    · rw [if_pos h, if_pos h]; rfl
    · rw [if_neg h, if_neg h, ih]; rfl
theorem ren_put (f : Nat → Nat) (l : Nm) (n : By) (k : Nat) : (l.ren f).put n (f k) = (l.put n k).ren f := by
  unfold put
  rw [ren_del]
  exact ren_ins f (n, k) _
theorem ren_get (f : Nat → Nat) (l : Nm) (n : By) : (l.ren f).get n = (l.get n).map f := by
  unfold get ren
  rw [List.find?_map]
  simp only [Function.comp_def, Option.map_map]
theorem ren_up (f : Nat → Nat) {l : Nm} (h : l.Up) : (l.ren f).Up := by
  unfold ren Up
  rw [List.pairwise_map]
  exact h
theorem ren_len (f : Nat → Nat) (l : Nm) : (l.ren f).length = l.length := by simp [ren]
end Nm
namespace Nc
def ren (f : Nat → Nat) : Nc → Nc
  | .mk n k => .mk n (f k)
  | .gv a b => .gv a b
  | .tk n => .tk n
theorem ren_apply (f : Nat → Nat) (c : Nc) (l : Nm) : (c.ren f).apply (l.ren f) = (c.apply l).ren f := by
  cases c with
  | mk n k => exact Nm.ren_put f l n k
  | tk n => exact Nm.ren_del f l n
  | gv a b =>
    simp only [ren, apply]
    rw [Nm.ren_get]
    cases h : l.get a with
    | none => rfl
    | some k =>
      show ((l.ren f).put b (f k)).del a = _
      rw [Nm.ren_put, Nm.ren_del]
theorem ren_ok (f : Nat → Nat) (c : Nc) {l : Nm} (h : c.ok l) : (c.ren f).ok (l.ren f) := by
  cases c with
  | mk n k => trivial
  | tk n => trivial
  | gv a b =>
    obtain ⟨h1, k, h2⟩ := h
    exact ⟨h1, f k, by rw [Nm.ren_get, h2]; rfl⟩
theorem ren_made (f : Nat → Nat) (c : Nc) : (c.ren f).made = c.made.map f := by cases c <;> rfl
end Nc
theorem ren_run (f : Nat → Nat) (l : Nm) (r : List Nc) : runN (l.ren f) (r.map (Nc.ren f)) = (runN l r).ren f := by
  induction r generalizing l with
  | nil => rfl
  | cons c r ih => simp only [List.map_cons, runN, Nc.ren_apply, ih]
theorem ren_okN (f : Nat → Nat) (l : Nm) (r : List Nc) (h : okN l r) : okN (l.ren f) (r.map (Nc.ren f)) := by
  induction r generalizing l with
  | nil => trivial
  | cons c r ih => exact ⟨Nc.ren_ok f c h.1, by rw [Nc.ren_apply]; exact ih _ h.2⟩
theorem ren_madeN (f : Nat → Nat) (r : List Nc) : madeN (r.map (Nc.ren f)) = (madeN r).map f := by
  induction r with
  | nil => rfl
  | cons c r ih => simp only [List.map_cons, madeN_cons, Nc.ren_made, ih, List.map_append]

namespace Ds
def lives (S : Ds) : List Nat := S.safe.ids ++ madeN S.row
def rho (S : Ds) (k : Nat) : Nat := S.lives.idxOf k
def compact (S : Ds) : Ds := { S with safe := S.safe.ren S.rho, row := S.row.map (Nc.ren S.rho), shown := S.shown.ren S.rho, th := fun j => S.th (S.lives.getD j 0), nx := S.lives.length }
theorem rho_lt {S : Ds} {k : Nat} (h : k ∈ S.lives) : S.rho k < S.lives.length := List.idxOf_lt_length_of_mem h
theorem rho_back {S : Ds} {k : Nat} (h : k ∈ S.lives) : S.lives.getD (S.rho k) 0 = k := by
  rw [List.getD_eq_getElem?_getD, List.getElem?_eq_getElem (rho_lt h)]
  exact List.getElem_idxOf (rho_lt h)
theorem rho_inj {S : Ds} {j k : Nat} (hj : j ∈ S.lives) (hk : k ∈ S.lives) (h : S.rho j = S.rho k) : j = k := by
  rw [← rho_back hj, ← rho_back hk, h]
theorem compact_th {S : Ds} {k : Nat} (h : k ∈ S.lives) : S.compact.th (S.rho k) = S.th k := by
  show S.th _ = _
  rw [rho_back h]
theorem lives_map {S : Ds} (h : S.lives.Nodup) : (S.lives.map S.rho).Nodup := by
  unfold List.Nodup
  rw [List.pairwise_map]
  refine List.Pairwise.imp_of_mem ?_ h
  intro a b ha hb hne e
  exact hne (rho_inj ha hb e)
theorem shown_lives {S : Ds} (hw : S.Wf) {p : By × Nat} (hp : p ∈ S.shown) : p.2 ∈ S.lives := by
  have : p.2 ∈ S.shown.ids := List.mem_map.2 ⟨p, hp, rfl⟩
  rw [hw.shown] at this
  exact runN_ids_sub _ this
theorem safe_lives {S : Ds} {p : By × Nat} (hp : p ∈ S.safe) : p.2 ∈ S.lives := List.mem_append_left _ (List.mem_map.2 ⟨p, hp, rfl⟩)
theorem compact_ids (S : Ds) : S.compact.safe.ids ++ madeN S.compact.row = S.lives.map S.rho := by
  show (S.safe.ren S.rho).ids ++ madeN (S.row.map (Nc.ren S.rho)) = _
  rw [Nm.ren_ids, ren_madeN, ← List.map_append]
  rfl
theorem Wf.compact {S : Ds} (h : S.Wf) : S.compact.Wf := by
  refine ⟨h.room, Nm.ren_up _ h.up, ?_, ren_okN _ _ _ h.ok, by rw [compact_ids]; exact lives_map h.nodup, fun k hk => ?_, fun p hp => ?_, fun c hc => ?_, fun k hk => ?_⟩
  · show S.shown.ren S.rho = runN (S.safe.ren S.rho) (S.row.map (Nc.ren S.rho))
    rw [ren_run, ← h.shown]
  · rw [compact_ids] at hk
    obtain ⟨j, hj, rfl⟩ := List.mem_map.1 hk
    exact rho_lt hj
  · obtain ⟨q, hq, rfl⟩ := List.mem_map.1 hp
    exact h.nm q hq
  · obtain ⟨d, hd, rfl⟩ := List.mem_map.1 hc
    have := h.nmr d hd
    cases d <;> exact this
  · have hm : S.lives.getD k 0 ∈ S.lives := by
      rw [List.getD_eq_getElem?_getD, List.getElem?_eq_getElem hk]
      exact List.getElem_mem _
    exact h.th _ (h.lt _ hm)
theorem Bd.compact {S : Ds} {N : Nat} (h : S.Bd N) (hw : S.Wf) : S.compact.Bd N := by
  refine ⟨?_, fun k hk => ?_, h.reads, h.strokes, h.planned⟩
  · show (S.safe.ren S.rho).length + (S.row.map (Nc.ren S.rho)).length ≤ N
    rw [Nm.ren_len, List.length_map]
    exact h.nm
  · have hm : S.lives.getD k 0 ∈ S.lives := by
      rw [List.getD_eq_getElem?_getD, List.getElem?_eq_getElem hk]
      exact List.getElem_mem _
    exact h.th _ (hw.lt _ hm)
theorem compact_files {S : Ds} (hw : S.Wf) : S.compact.files = S.files := by
  show (S.shown.ren S.rho).map (fun p => (p.1, (S.compact.th p.2).shown)) = S.shown.map _
  unfold Nm.ren
  rw [List.map_map]
  apply List.map_congr_left
  intro p hp
  simp only [Function.comp_def]
  rw [compact_th (shown_lives hw hp)]
theorem compact_safeFiles {S : Ds} : S.compact.safeFiles = S.safeFiles := by
  show (S.safe.ren S.rho).map (fun p => (p.1, (S.compact.th p.2).safe)) = S.safe.map _
  unfold Nm.ren
  rw [List.map_map]
  apply List.map_congr_left
  intro p hp
  simp only [Function.comp_def]
  rw [compact_th (safe_lives hp)]
theorem crashTh_ren (ps : List Int) (f : Nat → Nat) (L : List Nat) (hf : ∀ j ∈ L, ∀ k ∈ L, f j = f k → j = k) (i : Nat) (l : Nm) (hl : ∀ p ∈ l, p.2 ∈ L) (th th' : Nat → Th) (ht : ∀ k ∈ L, th' (f k) = th k) : ∀ k ∈ L, crashTh ps i (l.ren f) th' (f k) = crashTh ps i l th k := by
  induction l generalizing i th th' with
  | nil => exact ht
  | cons x r ih =>
    have hx : x.2 ∈ L := hl x (by simp)
    show ∀ k ∈ L, crashTh ps (i + 1) (Nm.ren f r) (upd th' (f x.2) ((th' (f x.2)).crash (ps.getD (i + 1) 0))) (f k) = crashTh ps (i + 1) r (upd th x.2 ((th x.2).crash (ps.getD (i + 1) 0))) k
    refine ih (i + 1) (fun p hp => hl p (by simp [hp])) _ _ (fun k hk => ?_)
    by_cases e : k = x.2
    · rw [e, upd_same, upd_same, ht _ hx]
    · rw [upd_other _ _ e, upd_other _ _ (fun h => e (hf k hk _ hx h)), ht k hk]
theorem compact_crashNm {S : Ds} (ps : List Int) : S.compact.crashNm ps = (S.crashNm ps).ren S.rho := by
  unfold crashNm
  show runN (S.safe.ren S.rho) ((S.row.map (Nc.ren S.rho)).take (rnd (ps.getD 0 0) (S.row.map (Nc.ren S.rho)).length)) = _
  rw [List.length_map, ← List.map_take, ren_run]
theorem crash_lives {S : Ds} (ps : List Int) {p : By × Nat} (hp : p ∈ S.crashNm ps) : p.2 ∈ S.lives := by
  have h1 : p.2 ∈ (S.crashNm ps).ids := List.mem_map.2 ⟨p, hp, rfl⟩
  have h2 := runN_ids_sub _ h1
  rcases List.mem_append.1 h2 with h | h
  · exact List.mem_append_left _ h
  · exact List.mem_append_right _ ((made_take S.row _).subset h)
theorem compact_crash {S : Ds} (ps : List Int) : (S.compact.crash ps).files = (S.crash ps).files ∧ (S.compact.crash ps).safeFiles = (S.crash ps).safeFiles := by
  have key : ∀ p ∈ S.crashNm ps, crashTh ps 0 (S.compact.crashNm ps) S.compact.th (S.rho p.2) = crashTh ps 0 (S.crashNm ps) S.th p.2 := fun p hp => by
    rw [compact_crashNm]
    exact crashTh_ren ps S.rho S.lives (fun j hj k hk e => rho_inj hj hk e) 0 _ (fun q hq => crash_lives ps hq) _ _ (fun k hk => compact_th hk) _ (crash_lives ps hp)
  constructor
  · show (S.compact.crashNm ps).map (fun p => (p.1, (crashTh ps 0 (S.compact.crashNm ps) S.compact.th p.2).shown)) = (S.crashNm ps).map (fun p => (p.1, (crashTh ps 0 (S.crashNm ps) S.th p.2).shown))
    rw [show (S.compact.crashNm ps).map (fun p => (p.1, (crashTh ps 0 (S.compact.crashNm ps) S.compact.th p.2).shown)) = ((S.crashNm ps).ren S.rho).map (fun p => (p.1, (crashTh ps 0 (S.compact.crashNm ps) S.compact.th p.2).shown)) by rw [compact_crashNm]]
    unfold Nm.ren
    rw [List.map_map]
    apply List.map_congr_left
    intro p hp
    simp only [Function.comp_def]
    rw [key p hp]
  · show (S.compact.crashNm ps).map (fun p => (p.1, (crashTh ps 0 (S.compact.crashNm ps) S.compact.th p.2).safe)) = (S.crashNm ps).map (fun p => (p.1, (crashTh ps 0 (S.crashNm ps) S.th p.2).safe))
    rw [show (S.compact.crashNm ps).map (fun p => (p.1, (crashTh ps 0 (S.compact.crashNm ps) S.compact.th p.2).safe)) = ((S.crashNm ps).ren S.rho).map (fun p => (p.1, (crashTh ps 0 (S.compact.crashNm ps) S.compact.th p.2).safe)) by rw [compact_crashNm]]
    unfold Nm.ren
    rw [List.map_map]
    apply List.map_congr_left
    intro p hp
    simp only [Function.comp_def]
    rw [key p hp]
end Ds
end Dsk
end

section
open Go.RowKit Dsk
set_option linter.unusedVariables false
set_option linter.unusedSimpArgs false
namespace Dsk
open _root_.Go.Proofs.YtemlbmamcbmnjaaGreatDoor.Dsk.Ds
/-- A thing whose bytes are safe. -/
def Th.still (t : Th) : Prop := t.row = [] ∧ t.safe = t.shown
theorem Th.crash_still (t : Th) (p : Int) : (t.crash p).still := ⟨rfl, rfl⟩
theorem crashTh_calm (ps : List Int) (i : Nat) (l : Nm) (th : Nat → Th) (k : Nat) (h : k ∈ l.ids ∨ (th k).still) : (crashTh ps i l th k).still := by
  induction l generalizing i th with
  | nil =>
    rcases h with h | h
    · simp [Nm.ids] at h
    · exact h
  | cons x r ih =>
    show (crashTh ps (i + 1) r (upd th x.2 ((th x.2).crash (ps.getD (i + 1) 0))) k).still
    refine ih (i + 1) _ ?_
    by_cases e : k = x.2
    · right
      rw [e, upd_same]
      exact Th.crash_still _ _
    · rcases h with h | h
      · left
        simp only [Nm.ids, List.map_cons, List.mem_cons] at h
        exact h.resolve_left e
      · right
        rw [upd_other _ _ e]
        exact h
/-- Behind a crash what is there is safe. -/
theorem crash_safe (S : Ds) (ps : List Int) : (S.crash ps).safeFiles = (S.crash ps).files := by
  show (S.crashNm ps).map (fun p => (p.1, (crashTh ps 0 (S.crashNm ps) S.th p.2).safe)) = (S.crashNm ps).map (fun p => (p.1, (crashTh ps 0 (S.crashNm ps) S.th p.2).shown))
  apply List.map_congr_left
  intro p hp
  rw [(crashTh_calm ps 0 _ S.th p.2 (.inl (List.mem_map.2 ⟨p, hp, rfl⟩))).2]
theorem rnd_zero (n : Nat) : rnd 0 n = 0 := by simp [rnd]
theorem crashTh_zero (i : Nat) (l : Nm) (th : Nat → Th) (hn : l.ids.Nodup) (k : Nat) (hk : k ∈ l.ids) : (crashTh [] i l th k).shown = (th k).safe := by
  induction l generalizing i th with
  | nil => simp [Nm.ids] at hk
  | cons x r ih =>
    simp only [Nm.ids, List.map_cons, List.nodup_cons, List.mem_cons] at hn hk
    by_cases e : k = x.2
    · rw [e, crashTh_cons _ _ _ _ _ hn.1]
      show torn _ _ (rnd ([].getD (i + 1) 0) _) = _
      simp only [List.getD_nil, rnd_zero, torn_zero]
    · show (crashTh [] (i + 1) r (upd th x.2 ((th x.2).crash _)) k).shown = _
      rw [ih (i + 1) _ hn.2 (hk.resolve_left e), upd_other _ _ e]
/-- A crash without picks leaves what is safe. -/
theorem crash_none {S : Ds} (hw : S.Wf) : (S.crash []).files = S.safeFiles := by
  have e : S.crashNm [] = S.safe := by
    unfold crashNm
    simp only [List.getD_nil, rnd_zero, List.take_zero]
    rfl
  show (S.crashNm []).map (fun p => (p.1, (crashTh [] 0 (S.crashNm []) S.th p.2).shown)) = S.safe.map _
  rw [e]
  apply List.map_congr_left
  intro p hp
  rw [crashTh_zero 0 S.safe S.th (List.nodup_append.1 hw.nodup).1 p.2 (List.mem_map.2 ⟨p, hp, rfl⟩)]
/-- Where all is safe every crash leaves the files. -/
structure AllSafe (S : Ds) : Prop where
  row : S.row = []
  safe : S.safe = S.shown
  th : ∀ p ∈ S.shown, (S.th p.2).still
theorem AllSafe.crash {S : Ds} (h : AllSafe S) (ps : List Int) : (S.crash ps).files = S.files := by
  have e : S.crashNm ps = S.shown := by
    unfold crashNm
    rw [h.row, h.safe]
    simp only [List.take_nil]
    rfl
  show (S.crashNm ps).map (fun p => (p.1, (crashTh ps 0 (S.crashNm ps) S.th p.2).shown)) = S.shown.map _
  rw [e]
  apply List.map_congr_left
  intro p hp
  rw [crashTh_still]
  intro k hk
  obtain ⟨q, hq, rfl⟩ := List.mem_map.1 hk
  exact h.th q hq
theorem crash_allSafe (S : Ds) (ps : List Int) : AllSafe (S.crash ps) := ⟨rfl, rfl, fun p hp => crashTh_calm ps 0 _ S.th p.2 (.inl (List.mem_map.2 ⟨p, hp, rfl⟩))⟩
/-- While the files are made safe, the last first: j of them are. -/
structure Syn (S0 S : Ds) (j : Nat) : Prop where
  calm : Calm S
  shown : S.shown = S0.shown
  files : S.files = S0.files
  th : ∀ i p, S0.shown.length ≤ i + j → S0.shown[i]? = some p → (S.th p.2).still
theorem Syn.start {S : Ds} (h : S.on = true) : Syn (S.setPlan 0 0 0) (S.setPlan 0 0 0) 0 := by
  refine ⟨⟨?_, ?_, ?_⟩, rfl, rfl, fun i p h1 h2 => ?_⟩
  · simp [setPlan, h]
  · simp [setPlan, h]
  · simp [setPlan, h]
  · rw [List.getElem?_eq_none (by omega)] at h2
    exact absurd h2 (by simp)
theorem Syn.find {S0 S : Ds} {j : Nat} (h : Syn S0 S j) (hw : S.Wf) {p : By × Nat} (hp : p ∈ S0.shown) : S.find p.1 = (0, p.2) := by
  rw [← h.shown] at hp
  unfold Ds.find
  rw [if_pos h.calm.on, if_pos (hw.snm _ hp), (Nm.get_some hw.sup).2 (show (p.1, p.2) ∈ S.shown from hp)]
theorem Syn.step {S0 S : Ds} {j : Nat} (h : Syn S0 S j) (hw : S.Wf) (hj : j < S0.shown.length) {p : By × Nat} (hp : S0.shown[S0.shown.length - 1 - j]? = some p) : (S.sync p.1).1 = 0 ∧ Syn S0 (S.sync p.1).2 (j + 1) := by
  have hm := List.mem_of_getElem? hp
  rw [calm_sync h.calm (h.find hw hm)]
  refine ⟨rfl, ⟨h.calm.tick.on, h.calm.off, h.calm.to⟩, h.shown, ?_, fun i q h1 h2 => ?_⟩
  · rw [← h.files]
    show S.shown.map (fun q => (q.1, (upd S.th p.2 (S.th p.2).sync q.2).shown)) = S.shown.map _
    apply List.map_congr_left
    intro q hq
    by_cases e : q.2 = p.2
    · rw [e, upd_same]; rfl
    · rw [upd_other _ _ e]
  · show (upd S.th p.2 (S.th p.2).sync q.2).still
    by_cases e : q.2 = p.2
    · rw [e, upd_same]; exact ⟨rfl, rfl⟩
    · rw [upd_other _ _ e]
      refine h.th i q ?_ h2
      apply Classical.byContradiction
      intro hlt
      have : i = S0.shown.length - 1 - j := by omega
      rw [this, hp] at h2
      injection h2 with h2
      exact e (by rw [h2])
/-- All files and then the names: all is safe. -/
theorem Syn.end {S0 S : Ds} {j : Nat} (h : Syn S0 S j) (hj : S0.shown.length ≤ j) : S.syncNames.1 = 0 ∧ AllSafe S.syncNames.2 ∧ S.syncNames.2.files = S0.files := by
  have e : S.syncNames = (0, { S.tick with safe := S.shown, row := [] }) := by
    unfold Ds.syncNames
    rw [if_pos h.calm.on, h.calm.goes]
    rfl
  rw [e]
  refine ⟨rfl, ⟨rfl, rfl, fun p hp => ?_⟩, h.files⟩
  have hp2 : p ∈ S.shown := hp
  rw [h.shown] at hp2
  obtain ⟨i, hi, rfl⟩ := List.mem_iff_getElem.1 hp2
  exact h.th i _ (by omega) (List.getElem?_eq_getElem hi)
theorem plan_files (S : Ds) (a b c : Int) : (S.setPlan a b c).files = S.files := by unfold setPlan; split <;> rfl
end Dsk
end

end Go.Proofs.YtemlbmamcbmnjaaGreatDoor
