/-
  DiskSafe, as mathematics.
-/
import Derived.Test.YtlokekjljibmbaaFa
import Derived.Test.YtlokekjljibmbaaKa
namespace Go.Proofs.Ytlokekjljibmbaa
open Go.RowKit Dsk
set_option linter.unusedVariables false
set_option linter.unusedSimpArgs false
namespace Dsk
open Ds
/-- A thing whose bytes are safe. -/
def Th.still (t : Th) : Prop := t.row = [] ∧ t.safe = t.shown
theorem Th.crash_still (t : Th) (p : Int) : (t.crash p).still := ⟨rfl, rfl⟩
theorem crashTh_calm (ps : List Int) (i : Nat) (l : Nm) (th : Nat → Th) (k : Nat) (h : k ∈ l.ids ∨ (th k).still) : (crashTh ps i l th k).still := by
  induction l generalizing i th with
  | nil =>
    rcases h with h | h
    · simp [Nm.ids] at h
    · exact h
  | cons x r ih =>
    show (crashTh ps (i + 1) r (upd th x.2 ((th x.2).crash (ps.getD (i + 1) 0))) k).still
    refine ih (i + 1) _ ?_
    by_cases e : k = x.2
    · right
      rw [e, upd_same]
      exact Th.crash_still _ _
    · rcases h with h | h
      · left
        simp only [Nm.ids, List.map_cons, List.mem_cons] at h
        exact h.resolve_left e
      · right
        rw [upd_other _ _ e]
        exact h
/-- Behind a crash what is there is safe. -/
theorem crash_safe (S : Ds) (ps : List Int) : (S.crash ps).safeFiles = (S.crash ps).files := by
  show (S.crashNm ps).map (fun p => (p.1, (crashTh ps 0 (S.crashNm ps) S.th p.2).safe)) = (S.crashNm ps).map (fun p => (p.1, (crashTh ps 0 (S.crashNm ps) S.th p.2).shown))
  apply List.map_congr_left
  intro p hp
  rw [(crashTh_calm ps 0 _ S.th p.2 (.inl (List.mem_map.2 ⟨p, hp, rfl⟩))).2]
theorem rnd_zero (n : Nat) : rnd 0 n = 0 := by simp [rnd]
theorem crashTh_zero (i : Nat) (l : Nm) (th : Nat → Th) (hn : l.ids.Nodup) (k : Nat) (hk : k ∈ l.ids) : (crashTh [] i l th k).shown = (th k).safe := by
  induction l generalizing i th with
  | nil => simp [Nm.ids] at hk
  | cons x r ih =>
    simp only [Nm.ids, List.map_cons, List.nodup_cons, List.mem_cons] at hn hk
    by_cases e : k = x.2
    · rw [e, crashTh_cons _ _ _ _ _ hn.1]
      show torn _ _ (rnd ([].getD (i + 1) 0) _) = _
      simp only [List.getD_nil, rnd_zero, torn_zero]
    · show (crashTh [] (i + 1) r (upd th x.2 ((th x.2).crash _)) k).shown = _
      rw [ih (i + 1) _ hn.2 (hk.resolve_left e), upd_other _ _ e]
/-- A crash without picks leaves what is safe. -/
theorem crash_none {S : Ds} (hw : S.Wf) : (S.crash []).files = S.safeFiles := by
  have e : S.crashNm [] = S.safe := by
    unfold crashNm
    simp only [List.getD_nil, rnd_zero, List.take_zero]
    rfl
  show (S.crashNm []).map (fun p => (p.1, (crashTh [] 0 (S.crashNm []) S.th p.2).shown)) = S.safe.map _
  rw [e]
  apply List.map_congr_left
  intro p hp
  rw [crashTh_zero 0 S.safe S.th (List.nodup_append.1 hw.nodup).1 p.2 (List.mem_map.2 ⟨p, hp, rfl⟩)]
/-- Where all is safe every crash leaves the files. -/
structure AllSafe (S : Ds) : Prop where
  row : S.row = []
  safe : S.safe = S.shown
  th : ∀ p ∈ S.shown, (S.th p.2).still
theorem AllSafe.crash {S : Ds} (h : AllSafe S) (ps : List Int) : (S.crash ps).files = S.files := by
  have e : S.crashNm ps = S.shown := by
    unfold crashNm
    rw [h.row, h.safe]
    simp only [List.take_nil]
    rfl
  show (S.crashNm ps).map (fun p => (p.1, (crashTh ps 0 (S.crashNm ps) S.th p.2).shown)) = S.shown.map _
  rw [e]
  apply List.map_congr_left
  intro p hp
  rw [crashTh_still]
  intro k hk
  obtain ⟨q, hq, rfl⟩ := List.mem_map.1 hk
  exact h.th q hq
theorem crash_allSafe (S : Ds) (ps : List Int) : AllSafe (S.crash ps) := ⟨rfl, rfl, fun p hp => crashTh_calm ps 0 _ S.th p.2 (.inl (List.mem_map.2 ⟨p, hp, rfl⟩))⟩
/-- While the files are made safe, the last first: j of them are. -/
structure Syn (S0 S : Ds) (j : Nat) : Prop where
  calm : Calm S
  shown : S.shown = S0.shown
  files : S.files = S0.files
  th : ∀ i p, S0.shown.length ≤ i + j → S0.shown[i]? = some p → (S.th p.2).still
theorem Syn.start {S : Ds} (h : S.on = true) : Syn (S.setPlan 0 0 0) (S.setPlan 0 0 0) 0 := by
  refine ⟨⟨?_, ?_, ?_⟩, rfl, rfl, fun i p h1 h2 => ?_⟩
  · simp [setPlan, h]
  · simp [setPlan, h]
  · simp [setPlan, h]
  · rw [List.getElem?_eq_none (by omega)] at h2
    exact absurd h2 (by simp)
theorem Syn.find {S0 S : Ds} {j : Nat} (h : Syn S0 S j) (hw : S.Wf) {p : By × Nat} (hp : p ∈ S0.shown) : S.find p.1 = (0, p.2) := by
  rw [← h.shown] at hp
  unfold Ds.find
  rw [if_pos h.calm.on, if_pos (hw.snm _ hp), (Nm.get_some hw.sup).2 (show (p.1, p.2) ∈ S.shown from hp)]
theorem Syn.step {S0 S : Ds} {j : Nat} (h : Syn S0 S j) (hw : S.Wf) (hj : j < S0.shown.length) {p : By × Nat} (hp : S0.shown[S0.shown.length - 1 - j]? = some p) : (S.sync p.1).1 = 0 ∧ Syn S0 (S.sync p.1).2 (j + 1) := by
  have hm := List.mem_of_getElem? hp
  rw [calm_sync h.calm (h.find hw hm)]
  refine ⟨rfl, ⟨h.calm.tick.on, h.calm.off, h.calm.to⟩, h.shown, ?_, fun i q h1 h2 => ?_⟩
  · rw [← h.files]
    show S.shown.map (fun q => (q.1, (upd S.th p.2 (S.th p.2).sync q.2).shown)) = S.shown.map _
    apply List.map_congr_left
    intro q hq
    by_cases e : q.2 = p.2
    · rw [e, upd_same]; rfl
    · rw [upd_other _ _ e]
  · show (upd S.th p.2 (S.th p.2).sync q.2).still
    by_cases e : q.2 = p.2
    · rw [e, upd_same]; exact ⟨rfl, rfl⟩
    · rw [upd_other _ _ e]
      refine h.th i q ?_ h2
      apply Classical.byContradiction
      intro hlt
      have : i = S0.shown.length - 1 - j := by omega
      rw [this, hp] at h2
      injection h2 with h2
      exact e (by rw [h2])
/-- All files and then the names: all is safe. -/
theorem Syn.end {S0 S : Ds} {j : Nat} (h : Syn S0 S j) (hj : S0.shown.length ≤ j) : S.syncNames.1 = 0 ∧ AllSafe S.syncNames.2 ∧ S.syncNames.2.files = S0.files := by
  have e : S.syncNames = (0, { S.tick with safe := S.shown, row := [] }) := by
    unfold Ds.syncNames
    rw [if_pos h.calm.on, h.calm.goes]
    rfl
  rw [e]
  refine ⟨rfl, ⟨rfl, rfl, fun p hp => ?_⟩, h.files⟩
  have hp2 : p ∈ S.shown := hp
  rw [h.shown] at hp2
  obtain ⟨i, hi, rfl⟩ := List.mem_iff_getElem.1 hp2
  exact h.th i _ (by omega) (List.getElem?_eq_getElem hi)
theorem plan_files (S : Ds) (a b c : Int) : (S.setPlan a b c).files = S.files := by unfold setPlan; split <;> rfl
end Dsk
end Go.Proofs.Ytlokekjljibmbaa
