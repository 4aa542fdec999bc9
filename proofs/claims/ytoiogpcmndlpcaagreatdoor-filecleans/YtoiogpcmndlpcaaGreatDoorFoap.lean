/-
  Drop of a disk, whatever it answers; what a crash behind it leaves, where all was safe.
-/
import Derived.Test.YtoiogpcmndlpcaaGreatDoorFncp
import Derived.Test.YtoiogpcmndlpcaaGreatDoorJpp
import Derived.Test.YtoiogpcmndlpcaaGreatDoorFap
namespace Go.Proofs.YtoiogpcmndlpcaaGreatDoor
open Go.RowKit Dsk
set_option linter.unusedVariables false
set_option linter.unusedSimpArgs false
namespace Dsk
/-- file.Drop, as mathematics. -/
def Ds.drop (S : Ds) (n : By) : Int × Ds := if isNm n then (if (S.remove n).1 = 0 then (S.remove n).2.syncNames else S.remove n) else (51, S)
end Dsk

theorem drop_ax {X : Nat → Prop} {wa w : World} {p : Nat} {S : Ds} {N : Nat} (h : Ax X wa w p S N) (hN : N + 2 ≤ 268435456) (name : By) (hm : name.length ≤ 4611686018427387900) :
    Calls Tryz.prog 29 #[.pointer (some ⟨p, 0, none⟩), encStr name] w fun e w' => ∃ v, e = .returned v ∧ ErrV w' v opDrop name (S.drop name).1 ∧ Ax X wa w' p (S.drop name).2 (N + 3) := by
  have HA := hide h
  by_cases hn : isNm name = true
  · have c1 := fisName_ok name w (by omega)
    rw [hn] at c1
    have hrm := remove_ax h (by omega) name (by omega)
    have eD : S.drop name = if (S.remove name).1 = 0 then (S.remove name).2.syncNames else S.remove name := by rw [Ds.drop, if_pos hn]
    by_cases h0 : (S.remove name).1 = 0
    · rw [if_pos h0] at eD
      rw [eD]
      rw [h0] at hrm
      clear eD h0 h
      generalize (S.remove name).2 = S1 at hrm ⊢
      go_enter Tryz.func29, Tryz.ntmps29
      go_wp2_with (first
        | (go_at_call 68; refine c1.mono ?_; rintro e w' ⟨rfl, hww⟩; obtain rfl := hww.symm; clear c1)
        | (go_at_call 40; refine hrm.mono ?_; rintro e w1 ⟨rfl, hA1⟩; have HA1 := hide hA1; clear hrm hA1)
        | (go_at_call 44; refine (syncNames_ax HA1.out hN).mono ?_; rintro e w2 ⟨rfl, hA2⟩; have HA2 := hide hA2; clear hA2)
        | (go_at_call 57; refine (fault_ok opDrop name _ _).mono ?_; rintro e w3 ⟨v, rfl, hv⟩; have HV := hide hv; clear hv))
      go_ret
      exact ⟨_, rfl, HV.out.1, HA2.out.kept HV.out.2⟩
    · rw [if_neg h0] at eD
      rw [eD]
      have hb : ((S.remove name).1 != 0) = true := by simpa using h0
      clear eD h0 h
      generalize (S.remove name).2 = S1 at hrm ⊢
      generalize (S.remove name).1 = E at hrm hb ⊢
      go_enter Tryz.func29, Tryz.ntmps29
      go_wp2_with (first
        | (go_at_call 68; refine c1.mono ?_; rintro e w' ⟨rfl, hww⟩; obtain rfl := hww.symm; clear c1)
        | (go_at_call 40; refine hrm.mono ?_; rintro e w1 ⟨rfl, hA1⟩; have HA1 := hide hA1; clear hrm hA1)
        | (go_at_call 57; refine (fault_ok opDrop name _ _).mono ?_; rintro e w3 ⟨v, rfl, hv⟩; have HV := hide hv; clear hv))
      go_ret
      exact ⟨_, rfl, HV.out.1, (HA1.out.kept HV.out.2).mono (by omega)⟩
  · have hf : isNm name = false := by simpa using hn
    have eD : S.drop name = (51, S) := by rw [Ds.drop, if_neg hn]
    rw [eD]
    refine (drop_name _ name w hm hf).mono ?_
    rintro e w' ⟨v, rfl, hv, hk⟩
    exact ⟨v, rfl, hv, (h.kept hk).mono (by omega)⟩

namespace Dsk
/-- The files but one. -/
def away (l : List (By × By)) (n : By) : List (By × By) := l.filter (fun p => !(p.1 == n))
theorem files_del (l : Nm) (th : Nat → Th) (n : By) : (l.del n).map (fun p => (p.1, (th p.2).shown)) = away (l.map (fun p => (p.1, (th p.2).shown))) n := by
  induction l with
  | nil => rfl
  | cons x r ih =>
    simp only [Nm.del, away, List.filter_cons, List.map_cons] at *
    by_cases e : (x.1 == n) = true
    · simp only [e, Bool.not_true, Bool.false_eq_true, if_false]
      exact ih
    · simp only [e, Bool.not_false, if_true, List.map_cons]
      rw [ih]
theorem crash_of {S : Ds} (ps : List Int) (h : ∀ p ∈ S.crashNm ps, (S.th p.2).still) : (S.crash ps).files = (S.crashNm ps).map (fun p => (p.1, (S.th p.2).shown)) := by
  show (S.crashNm ps).map (fun p => (p.1, (Ds.crashTh ps 0 (S.crashNm ps) S.th p.2).shown)) = _
  apply List.map_congr_left
  intro p hp
  rw [crashTh_still]
  intro k hk
  obtain ⟨q, hq, rfl⟩ := List.mem_map.1 hk
  exact h q hq
/-- What Drop does, by its answer. -/
inductive Dropped (S : Ds) (n : By) : Int → Ds → Prop
  | name : isNm n = false → Dropped S n 51 S
  | off : isNm n = true → S.on = false → Dropped S n 50 S
  | none : isNm n = true → S.on = true → S.shown.get n = none → Dropped S n 53 S
  | done (D : Ds) (k : Nat) : isNm n = true → S.on = true → S.shown.get n = some k → D.on = true → D.strokes = S.strokes + 2 → D.safe = S.shown.del n → D.row = [] → D.shown = S.shown.del n → D.th = S.th → Dropped S n 0 D
  | cut (D : Ds) (k : Nat) : isNm n = true → S.on = true → S.shown.get n = some k → D.on = false → D.safe = S.safe → D.row = S.row ++ [.tk n] → D.th = S.th → Dropped S n 50 D
theorem drop_does (S : Ds) (n : By) : Dropped S n (S.drop n).1 (S.drop n).2 := by
  by_cases hn : isNm n = true
  · by_cases ho : S.on = true
    · cases hg : S.shown.get n with
      | none =>
        have e : S.drop n = (53, S) := by simp [Ds.drop, Ds.remove, Ds.find, hn, ho, hg]
        rw [e]
        exact .none hn ho hg
      | some k =>
        have er : S.remove n = (S.ans 0, S.tick.addName (.tk n)) := by simp [Ds.remove, Ds.find, hn, ho, hg]
        by_cases g1 : S.goesOff = true
        · have e : S.drop n = (50, S.tick.addName (.tk n)) := by simp [Ds.drop, hn, er, Ds.ans, g1]
          rw [e]
          exact .cut _ k hn ho hg (by simp [Ds.addName, Ds.tick, g1]) rfl rfl rfl
        · have g1' : S.goesOff = false := by simpa using g1
          have e1 : S.drop n = (S.tick.addName (.tk n)).syncNames := by simp [Ds.drop, hn, er, Ds.ans, g1']
          have hon : (S.tick.addName (.tk n)).on = true := by simp [Ds.tick, Ds.addName, ho, g1']
          by_cases g2 : (S.tick.addName (.tk n)).goesOff = true
          · have e : S.drop n = (50, (S.tick.addName (.tk n)).tick) := by simp [e1, Ds.syncNames, hon, g2]
            rw [e]
            exact .cut _ k hn ho hg (by show ((S.tick.addName (.tk n)).on && !(S.tick.addName (.tk n)).goesOff) = false; rw [g2]; simp) rfl rfl rfl
          · have g2' : (S.tick.addName (.tk n)).goesOff = false := by simpa using g2
            have e : S.drop n = (0, { (S.tick.addName (.tk n)).tick with safe := (S.tick.addName (.tk n)).shown, row := [] }) := by simp [e1, Ds.syncNames, hon, g2']
            rw [e]
            exact .done _ k hn ho hg (by show ((S.tick.addName (.tk n)).on && !(S.tick.addName (.tk n)).goesOff) = true; rw [g2', hon]; rfl) rfl rfl rfl rfl rfl
    · have ho' : S.on = false := by simpa using ho
      have e : S.drop n = (50, S) := by simp [Ds.drop, Ds.remove, Ds.find, hn, ho']
      rw [e]
      exact .off hn ho'
  · have hn' : isNm n = false := by simpa using hn
    have e : S.drop n = (51, S) := by simp [Ds.drop, hn']
    rw [e]
    exact .name hn'
/-- Where all was safe: every crash behind a Drop that was done leaves all but the one; behind one that was cut off that, or all. -/
theorem drop_crash {S D : Ds} {n : By} {E : Int} (hs : AllSafe S) (h : Dropped S n E D) (ps : List Int) :
    (E = 0 ∧ (D.crash ps).files = away S.files n) ∨ (E = 50 ∧ S.on = true ∧ D.on = false ∧ ((D.crash ps).files = away S.files n ∨ (D.crash ps).files = S.files)) ∨ D = S := by
  cases h with
  | name h => exact .inr (.inr rfl)
  | off _ h => exact .inr (.inr rfl)
  | none _ _ h => exact .inr (.inr rfl)
  | done D k hn ho hg hd hk hsf hr hsh ht =>
    refine .inl ⟨rfl, ?_⟩
    have e : D.crashNm ps = S.shown.del n := by
      unfold Ds.crashNm
      rw [hr, hsf, List.take_nil]
      rfl
    rw [crash_of ps (by rw [e, ht]; intro p hp; exact hs.th p (List.mem_filter.1 hp).1), e, ht]
    exact files_del S.shown S.th n
  | cut D k hn ho hg hd hsf hr ht =>
    refine .inr (.inl ⟨rfl, ho, hd, ?_⟩)
    have e : D.crashNm ps = S.shown.del n ∨ D.crashNm ps = S.shown := by
      unfold Ds.crashNm
      rw [hr, hsf, hs.row, hs.safe]
      generalize rnd _ _ = j
      cases j with
      | zero => exact .inr rfl
      | succ j => left; simp [runN, Nc.apply]
    rcases e with e | e
    · left
      rw [crash_of ps (by rw [e, ht]; intro p hp; exact hs.th p (List.mem_filter.1 hp).1), e, ht]
      exact files_del S.shown S.th n
    · right
      rw [crash_of ps (by rw [e, ht]; intro p hp; exact hs.th p hp), e, ht]
      rfl
theorem get_files (l : Nm) (f : By × Nat → By) (n : By) : (∃ k, l.get n = some k) ↔ ∃ d, (n, d) ∈ l.map (fun p => (p.1, f p)) := by
  constructor
  · rintro ⟨k, hk⟩
    unfold Nm.get at hk
    cases hf : l.find? (fun p => p.1 == n) with
    | none => rw [hf] at hk; cases hk
    | some q =>
      have e : q.1 = n := by simpa using List.find?_some hf
      exact ⟨f q, List.mem_map.2 ⟨q, List.mem_of_find?_eq_some hf, by rw [e]⟩⟩
  · rintro ⟨d, hd⟩
    obtain ⟨q, hq, e⟩ := List.mem_map.1 hd
    have e1 : q.1 = n := congrArg Prod.fst e
    unfold Nm.get
    cases hf : l.find? (fun p => p.1 == n) with
    | none => exact absurd (List.find?_eq_none.1 hf q hq) (by simp [e1])
    | some r => exact ⟨r.2, rfl⟩
end Dsk
end Go.Proofs.YtoiogpcmndlpcaaGreatDoor
