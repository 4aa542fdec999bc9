import Derived.Test.YtemlbmamcbmnjaaGreatDoorFnep
import Derived.Test.YtemlbmamcbmnjaaGreatDoorJpp
import Derived.Test.YtemlbmamcbmnjaaGreatDoorFap
import Derived.Test.YtemlbmamcbmnjaaGreatDoorFodp
import Derived.Test.YtemlbmamcbmnjaaGreatDoorGvp
import Derived.Test.YtemlbmamcbmnjaaGreatDoorGrp
import Derived.Deep.RegionHeld
namespace Go.Proofs.YtemlbmamcbmnjaaGreatDoor
section
open Go.RowKit Dsk
set_option linter.unusedVariables false
set_option linter.unusedSimpArgs false
namespace Dsk
/-- file.Drop, as mathematics. -/
def Ds.drop (S : Ds) (n : By) : Int × Ds := if isNm n then (if (S.remove n).1 = 0 then (S.remove n).2.syncNames else S.remove n) else (51, S)
end Dsk

theorem drop_ax {X : Nat → Prop} {wa w : World} {p : Nat} {S : Ds} {N : Nat} (h : Ax X wa w p S N) (hN : N + 2 ≤ 268435456) (name : By) (hm : name.length ≤ 4611686018427387900) :
    Calls Tryz.prog 35 #[.pointer (some ⟨p, 0, none⟩), encStr name] w fun e w' => ∃ v, e = .returned v ∧ ErrV w' v opDrop name (S.drop name).1 ∧ Ax X wa w' p (S.drop name).2 (N + 3) := by
  have HA := hide h
  by_cases hn : isNm name = true
  · have c1 := fisName_ok name w (by omega)
    rw [hn] at c1
    have hrm := remove_ax h (by omega) name (by omega)
    have eD : S.drop name = if (S.remove name).1 = 0 then (S.remove name).2.syncNames else S.remove name := by rw [Ds.drop, if_pos hn]
    by_cases h0 : (S.remove name).1 = 0
    · rw [if_pos h0] at eD
      rw [eD]
      rw [h0] at hrm
      clear eD h0 h
      generalize (S.remove name).2 = S1 at hrm ⊢
      go_enter Tryz.func35, Tryz.ntmps35
      go_wp2_with (first
        | (go_at_call 73; refine c1.mono ?_; rintro e w' ⟨rfl, hww⟩; obtain rfl := hww.symm; clear c1)
        | (go_at_call 46; refine hrm.mono ?_; rintro e w1 ⟨rfl, hA1⟩; have HA1 := hide hA1; clear hrm hA1)
        | (go_at_call 50; refine (syncNames_ax HA1.out hN).mono ?_; rintro e w2 ⟨rfl, hA2⟩; have HA2 := hide hA2; clear hA2)
        | (go_at_call 63; refine (fault_ok opDrop name _ _).mono ?_; rintro e w3 ⟨v, rfl, hv⟩; have HV := hide hv; clear hv))
      go_ret
      exact ⟨_, rfl, HV.out.1, HA2.out.kept HV.out.2⟩
    · rw [if_neg h0] at eD
      rw [eD]
      have hb : ((S.remove name).1 != 0) = true := by simpa using h0
      clear eD h0 h
      generalize (S.remove name).2 = S1 at hrm ⊢
      generalize (S.remove name).1 = E at hrm hb ⊢
      go_enter Tryz.func35, Tryz.ntmps35
      go_wp2_with (first
        | (go_at_call 73; refine c1.mono ?_; rintro e w' ⟨rfl, hww⟩; obtain rfl := hww.symm; clear c1)
        | (go_at_call 46; refine hrm.mono ?_; rintro e w1 ⟨rfl, hA1⟩; have HA1 := hide hA1; clear hrm hA1)
        | (go_at_call 63; refine (fault_ok opDrop name _ _).mono ?_; rintro e w3 ⟨v, rfl, hv⟩; have HV := hide hv; clear hv))
      go_ret
      exact ⟨_, rfl, HV.out.1, (HA1.out.kept HV.out.2).mono (by omega)⟩
  · have hf : isNm name = false := by simpa using hn
    have eD : S.drop name = (51, S) := by rw [Ds.drop, if_neg hn]
    rw [eD]
    refine (drop_name _ name w hm hf).mono ?_
    rintro e w' ⟨v, rfl, hv, hk⟩
    exact ⟨v, rfl, hv, (h.kept hk).mono (by omega)⟩

namespace Dsk
/-- The files but one. -/
def away (l : List (By × By)) (n : By) : List (By × By) := l.filter (fun p => !(p.1 == n))
theorem files_del (l : Nm) (th : Nat → Th) (n : By) : (l.del n).map (fun p => (p.1, (th p.2).shown)) = away (l.map (fun p => (p.1, (th p.2).shown))) n := by
  induction l with
  | nil => rfl
  | cons x r ih =>
    simp only [Nm.del, away, List.filter_cons, List.map_cons] at *
    by_cases e : (x.1 == n) = true
    · simp only [e, Bool.not_true, Bool.false_eq_true, if_false]
      exact ih
    · simp only [e, Bool.not_false, if_true, List.map_cons]
      rw [ih]
theorem crash_of {S : Ds} (ps : List Int) (h : ∀ p ∈ S.crashNm ps, (S.th p.2).still) : (S.crash ps).files = (S.crashNm ps).map (fun p => (p.1, (S.th p.2).shown)) := by
  show (S.crashNm ps).map (fun p => (p.1, (Ds.crashTh ps 0 (S.crashNm ps) S.th p.2).shown)) = _
  apply List.map_congr_left
  intro p hp
  rw [crashTh_still]
  intro k hk
  obtain ⟨q, hq, rfl⟩ := List.mem_map.1 hk
  exact h q hq
/-- What Drop does, by its answer. -/
inductive Dropped (S : Ds) (n : By) : Int → Ds → Prop
  | name : isNm n = false → Dropped S n 51 S
  | off : isNm n = true → S.on = false → Dropped S n 50 S
  | none : isNm n = true → S.on = true → S.shown.get n = none → Dropped S n 53 S
  | done (D : Ds) (k : Nat) : isNm n = true → S.on = true → S.shown.get n = some k → D.on = true → D.strokes = S.strokes + 2 → D.safe = S.shown.del n → D.row = [] → D.shown = S.shown.del n → D.th = S.th → Dropped S n 0 D
  | cut (D : Ds) (k : Nat) : isNm n = true → S.on = true → S.shown.get n = some k → D.on = false → D.safe = S.safe → D.row = S.row ++ [.tk n] → D.th = S.th → Dropped S n 50 D
theorem drop_does (S : Ds) (n : By) : Dropped S n (S.drop n).1 (S.drop n).2 := by
  by_cases hn : isNm n = true
  · by_cases ho : S.on = true
    · cases hg : S.shown.get n with
      | none =>
        have e : S.drop n = (53, S) := by simp [Ds.drop, Ds.remove, Ds.find, hn, ho, hg]
        rw [e]
        exact .none hn ho hg
      | some k =>
        have er : S.remove n = (S.ans 0, S.tick.addName (.tk n)) := by simp [Ds.remove, Ds.find, hn, ho, hg]
        by_cases g1 : S.goesOff = true
        · have e : S.drop n = (50, S.tick.addName (.tk n)) := by simp [Ds.drop, hn, er, Ds.ans, g1]
          rw [e]
          exact .cut _ k hn ho hg (by simp [Ds.addName, Ds.tick, g1]) rfl rfl rfl
        · have g1' : S.goesOff = false := by simpa using g1
          have e1 : S.drop n = (S.tick.addName (.tk n)).syncNames := by simp [Ds.drop, hn, er, Ds.ans, g1']
          have hon : (S.tick.addName (.tk n)).on = true := by simp [Ds.tick, Ds.addName, ho, g1']
          by_cases g2 : (S.tick.addName (.tk n)).goesOff = true
          · have e : S.drop n = (50, (S.tick.addName (.tk n)).tick) := by simp [e1, Ds.syncNames, hon, g2]
            rw [e]
            exact .cut _ k hn ho hg (by show ((S.tick.addName (.tk n)).on && !(S.tick.addName (.tk n)).goesOff) = false; rw [g2]; simp) rfl rfl rfl
          · have g2' : (S.tick.addName (.tk n)).goesOff = false := by simpa using g2
            have e : S.drop n = (0, { (S.tick.addName (.tk n)).tick with safe := (S.tick.addName (.tk n)).shown, row := [] }) := by simp [e1, Ds.syncNames, hon, g2']
            rw [e]
            exact .done _ k hn ho hg (by show ((S.tick.addName (.tk n)).on && !(S.tick.addName (.tk n)).goesOff) = true; rw [g2', hon]; rfl) rfl rfl rfl rfl rfl
    · have ho' : S.on = false := by simpa using ho
      have e : S.drop n = (50, S) := by simp [Ds.drop, Ds.remove, Ds.find, hn, ho']
      rw [e]
      exact .off hn ho'
  · have hn' : isNm n = false := by simpa using hn
    have e : S.drop n = (51, S) := by simp [Ds.drop, hn']
    rw [e]
    exact .name hn'
/-- Where all was safe: every crash behind a Drop that was done leaves all but the one; behind one that was cut off that, or all. -/
theorem drop_crash {S D : Ds} {n : By} {E : Int} (hs : AllSafe S) (h : Dropped S n E D) (ps : List Int) :
    (E = 0 ∧ (D.crash ps).files = away S.files n) ∨ (E = 50 ∧ S.on = true ∧ D.on = false ∧ ((D.crash ps).files = away S.files n ∨ (D.crash ps).files = S.files)) ∨ D = S := by
  cases h with
  | name h => exact .inr (.inr rfl)
  | off _ h => exact .inr (.inr rfl)
  | none _ _ h => exact .inr (.inr rfl)
  | done D k hn ho hg hd hk hsf hr hsh ht =>
    refine .inl ⟨rfl, ?_⟩
    have e : D.crashNm ps = S.shown.del n := by
      unfold Ds.crashNm
      rw [hr, hsf, List.take_nil]
      rfl
    rw [crash_of ps (by rw [e, ht]; intro p hp; exact hs.th p (List.mem_filter.1 hp).1), e, ht]
    exact files_del S.shown S.th n
  | cut D k hn ho hg hd hsf hr ht =>
    refine .inr (.inl ⟨rfl, ho, hd, ?_⟩)
    have e : D.crashNm ps = S.shown.del n ∨ D.crashNm ps = S.shown := by
      unfold Ds.crashNm
      rw [hr, hsf, hs.row, hs.safe]
      generalize rnd _ _ = j
      cases j with
      | zero => exact .inr rfl
      | succ j => left; simp [runN, Nc.apply]
    rcases e with e | e
    · left
      rw [crash_of ps (by rw [e, ht]; intro p hp; exact hs.th p (List.mem_filter.1 hp).1), e, ht]
      exact files_del S.shown S.th n
    · right
      rw [crash_of ps (by rw [e, ht]; intro p hp; exact hs.th p hp), e, ht]
      rfl
theorem get_files (l : Nm) (f : By × Nat → By) (n : By) : (∃ k, l.get n = some k) ↔ ∃ d, (n, d) ∈ l.map (fun p => (p.1, f p)) := by
  constructor
  · rintro ⟨k, hk⟩
    unfold Nm.get at hk
    cases hf : l.find? (fun p => p.1 == n) with
    | none => rw [hf] at hk; cases hk
    | some q =>
      have e : q.1 = n := by simpa using List.find?_some hf
      exact ⟨f q, List.mem_map.2 ⟨q, List.mem_of_find?_eq_some hf, by rw [e]⟩⟩
  · rintro ⟨d, hd⟩
    obtain ⟨q, hq, e⟩ := List.mem_map.1 hd
    have e1 : q.1 = n := congrArg Prod.fst e
    unfold Nm.get
    cases hf : l.find? (fun p => p.1 == n) with
    | none => exact absurd (List.find?_eq_none.1 hf q hq) (by simp [e1])
    | some r => exact ⟨r.2, rfl⟩
end Dsk
end

section
open Go.RowKit Dsk
set_option linter.unusedVariables false
set_option linter.unusedSimpArgs false
namespace Dsk
/-- The names of k files, each with its place. -/
def ldn (L : List (By × By)) : Nat → Nm
  | 0 => []
  | k + 1 => (ldn L k).put (L.getD k ([], [])).1 k
def thL (L : List (By × By)) (k : Nat) : Th := ⟨(L.getD k ([], [])).2, [], (L.getD k ([], [])).2⟩
def Ds.load (room : Nat) (L : List (By × By)) : Ds := ⟨room, true, ldn L L.length, [], ldn L L.length, thL L, L.length, 0, 0, 0, 0, 0, []⟩
theorem ldn_up (L : List (By × By)) (k : Nat) : (ldn L k).Up := by
  induction k with
  | zero => exact List.Pairwise.nil
  | succ k ih => exact ih.put _ _
theorem ldn_len (L : List (By × By)) (k : Nat) : (ldn L k).length ≤ k := by
  induction k with
  | zero => exact Nat.le_refl _
  | succ k ih => exact Nat.le_trans (Nm.put_length_le _ _ _) (by omega)
theorem ldn_mem (L : List (By × By)) (k : Nat) (p : By × Nat) (h : p ∈ ldn L k) : p.2 < k ∧ p.1 = (L.getD p.2 ([], [])).1 := by
  induction k with
  | zero => cases h
  | succ k ih =>
    rcases Nm.mem_put.1 h with rfl | ⟨h, _⟩
    · exact ⟨Nat.lt_succ_self k, rfl⟩
    · exact ⟨Nat.lt_succ_of_lt (ih h).1, (ih h).2⟩
theorem ldn_ids (L : List (By × By)) (k : Nat) : (ldn L k).ids.Nodup := by
  induction k with
  | zero => exact List.nodup_nil
  | succ k ih =>
    have h1 : ((ldn L (k + 1)).ids).Perm (k :: ((ldn L k).del (L.getD k ([], [])).1).ids) := (Nm.ins_perm _ _).map _
    refine h1.nodup_iff.2 (List.nodup_cons.2 ⟨fun h => ?_, ih.sublist (List.filter_sublist.map _)⟩)
    obtain ⟨p, hp, e⟩ := List.mem_map.1 h
    have := (ldn_mem L k p (List.mem_filter.1 hp).1).1
    omega
theorem Wf.load {room : Nat} {L : List (By × By)} (hr : 1 ≤ room ∧ room ≤ 1048576) (hN : ∀ f ∈ L, isNm f.1 = true) : (Ds.load room L).Wf := by
  refine ⟨hr, ldn_up L _, rfl, trivial, by simpa [madeN, Ds.load] using ldn_ids L L.length, fun k hk => ?_, fun p hp => ?_, fun c hc => (by cases hc), fun k hk => ⟨trivial, rfl⟩⟩
  · have hk' : k ∈ (ldn L L.length).ids := by simpa [madeN, Ds.load] using hk
    obtain ⟨p, hp, rfl⟩ := List.mem_map.1 hk'
    exact (ldn_mem L _ p hp).1
  · obtain ⟨h1, h2⟩ := ldn_mem L _ p hp
    rw [h2]
    apply hN
    rw [List.getD_eq_getElem?_getD, List.getElem?_eq_getElem h1]
    exact List.getElem_mem h1
theorem AllSafe.load (room : Nat) (L : List (By × By)) : AllSafe (Ds.load room L) := ⟨rfl, rfl, fun p hp => ⟨rfl, rfl⟩⟩
theorem Bd.load {room N : Nat} {L : List (By × By)} (hn : L.length ≤ N) (hd : ∀ f ∈ L, f.2.length ≤ N) : (Ds.load room L).Bd N := by
  refine ⟨Nat.le_trans (ldn_len L _) hn, fun k hk => ?_, Nat.zero_le _, Nat.zero_le _, Nat.zero_le _⟩
  have hk' : k < L.length := hk
  show (L.getD k ([], [])).2.length + 0 + 0 ≤ N
  rw [List.getD_eq_getElem?_getD, List.getElem?_eq_getElem hk']
  exact hd _ (List.getElem_mem hk')
end Dsk

/-- In the loop of Load: k files have been laid. -/
structure Ldg (w wr : World) (p mb : Nat) (cs : Array Value) (L : List (By × By)) (k : Nat) (A : Nat → Nat) (o : Lab) : Prop where
  cells : wr.heap[p]? = some (.cells cs 98 (0, 0))
  map : Mp wr mb A (ldn L k)
  th : ∀ j, j < k → Tg wr o (j + 2) (A j) (thL L j)
  lp : o p = 1
  lm : o mb = 1
  lim : ∀ b, o b ≠ 0 → b < wr.heap.size ∧ w.heap.size ≤ b
  kept : Kept [] w wr

theorem Ldg.step {w wr w6 w7 : World} {p mb tb k : Nat} {cs : Array Value} {L : List (By × By)} {A : Nat → Nat} {o : Lab} {rv sv : Value} (h : Ldg w wr p mb cs L k A o) (hk6 : Kept [] wr w6) (ht : Th0 w6 tb rv sv (thL L k)) (htb : wr.heap.size ≤ tb)
    (hrv : ∀ g, rv.ownBlock = some g → wr.heap.size ≤ g) (hsv : ∀ g, sv.ownBlock = some g → wr.heap.size ≤ g) (hm : Mp w7 mb (upd A k tb) (ldn L (k + 1))) (hK : Keep (· = mb) w6 w7) : Ldg w w7 p mb cs L (k + 1) (upd A k tb) (o.ext wr w7 (k + 2)) := by
  have hmp : mb ≠ p := map_ne h.map h.cells (by simp)
  have hmlt : mb < wr.heap.size := h.map.lt
  have hplt : p < wr.heap.size := (Array.getElem?_eq_some_iff.1 h.cells).1
  have hs6 := hk6.size
  have hs7 := hK.size
  have hk6' : Keep (fun _ => False) wr w6 := Keep.ofNone hk6
  refine ⟨hK.heapOf (hk6'.heapOf h.cells (fun h => h)) (fun e => hmp e.symm), hm, fun j hj => ?_, (Lab.ext_old hplt).trans h.lp, (Lab.ext_old hmlt).trans h.lm, fun b hb => ?_, ?_⟩
  · by_cases e : j = k
    · subst e
      rw [upd_same]
      refine ⟨rv, sv, ⟨hK.heapOf ht.cells (by omega), own_keeps ht.row hK (fun g hg => by have := hrv g hg; omega), ht.shown.keep hK (fun g hg => by have := hsv g hg; omega), Lab.ext_new htb (Nat.lt_of_lt_of_le ht.lt hs7), fun g hg => Lab.ext_new (hrv g hg) (Nat.lt_of_lt_of_le (ht.row.lt g hg).2 hs7), fun g hg => Lab.ext_new (hsv g hg) (Nat.lt_of_lt_of_le (ht.shown.lt hg) hs7)⟩⟩
    · rw [upd_other _ _ e]
      obtain ⟨rv1, sv1, h1⟩ := h.th j (by omega)
      refine ⟨rv1, sv1, (((h1.relab (o' := o.ext wr w7 (k + 2)) (fun g hg => Lab.ext_old hg)).keep hk6' (fun _ _ h => h)).keep hK (fun g hg e => ?_))⟩
      rw [e, Lab.ext_old hmlt, h.lm] at hg
      omega
  · by_cases hb2 : b < wr.heap.size
    · rw [Lab.ext_old hb2] at hb
      exact ⟨by omega, (h.lim b hb).2⟩
    · by_cases hb3 : b < w7.heap.size
      · have := h.kept.size
        exact ⟨hb3, by omega⟩
      · simp [Lab.ext, hb2, hb3] at hb
  · have h1 := h.kept.trans hk6 (by simp)
    have hn : w.heap.size ≤ mb := (h.lim mb (by rw [h.lm]; decide)).2
    exact ⟨hK.os.trans h1.os, hK.tape.trans h1.tape, hK.output.trans h1.output, Nat.le_trans h1.size hK.size, fun i hi _ => (hK.block i (Nat.lt_of_lt_of_le hi h1.size) (by omega)).trans (h1.block i hi (by simp))⟩

/-- The cells of a disk that is being laid. -/
def ldc (r : Int) (mb : Nat) : Array Value := #[.int .i64 r, .bool true, .map none, .slice none 0 0, .map (some mb), .int .i64 0, .int .i64 0, .int .i64 0, .int .i64 0, .int .i64 0, .slice none 0 0]
theorem Ldg.done {w wr w3 : World} {p mb : Nat} {r : Int} {L : List (By × By)} {A : Nat → Nat} {o : Lab} (h : Ldg w wr p mb (ldc r mb) L L.length A o) (hr : 1 ≤ r ∧ r ≤ 1048576) (hN : ∀ f ∈ L, isNm f.1 = true) (hs : DirSynced wr w3 p 2 mb 98 (ldc r mb) A (ldn L L.length)) :
    ∃ o', PD w3 p (Ds.load r.toNat L) A o' ∧ (∀ b, o' b ≠ 0 → w.heap.size ≤ b) ∧ Kept [] w w3 := by
  obtain ⟨nb, k1, k2, k3, k4, k5⟩ := hs
  have hplt : p < wr.heap.size := (Array.getElem?_eq_some_iff.1 h.cells).1
  have hmlt : mb < wr.heap.size := h.map.lt
  have hnlt : nb < w3.heap.size := k2.lt
  have hs3 := k4.size
  have hrc : (r.toNat : Int) = r := by omega
  have hpn : w.heap.size ≤ p := (h.lim p (by rw [h.lp]; decide)).2
  have hwr := h.kept.size
  refine ⟨o.ext wr w3 1, ⟨nb, mb, .slice none 0 0, .slice none 0 0, ⟨Wf.load (by omega) hN, ?_, by omega, k2, k3, World.ownsRow_nil _ _ _ _, World.ownsRow_nil _ _ _ _, fun k hk => ?_, (Lab.ext_old hplt).trans h.lp, Lab.ext_new k5 hnlt, (Lab.ext_old hmlt).trans h.lm, by simp [Value.ownBlock], by simp [Value.ownBlock], fun b hb => ?_, (show (Lit.int .i64 0).wf = true ∧ (Lit.int .i64 0).wf = true ∧ (Lit.int .i64 0).wf = true from ⟨by decide, by decide, by decide⟩)⟩⟩, fun b hb => ?_, ?_⟩
  · rw [k1]
    simp [Ds.load, hrc, ldc]
  · obtain ⟨rv1, sv1, h1⟩ := h.th k hk
    refine ⟨rv1, sv1, ((h1.relab (o' := o.ext wr w3 1) (fun g hg => Lab.ext_old hg)).keep k4 (fun g hg e => ?_))⟩
    rw [e, Lab.ext_old hplt, h.lp] at hg
    omega
  · by_cases hb2 : b < wr.heap.size
    · omega
    · by_cases hb3 : b < w3.heap.size
      · exact hb3
      · simp [Lab.ext, hb2, hb3] at hb
  · by_cases hb2 : b < wr.heap.size
    · rw [Lab.ext_old hb2] at hb
      exact (h.lim b hb).2
    · omega
  · have h1 := h.kept
    exact ⟨k4.os.trans h1.os, k4.tape.trans h1.tape, k4.output.trans h1.output, Nat.le_trans h1.size k4.size, fun i hi _ => (k4.block i (Nat.lt_of_lt_of_le hi h1.size) (by omega)).trans (h1.block i hi (by simp))⟩
end

section
open Go.RowKit Dsk
set_option linter.unusedVariables false
set_option linter.unusedSimpArgs false

/-- A slice of no block has no places. -/
def Fiz (w : World) (ao : Option Addr) (L : List (By × By)) : Prop := ∀ i b bo m bc, i < L.length → ao = some ⟨b, 0, none⟩ → w.cell? ⟨b, i * 2 + 1, none⟩ = some (.slice bo m bc) → bo = none → m = 0 ∧ bc = 0
theorem getD_of {L : List (By × By)} {k : Nat} {f : By × By} (h : L[k]? = some f) : L.getD k ([], []) = f := by rw [List.getD_eq_getElem?_getD, h]; rfl
theorem Ldg.start {w w1 : World} (r : Int) (L : List (By × By)) (hk : Kept [] w w1) :
    Ldg w ((w1.alloc (.cells #[.int .i64 r, .bool true, .map none, .slice none 0 0, .map (some (w1.heap.size + 1)), .int .i64 0, .int .i64 0, .int .i64 0, .int .i64 0, .int .i64 0, .slice none 0 0] 98)).alloc (.map #[] 0)) w1.heap.size (w1.heap.size + 1) (ldc r (w1.heap.size + 1)) L 0 (fun _ => 0) (fun b => if b = w1.heap.size ∨ b = w1.heap.size + 1 then 1 else 0) := by
  have hs := hk.size
  refine ⟨(Below.heap_alloc _ _ _ (by simp)).trans (MapKept.heap_alloc w1 _).1, ?_, fun j hj => absurd hj (Nat.not_lt_zero _), by simp, by simp, fun b hb => ?_, (hk.alloc _).alloc _⟩
  · have := World.ownsMap_made (H := Unit) (w1.alloc (.cells #[.int .i64 r, .bool true, .map none, .slice none 0 0, .map (some (w1.heap.size + 1)), .int .i64 0, .int .i64 0, .int .i64 0, .int .i64 0, .int .i64 0, .slice none 0 0] 98)) Tryz.prog 9 ptrElem
    have e : (w1.alloc (.cells #[.int .i64 r, .bool true, .map none, .slice none 0 0, .map (some (w1.heap.size + 1)), .int .i64 0, .int .i64 0, .int .i64 0, .int .i64 0, .int .i64 0, .slice none 0 0] 98)).heap.size = w1.heap.size + 1 := by simp
    rw [e] at this
    exact this
  · by_cases h : b = w1.heap.size ∨ b = w1.heap.size + 1
    · exact ⟨by simp; omega, by omega⟩
    · simp [h] at hb

set_option maxHeartbeats 3200000 in
set_option maxRecDepth 100000 in
theorem load_fine (r : Int) (ao : Option Addr) (n c : Nat) (L : List (By × By)) (w : World) (hx : L.length = n) (hn : n ≤ 256) (hr : 1 ≤ r ∧ r ≤ 1048576) (hN : ∀ f ∈ L, isNm f.1 = true) (hd : (L.map (·.1)).Nodup) (hT : (totalOf L : Int) ≤ r) (hM : ∀ f ∈ L, f.2.length ≤ 1048576) (h1 : Fis w ao L) (hz : Fiz w ao L) :
    Calls Tryz.prog 61 #[.int .i64 r, .slice ao n c] w fun e w' => ∃ p A o, e = .returned (.tuple #[.pointer (some ⟨p, 0, none⟩), .int .i64 0]) ∧ PD w' p (Ds.load r.toNat L) A o ∧ (∀ b, o b ≠ 0 → w.heap.size ≤ b) ∧ Kept [] w w' := by
  have hmm := @run_makeMap Tryz.prog
  have hrf := refused_fine r ao n c L w hx hn hr hN hd hT h1
  have HX := hide hx
  have HR0 := hide hr
  have HN := hide hN
  have HM := hide hM
  have H1 := hide h1
  have HZ := hide hz
  clear hx hr hN hd hT hM h1 hz
  go_enter Tryz.func61, Tryz.ntmps61
  go_upto_region 6 with (go_at_call 101; refine hrf.mono ?_; rintro e w1 ⟨rfl, hk1⟩; have HS := hide (Ldg.start r L hk1); clear hrf hk1)
  generalize ((w1.alloc (.cells #[.int .i64 r, .bool true, .map none, .slice none 0 0, .map (some (w1.heap.size + 1)), .int .i64 0, .int .i64 0, .int .i64 0, .int .i64 0, .int .i64 0, .slice none 0 0] 98)).alloc (.map #[] 0)) = w2 at HS ⊢
  generalize w1.heap.size + 1 = mb at HS ⊢
  generalize w1.heap.size = p at HS ⊢
  go_wp2
  go_loopw [27] (fun i wr => ∃ k : Nat, k ≤ n ∧ i = .int .i64 k ∧ Hid (∃ A o, Ldg w wr p mb (ldc r mb) L k A o)) (fun i wr => n - (intOf i).toNat)
  case atStart => exact ⟨0, Nat.zero_le _, rfl, hide ⟨_, _, HS.out⟩⟩
  case round =>
    clear HS
    obtain ⟨k, hk, rfl, HR⟩ := hrel
    by_cases hlt : k < n
    · obtain ⟨b1, rfl, ⟨x, d⟩, hs, e1, bo1, bc1, e2, s1⟩ := H1.out k (by rw [HX.out]; exact hlt)
      have hz0 := HZ.out k b1 bo1 d.length bc1 (by rw [HX.out]; exact hlt) rfl e2
      obtain ⟨A, o, hR⟩ := HR.out
      replace e1 := hR.kept.cellOf e1 (by simp)
      replace e2 := hR.kept.cellOf e2 (by simp)
      dsimp only at e1 e2 s1
      have hdl : d.length ≤ 1048576 := HM.out _ (List.mem_of_getElem? hs)
      have hxl : x.length ≤ 112 := isNm_len (HN.out _ (List.mem_of_getElem? hs))
      have hA : Kept [] wr (wr.alloc (.cells #[encStr x, .slice bo1 d.length bc1] 88)) := (Kept.refl [] wr).alloc _
      have hcl := cloneB_ok bo1 d.length bc1 d (wr.alloc (.cells #[encStr x, .slice bo1 d.length bc1] 88)) rfl (s1.kept (hR.kept.trans hA (by simp)) (by simp)) hz0 (by omega)
      have hcx : (wr.alloc (.cells #[encStr x, .slice bo1 d.length bc1] 88)).cell? ⟨wr.heap.size, 0, none⟩ = some (encStr x) := by rw [cell_of_row _ _ _ _ _ _ (MapKept.heap_alloc wr _).1]; rfl
      have hcd : (wr.alloc (.cells #[encStr x, .slice bo1 d.length bc1] 88)).cell? ⟨wr.heap.size, 1, none⟩ = some (.slice bo1 d.length bc1) := by rw [cell_of_row _ _ _ _ _ _ (MapKept.heap_alloc wr _).1]; rfl
      have HRR := hide (show _ ∧ L[k]? = some (x, d) ∧ (wr.alloc (.cells #[encStr x, .slice bo1 d.length bc1] 88)).heap.size = wr.heap.size + 1 from ⟨hR, hs, by simp⟩)
      have HA := hide hA
      have HCX := hide hcx
      clear hR s1 hz0 HR hs hcx hA
      go_upto_region 9 with (fail)
      generalize (wr.alloc (.cells #[encStr x, .slice bo1 d.length bc1] 88)) = wA at HA hcl HCX HRR hcd ⊢
      clear e1 e2
      go_upto_region 10 with (go_at_call 66; refine hcl.mono ?_; rintro e w4 ⟨u, rfl, hu4, hk4, hn4⟩; obtain ⟨uo, uc, rfl, _⟩ := hu4.shape; have HU4 := hide hu4; have HK4 := hide hk4; have HN4 := hide hn4; clear hu4 hk4 hn4 hcl)
      clear hcd
      have hT0 : Th0 (w4.alloc (.cells #[.string ⟨#[]⟩, .slice none 0 0, .slice uo d.length uc] 108)) w4.heap.size (.slice none 0 0) (.slice uo d.length uc) ⟨[], [], d⟩ := ⟨(MapKept.heap_alloc w4 _).1, World.ownsRow_nil _ _ _ _, HU4.out.kept ((Kept.refl [] w4).alloc _)⟩
      have hsy := thingSync_ok w4.heap.size (.slice none 0 0) (.slice uo d.length uc) ⟨[], [], d⟩ (w4.alloc (.cells #[.string ⟨#[]⟩, .slice none 0 0, .slice uo d.length uc] 108)) hT0
      have hK5 : Kept [] w4 (w4.alloc (.cells #[.string ⟨#[]⟩, .slice none 0 0, .slice uo d.length uc] 108)) := (Kept.refl [] w4).alloc _
      have HK5 := hide hK5
      have hz5 : Hid ((w4.alloc (.cells #[.string ⟨#[]⟩, .slice none 0 0, .slice uo d.length uc] 108)).heap.size = w4.heap.size + 1) := hide (by simp)
      clear hT0 hK5
      generalize (w4.alloc (.cells #[.string ⟨#[]⟩, .slice none 0 0, .slice uo d.length uc] 108)) = w5 at hsy HK5 hz5 ⊢
      generalize htb : w4.heap.size = tb at hsy hz5 ⊢
      have HTB := hide htb
      clear htb
      go_upto_region 11 with (go_at_call 96; refine hsy.mono ?_; rintro e w6 ⟨rfl, hmv⟩; have HMV := hide hmv; clear hsy hmv)
      have HF : Hid (∃ w7, (Instr.mapUpdate 92 (.map (some mb)) (encStr x) (.pointer (some ⟨tb, 0, none⟩))).run Tryz.prog (World.drew w6) = .ok () w7 ∧ Kept [mb] (World.drew w6) w7 ∧ (∃ A o, Ldg w w7 p mb (ldc r mb) L (k + 1) A o) ∧ w6.cell? ⟨p, 4, none⟩ = some (.map (some mb)) ∧ w6.cell? ⟨wr.heap.size, 0, none⟩ = some (encStr x) ∧ p ≠ mb ∧ wr.heap.size ≠ mb) := hide (by
        obtain ⟨hR, hs, hsA⟩ := HRR.out
        obtain ⟨rv, sv, ht, hKt, hl1, hl2⟩ := HMV.out
        have q4 := HK4.out.size
        have q5 := hz5.out
        have qt := HTB.out
        have hmlt : mb < wr.heap.size := hR.map.lt
        have hpm : mb ≠ p := map_ne hR.map hR.cells (by simp)
        have k4 : Kept [] wr w4 := HA.out.trans HK4.out (by simp)
        have k5 : Kept [] wr w5 := k4.trans HK5.out (by simp)
        have hge : ∀ g, thF tb (.slice none 0 0) (.slice uo d.length uc) g → wr.heap.size < g := fun g hg => by
          rcases hg with rfl | h | h
          · omega
          · simp [Value.ownBlock] at h
          · have := HN4.out g h
            omega
        have k6 : Kept [] wr w6 := ⟨hKt.os.trans k5.os, hKt.tape.trans k5.tape, hKt.output.trans k5.output, Nat.le_trans k5.size hKt.size, fun i hi _ => (hKt.block i (Nat.lt_of_lt_of_le hi k5.size) (fun h => by have := hge i h; omega)).trans (k5.block i hi (by simp))⟩
        have k6d : Kept [] wr (World.drew w6) := k6.trans ((Kept.refl [] w6).drew) (by simp)
        have htd : Th0 (World.drew w6) tb rv sv (thL L k) := by
          have := ht.kept ((Kept.refl [] w6).drew)
          have e : thL L k = (⟨[], [], d⟩ : Th).sync := by unfold thL; rw [getD_of hs]; rfl
          rw [e]
          exact this
        have hMd : Mp (World.drew w6) mb (upd A k tb) (ldn L k) := (hR.map.keep (Keep.ofNone (F := fun _ => False) k6d) (fun h => h)).congr (fun j hj => by
          obtain ⟨q, hq, rfl⟩ := List.mem_map.1 hj
          exact upd_other _ _ (by have := (ldn_mem L k q hq).1; omega))
        obtain ⟨w7, hup, hM7, hK7⟩ := hMd.put x k (by unfold maxLen; omega) (by have := ldn_len L k; unfold maxLen; omega)
        rw [upd_same] at hup
        have hM7' : Mp w7 mb (upd A k tb) (ldn L (k + 1)) := by
          show Mp w7 mb (upd A k tb) ((ldn L k).put (L.getD k ([], [])).1 k)
          rw [getD_of hs]
          exact hM7
        have htbl : wr.heap.size ≤ tb := by have := HTB.out; omega
        have hst := hR.step k6d htd htbl (fun g hg => by
            rcases hl1 g hg with h | h
            · simp [Value.ownBlock] at h
            · omega) (fun g hg => by
            rcases hl2 g hg with h | h
            · have := HN4.out g h; omega
            · omega) hM7' hK7
        refine ⟨w7, hup, ⟨hK7.os, hK7.tape, hK7.output, hK7.size, fun i hi hni => hK7.block i hi (by simpa using hni)⟩, ⟨_, _, hst⟩, k6.cellOf (by rw [cell_of_row _ _ _ _ _ _ hR.cells]; rfl) (by simp), ?_, fun e => hpm e.symm, by omega⟩
        have c4 := HK4.out.cellOf HCX.out (by simp)
        have c5 := HK5.out.cellOf c4 (by simp)
        exact hKt.cellOf c5 (fun h => by have := hge _ h; simp at this))
      obtain ⟨w7, hup, hk7, hL7, cp, cx, hnp, hnl⟩ := HF.out
      have HQ := hide (show (∃ A o, Ldg w w7 p mb (ldc r mb) L (k + 1) A o) ∧ Kept [mb] (World.drew w6) w7 from ⟨hL7, hk7⟩)
      clear HF hk7 hL7 HMV HRR HCX HA HU4 HK4 HN4 HK5 hz5
      generalize wr.heap.size = lb at *
      refine wp_region_held_drew (S := fun w' => Kept [mb] w6 w') (by kernel_rfl) ((Kept.refl [mb] w6).drew) (fun h0 => ?_)
      generalize World.drew w6 = v0 at h0 hup HQ ⊢
      refine wpAnyH_take (i := 0) (v := .pointer (some ⟨p, 0, none⟩)) rfl (by kernel_rfl) (by kernel_rfl) (by kernel_rfl) (fun _ _ _ h => h) (Or.inl ⟨by rfl, fun w hSw => by go_simp⟩) h0 ?_
      try simp only [List.getElem_toArray, List.getElem_cons_zero, List.getElem_cons_succ, Act.put, List.setIfInBounds_toArray, List.set_cons_zero, List.set_cons_succ]
      refine wpAnyH_take (i := 1) (v := .pointer (some ⟨p, 0, none⟩)) rfl (by kernel_rfl) (by kernel_rfl) (by kernel_rfl) (fun _ _ _ h => h) (Or.inl ⟨by rfl, fun w hSw => by go_simp⟩) h0 ?_
      try simp only [List.getElem_toArray, List.getElem_cons_zero, List.getElem_cons_succ, Act.put, List.setIfInBounds_toArray, List.set_cons_zero, List.set_cons_succ]
      refine wpAnyH_take (i := 2) (v := .pointer (some ⟨p, 2, none⟩)) rfl (by kernel_rfl) (by kernel_rfl) (by kernel_rfl) (fun _ _ _ h => h) (Or.inl ⟨by rfl, fun w hSw => by go_simp⟩) h0 ?_
      try simp only [List.getElem_toArray, List.getElem_cons_zero, List.getElem_cons_succ, Act.put, List.setIfInBounds_toArray, List.set_cons_zero, List.set_cons_succ]
      refine wpAnyH_take (i := 3) (v := .pointer (some ⟨p, 4, none⟩)) rfl (by kernel_rfl) (by kernel_rfl) (by kernel_rfl) (fun _ _ _ h => h) (Or.inl ⟨by rfl, fun w hSw => by go_simp⟩) h0 ?_
      try simp only [List.getElem_toArray, List.getElem_cons_zero, List.getElem_cons_succ, Act.put, List.setIfInBounds_toArray, List.set_cons_zero, List.set_cons_succ]
      have hne := hnp
      refine wpAnyH_take (i := 4) (v := .map (some mb)) rfl (by kernel_rfl) (by kernel_rfl) (by kernel_rfl) (fun _ _ _ h => h) (Or.inl ⟨by rfl, fun w hSw => by have c := Kept.cellOf hSw cp (by simpa using hne); go_simp⟩) h0 ?_
      try simp only [List.getElem_toArray, List.getElem_cons_zero, List.getElem_cons_succ, Act.put, List.setIfInBounds_toArray, List.set_cons_zero, List.set_cons_succ]
      clear hne
      refine wpAnyH_take (i := 5) (v := .pointer (some ⟨lb, 0, none⟩)) rfl (by kernel_rfl) (by kernel_rfl) (by kernel_rfl) (fun _ _ _ h => h) (Or.inl ⟨by rfl, fun w hSw => by go_simp⟩) h0 ?_
      try simp only [List.getElem_toArray, List.getElem_cons_zero, List.getElem_cons_succ, Act.put, List.setIfInBounds_toArray, List.set_cons_zero, List.set_cons_succ]
      have hne := hnl
      refine wpAnyH_take (i := 6) (v := encStr x) rfl (by kernel_rfl) (by kernel_rfl) (by kernel_rfl) (fun _ _ _ h => h) (Or.inl ⟨by rfl, fun w hSw => by have c := Kept.cellOf hSw cx (by simpa using hne); go_simp⟩) h0 ?_
      try simp only [List.getElem_toArray, List.getElem_cons_zero, List.getElem_cons_succ, Act.put, List.setIfInBounds_toArray, List.set_cons_zero, List.set_cons_succ]
      clear hne
      refine wpAnyH_take (i := 7) (v := .pointer (some ⟨tb, 0, none⟩)) rfl (by kernel_rfl) (by kernel_rfl) (by kernel_rfl) (fun _ _ _ h => h) (Or.inl ⟨by rfl, fun w hSw => by go_simp⟩) h0 ?_
      try simp only [List.getElem_toArray, List.getElem_cons_zero, List.getElem_cons_succ, Act.put, List.setIfInBounds_toArray, List.set_cons_zero, List.set_cons_succ]
      refine wpAnyH_ready (rs := [8]) (by kernel_rfl) (by simp) (AllReadyH.cons (i := 8) rfl (fun K hK => ?_) AllReadyH.nil)
      rw [if_pos (by rfl)]
      go_simp
      refine hK.out _ _ (h0.trans HQ.out.2 (by simp)) (fun h1 => ?_)
      clear hK K
      try simp only [List.getElem_toArray, List.getElem_cons_zero, List.getElem_cons_succ, Act.put, List.setIfInBounds_toArray, List.set_cons_zero, List.set_cons_succ]
      refine wpAnyH_done (by kernel_rfl) ?_ _
      go_wp2
      go_roundw
      case rel => exact ⟨k + 1, by omega, by go_num, hide HQ.out.1⟩
      case measure => simp [intOf]; omega
    · have hkn : k = n := by omega
      subst hkn
      obtain ⟨A, o, hR⟩ := HR.out
      have hRn := hR
      rw [← HX.out] at hRn
      have hds := dirSync_ok p 2 mb 98 (ldc r mb) A (ldn L L.length) wr hRn.cells (by simp [ldc]) rfl hRn.map
      have HF : Hid (∀ w3, DirSynced wr w3 p 2 mb 98 (ldc r mb) A (ldn L L.length) → ∃ o', PD w3 p (Ds.load r.toNat L) A o' ∧ (∀ b, o' b ≠ 0 → w.heap.size ≤ b) ∧ Kept [] w w3) := hide (fun w3 h => hRn.done HR0.out HN.out h)
      clear hR hRn HR
      go_wp2_with (go_at_call 98; refine hds.mono ?_; rintro e w3 ⟨rfl, hS3⟩; have H3 := hide (HF.out w3 hS3); clear hS3 hds)
      go_ret2
      obtain ⟨o', q1, q2, q3⟩ := H3.out
      exact ⟨p, A, o', rfl, q1, q2, q3⟩
end

section
open Go.RowKit Dsk
set_option linter.unusedVariables false
set_option linter.unusedSimpArgs false

theorem Rowf.mono {w wr wr' : World} {v : Value} {L : List (By × By)} {vs : List Value} (h : Rowf w wr v L vs) (hk : Kept [] wr wr') : Rowf w wr' v L vs :=
  ⟨h.len, own_keeps h.row (Keep.ofNone (F := fun _ => False) hk) (fun _ _ h => h), h.sl, h.kept.trans hk (by simp)⟩
theorem Rowf.app2 {w wr : World} {fo : Option Addr} {m fc : Nat} {L : List (By × By)} {vs : List Value} {x d : By} {bo : Option Addr} {bc : Nat} (h : Rowf w wr (.slice fo m fc) L vs) (hm : m ≤ 1048576) (hs : Sl w bo d) :
    ∃ g c w5, (Builtin.append_ #[36, 36] 36 #[.slice fo m fc, .slice (some ⟨wr.heap.size, 0, none⟩) 1 1]).run Tryz.prog (wr.alloc (.cells #[encStr x, .slice bo d.length bc] 88)) = .ok (.slice (some ⟨g, 0, none⟩) (m + 1) c) w5 ∧ Rowf w w5 (.slice (some ⟨g, 0, none⟩) (m + 1) c) (L ++ [(x, d)]) (vs ++ [.slice bo d.length bc]) := by
  have hn : m = L.length := (h.fis (Kept.refl [] wr)).2
  have hr4 := ownsRow_base_a h.row (Nat.zero_le _)
  rw [← hn] at hr4
  obtain ⟨g, c, w', e1, e2, e3, e4, _⟩ := run_app (P := Tryz.prog) wr 36 36 88 Tryz.underlying36 Tryz.infoFile rfl (by decide) _ m _ hr4 [encStr x, .slice bo d.length bc] rfl (fun z hz => by simp only [List.mem_cons, List.not_mem_nil, or_false] at hz; rcases hz with rfl | rfl <;> rfl) (by unfold maxLen; omega) (by omega)
  refine ⟨g, c, w', e1, h.step (f := (x, d)) rfl hs (by rw [← hn]; exact e2) e3 (fun g' hg' => ?_)⟩
  simp only [Value.ownBlock, Option.some.injEq] at hg'
  subst hg'
  rcases e4 with e | e
  · exact .inl e.symm
  · exact .inr e
theorem total_mem {L : List (By × By)} {f : By × By} (h : f ∈ L) : f.2.length ≤ totalOf L := by
  unfold totalOf
  induction L with
  | nil => cases h
  | cons y r ih =>
    simp only [List.map_cons, List.sum_cons]
    rcases List.mem_cons.1 h with rfl | h
    · omega
    · have := ih h; omega
/-- A list of files that came in: it may begin in the midst of a block. -/
def Fio (w : World) (ao : Option Addr) (L : List (By × By)) : Prop := ∀ i, i < L.length → ∃ b off, ao = some ⟨b, off, none⟩ ∧ ∃ f : By × By, L[i]? = some f ∧ w.cell? ⟨b, off + i * 2, none⟩ = some (encStr f.1) ∧ ∃ bo bc, w.cell? ⟨b, off + i * 2 + 1, none⟩ = some (.slice bo f.2.length bc) ∧ Sl w bo f.2 ∧ (bo = none → f.2.length = 0 ∧ bc = 0)
/-- The files taken so far. -/
structure Tkn (w wr : World) (v : Value) (r : Int) (L : List (By × By)) (vs : List Value) : Prop where
  row : Rowf w wr v L vs
  nm : ∀ f ∈ L, isNm f.1 = true
  nd : (L.map (·.1)).Nodup
  tot : (totalOf L : Int) ≤ r
  nul : ∀ u ∈ vs, ∀ bo m bc, u = .slice bo m bc → bo = none → m = 0 ∧ bc = 0
theorem Tkn.mono {w wr wr' : World} {v : Value} {r : Int} {L : List (By × By)} {vs : List Value} (h : Tkn w wr v r L vs) (hk : Kept [] wr wr') : Tkn w wr' v r L vs := ⟨h.row.mono hk, h.nm, h.nd, h.tot, h.nul⟩
theorem Tkn.fiz {w wr : World} {ao : Option Addr} {n c : Nat} {r : Int} {L : List (By × By)} {vs : List Value} (h : Tkn w wr (.slice ao n c) r L vs) : Fiz wr ao L := by
  intro i b bo m bc hi ha hc hb
  have hv : i < vs.length := by rw [h.row.len]; exact hi
  obtain ⟨q1, q2⟩ := fcells_get L vs i _ _ h.row.len (List.getElem?_eq_getElem hi) (List.getElem?_eq_getElem hv)
  subst ha
  have := h.row.row.cells (g := b) rfl _ _ q2
  rw [add0, hc] at this
  injection this with this
  exact h.nul _ (List.getElem_mem hv) bo m bc this.symm hb
theorem Tkn.app {w wr : World} {fo : Option Addr} {m fc : Nat} {r : Int} {L : List (By × By)} {vs : List Value} {x d : By} {bo : Option Addr} {bc : Nat} (h : Tkn w wr (.slice fo m fc) r L vs) (hm : m ≤ 1048576) (hs : Sl w bo d) (hx : isNm x = true) (hf : L.find? (fun f => f.1 == x) = none) (ht : ((totalOf L + d.length : Nat) : Int) ≤ r) (hz : bo = none → d.length = 0 ∧ bc = 0) :
    ∃ g c w5, (Builtin.append_ #[36, 36] 36 #[.slice fo m fc, .slice (some ⟨wr.heap.size, 0, none⟩) 1 1]).run Tryz.prog (wr.alloc (.cells #[encStr x, .slice bo d.length bc] 88)) = .ok (.slice (some ⟨g, 0, none⟩) (m + 1) c) w5 ∧ Hid (∃ L' vs', Tkn w w5 (.slice (some ⟨g, 0, none⟩) (m + 1) c) r L' vs' ∧ totalOf L' = totalOf L + d.length) := by
  obtain ⟨g, c, w5, e1, e2⟩ := h.row.app2 (x := x) (d := d) (bo := bo) (bc := bc) hm hs
  have e3 : totalOf (L ++ [(x, d)]) = totalOf L + d.length := by simp [totalOf]
  refine ⟨g, c, w5, e1, hide ⟨_, _, ⟨e2, fun f hf => ?_, ?_, by rw [e3]; exact ht, fun u hu => ?_⟩, e3⟩⟩
  · rcases List.mem_append.1 hf with h1 | h1
    · exact h.nm f h1
    · simp only [List.mem_singleton] at h1; rw [h1]; exact hx
  · rw [List.map_append]
    refine List.nodup_append.2 ⟨h.nd, by simp, fun a ha b hb => ?_⟩
    simp only [List.map_cons, List.map_nil, List.mem_singleton] at hb
    subst hb
    rintro rfl
    obtain ⟨q, hq, e⟩ := List.mem_map.1 ha
    have := List.find?_eq_none.1 hf q hq
    simp [e] at this
  · rcases List.mem_append.1 hu with h1 | h1
    · exact h.nul u h1
    · simp only [List.mem_singleton] at h1
      subst h1
      intro bo' m' bc' e
      injection e with e1 e2 e3
      subst e1 e2 e3
      exact hz

set_option maxHeartbeats 3200000 in
set_option maxRecDepth 100000 in
theorem loaded_ok (r : Int) (ao : Option Addr) (n c : Nat) (L : List (By × By)) (w : World) (hx : L.length = n) (hn : n ≤ 4611686018427387900) (hr : 1 ≤ r ∧ r ≤ 1048576) (hM : ∀ f ∈ L, f.1.length ≤ 4611686018427387900 ∧ f.2.length ≤ 4611686018427387900) (h1 : Fio w ao L) :
    Calls Tryz.prog 13 #[.int .i64 r, .slice ao n c] w fun e w' => ∃ p A o S v vs B, e = .returned (.tuple #[.pointer (some ⟨p, 0, none⟩), v]) ∧ PD w' p S A o ∧ AllSafe S ∧ S.on = true ∧ S.strokes = 0 ∧ (S.room = r.toNat ∧ S.off = 0 ∧ S.from_ = 0 ∧ S.to = 0) ∧ S.Bd 1048576 ∧ (∀ b, o b ≠ 0 → w.heap.size ≤ b ∧ b < B) ∧ Fls w' B v S.files vs ∧ Kept [] w w' := by
  have HX := hide hx
  obtain ⟨hr1, hr2⟩ := hr
  have HM := hide hM
  have H1 := hide h1
  clear hx hM h1
  go_enter Tryz.func13, Tryz.ntmps13
  go_wp2
  go_loopw [6, 7, 8] (fun f u i wr => ∃ (k m : Nat) (fo : Option Addr) (fc t : Nat), k ≤ n ∧ k ≤ 20 ∧ i = .int .i64 k ∧ f = .slice fo m fc ∧ u = .int .i64 t ∧ m ≤ k ∧ (t : Int) ≤ r ∧ Hid (∃ Li vs, Tkn w wr (.slice fo m fc) r Li vs ∧ totalOf Li = t)) (fun f u i wr => n - (intOf i).toNat)
  case atStart => exact ⟨0, 0, none, 0, 0, Nat.zero_le _, by omega, rfl, rfl, rfl, Nat.le_refl _, by omega, hide ⟨[], [], ⟨Rowf.start w, by simp, List.nodup_nil, by simp [totalOf]; omega, by simp⟩, rfl⟩⟩
  case round =>
    obtain ⟨k, m, fo, fc, t, hk, hk20, rfl, rfl, rfl, hmk, ht, HTK⟩ := hrel
    by_cases hlt : k < n ∧ k < 20
    · obtain ⟨hlt, hl20⟩ := hlt
      obtain ⟨b1, off1, rfl, ⟨x, d⟩, hs, e1, bo1, bc1, e2, s1, hz0'⟩ := H1.out k (by rw [HX.out]; exact hlt)
      have hz0 := hide hz0'
      clear hz0'
      obtain ⟨Li, vs, hT, htot⟩ := HTK.out
      replace e1 := hT.row.kept.cellOf e1 (by simp)
      replace e2 := hT.row.kept.cellOf e2 (by simp)
      dsimp only at e1 e2 s1
      obtain ⟨hxl, hdl⟩ := HM.out _ (List.mem_of_getElem? hs)
      dsimp only at hxl hdl
      have hA : Kept [] wr (wr.alloc (.cells #[encStr x, .slice bo1 d.length bc1] 88)) := (Kept.refl [] wr).alloc _
      have hcx : (wr.alloc (.cells #[encStr x, .slice bo1 d.length bc1] 88)).cell? ⟨wr.heap.size, 0, none⟩ = some (encStr x) := by rw [cell_of_row _ _ _ _ _ _ (MapKept.heap_alloc wr _).1]; rfl
      have hcd : (wr.alloc (.cells #[encStr x, .slice bo1 d.length bc1] 88)).cell? ⟨wr.heap.size, 1, none⟩ = some (.slice bo1 d.length bc1) := by rw [cell_of_row _ _ _ _ _ _ (MapKept.heap_alloc wr _).1]; rfl
      have HT := hide (show Tkn w (wr.alloc (.cells #[encStr x, .slice bo1 d.length bc1] 88)) (.slice fo m fc) r Li vs ∧ totalOf Li = t ∧ Sl w bo1 d from ⟨hT.mono hA, htot, s1⟩)
      clear hT hs HTK hA htot s1
      go_upto_region 7 with (fail)
      generalize (wr.alloc (.cells #[encStr x, .slice bo1 d.length bc1] 88)) = wA at HT hcx hcd ⊢
      generalize wr.heap.size = lb at hcx hcd ⊢
      clear e1 e2
      have hin := risName_ok x wA (by omega)
      by_cases hnm : isNm x = true
      · rw [hnm] at hin
        by_cases hbig : r < (t : Int) + d.length
        · have HTK : Hid (∃ Li vs, Tkn w wA (.slice fo m fc) r Li vs ∧ totalOf Li = t) := hide ⟨Li, vs, HT.out.1, HT.out.2.1⟩
          clear HT hz0
          generalize d.length = z at *
          go_wp2_with (go_at_call 59; refine hin.mono ?_; rintro e w' ⟨rfl, hww⟩; obtain rfl := hww.symm; clear hin)
          go_roundw
          case rel => exact ⟨k + 1, m, fo, fc, t, by omega, by omega, by go_num, rfl, rfl, by omega, ht, HTK⟩
          case measure => simp [intOf]; omega
        · have hat := at_ok fo m fc Li x wA ((HT.out.1.row.fis (Kept.refl [] wA)).2.symm) (by omega) ((HT.out.1.row.fis (Kept.refl [] wA)).1)
          rcases fpos_find Li x 0 with ⟨hp, hfi⟩ | ⟨j, f, hp, hj, hfi, hfx⟩
          · rw [hp] at hat
            have HAP : Hid (∀ wB, Kept [] wA wB → ∃ g cc w5, (Builtin.append_ #[36, 36] 36 #[.slice fo m fc, .slice (some ⟨wB.heap.size, 0, none⟩) 1 1]).run Tryz.prog (wB.alloc (.cells #[encStr x, .slice bo1 d.length bc1] 88)) = .ok (.slice (some ⟨g, 0, none⟩) (m + 1) cc) w5 ∧ Hid (∃ L' vs', Tkn w w5 (.slice (some ⟨g, 0, none⟩) (m + 1) cc) r L' vs' ∧ totalOf L' = t + d.length)) := hide (fun wB hB => by
              have := (HT.out.1.mono hB).app (x := x) (d := d) (bo := bo1) (bc := bc1) (by omega) HT.out.2.2 hnm hfi (by rw [HT.out.2.1]; omega) hz0.out
              rw [HT.out.2.1] at this
              exact this)
            clear HT hz0 hfi hp hnm
            generalize d.length = z at *
            go_wp2_with (first
              | (go_at_call 59; refine hin.mono ?_; rintro e w' ⟨rfl, hww⟩; obtain rfl := hww.symm; clear hin)
              | (go_at_call 60; refine hat.mono ?_; rintro e wB ⟨rfl, jj, hwB⟩; have hkB : Kept [] wA wB := (by rw [hwB]; exact (Kept.refl [] wA).drewN _); have hcx2 := hkB.cellOf hcx (by simp); have hcd2 := hkB.cellOf hcd (by simp); obtain ⟨ga, gc, w5, hap, H5⟩ := HAP.out wB hkB; clear hat hwB hkB HAP hcx hcd)
              | (at_builtin; refine wpList_app_run rfl _ _ 36 36 rfl _ _ rfl rfl _ _ hap ?_))
            go_roundw
            case rel => exact ⟨k + 1, m + 1, _, _, t + z, by omega, by omega, by go_num, rfl, by go_num, by omega, by omega, H5⟩
            case measure => simp [intOf]; omega
          · rw [hp, Nat.zero_add] at hat
            have HTK : Hid (∀ wB, Kept [] wA wB → ∃ Li vs, Tkn w wB (.slice fo m fc) r Li vs ∧ totalOf Li = t) := hide (fun wB hB => ⟨Li, vs, HT.out.1.mono hB, HT.out.2.1⟩)
            clear HT hz0 hfi hp hj hfx
            generalize d.length = z at *
            go_wp2_with (first
              | (go_at_call 59; refine hin.mono ?_; rintro e w' ⟨rfl, hww⟩; obtain rfl := hww.symm; clear hin)
              | (go_at_call 60; refine hat.mono ?_; rintro e wB ⟨rfl, jj, hwB⟩; have HKB : Hid (Kept [] wA wB) := hide (by rw [hwB]; exact (Kept.refl [] wA).drewN _); clear hat hwB))
            go_roundw
            case rel => exact ⟨k + 1, m, fo, fc, t, by omega, by omega, by go_num, rfl, rfl, by omega, ht, hide (HTK.out _ HKB.out)⟩
            case measure => simp [intOf]; omega
      · have hnf : isNm x = false := by simpa using hnm
        rw [hnf] at hin
        have HTK : Hid (∃ Li vs, Tkn w wA (.slice fo m fc) r Li vs ∧ totalOf Li = t) := hide ⟨Li, vs, HT.out.1, HT.out.2.1⟩
        clear HT hz0 hnm hnf
        generalize d.length = z at *
        go_wp2_with (go_at_call 59; refine hin.mono ?_; rintro e w' ⟨rfl, hww⟩; obtain rfl := hww.symm; clear hin)
        go_roundw
        case rel => exact ⟨k + 1, m, fo, fc, t, by omega, by omega, by go_num, rfl, rfl, by omega, ht, HTK⟩
        case measure => simp [intOf]; omega
    · obtain ⟨Li, vs, hT, htot⟩ := HTK.out
      obtain ⟨q1, q2⟩ := hT.row.fis (Kept.refl [] wr)
      have hld := load_fine r fo m fc Li wr q2.symm (by omega) ⟨hr1, hr2⟩ hT.nm hT.nd hT.tot (fun f hf => by have := total_mem hf; have := hT.tot; omega) q1 hT.fiz
      have HB : Hid ((Ds.load r.toNat Li).Bd 1048576) := hide (Bd.load (by omega) (fun f hf => by have := total_mem hf; have := hT.tot; omega))
      have HK0 := hide hT.row.kept
      have hcond : (k : Int) < n → ¬ (k : Int) < 20 := fun h1 h2 => hlt ⟨by omega, by omega⟩
      clear hT q1 q2 HTK htot
      have hb : (k < n ∧ ¬ k < 20) ∨ ¬ k < n := by omega
      rcases hb with ⟨hb1, hb2⟩ | hb1
      all_goals
        clear hcond
        go_upto_region 11 with (go_at_call 61; refine hld.mono ?_; rintro e w3 ⟨p, A, o, rfl, hPD, hnew, hk3⟩; have HP := hide hPD; have HW := hide hnew; have HK3 := hide hk3; clear hld hPD hnew hk3)
        have hfi := files_ok HP.out HB.out (by omega)
        go_wp2_with (go_at_call 17; refine hfi.mono ?_; rintro e w4 ⟨v, vs4, rfl, hF, hk4⟩; have HF := hide hF; have HK4 := hide hk4; clear hfi hF hk4)
        go_ret2
        refine ⟨p, A, o, Ds.load r.toNat Li, _, vs4, w3.heap.size, rfl, HP.out.keep (Keep.ofNone (F := fun _ => False) HK4.out) (fun _ _ h => h), AllSafe.load _ _, rfl, rfl, ⟨rfl, rfl, rfl, rfl⟩, HB.out, fun b hb => ⟨Nat.le_trans HK0.out.size (HW.out b hb), ?_⟩, HF.out, (HK0.out.trans HK3.out (by simp)).trans HK4.out (by simp)⟩
        obtain ⟨_, _, _, _, hx⟩ := HP.out
        exact hx.lim b hb
end

end Go.Proofs.YtemlbmamcbmnjaaGreatDoor
