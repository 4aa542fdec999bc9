/-
  DiskWhole, as mathematics: the names that are shown with the units of their things, step by step; a crash that leaves all.
-/
import Derived.Test.YtllfkfncgalpaaaIgp
import Derived.Test.YtllfkfncgalpaaaFap
namespace Go.Proofs.Ytllfkfncgalpaaa
open Go.RowKit Dsk
set_option linter.unusedVariables false
set_option linter.unusedSimpArgs false
namespace Dsk
open _root_.Go.Proofs.Ytllfkfncgalpaaa.Dsk.Ds
def Nm.bump (H : Nm) (n : By) (f : Nat → Nat) : Nm := H.map (fun x => if x.1 = n then (x.1, f x.2) else x)
theorem Nm.bump_keys (H : Nm) (n : By) (f : Nat → Nat) : (H.bump n f).map (·.1) = H.map (·.1) := by
  simp only [Nm.bump, List.map_map]
  apply List.map_congr_left
  intro x _
  simp only [Function.comp_apply]
  split <;> rfl
theorem Nm.mem_bump {H : Nm} {n n' : By} {f : Nat → Nat} {u' : Nat} : (n', u') ∈ H.bump n f ↔ ∃ u, (n', u) ∈ H ∧ u' = if n' = n then f u else u := by
  simp only [Nm.bump, List.mem_map]
  constructor
  · rintro ⟨⟨a, u⟩, ha, he⟩
    by_cases h : a = n
    · rw [if_pos h] at he
      injection he with h1 h2
      subst h1
      exact ⟨u, ha, by rw [if_pos h, h2]⟩
    · rw [if_neg h] at he
      injection he with h1 h2
      subst h1
      exact ⟨u, ha, by rw [if_neg h, h2]⟩
  · rintro ⟨u, hu, he⟩
    refine ⟨(n', u), hu, ?_⟩
    by_cases h : n' = n
    · rw [if_pos h] at he
      rw [if_pos h, he]
    · rw [if_neg h] at he
      rw [if_neg h, he]
theorem Nm.bump_id (H : Nm) (n : By) (f : Nat → Nat) (hf : ∀ u, f u = u) : H.bump n f = H := by
  simp only [Nm.bump, hf]
  simp

/-- The names that are shown, each with the units of its thing; how many changes of names there were. -/
structure Whl (S : Ds) (H : Nm) (t : Nat) : Prop where
  turns : t = S.row.length
  nodup : (H.map (·.1)).Nodup
  mem : ∀ n u, (n, u) ∈ H ↔ ∃ k, (n, k) ∈ S.shown ∧ u = unitsOf (S.th k).row
theorem up_keys {l : Nm} (h : l.Up) : (l.map (·.1)).Nodup := by
  induction l with
  | nil => simp
  | cons x r ih =>
    have h' := List.pairwise_cons.1 h
    simp only [List.map_cons, List.nodup_cons, List.mem_map, not_exists, not_and]
    refine ⟨fun y hy e => ?_, ih h'.2⟩
    have := h'.1 y hy
    rw [e, before_irrefl] at this
    cases this
theorem Whl.len {S : Ds} {H : Nm} {t : Nat} (h : Whl S H t) (hw : S.Wf) : H.length = S.shown.length := by
  have hp : (H.map (·.1)).Perm (S.shown.map (·.1)) := by
    rw [List.perm_ext_iff_of_nodup h.nodup (up_keys hw.sup)]
    intro n
    simp only [List.mem_map]
    constructor
    · rintro ⟨⟨a, u⟩, ha, rfl⟩
      obtain ⟨k, hk, _⟩ := (h.mem a u).1 ha
      exact ⟨_, hk, rfl⟩
    · rintro ⟨⟨a, k⟩, ha, rfl⟩
      exact ⟨(a, _), (h.mem a _).2 ⟨k, ha, rfl⟩, rfl⟩
  have := hp.length_eq
  simpa using this
theorem nodup_uniq {H : Nm} (h : (H.map (·.1)).Nodup) {n : By} {u v : Nat} (hu : (n, u) ∈ H) (hv : (n, v) ∈ H) : u = v := by
  induction H with
  | nil => simp at hu
  | cons x r ih =>
    simp only [List.map_cons, List.nodup_cons, List.mem_map, not_exists, not_and] at h
    rcases List.mem_cons.1 hu with e | hu <;> rcases List.mem_cons.1 hv with e2 | hv
    · rw [← e] at e2; injection e2 with _ e2; exact e2.symm
    · exact absurd (by rw [← e]) (h.1 _ hv)
    · exact absurd (by rw [← e2]) (h.1 _ hu)
    · exact ih h.2 hu hv
theorem get_nodup {H : Nm} (h : (H.map (·.1)).Nodup) {n : By} {u : Nat} : H.get n = some u ↔ (n, u) ∈ H := by
  constructor
  · intro hg
    simp only [Nm.get, Option.map_eq_some_iff] at hg
    obtain ⟨p, hp, rfl⟩ := hg
    have h1 := List.mem_of_find?_eq_some hp
    have h2 := List.find?_some hp
    simp only [beq_iff_eq] at h2
    rw [← h2]
    exact h1
  · intro hm
    cases hf : H.find? (fun p => p.1 == n) with
    | none => have := List.find?_eq_none.1 hf _ hm; simp at this
    | some p =>
      have h1 := List.mem_of_find?_eq_some hf
      have h2 := List.find?_some hf
      simp only [beq_iff_eq] at h2
      simp only [Nm.get, hf, Option.map_some, Option.some.injEq]
      exact nodup_uniq h (n := n) (by rw [← h2]; exact h1) hm
theorem del_keys {H : Nm} (h : (H.map (·.1)).Nodup) (n : By) : ((H.del n).map (·.1)).Nodup := h.sublist (List.filter_sublist.map _)
section
variable {S : Ds} {H : Nm} {t : Nat}
theorem Whl.get (h : Whl S H t) {n : By} {k : Nat} (hk : (n, k) ∈ S.shown) : H.get n = some (unitsOf (S.th k).row) := (get_nodup h.nodup).2 ((h.mem n _).2 ⟨k, hk, rfl⟩)
theorem Whl.tick (h : Whl S H t) : Whl S.tick H t := ⟨h.turns, h.nodup, h.mem⟩
theorem Whl.create (h : Whl S H t) (hw : S.Wf) {n : By} (hn : S.shown.get n = none) : Whl (({ S.tick with th := upd S.th S.nx Th.new, nx := S.nx + 1 } : Ds).addName (.mk n S.nx)) (H ++ [(n, 0)]) (t + 1) := by
  have hn' := Nm.get_none.1 hn
  refine ⟨by simp [addName, Ds.tick, h.turns], ?_, fun n' u => ?_⟩
  · rw [List.map_append, List.nodup_append]
    refine ⟨h.nodup, by simp, ?_⟩
    simp only [List.map_cons, List.map_nil, List.mem_singleton, List.mem_map]
    rintro a ⟨⟨b, u⟩, hb, rfl⟩ c rfl e
    obtain ⟨k, hk, _⟩ := (h.mem b u).1 hb
    exact hn' _ hk e
  · show _ ↔ ∃ k, (n', k) ∈ S.shown.put n S.nx ∧ u = unitsOf (upd S.th S.nx Th.new k).row
    simp only [List.mem_append, List.mem_singleton, Nm.mem_put, h.mem]
    constructor
    · rintro (⟨k, hk, rfl⟩ | e)
      · have hkl := hw.slt hk
        exact ⟨k, .inr ⟨hk, hn' _ hk⟩, by rw [upd_other _ _ (by omega)]⟩
      · injection e with e1 e2
        subst e1; subst e2
        exact ⟨S.nx, .inl rfl, by rw [upd_same]; rfl⟩
    · rintro ⟨k, e | ⟨hk, _⟩, rfl⟩
      · injection e with e1 e2
        subst e1; subst e2
        exact .inr (by rw [upd_same]; rfl)
      · have hkl := hw.slt hk
        exact .inl ⟨k, hk, by rw [upd_other _ _ (by omega)]⟩
theorem Whl.upd (h : Whl S H t) (hw : S.Wf) {n : By} {k : Nat} (hk : (n, k) ∈ S.shown) (x : Th) (f : Nat → Nat) (hx : unitsOf x.row = f (unitsOf (S.th k).row)) (S' : Ds) (h1 : S'.row = S.row) (h2 : S'.shown = S.shown) (h3 : S'.th = Dsk.upd S.th k x) : Whl S' (H.bump n f) t := by
  refine ⟨by rw [h1]; exact h.turns, by rw [Nm.bump_keys]; exact h.nodup, fun n' u' => ?_⟩
  rw [Nm.mem_bump, h2, h3]
  constructor
  · rintro ⟨u, hu, rfl⟩
    obtain ⟨k', hk', rfl⟩ := (h.mem n' u).1 hu
    refine ⟨k', hk', ?_⟩
    by_cases e : n' = n
    · subst e
      have := hw.sup.uniq hk hk'
      subst this
      rw [if_pos rfl, upd_same, hx]
    · rw [if_neg e, upd_other]
      intro e2
      subst e2
      exact e (ids_inj hw.sids hk' hk)
  · rintro ⟨k', hk', rfl⟩
    refine ⟨_, (h.mem n' _).2 ⟨k', hk', rfl⟩, ?_⟩
    by_cases e : n' = n
    · subst e
      have := hw.sup.uniq hk hk'
      subst this
      rw [if_pos rfl, upd_same, hx]
    · rw [if_neg e, upd_other]
      intro e2
      subst e2
      exact e (ids_inj hw.sids hk' hk)
where
  ids_inj {l : Nm} (h : l.ids.Nodup) {a b : By} {k : Nat} (ha : (a, k) ∈ l) (hb : (b, k) ∈ l) : a = b := by
    induction l with
    | nil => simp at ha
    | cons x r ih =>
      simp only [Nm.ids, List.map_cons, List.nodup_cons, List.mem_map, not_exists, not_and] at h
      rcases List.mem_cons.1 ha with e | ha <;> rcases List.mem_cons.1 hb with e2 | hb
      · rw [← e] at e2; injection e2 with e2 _; exact e2.symm
      · exact absurd (by rw [← e]) (h.1 _ hb)
      · exact absurd (by rw [← e2]) (h.1 _ ha)
      · exact ih h.2 ha hb
theorem Whl.rename (h : Whl S H t) (hw : S.Wf) {f g : By} {k : Nat} (hk : (f, k) ∈ S.shown) (hne : f ≠ g) : Whl (S.tick.addName (.gv f g)) ((H.del f).del g ++ [(g, unitsOf (S.th k).row)]) (t + 1) := by
  have hg := (Nm.get_some hw.sup).2 hk
  have hsh : (S.tick.addName (.gv f g)).shown = (S.shown.put g k).del f := by
    show (Nc.gv f g).apply S.shown = _
    simp only [Nc.apply, hg]
  refine ⟨by simp [addName, Ds.tick, h.turns], ?_, fun n u => ?_⟩
  · rw [List.map_append, List.nodup_append]
    refine ⟨del_keys (del_keys h.nodup _) _, by simp, ?_⟩
    simp only [List.map_cons, List.map_nil, List.mem_singleton, List.mem_map]
    rintro a ⟨b, hb, rfl⟩ c rfl e
    exact (Nm.mem_del.1 hb).2 e
  · rw [hsh]
    show _ ↔ ∃ k', (n, k') ∈ (S.shown.put g k).del f ∧ u = unitsOf (S.th k').row
    simp only [List.mem_append, List.mem_singleton, Nm.mem_del, Nm.mem_put, h.mem]
    constructor
    · rintro (⟨⟨⟨k', hk', rfl⟩, h1⟩, h2⟩ | e)
      · exact ⟨k', ⟨.inr ⟨hk', h2⟩, h1⟩, rfl⟩
      · injection e with e1 e2
        subst e1; subst e2
        exact ⟨k, ⟨.inl rfl, fun e => hne e.symm⟩, rfl⟩
    · rintro ⟨k', ⟨e | ⟨hk', h2⟩, h1⟩, rfl⟩
      · injection e with e1 e2
        subst e1; subst e2
        exact .inr rfl
      · exact .inl ⟨⟨⟨k', hk', rfl⟩, h1⟩, h2⟩
theorem Whl.remove (h : Whl S H t) (n : By) : Whl (S.tick.addName (.tk n)) (H.del n) (t + 1) := by
  refine ⟨by simp [addName, Ds.tick, h.turns], del_keys h.nodup n, fun n' u => ?_⟩
  show _ ↔ ∃ k', (n', k') ∈ S.shown.del n ∧ u = unitsOf (S.th k').row
  simp only [Nm.mem_del, h.mem]
  constructor
  · rintro ⟨⟨k, hk, rfl⟩, h1⟩
    exact ⟨k, ⟨hk, h1⟩, rfl⟩
  · rintro ⟨k, ⟨hk, h1⟩, rfl⟩
    exact ⟨⟨k, hk, rfl⟩, h1⟩
end
theorem whl_fresh (room : Nat) : Whl (Ds.fresh room) [] 0 := ⟨rfl, by simp, fun n u => by simp [Ds.fresh]⟩
/-- Behind a crash. -/
def zeroH (L : List (By × By)) : Nm := L.map (fun x => (x.1, 0))
theorem whl_crash {S : Ds} (hw : S.Wf) (ps : List Int) : Whl (S.crash ps) (zeroH (S.crash ps).files) 0 := by
  have hw' := hw.crash ps
  refine ⟨rfl, ?_, fun n u => ?_⟩
  · have : (zeroH (S.crash ps).files).map (·.1) = (S.crash ps).shown.map (·.1) := by simp [zeroH, Ds.files, Function.comp_def]
    rw [this]
    exact up_keys hw'.sup
  · simp only [zeroH, Ds.files, List.map_map, List.mem_map, Function.comp_apply]
    constructor
    · rintro ⟨⟨a, k⟩, ha, e⟩
      injection e with e1 e2
      subst e1; subst e2
      exact ⟨k, ha, by rw [((crash_allSafe S ps).th _ ha).1]; rfl⟩
    · rintro ⟨k, hk, rfl⟩
      exact ⟨(n, k), hk, by rw [((crash_allSafe S ps).th _ hk).1]; rfl⟩

/-- What the statement writes down of a call that has done what it does. -/
def madeH (s : Stp) (H : Nm) (t : Nat) : Nm × Nat :=
  if s.kind = 1 then (H ++ [(s.name, 0)], t + 1) else
  if s.kind = 2 ∨ s.kind = 3 then (H.bump s.name (· + s.dn), t) else
  if s.kind = 4 then (H.bump s.name (· + 1), t) else
  if s.kind = 5 then (match H.get s.name with | some u => if s.name = s.to then (H, t) else ((H.del s.name).del s.to ++ [(s.to, u)], t + 1) | none => (H, t)) else
  if s.kind = 6 then (H.del s.name, t + 1) else
  if s.kind = 7 then (H.bump s.name (fun _ => 0), t) else
  if s.kind = 8 then (H, 0) else (H, t)

/-- A step seen from what the statement asks of it. -/
inductive Whd (S : Ds) (s : Stp) (H : Nm) (t : Nat) (f : Int) (S' : Ds) : Prop
  | same (a : ¬ (f = 50 ∧ S.on = true ∧ S'.on = false)) (b : ¬ (f = 0 ∧ 1 ≤ s.kind ∧ s.kind ≤ 8)) (h : Whl S' H t)
  | done (k : 1 ≤ s.kind ∧ s.kind ≤ 8) (e : f = 0) (h : Whl S' (madeH s H t).1 (madeH s H t).2)
  | outMade (k : 1 ≤ s.kind ∧ s.kind ≤ 6) (e : f = 50) (o : S.on = true) (o' : S'.on = false) (c : s.kind = 1 → S.files.length < S'.files.length) (h : Whl S' (madeH s H t).1 (madeH s H t).2)
  | outNot (k : s.kind = 1 ∨ s.kind = 7 ∨ s.kind = 8) (e : f = 50) (o : S.on = true) (o' : S'.on = false) (c : s.kind = 1 → ¬ S.files.length < S'.files.length) (h : Whl S' H t)
  | outSame (k : s.kind = 2 ∨ s.kind = 3) (e : f = 50) (o : S.on = true) (o' : S'.on = false) (d : 0 < s.dn) (c : S'.files = S.files)
theorem whd_write {S : Ds} {H : Nm} {t : Nat} (hw : S.Wf) (h : Whl S H t) (s : Stp) (hd : s.ds.length = s.dn) (hk : s.kind = 2 ∨ s.kind = 3) (hon : S.on = true) {k a : Nat} (hm : (s.name, k) ∈ S.shown) : Whd S s H t (S.write k a s.ds).1 (S.write k a s.ds).2 := by
  have hmade : madeH s H t = (H.bump s.name (· + s.dn), t) := by
    unfold madeH
    rw [if_neg (by omega), if_pos hk]
  unfold Ds.write
  by_cases hf : S.full ((a : Int) + s.ds.length - (S.th k).shown.length) = true
  · rw [if_pos hf]
    by_cases hg : S.goesOff = true
    · have e : S.ans 55 = 50 := by simp [Ds.ans, hg]
      by_cases h0 : s.dn = 0
      · refine .outMade (by omega) e hon (tick_on hon hg) (by omega) ?_
        rw [hmade]
        show Whl S.tick (H.bump s.name (· + s.dn)) t
        rw [Nm.bump_id _ _ _ (by intro u; show u + s.dn = u; omega)]
        exact h.tick
      · exact .outSame hk e hon (tick_on hon hg) (by omega) rfl
    · simp only [Bool.not_eq_true] at hg
      have e : S.ans 55 = 55 := by simp [Ds.ans, hg]
      exact .same (by rintro ⟨e1, _⟩; rw [e] at e1; omega) (by rintro ⟨e1, _⟩; rw [e] at e1; omega) h.tick
  · rw [if_neg hf]
    have hW : Whl (S.tick.addByte k (.wr a s.ds)) (H.bump s.name (· + s.dn)) t := h.upd hw hm ((S.th k).change (.wr a s.ds)) _ (by show unitsOf ((S.th k).row ++ [_]) = _; rw [unitsOf_snoc]; show _ + s.ds.length = _; rw [hd]) _ rfl rfl rfl
    by_cases hg : S.goesOff = true
    · exact .outMade (by omega) (by simp [Ds.ans, hg]) hon (tick_on hon hg) (by omega) (by rw [hmade]; exact hW)
    · simp only [Bool.not_eq_true] at hg
      exact .done (by omega) (by simp [Ds.ans, hg]) (by rw [hmade]; exact hW)
theorem whd_crash {S : Ds} (hw : S.Wf) (s : Stp) (h12 : s.kind = 12) : (stepD S s).1 = 0 ∧ Whl (stepD S s).2 (zeroH (stepD S s).2.files) 0 := by
  have e : stepD S s = (0, S.crash s.ps) := by simp [stepD, h12]
  rw [e]
  exact ⟨rfl, whl_crash hw s.ps⟩
theorem whd_ok {S : Ds} {H : Nm} {t : Nat} (hw : S.Wf) (h : Whl S H t) (s : Stp) (hd : s.ds.length = s.dn) (k12 : s.kind ≠ 12) : Whd S s H t (stepD S s).1 (stepD S s).2 := by
  have hno : ∀ n, s.kind ≠ 12 → (S.find n).1 ≠ 0 → Whd S s H t (S.find n).1 S := fun n hK h0 => by
    refine .same ?_ ?_ h
    · rintro ⟨_, h1, h2⟩; rw [h1] at h2; cases h2
    · rintro ⟨h1, _⟩; exact h0 h1
  have hno2 : ∀ e : Int, s.kind ≠ 12 → e ≠ 0 → Whd S s H t e S := fun e hK h0 => by
    refine .same ?_ ?_ h
    · rintro ⟨_, h1, h2⟩; rw [h1] at h2; cases h2
    · rintro ⟨h1, _⟩; exact h0 h1
  unfold stepD
  by_cases k1 : s.kind = 1
  · rw [if_pos k1]
    have hmade : madeH s H t = (H ++ [(s.name, 0)], t + 1) := by unfold madeH; rw [if_pos k1]
    unfold Ds.create
    by_cases h0 : (S.find s.name).1 = 0
    · rw [if_pos h0]
      exact hno2 52 (by omega) (by omega)
    · rw [if_neg h0]
      by_cases h53 : (S.find s.name).1 = 53
      · rw [if_neg (by omega)]
        obtain ⟨hon, _, hnone⟩ := find_none h53
        by_cases hr : S.refusedCreate = 0
        · rw [if_pos hr]
          have hW := h.create hw hnone
          have hl : S.files.length < (({ S.tick with th := upd S.th S.nx Th.new, nx := S.nx + 1 } : Ds).addName (.mk s.name S.nx)).files.length := by
            show S.files.length < List.length (List.map _ (S.shown.put s.name S.nx))
            rw [List.length_map, Nm.put, Nm.ins_length, Nm.del_none (Nm.get_none.1 hnone)]
            simp [Ds.files]
          by_cases hg : S.goesOff = true
          · exact .outMade (by omega) (by simp [Ds.ans, hg]) hon (tick_on hon hg) (fun _ => hl) (by rw [hmade]; exact hW)
          · simp only [Bool.not_eq_true] at hg
            exact .done (by omega) (by simp [Ds.ans, hg]) (by rw [hmade]; exact hW)
        · rw [if_neg hr]
          by_cases hg : S.goesOff = true
          · exact .outNot (by omega) (by simp [Ds.ans, hg]) hon (tick_on hon hg) (fun _ => Nat.lt_irrefl _) h.tick
          · simp only [Bool.not_eq_true] at hg
            have e : S.ans S.refusedCreate = S.refusedCreate := by simp [Ds.ans, hg]
            refine .same ?_ ?_ h.tick
            · rintro ⟨_, h1, h2⟩
              have : S.tick.on = true := by simp [Ds.tick, hon, hg]
              rw [this] at h2; cases h2
            · rintro ⟨h1, _⟩
              rw [e] at h1
              exact hr h1
      · rw [if_pos h53]
        exact hno s.name (by omega) h0
  rw [if_neg k1]
  by_cases k2 : s.kind = 2
  · rw [if_pos k2]
    unfold Ds.writeAt
    by_cases h0 : (S.find s.name).1 = 0
    · rw [if_neg (by omega)]
      obtain ⟨hon, _, hm, _⟩ := Ds.find_ok hw h0
      by_cases h1 : s.at_ < 0 ∨ ((S.th (S.find s.name).2).shown.length : Int) < s.at_
      · rw [if_pos h1]
        exact hno2 54 (by omega) (by omega)
      · rw [if_neg h1]
        exact whd_write hw h s hd (.inl k2) hon hm
    · rw [if_pos h0]
      exact hno s.name (by omega) h0
  rw [if_neg k2]
  by_cases k3 : s.kind = 3
  · rw [if_pos k3]
    unfold Ds.append
    by_cases h0 : (S.find s.name).1 = 0
    · rw [if_neg (by omega)]
      obtain ⟨hon, _, hm, _⟩ := Ds.find_ok hw h0
      exact whd_write hw h s hd (.inr k3) hon hm
    · rw [if_pos h0]
      exact hno s.name (by omega) h0
  rw [if_neg k3]
  by_cases k4 : s.kind = 4
  · rw [if_pos k4]
    have hmade : madeH s H t = (H.bump s.name (· + 1), t) := by unfold madeH; rw [if_neg k1, if_neg (by omega), if_pos k4]
    unfold Ds.truncate
    by_cases h0 : (S.find s.name).1 = 0
    · rw [if_neg (by omega)]
      obtain ⟨hon, _, hm, _⟩ := Ds.find_ok hw h0
      by_cases h1 : s.n < 0 ∨ ((S.th (S.find s.name).2).shown.length : Int) < s.n
      · rw [if_pos h1]
        exact hno2 54 (by omega) (by omega)
      · rw [if_neg h1]
        have hW : Whl (S.tick.addByte (S.find s.name).2 (.cut s.n.toNat)) (H.bump s.name (· + 1)) t := h.upd hw hm ((S.th (S.find s.name).2).change (.cut s.n.toNat)) _ (by show unitsOf ((S.th _).row ++ [_]) = _; rw [unitsOf_snoc]; rfl) _ rfl rfl rfl
        by_cases hg : S.goesOff = true
        · exact .outMade (by omega) (by simp [Ds.ans, hg]) hon (tick_on hon hg) (by omega) (by rw [hmade]; exact hW)
        · simp only [Bool.not_eq_true] at hg
          exact .done (by omega) (by simp [Ds.ans, hg]) (by rw [hmade]; exact hW)
    · rw [if_pos h0]
      exact hno s.name (by omega) h0
  rw [if_neg k4]
  by_cases k5 : s.kind = 5
  · rw [if_pos k5]
    unfold Ds.rename
    by_cases hon : S.on = true
    · rw [if_pos hon]
      by_cases ht : isNm s.to = true
      · rw [if_pos ht]
        by_cases h0 : (S.find s.name).1 = 0
        · rw [if_neg (by omega)]
          obtain ⟨_, _, hm, _⟩ := Ds.find_ok hw h0
          have hg := h.get hm
          by_cases hq : s.name = s.to
          · rw [if_pos hq]
            have hmade : madeH s H t = (H, t) := by unfold madeH; rw [if_neg k1, if_neg (by omega), if_neg k4, if_pos k5, hg]; simp only [if_pos hq]
            by_cases hg : S.goesOff = true
            · exact .outMade (by omega) (by simp [Ds.ans, hg]) hon (tick_on hon hg) (by omega) (by rw [hmade]; exact h.tick)
            · simp only [Bool.not_eq_true] at hg
              exact .done (by omega) (by simp [Ds.ans, hg]) (by rw [hmade]; exact h.tick)
          · rw [if_neg hq]
            have hmade : madeH s H t = ((H.del s.name).del s.to ++ [(s.to, unitsOf (S.th (S.find s.name).2).row)], t + 1) := by unfold madeH; rw [if_neg k1, if_neg (by omega), if_neg k4, if_pos k5, hg]; simp only [if_neg hq]
            have hW := h.rename hw hm hq
            by_cases hg : S.goesOff = true
            · exact .outMade (by omega) (by simp [Ds.ans, hg]) hon (tick_on hon hg) (by omega) (by rw [hmade]; exact hW)
            · simp only [Bool.not_eq_true] at hg
              exact .done (by omega) (by simp [Ds.ans, hg]) (by rw [hmade]; exact hW)
        · rw [if_pos h0]
          exact hno s.name (by omega) h0
      · rw [if_neg ht]
        exact hno2 51 (by omega) (by omega)
    · rw [if_neg hon]
      exact hno2 50 (by omega) (by omega)
  rw [if_neg k5]
  by_cases k6 : s.kind = 6
  · rw [if_pos k6]
    have hmade : madeH s H t = (H.del s.name, t + 1) := by unfold madeH; rw [if_neg k1, if_neg (by omega), if_neg k4, if_neg k5, if_pos k6]
    unfold Ds.remove
    by_cases h0 : (S.find s.name).1 = 0
    · rw [if_neg (by omega)]
      obtain ⟨hon, _, hm, _⟩ := Ds.find_ok hw h0
      have hW := h.remove s.name
      by_cases hg : S.goesOff = true
      · exact .outMade (by omega) (by simp [Ds.ans, hg]) hon (tick_on hon hg) (by omega) (by rw [hmade]; exact hW)
      · simp only [Bool.not_eq_true] at hg
        exact .done (by omega) (by simp [Ds.ans, hg]) (by rw [hmade]; exact hW)
    · rw [if_pos h0]
      exact hno s.name (by omega) h0
  rw [if_neg k6]
  by_cases k7 : s.kind = 7
  · rw [if_pos k7]
    have hmade : madeH s H t = (H.bump s.name (fun _ => 0), t) := by unfold madeH; rw [if_neg k1, if_neg (by omega), if_neg k4, if_neg k5, if_neg k6, if_pos k7]
    unfold Ds.sync
    by_cases h0 : (S.find s.name).1 = 0
    · rw [if_neg (by omega)]
      obtain ⟨hon, _, hm, _⟩ := Ds.find_ok hw h0
      by_cases hg : S.goesOff = true
      · rw [if_pos hg]
        exact .outNot (by omega) rfl hon (tick_on hon hg) (by omega) h.tick
      · rw [if_neg hg]
        exact .done (by omega) rfl (by rw [hmade]; refine h.upd hw hm (S.th (S.find s.name).2).sync (fun _ => 0) rfl _ ?_ ?_ ?_ <;> rfl)
    · rw [if_pos h0]
      exact hno s.name (by omega) h0
  rw [if_neg k7]
  by_cases k8 : s.kind = 8
  · rw [if_pos k8]
    have hmade : madeH s H t = (H, 0) := by unfold madeH; rw [if_neg k1, if_neg (by omega), if_neg k4, if_neg k5, if_neg k6, if_neg k7, if_pos k8]
    unfold Ds.syncNames
    by_cases hon : S.on = true
    · rw [if_pos hon]
      by_cases hg : S.goesOff = true
      · rw [if_pos hg]
        exact .outNot (by omega) rfl hon (tick_on hon hg) (by omega) h.tick
      · rw [if_neg hg]
        exact .done (by omega) rfl (by rw [hmade]; exact ⟨rfl, h.nodup, h.mem⟩)
    · rw [if_neg hon]
      exact hno2 50 (by omega) (by omega)
  rw [if_neg k8]
  have hsame : ∀ (e : Int) (S' : Ds), s.kind ≠ 12 → S'.on = S.on → Whl S' H t → ¬ (1 ≤ s.kind ∧ s.kind ≤ 8) → Whd S s H t e S' := fun e S' hK ho hW hk => by
    refine .same ?_ ?_ hW
    · rintro ⟨_, h1, h2⟩; rw [ho, h1] at h2; cases h2
    · rintro ⟨_, h1⟩; exact hk h1
  by_cases k9 : s.kind = 9
  · rw [if_pos k9]
    refine hsame _ _ (by omega) ?_ ?_ (by omega)
    · show (S.read s.name s.at_ s.n).on = S.on
      unfold Ds.read; split <;> rfl
    · show Whl (S.read s.name s.at_ s.n) H t
      unfold Ds.read; split
      · exact ⟨h.turns, h.nodup, h.mem⟩
      · exact h
  rw [if_neg k9]
  by_cases k10 : s.kind = 10
  · rw [if_pos k10]
    exact hsame _ _ (by omega) rfl h (by omega)
  rw [if_neg k10]
  by_cases k11 : s.kind = 11
  · rw [if_pos k11]
    refine hsame _ _ (by omega) ?_ ?_ (by omega)
    · show (S.setPlan s.po s.pf s.pt).on = S.on
      unfold Ds.setPlan; split <;> rfl
    · show Whl (S.setPlan s.po s.pf s.pt) H t
      unfold Ds.setPlan; split
      · exact ⟨h.turns, h.nodup, h.mem⟩
      · exact h
  rw [if_neg k11]
  rw [if_neg k12]
  by_cases k13 : s.kind = 13
  · rw [if_pos k13]
    exact hsame _ _ (by omega) rfl ⟨h.turns, h.nodup, h.mem⟩ (by omega)
  rw [if_neg k13]
  exact hsame _ _ k12 rfl h (by omega)

/-! ### the crash that leaves all -/
def pick (m : Int) (n : Nat) : Int := (n : Int) + m * ((n : Int) + 1)
theorem rnd_pick (m : Int) (n : Nat) : rnd (pick m n) n = n := by
  unfold rnd pick
  rw [Int.add_mul_emod_self_right, Int.emod_eq_of_lt (by omega) (by omega)]
  omega
def picksOf (S : Ds) (m : Int) : List Int := pick m S.row.length :: S.shown.map (fun p => pick m (unitsOf (S.th p.2).row))
theorem crashTh_all (ps : List Int) (i : Nat) (l : Nm) (th : Nat → Th) (hn : l.ids.Nodup) (hp : ∀ j p, l[j]? = some p → rnd (ps.getD (i + j + 1) 0) (unitsOf (th p.2).row) = unitsOf (th p.2).row) (k : Nat) (hk : k ∈ l.ids) (hok : (th k).ok) : (crashTh ps i l th k).shown = (th k).shown := by
  induction l generalizing i th with
  | nil => simp [Nm.ids] at hk
  | cons x r ih =>
    simp only [Nm.ids, List.map_cons, List.nodup_cons, List.mem_cons] at hn hk
    by_cases e : k = x.2
    · subst e
      rw [crashTh_cons _ _ _ _ _ hn.1]
      show torn _ _ (rnd (ps.getD (i + 1) 0) _) = _
      have h0 := hp 0 x rfl
      rw [Nat.add_zero] at h0
      rw [h0, torn_all, ← hok.2]
    · show (crashTh ps (i + 1) r (upd th x.2 ((th x.2).crash _)) k).shown = _
      rw [ih (i + 1) _ hn.2 ?_ (hk.resolve_left e) (by rw [upd_other _ _ e]; exact hok), upd_other _ _ e]
      intro j p hj
      have hne : p.2 ≠ x.2 := fun e2 => hn.1 (e2 ▸ List.mem_map.2 ⟨p, List.mem_of_getElem? hj, rfl⟩)
      rw [upd_other _ _ hne]
      have := hp (j + 1) p (by simpa using hj)
      rw [show i + 1 + j + 1 = i + (j + 1) + 1 by omega]
      exact this
theorem crash_all {S : Ds} (hw : S.Wf) (m : Int) : (S.crash (picksOf S m)).files = S.files := by
  have e : S.crashNm (picksOf S m) = S.shown := by
    unfold crashNm
    show runN S.safe (S.row.take (rnd (pick m S.row.length) S.row.length)) = _
    rw [rnd_pick, List.take_length, hw.shown]
  show (S.crashNm (picksOf S m)).map (fun p => (p.1, (crashTh (picksOf S m) 0 (S.crashNm (picksOf S m)) S.th p.2).shown)) = S.shown.map _
  rw [e]
  apply List.map_congr_left
  intro p hp
  rw [crashTh_all (picksOf S m) 0 S.shown S.th hw.sids ?_ p.2 (List.mem_map.2 ⟨p, hp, rfl⟩) (hw.th _ (hw.slt (n := p.1) hp))]
  intro j q hj
  have : (picksOf S m).getD (0 + j + 1) 0 = pick m (unitsOf (S.th q.2).row) := by
    show ((S.shown.map (fun p => pick m (unitsOf (S.th p.2).row))).getD (0 + j) 0) = _
    rw [Nat.zero_add, List.getD_eq_getElem?_getD, List.getElem?_map, hj]
    rfl
  rw [this, rnd_pick]
end Dsk
end Go.Proofs.Ytllfkfncgalpaaa
