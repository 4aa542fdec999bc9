import Derived.Test.YtllfkfncgalpaaaIc
import Derived.Test.YtllfkfncgalpaaaId1
namespace Go.Proofs.Ytllfkfncgalpaaa
section
open Go.RowKit Dsk
set_option linter.unusedVariables false
set_option linter.unusedSimpArgs false

theorem tick_room (S : Ds) : S.tick.room = S.room := rfl
theorem create_room (S : Ds) (n : By) : (S.create n).2.room = S.room := by unfold Ds.create; (repeat' split) <;> rfl
theorem write_room (S : Ds) (k a : Nat) (d : By) : (S.write k a d).2.room = S.room := by unfold Ds.write; (repeat' split) <;> rfl
theorem writeAt_room (S : Ds) (n : By) (a : Int) (d : By) : (S.writeAt n a d).2.room = S.room := by unfold Ds.writeAt; (repeat' split) <;> first | rfl | exact write_room _ _ _ _
theorem append_room (S : Ds) (n d : By) : (S.append n d).2.room = S.room := by unfold Ds.append; (repeat' split) <;> first | rfl | exact write_room _ _ _ _
theorem truncate_room (S : Ds) (n : By) (a : Int) : (S.truncate n a).2.room = S.room := by unfold Ds.truncate; (repeat' split) <;> rfl
theorem rename_room (S : Ds) (f t : By) : (S.rename f t).2.room = S.room := by unfold Ds.rename; (repeat' split) <;> rfl
theorem remove_room (S : Ds) (n : By) : (S.remove n).2.room = S.room := by unfold Ds.remove; (repeat' split) <;> rfl
theorem sync_room (S : Ds) (n : By) : (S.sync n).2.room = S.room := by unfold Ds.sync; (repeat' split) <;> rfl
theorem syncNames_room (S : Ds) : S.syncNames.2.room = S.room := by unfold Ds.syncNames; (repeat' split) <;> rfl
theorem read_room (S : Ds) (n : By) (a m : Int) : (S.read n a m).room = S.room := by unfold Ds.read; (repeat' split) <;> rfl
theorem setPlan_room (S : Ds) (a b c : Int) : (S.setPlan a b c).room = S.room := by unfold Ds.setPlan; (repeat' split) <;> rfl
theorem stepD_room (S : Ds) (s : Stp) : (stepD S s).2.room = S.room := by
  unfold stepD
  by_cases h1 : s.kind = 1
  · rw [if_pos h1]; exact create_room _ _
  rw [if_neg h1]
  by_cases h2 : s.kind = 2
  · rw [if_pos h2]; exact writeAt_room _ _ _ _
  rw [if_neg h2]
  by_cases h3 : s.kind = 3
  · rw [if_pos h3]; exact append_room _ _ _
  rw [if_neg h3]
  by_cases h4 : s.kind = 4
  · rw [if_pos h4]; exact truncate_room _ _ _
  rw [if_neg h4]
  by_cases h5 : s.kind = 5
  · rw [if_pos h5]; exact rename_room _ _ _
  rw [if_neg h5]
  by_cases h6 : s.kind = 6
  · rw [if_pos h6]; exact remove_room _ _
  rw [if_neg h6]
  by_cases h7 : s.kind = 7
  · rw [if_pos h7]; exact sync_room _ _
  rw [if_neg h7]
  by_cases h8 : s.kind = 8
  · rw [if_pos h8]; exact syncNames_room _
  rw [if_neg h8]
  by_cases h9 : s.kind = 9
  · rw [if_pos h9]; exact read_room _ _ _ _
  rw [if_neg h9]
  by_cases h10 : s.kind = 10
  · rw [if_pos h10]; try rfl
  rw [if_neg h10]
  by_cases h11 : s.kind = 11
  · rw [if_pos h11]; exact setPlan_room _ _ _ _
  rw [if_neg h11]
  by_cases h12 : s.kind = 12
  · rw [if_pos h12]; try rfl
  rw [if_neg h12]
  by_cases h13 : s.kind = 13
  · rw [if_pos h13]; try rfl
  rw [if_neg h13]
/-- A script, as mathematics. -/
def playD (S : Ds) : List Stp → Ds
  | [] => S
  | s :: L => playD (stepD S s).2 L
theorem playD_snoc (S : Ds) (L : List Stp) (s : Stp) : playD S (L ++ [s]) = (stepD (playD S L) s).2 := by
  induction L generalizing S with
  | nil => rfl
  | cons x L ih => simp only [List.cons_append, playD, ih]
theorem playD_room (S : Ds) (L : List Stp) : (playD S L).room = S.room := by
  induction L generalizing S with
  | nil => rfl
  | cons x L ih => simp only [playD, ih, stepD_room]
theorem used_total (S : Ds) : totalOf S.files = S.used := by simp [totalOf, Ds.files, Ds.used, Function.comp_def]
theorem used_le {S : Ds} {N : Nat} (h : S.Bd N) (hw : S.Wf) : totalOf S.files ≤ S.shown.length * N := by
  rw [used_total]
  unfold Ds.used
  have : ∀ l : Nm, (∀ x ∈ l, (S.th x.2).shown.length ≤ N) → (l.map (fun p => (S.th p.2).shown.length)).sum ≤ l.length * N := by
    intro l
    induction l with
    | nil => intro _; simp
    | cons x l ih =>
      intro hl
      have h1 := ih (fun y hy => hl y (by simp [hy]))
      have h2 := hl x (by simp)
      simp only [List.map_cons, List.sum_cons, List.length_cons, Nat.add_mul]
      omega
  exact this _ (fun x hx => h.len hw (hw.slt (n := x.1) (k := x.2) hx))
theorem StpIn.kept {w w' : World} {s : Stp} (h : StpIn w s) (hk : Kept [] w w') : StpIn w' s :=
  ⟨⟨h.inb.len, h.inb.le, h.inb.max, h.inb.sl.kept hk (by simp), h.inb.nil, h.inb.spot⟩, h.nm, h.tm, h.wk, h.wa, h.wn, h.wo, h.wf, h.wt, h.pl, h.pc, h.pm, h.pr.kept (Keep.ofNone (F := fun _ => False) hk) (fun _ _ _ h => h), h.pw, h.pz⟩
end

section
open Go.RowKit Dsk
set_option linter.unusedVariables false
set_option linter.unusedSimpArgs false
namespace Dsk
theorem sum_upd (th : Nat → Th) (k : Nat) (t : Th) (l : Nm) (hn : l.ids.Nodup) (hk : k ∈ l.ids) : (l.map (fun p => (upd th k t p.2).shown.length)).sum + (th k).shown.length = (l.map (fun p => (th p.2).shown.length)).sum + t.shown.length := by
  induction l with
  | nil => simp [Nm.ids] at hk
  | cons x r ih =>
    simp only [Nm.ids, List.map_cons, List.nodup_cons] at hn hk
    simp only [List.map_cons, List.sum_cons]
    by_cases hx : x.2 = k
    · have hr : r.map (fun p => (upd th k t p.2).shown.length) = r.map (fun p => (th p.2).shown.length) := by
        apply List.map_congr_left
        intro p hp
        rw [upd_other]
        intro e
        exact hn.1 (List.mem_map.2 ⟨p, hp, by rw [e, hx]⟩)
      rw [hr, hx, upd_same]
      omega
    · have hk2 : k ∈ Nm.ids r := by
        rcases List.mem_cons.1 hk with h | h
        · exact absurd h.symm hx
        · exact h
      have := ih hn.2 hk2
      rw [upd_other _ _ hx]
      omega
theorem write_len (b : By) (a : Nat) (d : By) (h : a ≤ b.length) : ((Ch.wr a d).apply b (Ch.wr a d).units).length = max b.length (a + d.length) := by
  simp only [Ch.apply, Ch.units, List.take_length, List.length_append, List.length_take, List.length_drop]
  omega
/-- What a step does, by what it answers. -/
inductive Does (S : Ds) (K : Int) (f : Int) (S' : Ds) : Prop
  | off (h : S.on = false) (k : 1 ≤ K ∧ K ≤ 10) (e : f = 50) (s : S' = S)
  | no (h : S.on = true) (e : f = 51 ∨ f = 52 ∨ f = 53 ∨ f = 54) (s : S' = S)
  | full (h : S.on = true) (k : 1 ≤ K ∧ K ≤ 8) (e : f = 55 ∨ f = 56) (g : S.goesOff = false) (s : S' = S.tick)
  | out (h : S.on = true) (k : 1 ≤ K ∧ K ≤ 8) (e : f = 50) (n : S'.strokes = S.strokes + 1) (o : S'.on = false) (q : S'.safeFiles = S.safeFiles)
  | done (h : S.on = true) (k : 1 ≤ K ∧ K ≤ 8) (e : f = 0) (n : S'.strokes = S.strokes + 1) (u : K = 2 ∨ K = 3 → S'.used ≤ S.room ∨ S'.used ≤ S.used)
  | easy (k : K < 1 ∨ 9 ≤ K) (h : S.on = true ∨ 10 < K ∨ K < 1) (k2 : K ≠ 12) (e : f = 0) (n : S'.strokes = S.strokes)
  | crash (k : K = 12) (e : f = 0) (n : S'.strokes = 0) (o : S'.on = true)
theorem find_val (S : Ds) (n : By) : (S.find n).1 = 0 ∧ S.on = true ∨ (S.find n).1 = 50 ∧ S.on = false ∨ ((S.find n).1 = 51 ∨ (S.find n).1 = 53) ∧ S.on = true := by
  unfold Ds.find
  by_cases h : S.on = true
  · rw [if_pos h]
    by_cases h2 : isNm n = true
    · rw [if_pos h2]
      cases h3 : S.shown.get n with
      | none => exact .inr (.inr ⟨.inr rfl, h⟩)
      | some k => exact .inl ⟨rfl, h⟩
    · rw [if_neg h2]
      exact .inr (.inr ⟨.inl rfl, h⟩)
  · rw [if_neg h]
    exact .inr (.inl ⟨rfl, by simpa using h⟩)
theorem tick_on {S : Ds} (h : S.on = true) (g : S.goesOff = true) : S.tick.on = false := by simp [Ds.tick, g]
theorem safe_upd {S : Ds} (hw : S.Wf) (k : Nat) (t : Th) (h : k < S.nx → t.safe = (S.th k).safe) : S.safe.map (fun p => (p.1, (upd S.th k t p.2).safe)) = S.safe.map (fun p => (p.1, (S.th p.2).safe)) := by
  apply List.map_congr_left
  intro p hp
  by_cases e : p.2 = k
  · rw [← e, upd_same, h, e]
    rw [← e]
    exact hw.lt p.2 (List.mem_append_left _ (List.mem_map.2 ⟨p, hp, rfl⟩))
  · rw [upd_other _ _ e]
theorem does_write {S : Ds} (hw : S.Wf) {K : Int} (hK : 1 ≤ K ∧ K ≤ 8) (hon : S.on = true) (k a : Nat) (d : By) (hk : k ∈ S.shown.ids) (ha : a ≤ (S.th k).shown.length) : Does S K (S.write k a d).1 (S.write k a d).2 := by
  unfold Ds.write
  by_cases hf : S.full ((a : Int) + d.length - (S.th k).shown.length) = true
  · rw [if_pos hf]
    by_cases hg : S.goesOff = true
    · exact .out hon hK (by simp [Ds.ans, hg]) rfl (tick_on hon hg) rfl
    · simp only [Bool.not_eq_true] at hg
      exact .full hon hK (.inl (by simp [Ds.ans, hg])) hg rfl
  · rw [if_neg hf]
    by_cases hg : S.goesOff = true
    · exact .out hon hK (by simp [Ds.ans, hg]) rfl (tick_on hon hg) (safe_upd hw k _ (fun _ => rfl))
    · simp only [Bool.not_eq_true] at hg
      refine .done hon hK (by simp [Ds.ans, hg]) rfl (fun _ => ?_)
      simp only [Bool.not_eq_true, Ds.full, Bool.or_eq_false_iff, Bool.and_eq_false_iff, decide_eq_false_iff_not] at hf
      have h1 := sum_upd S.th k ((S.th k).change (.wr a d)) S.shown hw.sids hk
      have h2 : ((S.th k).change (.wr a d)).shown.length = max (S.th k).shown.length (a + d.length) := write_len _ _ _ ha
      have h3 : (S.tick.addByte k (.wr a d)).used + (S.th k).shown.length = S.used + max (S.th k).shown.length (a + d.length) := by
        rw [← h2]
        exact h1
      show (S.tick.addByte k (.wr a d)).used ≤ S.room ∨ (S.tick.addByte k (.wr a d)).used ≤ S.used
      generalize (S.tick.addByte k (.wr a d)).used = u at *
      rcases hf.2 with hf | hf <;> omega
theorem does_ok {S : Ds} (hw : S.Wf) (s : Stp) : Does S s.kind (stepD S s).1 (stepD S s).2 := by
  obtain ⟨kind, name, to, at_, n, da, dn, dc, ds, po, pf, pt, pa, pn, pc, ps⟩ := s
  have hfn : ∀ n, (S.find n).1 = 0 → (S.find n).2 ∈ S.shown.ids := fun n h => by
    obtain ⟨_, _, h3, _⟩ := Ds.find_ok hw h
    exact List.mem_map.2 ⟨_, h3, rfl⟩
  have hno : ∀ (K : Int) n, 1 ≤ K ∧ K ≤ 10 → (S.find n).1 ≠ 0 → Does S K (S.find n).1 S := fun K n hK h => by
    rcases find_val S n with h1 | h1 | h1
    · exact absurd h1.1 h
    · exact .off h1.2 hK h1.1 rfl
    · exact .no h1.2 (by rcases h1.1 with h | h <;> omega) rfl
  unfold stepD
  by_cases k1 : kind = 1
  · subst k1
    show Does S 1 (S.create name).1 (S.create name).2
    unfold Ds.create
    rcases find_val S name with h1 | h1 | h1
    · rw [if_pos h1.1]
      exact .no h1.2 (.inr (.inl rfl)) rfl
    · rw [if_neg (by omega), if_pos (by omega)]
      exact .off h1.2 (by omega) h1.1 rfl
    · rcases h1.1 with h2 | h2
      · rw [if_neg (by omega), if_pos (by omega)]
        exact .no h1.2 (.inl h2) rfl
      · rw [if_neg (by omega), if_neg (by omega)]
        by_cases hr : S.refusedCreate = 0
        · rw [if_pos hr]
          by_cases hg : S.goesOff = true
          · exact .out h1.2 (by omega) (by simp [Ds.ans, hg]) rfl (tick_on h1.2 hg) (safe_upd hw S.nx _ (fun h => absurd h (by omega)))
          · simp only [Bool.not_eq_true] at hg
            exact .done h1.2 (by omega) (by simp [Ds.ans, hg]) rfl (fun h => by omega)
        · rw [if_neg hr]
          by_cases hg : S.goesOff = true
          · exact .out h1.2 (by omega) (by simp [Ds.ans, hg]) rfl (tick_on h1.2 hg) rfl
          · simp only [Bool.not_eq_true] at hg
            refine .full h1.2 (by omega) ?_ hg rfl
            unfold Ds.refusedCreate at hr ⊢
            simp only [Ds.ans, hg, Bool.false_eq_true, if_false]
            by_cases a1 : 256 ≤ S.shown.length
            · rw [if_pos a1]; exact .inr rfl
            · rw [if_neg a1] at hr ⊢
              by_cases a2 : S.lacks = true
              · rw [if_pos a2]; exact .inl rfl
              · rw [if_neg a2] at hr; exact absurd rfl hr
  by_cases k2 : kind = 2
  · subst k2
    show Does S 2 (S.writeAt name at_ ds).1 (S.writeAt name at_ ds).2
    unfold Ds.writeAt
    by_cases h0 : (S.find name).1 = 0
    · rw [if_neg (by omega)]
      have hon := (Ds.find_ok hw h0).1
      by_cases h1 : at_ < 0 ∨ ((S.th (S.find name).2).shown.length : Int) < at_
      · rw [if_pos h1]
        exact .no hon (.inr (.inr (.inr rfl))) rfl
      · rw [if_neg h1]
        exact does_write hw (by omega) hon _ _ _ (hfn _ h0) (by omega)
    · rw [if_pos h0]
      exact hno 2 name (by omega) h0
  by_cases k3 : kind = 3
  · subst k3
    show Does S 3 (S.append name ds).1 (S.append name ds).2
    unfold Ds.append
    by_cases h0 : (S.find name).1 = 0
    · rw [if_neg (by omega)]
      exact does_write hw (by omega) (Ds.find_ok hw h0).1 _ _ _ (hfn _ h0) (Nat.le_refl _)
    · rw [if_pos h0]
      exact hno 3 name (by omega) h0
  by_cases k4 : kind = 4
  · subst k4
    show Does S 4 (S.truncate name n).1 (S.truncate name n).2
    unfold Ds.truncate
    by_cases h0 : (S.find name).1 = 0
    · rw [if_neg (by omega)]
      have hon := (Ds.find_ok hw h0).1
      by_cases h1 : n < 0 ∨ ((S.th (S.find name).2).shown.length : Int) < n
      · rw [if_pos h1]
        exact .no hon (.inr (.inr (.inr rfl))) rfl
      · rw [if_neg h1]
        by_cases hg : S.goesOff = true
        · exact .out hon (by omega) (by simp [Ds.ans, hg]) rfl (tick_on hon hg) (safe_upd hw _ _ (fun _ => rfl))
        · simp only [Bool.not_eq_true] at hg
          exact .done hon (by omega) (by simp [Ds.ans, hg]) rfl (fun h => by omega)
    · rw [if_pos h0]
      exact hno 4 name (by omega) h0
  by_cases k5 : kind = 5
  · subst k5
    show Does S 5 (S.rename name to).1 (S.rename name to).2
    unfold Ds.rename
    by_cases hon : S.on = true
    · rw [if_pos hon]
      by_cases ht : isNm to = true
      · rw [if_pos ht]
        by_cases h0 : (S.find name).1 = 0
        · rw [if_neg (by omega)]
          by_cases hq : name = to
          · rw [if_pos hq]
            by_cases hg : S.goesOff = true
            · exact .out hon (by omega) (by simp [Ds.ans, hg]) rfl (tick_on hon hg) rfl
            · simp only [Bool.not_eq_true] at hg
              exact .done hon (by omega) (by simp [Ds.ans, hg]) rfl (fun h => by omega)
          · rw [if_neg hq]
            by_cases hg : S.goesOff = true
            · exact .out hon (by omega) (by simp [Ds.ans, hg]) rfl (tick_on hon hg) rfl
            · simp only [Bool.not_eq_true] at hg
              exact .done hon (by omega) (by simp [Ds.ans, hg]) rfl (fun h => by omega)
        · rw [if_pos h0]
          exact hno 5 name (by omega) h0
      · rw [if_neg ht]
        exact .no hon (.inl rfl) rfl
    · rw [if_neg hon]
      exact .off (by simpa using hon) (by omega) rfl rfl
  by_cases k6 : kind = 6
  · subst k6
    show Does S 6 (S.remove name).1 (S.remove name).2
    unfold Ds.remove
    by_cases h0 : (S.find name).1 = 0
    · rw [if_neg (by omega)]
      have hon := (Ds.find_ok hw h0).1
      by_cases hg : S.goesOff = true
      · exact .out hon (by omega) (by simp [Ds.ans, hg]) rfl (tick_on hon hg) rfl
      · simp only [Bool.not_eq_true] at hg
        exact .done hon (by omega) (by simp [Ds.ans, hg]) rfl (fun h => by omega)
    · rw [if_pos h0]
      exact hno 6 name (by omega) h0
  by_cases k7 : kind = 7
  · subst k7
    show Does S 7 (S.sync name).1 (S.sync name).2
    unfold Ds.sync
    by_cases h0 : (S.find name).1 = 0
    · rw [if_neg (by omega)]
      have hon := (Ds.find_ok hw h0).1
      by_cases hg : S.goesOff = true
      · rw [if_pos hg]
        exact .out hon (by omega) rfl rfl (tick_on hon hg) rfl
      · rw [if_neg hg]
        exact .done hon (by omega) rfl rfl (fun h => by omega)
    · rw [if_pos h0]
      exact hno 7 name (by omega) h0
  by_cases k8 : kind = 8
  · subst k8
    show Does S 8 S.syncNames.1 S.syncNames.2
    unfold Ds.syncNames
    by_cases hon : S.on = true
    · rw [if_pos hon]
      by_cases hg : S.goesOff = true
      · rw [if_pos hg]
        exact .out hon (by omega) rfl rfl (tick_on hon hg) rfl
      · rw [if_neg hg]
        exact .done hon (by omega) rfl rfl (fun h => by omega)
    · rw [if_neg hon]
      exact .off (by simpa using hon) (by omega) rfl rfl
  by_cases k9 : kind = 9
  · subst k9
    show Does S 9 (S.readOk name at_ n) (S.read name at_ n)
    have hread : S.readOk name at_ n ≠ 0 → S.read name at_ n = S := fun h => by simp [Ds.read, h]
    have hst : (S.read name at_ n).strokes = S.strokes := by unfold Ds.read; split <;> rfl
    by_cases hz : S.readOk name at_ n = 0
    · have hon : S.on = true := by
        unfold Ds.readOk at hz
        by_cases h0 : (S.find name).1 = 0
        · exact (Ds.find_ok hw h0).1
        · rw [if_pos h0] at hz; exact absurd hz h0
      exact .easy (by omega) (.inl hon) (by omega) hz hst
    · rw [hread hz]
      unfold Ds.readOk at hz ⊢
      by_cases h0 : (S.find name).1 = 0
      · rw [if_neg (by omega)] at hz ⊢
        have hon := (Ds.find_ok hw h0).1
        by_cases hx : at_ < 0 ∨ n < 0 ∨ ((S.th (S.find name).2).shown.length : Int) < at_ ∨ ((S.th (S.find name).2).shown.length : Int) - at_ < n
        · rw [if_pos hx]
          exact .no hon (.inr (.inr (.inr rfl))) rfl
        · rw [if_neg hx] at hz; exact absurd rfl hz
      · rw [if_pos h0]
        exact hno 9 name (by omega) h0
  by_cases k10 : kind = 10
  · subst k10
    show Does S 10 (S.find name).1 S
    by_cases h0 : (S.find name).1 = 0
    · exact .easy (by omega) (.inl (Ds.find_ok hw h0).1) (by omega) h0 rfl
    · exact hno 10 name (by omega) h0
  by_cases k11 : kind = 11
  · subst k11
    show Does S 11 0 (S.setPlan po pf pt)
    refine .easy (by omega) (by omega) (by omega) rfl ?_
    unfold Ds.setPlan
    split <;> rfl
  by_cases k12 : kind = 12
  · subst k12
    exact .crash rfl rfl rfl rfl
  by_cases k13 : kind = 13
  · subst k13
    exact .easy (by simp) (by simp) (by simp) rfl rfl
  · simp only [k1, k2, k3, k4, k5, k6, k7, k8, k9, k10, k11, k12, k13, if_false]
    exact .easy (by omega) (by omega) k12 rfl rfl
end Dsk
end

end Go.Proofs.Ytllfkfncgalpaaa
