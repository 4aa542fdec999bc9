/-
  DiskSees: the ground.
-/
import Derived.Test.YtcmiehfahdbffabIc
import Derived.Test.YtcmiehfahdbffabId1
namespace Go.Proofs.Ytcmiehfahdbffab
open Go.RowKit Dsk
set_option linter.unusedVariables false
set_option linter.unusedSimpArgs false

theorem tick_room (S : Ds) : S.tick.room = S.room := rfl
theorem create_room (S : Ds) (n : By) : (S.create n).2.room = S.room := by unfold Ds.create; (repeat' split) <;> rfl
theorem write_room (S : Ds) (k a : Nat) (d : By) : (S.write k a d).2.room = S.room := by unfold Ds.write; (repeat' split) <;> rfl
theorem writeAt_room (S : Ds) (n : By) (a : Int) (d : By) : (S.writeAt n a d).2.room = S.room := by unfold Ds.writeAt; (repeat' split) <;> first | rfl | exact write_room _ _ _ _
theorem append_room (S : Ds) (n d : By) : (S.append n d).2.room = S.room := by unfold Ds.append; (repeat' split) <;> first | rfl | exact write_room _ _ _ _
theorem truncate_room (S : Ds) (n : By) (a : Int) : (S.truncate n a).2.room = S.room := by unfold Ds.truncate; (repeat' split) <;> rfl
theorem rename_room (S : Ds) (f t : By) : (S.rename f t).2.room = S.room := by unfold Ds.rename; (repeat' split) <;> rfl
theorem remove_room (S : Ds) (n : By) : (S.remove n).2.room = S.room := by unfold Ds.remove; (repeat' split) <;> rfl
theorem sync_room (S : Ds) (n : By) : (S.sync n).2.room = S.room := by unfold Ds.sync; (repeat' split) <;> rfl
theorem syncNames_room (S : Ds) : S.syncNames.2.room = S.room := by unfold Ds.syncNames; (repeat' split) <;> rfl
theorem read_room (S : Ds) (n : By) (a m : Int) : (S.read n a m).room = S.room := by unfold Ds.read; (repeat' split) <;> rfl
theorem setPlan_room (S : Ds) (a b c : Int) : (S.setPlan a b c).room = S.room := by unfold Ds.setPlan; (repeat' split) <;> rfl
theorem stepD_room (S : Ds) (s : Stp) : (stepD S s).2.room = S.room := by
  unfold stepD
  by_cases h1 : s.kind = 1
  · rw [if_pos h1]; exact create_room _ _
  rw [if_neg h1]
  by_cases h2 : s.kind = 2
  · rw [if_pos h2]; exact writeAt_room _ _ _ _
  rw [if_neg h2]
  by_cases h3 : s.kind = 3
  · rw [if_pos h3]; exact append_room _ _ _
  rw [if_neg h3]
  by_cases h4 : s.kind = 4
  · rw [if_pos h4]; exact truncate_room _ _ _
  rw [if_neg h4]
  by_cases h5 : s.kind = 5
  · rw [if_pos h5]; exact rename_room _ _ _
  rw [if_neg h5]
  by_cases h6 : s.kind = 6
  · rw [if_pos h6]; exact remove_room _ _
  rw [if_neg h6]
  by_cases h7 : s.kind = 7
  · rw [if_pos h7]; exact sync_room _ _
  rw [if_neg h7]
  by_cases h8 : s.kind = 8
  · rw [if_pos h8]; exact syncNames_room _
  rw [if_neg h8]
  by_cases h9 : s.kind = 9
  · rw [if_pos h9]; exact read_room _ _ _ _
  rw [if_neg h9]
  by_cases h10 : s.kind = 10
  · rw [if_pos h10]; try rfl
  rw [if_neg h10]
  by_cases h11 : s.kind = 11
  · rw [if_pos h11]; exact setPlan_room _ _ _ _
  rw [if_neg h11]
  by_cases h12 : s.kind = 12
  · rw [if_pos h12]; try rfl
  rw [if_neg h12]
  by_cases h13 : s.kind = 13
  · rw [if_pos h13]; try rfl
  rw [if_neg h13]
/-- A script, as mathematics. -/
def playD (S : Ds) : List Stp → Ds
  | [] => S
  | s :: L => playD (stepD S s).2 L
theorem playD_snoc (S : Ds) (L : List Stp) (s : Stp) : playD S (L ++ [s]) = (stepD (playD S L) s).2 := by
  induction L generalizing S with
  | nil => rfl
  | cons x L ih => simp only [List.cons_append, playD, ih]
theorem playD_room (S : Ds) (L : List Stp) : (playD S L).room = S.room := by
  induction L generalizing S with
  | nil => rfl
  | cons x L ih => simp only [playD, ih, stepD_room]
theorem used_total (S : Ds) : totalOf S.files = S.used := by simp [totalOf, Ds.files, Ds.used, Function.comp_def]
theorem used_le {S : Ds} {N : Nat} (h : S.Bd N) (hw : S.Wf) : totalOf S.files ≤ S.shown.length * N := by
  rw [used_total]
  unfold Ds.used
  have : ∀ l : Nm, (∀ x ∈ l, (S.th x.2).shown.length ≤ N) → (l.map (fun p => (S.th p.2).shown.length)).sum ≤ l.length * N := by
    intro l
    induction l with
    | nil => intro _; simp
    | cons x l ih =>
      intro hl
      have h1 := ih (fun y hy => hl y (by simp [hy]))
      have h2 := hl x (by simp)
      simp only [List.map_cons, List.sum_cons, List.length_cons, Nat.add_mul]
      omega
  exact this _ (fun x hx => h.len hw (hw.slt (n := x.1) (k := x.2) hx))
theorem StpIn.kept {w w' : World} {s : Stp} (h : StpIn w s) (hk : Kept [] w w') : StpIn w' s :=
  ⟨⟨h.inb.len, h.inb.le, h.inb.max, h.inb.sl.kept hk (by simp), h.inb.nil, h.inb.spot⟩, h.nm, h.tm, h.wk, h.wa, h.wn, h.wo, h.wf, h.wt, h.pl, h.pc, h.pm, h.pr.kept (Keep.ofNone (F := fun _ => False) hk) (fun _ _ _ h => h), h.pw, h.pz⟩
end Go.Proofs.Ytcmiehfahdbffab
