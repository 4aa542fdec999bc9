/-
  Contract: refusedRoom. (Written by tools/gz.py.)
-/
import Derived.Test.YtmoaaimjgdbelaaGreatGy
namespace Go.Proofs.YtmoaaimjgdbelaaGreat
open Go.RowKit Dsk
set_option linter.unusedVariables false
set_option linter.unusedSimpArgs false

def fullE (S : Ds) (more : Int) : Int := if S.full more then 55 else 0

set_option maxHeartbeats 1600000 in
set_option maxRecDepth 100000 in
theorem refused_ok {w : World} {p : Nat} {S : Ds} {A : Nat → Nat} {o : Lab} {ms mh : Nat} {rv sv : Value} {N : Nat} (h : PDx w p S A o ms mh rv sv) (hB : S.Bd N) (hN : N ≤ 536870912) (more : Int) (hm1 : -1073741824 ≤ more) (hm2 : more ≤ 1073741824) : Calls Tryz.prog 72 #[.pointer (some ⟨p, 0, none⟩), .int .i64 more] w fun e w' => e = .returned (.int .i64 (fullE S more)) ∧ Kept [] w w' := by
  have c9 := h.c9
  have c7 := h.c7
  have c8 := h.c8
  have c0 := h.c0
  have hpl := hB.planned
  have HUS : Hid (∀ v, Kept [] w v → Calls Tryz.prog 44 #[.pointer (some ⟨p, 0, none⟩)] v fun e w' => e = .returned (.int .i64 S.used) ∧ Kept [] v w') := fun v hv => used_ok (h.keep (Keep.ofNone (F := fun _ => False) hv) (fun _ _ h => h)) hB hN
  have hule : S.used ≤ 536870912 * 536870912 := Nat.le_trans (Ds.used_le h.wf hB) (Nat.mul_le_mul hN hN)
  have hroom := h.wf.room
  clear h hB
  go_enter Tryz.func72, Tryz.ntmps72
  cases hlk : S.lacks
  · have HL : Hid (S.lacks = false) := hide hlk
    have hlk' : (decide (S.from_ ≤ (S.planned : Int) + 1) && decide ((S.planned : Int) + 1 ≤ S.to)) = false := hlk
    clear hlk
    have hcase : ¬ (S.from_ ≤ (S.planned : Int) + 1) ∨ (S.from_ ≤ (S.planned : Int) + 1 ∧ ¬ ((S.planned : Int) + 1 ≤ S.to)) := by
      simp only [Bool.and_eq_false_iff, decide_eq_false_iff_not] at hlk'
      omega
    clear hlk'
    have hwr : IntKind.i64.wrap ((S.used : Int) + more) = (S.used : Int) + more := IntWalk.i64_in _ (by omega)
    by_cases hmore : 0 < more
    · have HF : Hid (S.full more = decide ((S.room : Int) < S.used + more)) := hide (by unfold Ds.full; rw [HL.out]; simp [hmore])
      have hd : decide (0 < more) = true := by simpa using hmore
      rcases hcase with l1 | ⟨l1, l2⟩
      all_goals go_upto_region 4 with (fail)
      all_goals (
        refine wp_region_late (fun w' => Kept [] w w') (fun i => false) (by kernel_rfl) ?_
        have h0 : Kept [] w w.drew := (Kept.refl [] w).drew
        generalize World.drew w = v0 at h0 ⊢
        refine wpAnyL_free (i := 0) (v := .int .i64 more) rfl (by kernel_rfl) (by kernel_rfl) (by kernel_rfl) (fun _ _ _ h => h) (Or.inl ⟨by rfl, fun w _ => by go_simp⟩) ?_
        try simp only [List.getElem_toArray, List.getElem_cons_zero, List.getElem_cons_succ, Act.put, List.setIfInBounds_toArray, List.set_cons_zero, List.set_cons_succ]
        refine wpAnyL_free (i := 1) (v := .bool true) rfl (by kernel_rfl) (by kernel_rfl) (by kernel_rfl) (fun _ _ _ h => h) (Or.inl ⟨by rfl, fun w _ => by go_simp⟩) ?_
        try simp only [List.getElem_toArray, List.getElem_cons_zero, List.getElem_cons_succ, Act.put, List.setIfInBounds_toArray, List.set_cons_zero, List.set_cons_succ]
        refine wpAnyL_free (i := 2) (v := .bool true) rfl (by kernel_rfl) (by kernel_rfl) (by kernel_rfl) (fun _ _ _ h => h) (Or.inl ⟨by rfl, fun w _ => by go_simp⟩) ?_
        try simp only [List.getElem_toArray, List.getElem_cons_zero, List.getElem_cons_succ, Act.put, List.setIfInBounds_toArray, List.set_cons_zero, List.set_cons_succ]
        refine wpAnyL_free (i := 3) (v := .pointer (some ⟨p, 0, none⟩)) rfl (by kernel_rfl) (by kernel_rfl) (by kernel_rfl) (fun _ _ _ h => h) (Or.inl ⟨by rfl, fun w _ => by go_simp⟩) ?_
        try simp only [List.getElem_toArray, List.getElem_cons_zero, List.getElem_cons_succ, Act.put, List.setIfInBounds_toArray, List.set_cons_zero, List.set_cons_succ]
        refine wpAnyL_free (i := 5) (v := .int .i64 more) rfl (by kernel_rfl) (by kernel_rfl) (by kernel_rfl) (fun _ _ _ h => h) (Or.inl ⟨by rfl, fun w _ => by go_simp⟩) ?_
        try simp only [List.getElem_toArray, List.getElem_cons_zero, List.getElem_cons_succ, Act.put, List.setIfInBounds_toArray, List.set_cons_zero, List.set_cons_succ]
        refine wpAnyL_free (i := 7) (v := .pointer (some ⟨p, 0, none⟩)) rfl (by kernel_rfl) (by kernel_rfl) (by kernel_rfl) (fun _ _ _ h => h) (Or.inl ⟨by rfl, fun w _ => by go_simp⟩) ?_
        try simp only [List.getElem_toArray, List.getElem_cons_zero, List.getElem_cons_succ, Act.put, List.setIfInBounds_toArray, List.set_cons_zero, List.set_cons_succ]
        refine wpAnyL_free (i := 8) (v := .pointer (some ⟨p, 0, none⟩)) rfl (by kernel_rfl) (by kernel_rfl) (by kernel_rfl) (fun _ _ _ h => h) (Or.inl ⟨by rfl, fun w _ => by go_simp⟩) ?_
        try simp only [List.getElem_toArray, List.getElem_cons_zero, List.getElem_cons_succ, Act.put, List.setIfInBounds_toArray, List.set_cons_zero, List.set_cons_succ]
        refine wpAnyL_free (i := 9) (v := .pointer (some ⟨p, 0, none⟩)) rfl (by kernel_rfl) (by kernel_rfl) (by kernel_rfl) (fun _ _ _ h => h) (Or.inl ⟨by rfl, fun w _ => by go_simp⟩) ?_
        try simp only [List.getElem_toArray, List.getElem_cons_zero, List.getElem_cons_succ, Act.put, List.setIfInBounds_toArray, List.set_cons_zero, List.set_cons_succ]
        refine wpAnyL_take (i := 10) (v := .int .i64 S.room) rfl (by kernel_rfl) (by kernel_rfl) (by kernel_rfl) (by kernel_rfl) (by kernel_rfl) (fun _ _ _ h => h) (Or.inl ⟨by rfl, fun w hSw => by have c := Kept.cellOf hSw c0 (by simp); go_simp⟩) h0 ?_
        try simp only [List.getElem_toArray, List.getElem_cons_zero, List.getElem_cons_succ, Act.put, List.setIfInBounds_toArray, List.set_cons_zero, List.set_cons_succ]
        refine wpAnyL_one (i := 4) (by kernel_rfl) rfl (fun K hK => ?_)
        rw [if_pos (by rfl)]
        go_simp
        refine (HUS.out v0 h0).mono ?_
        rintro e v1 ⟨rfl, hq⟩
        have h1 : Kept [] w v1 := h0.trans hq (by simp)
        refine hK.out _ _ (fun _ _ => h1) ?_
        clear hK K hq h0
        try simp only [List.getElem_toArray, List.getElem_cons_zero, List.getElem_cons_succ, Act.put, List.setIfInBounds_toArray, List.set_cons_zero, List.set_cons_succ]
        refine wpAnyL_free (i := 6) (v := .int .i64 ((S.used : Int) + more)) rfl (by kernel_rfl) (by kernel_rfl) (by kernel_rfl) (fun _ _ _ h => h) (Or.inl ⟨by rfl, fun w _ => by go_simp⟩) ?_
        try simp only [List.getElem_toArray, List.getElem_cons_zero, List.getElem_cons_succ, Act.put, List.setIfInBounds_toArray, List.set_cons_zero, List.set_cons_succ]
        refine wpAnyL_free (i := 11) (v := .bool (decide ((S.room : Int) < (S.used : Int) + more))) rfl (by kernel_rfl) (by kernel_rfl) (by kernel_rfl) (fun _ _ _ h => h) (Or.inl ⟨by rfl, fun w _ => by go_simp⟩) ?_
        try simp only [List.getElem_toArray, List.getElem_cons_zero, List.getElem_cons_succ, Act.put, List.setIfInBounds_toArray, List.set_cons_zero, List.set_cons_succ]
        refine wpAnyL_free (i := 12) (v := .bool (decide ((S.room : Int) < (S.used : Int) + more))) rfl (by kernel_rfl) (by kernel_rfl) (by kernel_rfl) (fun _ _ _ h => h) (Or.inl ⟨by rfl, fun w _ => by go_simp⟩) ?_
        try simp only [List.getElem_toArray, List.getElem_cons_zero, List.getElem_cons_succ, Act.put, List.setIfInBounds_toArray, List.set_cons_zero, List.set_cons_succ]
        refine wpAnyL_done (by kernel_rfl) ?_ _
        cases hfin : decide ((S.room : Int) < (S.used : Int) + more)
        · go_wp2
          go_ret
          exact ⟨by unfold fullE; rw [HF.out, hfin]; rfl, h1⟩
        · go_wp2
          go_ret
          exact ⟨by unfold fullE; rw [HF.out, hfin]; rfl, h1⟩)
    · have HF : Hid (S.full more = false) := hide (by unfold Ds.full; rw [HL.out]; simp [hmore])
      have hd : decide (0 < more) = false := by simpa using hmore
      rcases hcase with l1 | ⟨l1, l2⟩
      all_goals go_upto_region 4 with (fail)
      all_goals (
        go_quiet (fail)
        go_wp2
        go_ret
        exact ⟨by unfold fullE; rw [HF.out]; rfl, (Kept.refl [] w).drewN nq⟩)
  · have HF : Hid (S.full more = true) := hide (by unfold Ds.full; rw [hlk]; rfl)
    have hlk' : (decide (S.from_ ≤ (S.planned : Int) + 1) && decide ((S.planned : Int) + 1 ≤ S.to)) = true := hlk
    clear hlk
    simp only [Bool.and_eq_true, decide_eq_true_eq] at hlk'
    obtain ⟨l1, l2⟩ := hlk'
    go_wp2
    go_ret
    exact ⟨by unfold fullE; rw [HF.out]; rfl, Kept.refl _ _⟩
end Go.Proofs.YtmoaaimjgdbelaaGreat
