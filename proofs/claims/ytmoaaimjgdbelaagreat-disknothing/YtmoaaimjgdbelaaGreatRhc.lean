/-
  Calls of a disk of nothing that go through its maps and rows.
-/
import Derived.Test.YtmoaaimjgdbelaaGreatRha
import Derived.Test.YtmoaaimjgdbelaaGreatRhb
namespace Go.Proofs.YtmoaaimjgdbelaaGreat
open Go.RowKit Dsk
set_option linter.unusedVariables false
set_option linter.unusedSimpArgs false
set_option maxRecDepth 100000 in
theorem used_z {dv : Value} {w : World} (h : OffD dv w) : Calls Tryz.prog 44 #[dv] w fun e w' => e = .returned (.int .i64 0) ∧ Kept [] w w' := by
  rcases h with rfl | ⟨p, rfl, hp⟩
  · go_enter Tryz.func44, Tryz.ntmps44
    go_wp2
    go_ret
    exact ⟨rfl, Kept.refl [] w⟩
  · have c4 : w.cell? ⟨p, 4, none⟩ = some (.map none) := by rw [cell_of_row w p 4 _ _ _ hp]; rfl
    clear hp
    have hrg := run_range_nilMap (P := Tryz.prog) w 64 9 77 Tryz.underlying64
    have hnx : ∀ ty, (Instr.next (.pointer (some ⟨w.heap.size, 0, none⟩)) false ty).run Tryz.prog (w.alloc (.mapIter none 0 #[] 0)) = _ := fun ty => run_next_nilMap w ty 0 0 #[]
    go_enter Tryz.func44, Tryz.ntmps44
    go_wp2
    refine wp_loop_rounds 1 ?_
    rw [rounds_succ]
    go_wp2
    go_ret
    exact ⟨rfl, (Kept.refl [] w).alloc _⟩

set_option maxRecDepth 100000 in
theorem files_z {dv : Value} {w : World} (h : OffD dv w) : Calls Tryz.prog 42 #[dv] w fun e w' => e = .returned (.slice none 0 0) ∧ Kept [] w w' := by
  rcases h with rfl | ⟨p, rfl, hp⟩
  · go_enter Tryz.func42, Tryz.ntmps42
    go_wp2
    go_ret
    exact ⟨rfl, Kept.refl [] w⟩
  · have c4 : w.cell? ⟨p, 4, none⟩ = some (.map none) := by rw [cell_of_row w p 4 _ _ _ hp]; rfl
    clear hp
    have hr := rising_nil w
    go_enter Tryz.func42, Tryz.ntmps42
    go_wp2_with (go_at_call 86; refine hr.mono ?_; rintro e w1 ⟨rfl, hb⟩; have HB := hide (Kept.of_below hb); clear hr hb c4)
    refine wp_loop_rounds 1 ?_
    rw [rounds_succ]
    go_wp2
    go_ret
    exact ⟨rfl, HB.out⟩

set_option maxRecDepth 100000 in
theorem safe_z {dv : Value} {w : World} (h : OffD dv w) : Calls Tryz.prog 51 #[dv] w fun e w' => e = .returned (.slice none 0 0) ∧ Kept [] w w' := by
  rcases h with rfl | ⟨p, rfl, hp⟩
  · go_enter Tryz.func51, Tryz.ntmps51
    go_wp2
    go_ret
    exact ⟨rfl, Kept.refl [] w⟩
  · have c4 : w.cell? ⟨p, 2, none⟩ = some (.map none) := by rw [cell_of_row w p 2 _ _ _ hp]; rfl
    clear hp
    have hr := rising_nil w
    go_enter Tryz.func51, Tryz.ntmps51
    go_wp2_with (go_at_call 86; refine hr.mono ?_; rintro e w1 ⟨rfl, hb⟩; have HB := hide (Kept.of_below hb); clear hr hb c4)
    refine wp_loop_rounds 1 ?_
    rw [rounds_succ]
    go_wp2
    go_ret
    exact ⟨rfl, HB.out⟩

set_option maxRecDepth 100000 in
theorem reads_z {dv : Value} {w : World} (h : OffD dv w) : Calls Tryz.prog 40 #[dv] w fun e w' => e = .returned (.slice none 0 0) ∧ w' = w := by
  rcases h with rfl | ⟨p, rfl, hp⟩
  · go_enter Tryz.func40, Tryz.ntmps40
    go_wp2
    go_ret
    exact ⟨rfl, rfl⟩
  · have c4 : w.cell? ⟨p, 10, none⟩ = some (.slice none 0 0) := by rw [cell_of_row w p 10 _ _ _ hp]; rfl
    clear hp
    have hr := cloneS_nil w
    go_enter Tryz.func40, Tryz.ntmps40
    go_wp2_with (go_at_call 78; refine hr.mono ?_; rintro e w1 ⟨rfl, hww⟩; obtain rfl := hww.symm; clear hr c4)
    go_ret
    exact ⟨rfl, rfl⟩

set_option maxRecDepth 100000 in
theorem rused_z {dv : Value} {w : World} (h : OffR dv w) : Calls Tryz.prog 47 #[dv] w fun e w' => e = .returned (.int .i64 0) ∧ w' = w := by
  rcases h with rfl | ⟨p, rfl, hp⟩
  · go_enter Tryz.func47, Tryz.ntmps47
    go_wp2
    go_ret
    exact ⟨rfl, rfl⟩
  · have c4 : w.cell? ⟨p, 2, none⟩ = some (.slice none 0 0) := by rw [cell_of_row w p 2 _ _ _ hp]; rfl
    clear hp
    go_enter Tryz.func47, Tryz.ntmps47
    go_wp2
    refine wp_loop_rounds 1 ?_
    rw [rounds_succ]
    go_wp2
    go_ret
    exact ⟨rfl, rfl⟩

set_option maxRecDepth 100000 in
theorem rfiles_z {dv : Value} {w : World} (h : OffR dv w) : Calls Tryz.prog 50 #[dv] w fun e w' => e = .returned (.slice none 0 0) ∧ w' = w := by
  rcases h with rfl | ⟨p, rfl, hp⟩
  · go_enter Tryz.func50, Tryz.ntmps50
    go_wp2
    go_ret
    exact ⟨rfl, rfl⟩
  · have c4 : w.cell? ⟨p, 2, none⟩ = some (.slice none 0 0) := by rw [cell_of_row w p 2 _ _ _ hp]; rfl
    clear hp
    go_enter Tryz.func50, Tryz.ntmps50
    go_wp2
    refine wp_loop_rounds 1 ?_
    rw [rounds_succ]
    go_wp2
    go_ret
    exact ⟨rfl, rfl⟩

set_option maxRecDepth 100000 in
theorem rsafe_z {dv : Value} {w : World} (h : OffR dv w) : Calls Tryz.prog 52 #[dv] w fun e w' => e = .returned (.slice none 0 0) ∧ w' = w := by
  rcases h with rfl | ⟨p, rfl, hp⟩
  · go_enter Tryz.func52, Tryz.ntmps52
    go_wp2
    go_ret
    exact ⟨rfl, rfl⟩
  · have c4 : w.cell? ⟨p, 3, none⟩ = some (.slice none 0 0) := by rw [cell_of_row w p 3 _ _ _ hp]; rfl
    clear hp
    go_enter Tryz.func52, Tryz.ntmps52
    go_wp2
    refine wp_loop_rounds 1 ?_
    rw [rounds_succ]
    go_wp2
    go_ret
    exact ⟨rfl, rfl⟩

set_option maxRecDepth 100000 in
theorem rreads_z {dv : Value} {w : World} (h : OffR dv w) : Calls Tryz.prog 54 #[dv] w fun e w' => ∃ ao c, e = .returned (.slice ao 0 c) ∧ Kept [] w w' := by
  rcases h with rfl | ⟨p, rfl, hp⟩
  · go_enter Tryz.func54, Tryz.ntmps54
    go_wp2
    go_ret
    exact ⟨_, _, rfl, Kept.refl [] w⟩
  · have c10 : w.cell? ⟨p, 10, none⟩ = some (.slice none 0 0) := by rw [cell_of_row w p 10 _ _ _ hp]; rfl
    clear hp
    obtain ⟨g, c', w', hap, q1, q2, q3⟩ := run_freshS w 68 68 127 Tryz.underlying68 Tryz.infoSpan rfl (by decide) (.slice none 0 0) 0 [] (World.ownsRow_nil w 0 127 3) (fun u hu => by cases hu) (by decide) (by decide)
    have HE := hide q2
    clear q1 q2 q3
    have d10 : (w.alloc (.cells #[] 127)).cell? ⟨p, 10, none⟩ = some (.slice none 0 0) := ((Kept.refl [] w).alloc _).cellOf c10 (by simp)
    go_enter Tryz.func54, Tryz.ntmps54
    go_wp2_with (at_builtin; refine wpList_app_run rfl _ _ 68 68 rfl _ _ rfl rfl _ _ hap ?_)
    go_ret
    exact ⟨_, _, rfl, HE.out⟩
end Go.Proofs.YtmoaaimjgdbelaaGreat
