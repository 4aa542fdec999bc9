/-
  Calls of a disk that is none, or of nothing. (Written by tools/rha.py.)
-/
import Derived.Test.YtmoaaimjgdbelaaGreatRh0
namespace Go.Proofs.YtmoaaimjgdbelaaGreat
open Go.RowKit Dsk
set_option linter.unusedVariables false
set_option linter.unusedSimpArgs false
/-- No disk, or one of nothing. -/
def OffD (dv : Value) (w : World) : Prop := dv = .pointer none ∨ ∃ p, dv = .pointer (some ⟨p, 0, none⟩) ∧ w.heap[p]? = some (.cells #[.int .i64 0, .bool false, .map none, .slice none 0 0, .map none, .int .i64 0, .int .i64 0, .int .i64 0, .int .i64 0, .int .i64 0, .slice none 0 0] 70 (0, 0))
theorem OffD.keep {F : Nat → Prop} {dv : Value} {w w' : World} (h : OffD dv w) (hk : Keep F w w') (hF : ∀ p, dv = .pointer (some ⟨p, 0, none⟩) → ¬ F p) : OffD dv w' := by
  rcases h with h | ⟨p, h, h2⟩
  · exact .inl h
  · exact .inr ⟨p, h, hk.heapOf h2 (hF p h)⟩
theorem OffD.kept {dv : Value} {w w' : World} (h : OffD dv w) (hk : Kept [] w w') : OffD dv w' := h.keep (Keep.ofNone (F := fun _ => False) hk) (fun _ _ h => h)

set_option maxRecDepth 100000 in
theorem off_z {dv : Value} {w : World} (h : OffD dv w) : Calls Tryz.prog 22 #[dv] w fun e w' => e = .returned (.bool true) ∧ w' = w := by
  rcases h with rfl | ⟨p, rfl, hp⟩
  · go_enter Tryz.func22, Tryz.ntmps22
    go_wp2
    go_ret
    exact ⟨rfl, rfl⟩
  · have c0 := cell_of_row w p 0 _ _ _ hp
    have c1 := cell_of_row w p 1 _ _ _ hp
    have c2 := cell_of_row w p 2 _ _ _ hp
    have c3 := cell_of_row w p 3 _ _ _ hp
    have c4 := cell_of_row w p 4 _ _ _ hp
    have c5 := cell_of_row w p 5 _ _ _ hp
    have c6 := cell_of_row w p 6 _ _ _ hp
    have c7 := cell_of_row w p 7 _ _ _ hp
    have c8 := cell_of_row w p 8 _ _ _ hp
    have c9 := cell_of_row w p 9 _ _ _ hp
    have c10 := cell_of_row w p 10 _ _ _ hp
    simp only [List.getElem?_toArray, List.getElem?_cons_zero, List.getElem?_cons_succ] at c0 c1 c2 c3 c4 c5 c6 c7 c8 c9 c10
    clear hp
    go_enter Tryz.func22, Tryz.ntmps22
    go_wp2
    go_ret
    exact ⟨rfl, rfl⟩

set_option maxRecDepth 100000 in
theorem find_z {dv : Value} {w : World} (h : OffD dv w) (name : By) : Calls Tryz.prog 71 #[dv, encStr name] w fun e w' => e = .returned (.tuple #[.pointer none, .int .i64 50]) ∧ w' = w := by
  have k0 := off_z h
  clear h
  go_enter Tryz.func71, Tryz.ntmps71
  go_wp2_with (first | (go_at_call 22; refine k0.mono ?_; rintro e w' ⟨rfl, hww⟩; obtain rfl := hww.symm; clear k0))
  go_ret2
  exact ⟨rfl, rfl⟩

set_option maxRecDepth 100000 in
theorem create_z {dv : Value} {w : World} (h : OffD dv w) (name : By) : Calls Tryz.prog 17 #[dv, encStr name] w fun e w' => e = .returned (.int .i64 50) ∧ w' = w := by
  have k0 := find_z h name
  clear h
  go_enter Tryz.func17, Tryz.ntmps17
  go_wp2_with (first | (go_at_call 71; refine k0.mono ?_; rintro e w' ⟨rfl, hww⟩; obtain rfl := hww.symm; clear k0))
  go_ret
  exact ⟨rfl, rfl⟩

set_option maxRecDepth 100000 in
theorem writeat_z {dv : Value} {w : World} (h : OffD dv w) (name : By) (a : Int) (s : Value) : Calls Tryz.prog 59 #[dv, encStr name, .int .i64 a, s] w fun e w' => e = .returned (.int .i64 50) ∧ w' = w := by
  have k0 := find_z h name
  clear h
  go_enter Tryz.func59, Tryz.ntmps59
  go_wp2_with (first | (go_at_call 71; refine k0.mono ?_; rintro e w' ⟨rfl, hww⟩; obtain rfl := hww.symm; clear k0))
  go_ret
  exact ⟨rfl, rfl⟩

set_option maxRecDepth 100000 in
theorem append_z {dv : Value} {w : World} (h : OffD dv w) (name : By) (s : Value) : Calls Tryz.prog 19 #[dv, encStr name, s] w fun e w' => e = .returned (.int .i64 50) ∧ w' = w := by
  have k0 := find_z h name
  clear h
  go_enter Tryz.func19, Tryz.ntmps19
  go_wp2_with (first | (go_at_call 71; refine k0.mono ?_; rintro e w' ⟨rfl, hww⟩; obtain rfl := hww.symm; clear k0))
  go_ret
  exact ⟨rfl, rfl⟩

set_option maxRecDepth 100000 in
theorem truncate_z {dv : Value} {w : World} (h : OffD dv w) (name : By) (a : Int) : Calls Tryz.prog 64 #[dv, encStr name, .int .i64 a] w fun e w' => e = .returned (.int .i64 50) ∧ w' = w := by
  have k0 := find_z h name
  clear h
  go_enter Tryz.func64, Tryz.ntmps64
  go_wp2_with (first | (go_at_call 71; refine k0.mono ?_; rintro e w' ⟨rfl, hww⟩; obtain rfl := hww.symm; clear k0))
  go_ret
  exact ⟨rfl, rfl⟩

set_option maxRecDepth 100000 in
theorem remove_z {dv : Value} {w : World} (h : OffD dv w) (name : By) : Calls Tryz.prog 43 #[dv, encStr name] w fun e w' => e = .returned (.int .i64 50) ∧ w' = w := by
  have k0 := find_z h name
  clear h
  go_enter Tryz.func43, Tryz.ntmps43
  go_wp2_with (first | (go_at_call 71; refine k0.mono ?_; rintro e w' ⟨rfl, hww⟩; obtain rfl := hww.symm; clear k0))
  go_ret
  exact ⟨rfl, rfl⟩

set_option maxRecDepth 100000 in
theorem sync_z {dv : Value} {w : World} (h : OffD dv w) (name : By) : Calls Tryz.prog 35 #[dv, encStr name] w fun e w' => e = .returned (.int .i64 50) ∧ w' = w := by
  have k0 := find_z h name
  clear h
  go_enter Tryz.func35, Tryz.ntmps35
  go_wp2_with (first | (go_at_call 71; refine k0.mono ?_; rintro e w' ⟨rfl, hww⟩; obtain rfl := hww.symm; clear k0))
  go_ret
  exact ⟨rfl, rfl⟩

set_option maxRecDepth 100000 in
theorem read_z {dv : Value} {w : World} (h : OffD dv w) (name : By) (a b : Int) : Calls Tryz.prog 38 #[dv, encStr name, .int .i64 a, .int .i64 b] w fun e w' => e = .returned (.tuple #[.slice none 0 0, .int .i64 50]) ∧ w' = w := by
  have k0 := find_z h name
  clear h
  go_enter Tryz.func38, Tryz.ntmps38
  go_wp2_with (first | (go_at_call 71; refine k0.mono ?_; rintro e w' ⟨rfl, hww⟩; obtain rfl := hww.symm; clear k0))
  go_ret2
  exact ⟨rfl, rfl⟩

set_option maxRecDepth 100000 in
theorem size_z {dv : Value} {w : World} (h : OffD dv w) (name : By) : Calls Tryz.prog 97 #[dv, encStr name] w fun e w' => e = .returned (.tuple #[.int .i64 0, .int .i64 50]) ∧ w' = w := by
  have k0 := find_z h name
  clear h
  go_enter Tryz.func97, Tryz.ntmps97
  go_wp2_with (first | (go_at_call 71; refine k0.mono ?_; rintro e w' ⟨rfl, hww⟩; obtain rfl := hww.symm; clear k0))
  go_ret2
  exact ⟨rfl, rfl⟩

set_option maxRecDepth 100000 in
theorem rename_z {dv : Value} {w : World} (h : OffD dv w) (f t : By) : Calls Tryz.prog 37 #[dv, encStr f, encStr t] w fun e w' => e = .returned (.int .i64 50) ∧ w' = w := by
  have k0 := off_z h
  clear h
  go_enter Tryz.func37, Tryz.ntmps37
  go_wp2_with (first | (go_at_call 22; refine k0.mono ?_; rintro e w' ⟨rfl, hww⟩; obtain rfl := hww.symm; clear k0))
  go_ret
  exact ⟨rfl, rfl⟩

set_option maxRecDepth 100000 in
theorem syncNames_z {dv : Value} {w : World} (h : OffD dv w) : Calls Tryz.prog 36 #[dv] w fun e w' => e = .returned (.int .i64 50) ∧ w' = w := by
  have k0 := off_z h
  clear h
  go_enter Tryz.func36, Tryz.ntmps36
  go_wp2_with (first | (go_at_call 22; refine k0.mono ?_; rintro e w' ⟨rfl, hww⟩; obtain rfl := hww.symm; clear k0))
  go_ret
  exact ⟨rfl, rfl⟩

set_option maxRecDepth 100000 in
theorem list_z {dv : Value} {w : World} (h : OffD dv w) (name : By) : Calls Tryz.prog 56 #[dv, encStr name] w fun e w' => e = .returned (.slice none 0 0) ∧ w' = w := by
  have k0 := off_z h
  clear h
  go_enter Tryz.func56, Tryz.ntmps56
  go_wp2_with (first | (go_at_call 22; refine k0.mono ?_; rintro e w' ⟨rfl, hww⟩; obtain rfl := hww.symm; clear k0))
  go_ret
  exact ⟨rfl, rfl⟩

set_option maxRecDepth 100000 in
theorem plan_z {dv : Value} {w : World} (h : OffD dv w) (a b c : Int) : Calls Tryz.prog 18 #[dv, .agg #[.int .i64 a, .int .i64 b, .int .i64 c]] w fun e w' => e = .returned (.tuple #[]) ∧ Kept [] w w' := by
  obtain ⟨w0, hw0⟩ : ∃ w0, w0 = w.alloc (.cells #[.int .i64 a, .int .i64 b, .int .i64 c] 50) := ⟨_, rfl⟩
  have hk0 : Kept [] w w0 := by rw [hw0]; exact (Kept.refl [] w).alloc _
  have k0 := off_z (h.kept hk0)
  have k1 := off_z h
  have HK0 := hide hk0
  clear h hk0
  go_enter Tryz.func18, Tryz.ntmps18
  go_wp2_with (first
    | (rw [← hw0]; go_at_call 22; refine k0.mono ?_; rintro e w' ⟨rfl, hww⟩; obtain rfl := hww.symm; clear k0)
    | (go_at_call 22; refine k1.mono ?_; rintro e w' ⟨rfl, hww⟩; obtain rfl := hww.symm; clear k1))
  first | refine bodyPost_end (results_none rfl _ _ _) rfl ?_ | refine bodyPost_ret (results_none rfl _ _ _) rfl ?_
  exact ⟨rfl, by first | exact HK0.out | exact (Kept.refl [] _).alloc _⟩

set_option maxRecDepth 100000 in
theorem isNone_z {dv : Value} {w : World} (h : OffD dv w) : Calls Tryz.prog 76 #[dv] w fun e w' => e = .returned (.bool true) ∧ w' = w := by
  rcases h with rfl | ⟨p, rfl, hp⟩
  · go_enter Tryz.func76, Tryz.ntmps76
    go_wp2
    go_ret
    exact ⟨rfl, rfl⟩
  · have c0 := cell_of_row w p 0 _ _ _ hp
    have c1 := cell_of_row w p 1 _ _ _ hp
    have c2 := cell_of_row w p 2 _ _ _ hp
    have c3 := cell_of_row w p 3 _ _ _ hp
    have c4 := cell_of_row w p 4 _ _ _ hp
    have c5 := cell_of_row w p 5 _ _ _ hp
    have c6 := cell_of_row w p 6 _ _ _ hp
    have c7 := cell_of_row w p 7 _ _ _ hp
    have c8 := cell_of_row w p 8 _ _ _ hp
    have c9 := cell_of_row w p 9 _ _ _ hp
    have c10 := cell_of_row w p 10 _ _ _ hp
    simp only [List.getElem?_toArray, List.getElem?_cons_zero, List.getElem?_cons_succ] at c0 c1 c2 c3 c4 c5 c6 c7 c8 c9 c10
    clear hp
    go_enter Tryz.func76, Tryz.ntmps76
    go_wp2
    go_ret
    exact ⟨rfl, rfl⟩

set_option maxRecDepth 100000 in
theorem crash_z {dv : Value} {w : World} (h : OffD dv w) (v : Value) : Calls Tryz.prog 41 #[dv, v] w fun e w' => e = .returned (.tuple #[]) ∧ w' = w := by
  have k0 := isNone_z h
  clear h
  go_enter Tryz.func41, Tryz.ntmps41
  go_wp2_with (first | (go_at_call 76; refine k0.mono ?_; rintro e w' ⟨rfl, hww⟩; obtain rfl := hww.symm; clear k0))
  first | refine bodyPost_end (results_none rfl _ _ _) rfl ?_ | refine bodyPost_ret (results_none rfl _ _ _) rfl ?_
  exact ⟨rfl, rfl⟩

set_option maxRecDepth 100000 in
theorem strokes_z {dv : Value} {w : World} (h : OffD dv w) : Calls Tryz.prog 39 #[dv] w fun e w' => e = .returned (.int .i64 0) ∧ w' = w := by
  rcases h with rfl | ⟨p, rfl, hp⟩
  · go_enter Tryz.func39, Tryz.ntmps39
    go_wp2
    go_ret
    exact ⟨rfl, rfl⟩
  · have c0 := cell_of_row w p 0 _ _ _ hp
    have c1 := cell_of_row w p 1 _ _ _ hp
    have c2 := cell_of_row w p 2 _ _ _ hp
    have c3 := cell_of_row w p 3 _ _ _ hp
    have c4 := cell_of_row w p 4 _ _ _ hp
    have c5 := cell_of_row w p 5 _ _ _ hp
    have c6 := cell_of_row w p 6 _ _ _ hp
    have c7 := cell_of_row w p 7 _ _ _ hp
    have c8 := cell_of_row w p 8 _ _ _ hp
    have c9 := cell_of_row w p 9 _ _ _ hp
    have c10 := cell_of_row w p 10 _ _ _ hp
    simp only [List.getElem?_toArray, List.getElem?_cons_zero, List.getElem?_cons_succ] at c0 c1 c2 c3 c4 c5 c6 c7 c8 c9 c10
    clear hp
    go_enter Tryz.func39, Tryz.ntmps39
    go_wp2
    go_ret
    exact ⟨rfl, rfl⟩

set_option maxRecDepth 100000 in
theorem room_z {dv : Value} {w : World} (h : OffD dv w) : Calls Tryz.prog 23 #[dv] w fun e w' => e = .returned (.int .i64 0) ∧ w' = w := by
  rcases h with rfl | ⟨p, rfl, hp⟩
  · go_enter Tryz.func23, Tryz.ntmps23
    go_wp2
    go_ret
    exact ⟨rfl, rfl⟩
  · have c0 := cell_of_row w p 0 _ _ _ hp
    have c1 := cell_of_row w p 1 _ _ _ hp
    have c2 := cell_of_row w p 2 _ _ _ hp
    have c3 := cell_of_row w p 3 _ _ _ hp
    have c4 := cell_of_row w p 4 _ _ _ hp
    have c5 := cell_of_row w p 5 _ _ _ hp
    have c6 := cell_of_row w p 6 _ _ _ hp
    have c7 := cell_of_row w p 7 _ _ _ hp
    have c8 := cell_of_row w p 8 _ _ _ hp
    have c9 := cell_of_row w p 9 _ _ _ hp
    have c10 := cell_of_row w p 10 _ _ _ hp
    simp only [List.getElem?_toArray, List.getElem?_cons_zero, List.getElem?_cons_succ] at c0 c1 c2 c3 c4 c5 c6 c7 c8 c9 c10
    clear hp
    go_enter Tryz.func23, Tryz.ntmps23
    go_wp2
    go_ret
    exact ⟨rfl, rfl⟩

set_option maxRecDepth 100000 in
theorem look_z {dv : Value} {w : World} (h : OffD dv w) : Calls Tryz.prog 103 #[dv] w fun e w' => e = .returned (.tuple #[]) ∧ OffD dv w' ∧ Keep (fun b => dv = .pointer (some ⟨b, 0, none⟩)) w w' := by
  rcases h with rfl | ⟨p, rfl, hp⟩
  · go_enter Tryz.func103, Tryz.ntmps103
    go_wp2
    first | refine bodyPost_end (results_none rfl _ _ _) rfl ?_ | refine bodyPost_ret (results_none rfl _ _ _) rfl ?_
    exact ⟨rfl, .inl rfl, Keep.refl _ _⟩
  · have c10 : w.cell? ⟨p, 10, none⟩ = some (.slice none 0 0) := by rw [cell_of_row w p 10 _ _ _ hp]; rfl
    have f10 : w.frozen? ⟨p, 10, none⟩ = false := frozen_of_row _ _ _ _ _ hp
    have HF : Hid (OffD (.pointer (some ⟨p, 0, none⟩)) (w.setCell ⟨p, 10, none⟩ (.slice none 0 0))) := hide (.inr ⟨p, rfl, heap_setCell_same w p 10 _ _ _ hp⟩)
    have HK : Hid (Keep (fun b => (Value.pointer (some ⟨p, 0, none⟩)) = .pointer (some ⟨b, 0, none⟩)) w (w.setCell ⟨p, 10, none⟩ (.slice none 0 0))) := hide ((Keep.refl (fun b => (Value.pointer (some ⟨p, 0, none⟩)) = .pointer (some ⟨b, 0, none⟩)) w).setCell (p := ⟨p, 10, none⟩) (fun _ => rfl) _)
    clear hp
    go_enter Tryz.func103, Tryz.ntmps103
    go_wp2
    first | refine bodyPost_end (results_none rfl _ _ _) rfl ?_ | refine bodyPost_ret (results_none rfl _ _ _) rfl ?_
    exact ⟨rfl, HF.out, HK.out⟩

end Go.Proofs.YtmoaaimjgdbelaaGreat
