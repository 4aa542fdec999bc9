/-
  Calls of the document's disk that is none, or of nothing. (Written by tools/rha.py.)
-/
import Derived.Test.YtmoaaimjgdbelaaGreatRh0
namespace Go.Proofs.YtmoaaimjgdbelaaGreat
open Go.RowKit Dsk
set_option linter.unusedVariables false
set_option linter.unusedSimpArgs false
/-- No disk, or one of nothing. -/
def OffR (dv : Value) (w : World) : Prop := dv = .pointer none ∨ ∃ p, dv = .pointer (some ⟨p, 0, none⟩) ∧ w.heap[p]? = some (.cells #[.bool false, .int .i64 0, .slice none 0 0, .slice none 0 0, .slice none 0 0, .int .i64 0, .int .i64 0, .int .i64 0, .int .i64 0, .int .i64 0, .slice none 0 0] 74 (0, 0))
theorem OffR.keep {F : Nat → Prop} {dv : Value} {w w' : World} (h : OffR dv w) (hk : Keep F w w') (hF : ∀ p, dv = .pointer (some ⟨p, 0, none⟩) → ¬ F p) : OffR dv w' := by
  rcases h with h | ⟨p, h, h2⟩
  · exact .inl h
  · exact .inr ⟨p, h, hk.heapOf h2 (hF p h)⟩
theorem OffR.kept {dv : Value} {w w' : World} (h : OffR dv w) (hk : Kept [] w w') : OffR dv w' := h.keep (Keep.ofNone (F := fun _ => False) hk) (fun _ _ h => h)

set_option maxRecDepth 100000 in
theorem roff_z {dv : Value} {w : World} (h : OffR dv w) : Calls Tryz.prog 45 #[dv] w fun e w' => e = .returned (.bool true) ∧ w' = w := by
  rcases h with rfl | ⟨p, rfl, hp⟩
  · go_enter Tryz.func45, Tryz.ntmps45
    go_wp2
    go_ret
    exact ⟨rfl, rfl⟩
  · have c0 := cell_of_row w p 0 _ _ _ hp
    have c1 := cell_of_row w p 1 _ _ _ hp
    have c2 := cell_of_row w p 2 _ _ _ hp
    have c3 := cell_of_row w p 3 _ _ _ hp
    have c4 := cell_of_row w p 4 _ _ _ hp
    have c5 := cell_of_row w p 5 _ _ _ hp
    have c6 := cell_of_row w p 6 _ _ _ hp
    have c7 := cell_of_row w p 7 _ _ _ hp
    have c8 := cell_of_row w p 8 _ _ _ hp
    have c9 := cell_of_row w p 9 _ _ _ hp
    have c10 := cell_of_row w p 10 _ _ _ hp
    simp only [List.getElem?_toArray, List.getElem?_cons_zero, List.getElem?_cons_succ] at c0 c1 c2 c3 c4 c5 c6 c7 c8 c9 c10
    clear hp
    go_enter Tryz.func45, Tryz.ntmps45
    go_wp2
    go_ret
    exact ⟨rfl, rfl⟩

set_option maxRecDepth 100000 in
theorem rthere_z {dv : Value} {w : World} (h : OffR dv w) (name : By) : Calls Tryz.prog 92 #[dv, encStr name] w fun e w' => e = .returned (.tuple #[.int .i64 0, .int .i64 50]) ∧ w' = w := by
  have k0 := roff_z h
  clear h
  go_enter Tryz.func92, Tryz.ntmps92
  go_wp2_with (first | (go_at_call 45; refine k0.mono ?_; rintro e w' ⟨rfl, hww⟩; obtain rfl := hww.symm; clear k0))
  go_ret2
  exact ⟨rfl, rfl⟩

set_option maxRecDepth 100000 in
theorem rcreate_z {dv : Value} {w : World} (h : OffR dv w) (name : By) : Calls Tryz.prog 58 #[dv, encStr name] w fun e w' => e = .returned (.int .i64 50) ∧ w' = w := by
  have k0 := roff_z h
  clear h
  go_enter Tryz.func58, Tryz.ntmps58
  go_wp2_with (first | (go_at_call 45; refine k0.mono ?_; rintro e w' ⟨rfl, hww⟩; obtain rfl := hww.symm; clear k0))
  go_ret
  exact ⟨rfl, rfl⟩

set_option maxRecDepth 100000 in
theorem rwriteat_z {dv : Value} {w : World} (h : OffR dv w) (name : By) (a : Int) (s : Value) : Calls Tryz.prog 61 #[dv, encStr name, .int .i64 a, s] w fun e w' => e = .returned (.int .i64 50) ∧ w' = w := by
  have k0 := rthere_z h name
  clear h
  go_enter Tryz.func61, Tryz.ntmps61
  go_wp2_with (first | (go_at_call 92; refine k0.mono ?_; rintro e w' ⟨rfl, hww⟩; obtain rfl := hww.symm; clear k0))
  go_ret
  exact ⟨rfl, rfl⟩

set_option maxRecDepth 100000 in
theorem rappend_z {dv : Value} {w : World} (h : OffR dv w) (name : By) (s : Value) : Calls Tryz.prog 63 #[dv, encStr name, s] w fun e w' => e = .returned (.int .i64 50) ∧ w' = w := by
  have k0 := rthere_z h name
  clear h
  go_enter Tryz.func63, Tryz.ntmps63
  go_wp2_with (first | (go_at_call 92; refine k0.mono ?_; rintro e w' ⟨rfl, hww⟩; obtain rfl := hww.symm; clear k0))
  go_ret
  exact ⟨rfl, rfl⟩

set_option maxRecDepth 100000 in
theorem rtruncate_z {dv : Value} {w : World} (h : OffR dv w) (name : By) (a : Int) : Calls Tryz.prog 65 #[dv, encStr name, .int .i64 a] w fun e w' => e = .returned (.int .i64 50) ∧ w' = w := by
  have k0 := rthere_z h name
  clear h
  go_enter Tryz.func65, Tryz.ntmps65
  go_wp2_with (first | (go_at_call 92; refine k0.mono ?_; rintro e w' ⟨rfl, hww⟩; obtain rfl := hww.symm; clear k0))
  go_ret
  exact ⟨rfl, rfl⟩

set_option maxRecDepth 100000 in
theorem rremove_z {dv : Value} {w : World} (h : OffR dv w) (name : By) : Calls Tryz.prog 67 #[dv, encStr name] w fun e w' => e = .returned (.int .i64 50) ∧ w' = w := by
  have k0 := rthere_z h name
  clear h
  go_enter Tryz.func67, Tryz.ntmps67
  go_wp2_with (first | (go_at_call 92; refine k0.mono ?_; rintro e w' ⟨rfl, hww⟩; obtain rfl := hww.symm; clear k0))
  go_ret
  exact ⟨rfl, rfl⟩

set_option maxRecDepth 100000 in
theorem rsync_z {dv : Value} {w : World} (h : OffR dv w) (name : By) : Calls Tryz.prog 68 #[dv, encStr name] w fun e w' => e = .returned (.int .i64 50) ∧ w' = w := by
  have k0 := rthere_z h name
  clear h
  go_enter Tryz.func68, Tryz.ntmps68
  go_wp2_with (first | (go_at_call 92; refine k0.mono ?_; rintro e w' ⟨rfl, hww⟩; obtain rfl := hww.symm; clear k0))
  go_ret
  exact ⟨rfl, rfl⟩

set_option maxRecDepth 100000 in
theorem rread_z {dv : Value} {w : World} (h : OffR dv w) (name : By) (a b : Int) : Calls Tryz.prog 96 #[dv, encStr name, .int .i64 a, .int .i64 b] w fun e w' => e = .returned (.tuple #[.slice none 0 0, .int .i64 50]) ∧ w' = w := by
  have k0 := rthere_z h name
  clear h
  go_enter Tryz.func96, Tryz.ntmps96
  go_wp2_with (first | (go_at_call 92; refine k0.mono ?_; rintro e w' ⟨rfl, hww⟩; obtain rfl := hww.symm; clear k0))
  go_ret2
  exact ⟨rfl, rfl⟩

set_option maxRecDepth 100000 in
theorem rsize_z {dv : Value} {w : World} (h : OffR dv w) (name : By) : Calls Tryz.prog 98 #[dv, encStr name] w fun e w' => e = .returned (.tuple #[.int .i64 0, .int .i64 50]) ∧ w' = w := by
  have k0 := rthere_z h name
  clear h
  go_enter Tryz.func98, Tryz.ntmps98
  go_wp2_with (first | (go_at_call 92; refine k0.mono ?_; rintro e w' ⟨rfl, hww⟩; obtain rfl := hww.symm; clear k0))
  go_ret2
  exact ⟨rfl, rfl⟩

set_option maxRecDepth 100000 in
theorem rrename_z {dv : Value} {w : World} (h : OffR dv w) (f t : By) : Calls Tryz.prog 66 #[dv, encStr f, encStr t] w fun e w' => e = .returned (.int .i64 50) ∧ w' = w := by
  have k0 := roff_z h
  clear h
  go_enter Tryz.func66, Tryz.ntmps66
  go_wp2_with (first | (go_at_call 45; refine k0.mono ?_; rintro e w' ⟨rfl, hww⟩; obtain rfl := hww.symm; clear k0))
  go_ret
  exact ⟨rfl, rfl⟩

set_option maxRecDepth 100000 in
theorem rsyncNames_z {dv : Value} {w : World} (h : OffR dv w) : Calls Tryz.prog 69 #[dv] w fun e w' => e = .returned (.int .i64 50) ∧ w' = w := by
  have k0 := roff_z h
  clear h
  go_enter Tryz.func69, Tryz.ntmps69
  go_wp2_with (first | (go_at_call 45; refine k0.mono ?_; rintro e w' ⟨rfl, hww⟩; obtain rfl := hww.symm; clear k0))
  go_ret
  exact ⟨rfl, rfl⟩

set_option maxRecDepth 100000 in
theorem rlist_z {dv : Value} {w : World} (h : OffR dv w) (name : By) : Calls Tryz.prog 57 #[dv, encStr name] w fun e w' => e = .returned (.slice none 0 0) ∧ w' = w := by
  have k0 := roff_z h
  clear h
  go_enter Tryz.func57, Tryz.ntmps57
  go_wp2_with (first | (go_at_call 45; refine k0.mono ?_; rintro e w' ⟨rfl, hww⟩; obtain rfl := hww.symm; clear k0))
  go_ret
  exact ⟨rfl, rfl⟩

set_option maxRecDepth 100000 in
theorem rplan_z {dv : Value} {w : World} (h : OffR dv w) (a b c : Int) : Calls Tryz.prog 99 #[dv, .agg #[.int .i64 a, .int .i64 b, .int .i64 c]] w fun e w' => e = .returned (.tuple #[]) ∧ Kept [] w w' := by
  obtain ⟨w0, hw0⟩ : ∃ w0, w0 = w.alloc (.cells #[.int .i64 a, .int .i64 b, .int .i64 c] 50) := ⟨_, rfl⟩
  have hk0 : Kept [] w w0 := by rw [hw0]; exact (Kept.refl [] w).alloc _
  have k0 := roff_z (h.kept hk0)
  have k1 := roff_z h
  have HK0 := hide hk0
  clear h hk0
  go_enter Tryz.func99, Tryz.ntmps99
  go_wp2_with (first
    | (rw [← hw0]; go_at_call 45; refine k0.mono ?_; rintro e w' ⟨rfl, hww⟩; obtain rfl := hww.symm; clear k0)
    | (go_at_call 45; refine k1.mono ?_; rintro e w' ⟨rfl, hww⟩; obtain rfl := hww.symm; clear k1))
  first | refine bodyPost_end (results_none rfl _ _ _) rfl ?_ | refine bodyPost_ret (results_none rfl _ _ _) rfl ?_
  exact ⟨rfl, by first | exact HK0.out | exact (Kept.refl [] _).alloc _⟩

set_option maxRecDepth 100000 in
theorem rcrash_z {dv : Value} {w : World} (h : OffR dv w) (v : Value) : Calls Tryz.prog 101 #[dv, v] w fun e w' => e = .returned (.tuple #[]) ∧ w' = w := by
  rcases h with rfl | ⟨p, rfl, hp⟩
  · go_enter Tryz.func101, Tryz.ntmps101
    go_wp2
    first | refine bodyPost_end (results_none rfl _ _ _) rfl ?_ | refine bodyPost_ret (results_none rfl _ _ _) rfl ?_
    exact ⟨rfl, rfl⟩
  · have c0 := cell_of_row w p 0 _ _ _ hp
    have c1 := cell_of_row w p 1 _ _ _ hp
    have c2 := cell_of_row w p 2 _ _ _ hp
    have c3 := cell_of_row w p 3 _ _ _ hp
    have c4 := cell_of_row w p 4 _ _ _ hp
    have c5 := cell_of_row w p 5 _ _ _ hp
    have c6 := cell_of_row w p 6 _ _ _ hp
    have c7 := cell_of_row w p 7 _ _ _ hp
    have c8 := cell_of_row w p 8 _ _ _ hp
    have c9 := cell_of_row w p 9 _ _ _ hp
    have c10 := cell_of_row w p 10 _ _ _ hp
    simp only [List.getElem?_toArray, List.getElem?_cons_zero, List.getElem?_cons_succ] at c0 c1 c2 c3 c4 c5 c6 c7 c8 c9 c10
    clear hp
    go_enter Tryz.func101, Tryz.ntmps101
    go_wp2
    first | refine bodyPost_end (results_none rfl _ _ _) rfl ?_ | refine bodyPost_ret (results_none rfl _ _ _) rfl ?_
    exact ⟨rfl, rfl⟩

set_option maxRecDepth 100000 in
theorem rstrokes_z {dv : Value} {w : World} (h : OffR dv w) : Calls Tryz.prog 46 #[dv] w fun e w' => e = .returned (.int .i64 0) ∧ w' = w := by
  rcases h with rfl | ⟨p, rfl, hp⟩
  · go_enter Tryz.func46, Tryz.ntmps46
    go_wp2
    go_ret
    exact ⟨rfl, rfl⟩
  · have c0 := cell_of_row w p 0 _ _ _ hp
    have c1 := cell_of_row w p 1 _ _ _ hp
    have c2 := cell_of_row w p 2 _ _ _ hp
    have c3 := cell_of_row w p 3 _ _ _ hp
    have c4 := cell_of_row w p 4 _ _ _ hp
    have c5 := cell_of_row w p 5 _ _ _ hp
    have c6 := cell_of_row w p 6 _ _ _ hp
    have c7 := cell_of_row w p 7 _ _ _ hp
    have c8 := cell_of_row w p 8 _ _ _ hp
    have c9 := cell_of_row w p 9 _ _ _ hp
    have c10 := cell_of_row w p 10 _ _ _ hp
    simp only [List.getElem?_toArray, List.getElem?_cons_zero, List.getElem?_cons_succ] at c0 c1 c2 c3 c4 c5 c6 c7 c8 c9 c10
    clear hp
    go_enter Tryz.func46, Tryz.ntmps46
    go_wp2
    go_ret
    exact ⟨rfl, rfl⟩

set_option maxRecDepth 100000 in
theorem rroom_z {dv : Value} {w : World} (h : OffR dv w) : Calls Tryz.prog 48 #[dv] w fun e w' => e = .returned (.int .i64 0) ∧ w' = w := by
  rcases h with rfl | ⟨p, rfl, hp⟩
  · go_enter Tryz.func48, Tryz.ntmps48
    go_wp2
    go_ret
    exact ⟨rfl, rfl⟩
  · have c0 := cell_of_row w p 0 _ _ _ hp
    have c1 := cell_of_row w p 1 _ _ _ hp
    have c2 := cell_of_row w p 2 _ _ _ hp
    have c3 := cell_of_row w p 3 _ _ _ hp
    have c4 := cell_of_row w p 4 _ _ _ hp
    have c5 := cell_of_row w p 5 _ _ _ hp
    have c6 := cell_of_row w p 6 _ _ _ hp
    have c7 := cell_of_row w p 7 _ _ _ hp
    have c8 := cell_of_row w p 8 _ _ _ hp
    have c9 := cell_of_row w p 9 _ _ _ hp
    have c10 := cell_of_row w p 10 _ _ _ hp
    simp only [List.getElem?_toArray, List.getElem?_cons_zero, List.getElem?_cons_succ] at c0 c1 c2 c3 c4 c5 c6 c7 c8 c9 c10
    clear hp
    go_enter Tryz.func48, Tryz.ntmps48
    go_wp2
    go_ret
    exact ⟨rfl, rfl⟩

set_option maxRecDepth 100000 in
theorem rlook_z {dv : Value} {w : World} (h : OffR dv w) : Calls Tryz.prog 104 #[dv] w fun e w' => e = .returned (.tuple #[]) ∧ OffR dv w' ∧ Keep (fun b => dv = .pointer (some ⟨b, 0, none⟩)) w w' := by
  rcases h with rfl | ⟨p, rfl, hp⟩
  · go_enter Tryz.func104, Tryz.ntmps104
    go_wp2
    first | refine bodyPost_end (results_none rfl _ _ _) rfl ?_ | refine bodyPost_ret (results_none rfl _ _ _) rfl ?_
    exact ⟨rfl, .inl rfl, Keep.refl _ _⟩
  · have c10 : w.cell? ⟨p, 10, none⟩ = some (.slice none 0 0) := by rw [cell_of_row w p 10 _ _ _ hp]; rfl
    have f10 : w.frozen? ⟨p, 10, none⟩ = false := frozen_of_row _ _ _ _ _ hp
    have HF : Hid (OffR (.pointer (some ⟨p, 0, none⟩)) (w.setCell ⟨p, 10, none⟩ (.slice none 0 0))) := hide (.inr ⟨p, rfl, heap_setCell_same w p 10 _ _ _ hp⟩)
    have HK : Hid (Keep (fun b => (Value.pointer (some ⟨p, 0, none⟩)) = .pointer (some ⟨b, 0, none⟩)) w (w.setCell ⟨p, 10, none⟩ (.slice none 0 0))) := hide ((Keep.refl (fun b => (Value.pointer (some ⟨p, 0, none⟩)) = .pointer (some ⟨b, 0, none⟩)) w).setCell (p := ⟨p, 10, none⟩) (fun _ => rfl) _)
    clear hp
    go_enter Tryz.func104, Tryz.ntmps104
    go_wp2
    first | refine bodyPost_end (results_none rfl _ _ _) rfl ?_ | refine bodyPost_ret (results_none rfl _ _ _) rfl ?_
    exact ⟨rfl, HF.out, HK.out⟩

end Go.Proofs.YtmoaaimjgdbelaaGreat
