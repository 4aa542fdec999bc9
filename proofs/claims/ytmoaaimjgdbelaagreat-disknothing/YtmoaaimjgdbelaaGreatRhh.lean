/-
  Pair.stands of a pair of nothing. (Written by tools/rhh.py.)
-/
import Derived.Test.YtmoaaimjgdbelaaGreatRhc
namespace Go.Proofs.YtmoaaimjgdbelaaGreat
open Go.RowKit Dsk
set_option linter.unusedVariables false
set_option linter.unusedSimpArgs false
structure Rp3 (P : Nat) (dv rv : Value) (v : World) : Prop where
  p0 : v.cell? ⟨P, 0, none⟩ = some dv
  p1 : v.cell? ⟨P, 1, none⟩ = some rv
theorem Rp3.kept {P : Nat} {dv rv : Value} {v v' : World} (h : Rp3 P dv rv v) (hk : Kept [] v v') : Rp3 P dv rv v' := ⟨hk.cellOf h.p0 (by simp), hk.cellOf h.p1 (by simp)⟩
theorem stChk3 : chkq stD [(false, 0), (false, 1), (false, 2), (false, 3), (false, 5), (false, 6), (false, 7), (false, 8), (true, 4), (true, 9), (false, 10), (false, 11), (false, 12), (false, 13), (false, 14), (false, 15), (false, 17), (false, 18), (false, 19), (false, 20), (true, 16), (true, 21), (false, 22), (false, 23), (false, 24), (false, 25), (false, 26), (false, 27), (false, 28), (false, 30), (false, 31), (false, 32), (false, 33), (true, 29), (true, 34), (false, 35), (false, 36), (false, 37), (false, 38), (false, 39), (false, 40), (false, 41), (false, 43), (false, 44), (false, 45), (false, 46), (true, 42), (true, 47), (false, 48), (false, 49), (false, 50), (false, 51), (false, 52), (false, 53), (false, 54), (false, 56), (false, 57), (false, 58), (false, 59), (true, 55), (true, 60), (true, 61), (false, 62), (false, 63), (false, 64), (false, 65), (false, 66), (false, 67), (false, 69), (false, 70), (false, 71), (false, 72), (true, 68), (true, 73), (true, 74), (false, 75), (false, 76), (false, 77), (false, 78), (false, 79), (false, 80), (false, 82), (false, 83), (false, 84), (false, 85), (true, 81), (true, 86), (true, 87), (false, 88), (false, 89), (false, 90), (false, 91), (false, 92), (false, 93), (false, 95), (false, 96), (false, 97), (false, 98), (true, 94), (true, 99), (true, 100), (false, 101), (false, 102)] 0 = true := by kernel_rfl
set_option maxHeartbeats 6400000 in
set_option maxRecDepth 100000 in
theorem nstands_ok {w : World} {P : Nat} {dv rv : Value} (h : OffD dv w) (hr : OffR rv w) (hc : Rp3 P dv rv w) :
    Calls Tryz.prog 14 #[.pointer (some ⟨P, 0, none⟩)] w fun e w' => e = .returned (.bool true) ∧ Kept [] w w' := by
  have HQ := hide (And.intro h hr)
  have HR := hide hc
  clear h hr hc
  go_enter Tryz.func14, Tryz.ntmps14
  go_upto_region 1 with (fail)
  have HQ0 : Hid (OffD dv w.drew ∧ OffR rv w.drew) := hide ⟨HQ.out.1.kept ((Kept.refl [] w).drew), HQ.out.2.kept ((Kept.refl [] w).drew)⟩
  have HK0 : Hid (Kept [] w w.drew) := hide ((Kept.refl [] w).drew)
  clear HQ
  dsimp only [List.append]
  refine wp_region_seq (S := (Rp3 P dv rv)) (D := stD) [(false, 0), (false, 1), (false, 2), (false, 3), (false, 5), (false, 6), (false, 7), (false, 8), (true, 4), (true, 9), (false, 10), (false, 11), (false, 12), (false, 13), (false, 14), (false, 15), (false, 17), (false, 18), (false, 19), (false, 20), (true, 16), (true, 21), (false, 22), (false, 23), (false, 24), (false, 25), (false, 26), (false, 27), (false, 28), (false, 30), (false, 31), (false, 32), (false, 33), (true, 29), (true, 34), (false, 35), (false, 36), (false, 37), (false, 38), (false, 39), (false, 40), (false, 41), (false, 43), (false, 44), (false, 45), (false, 46), (true, 42), (true, 47), (false, 48), (false, 49), (false, 50), (false, 51), (false, 52), (false, 53), (false, 54), (false, 56), (false, 57), (false, 58), (false, 59), (true, 55), (true, 60), (true, 61), (false, 62), (false, 63), (false, 64), (false, 65), (false, 66), (false, 67), (false, 69), (false, 70), (false, 71), (false, 72), (true, 68), (true, 73), (true, 74), (false, 75), (false, 76), (false, 77), (false, 78), (false, 79), (false, 80), (false, 82), (false, 83), (false, 84), (false, 85), (true, 81), (true, 86), (true, 87), (false, 88), (false, 89), (false, 90), (false, 91), (false, 92), (false, 93), (false, 95), (false, 96), (false, 97), (false, 98), (true, 94), (true, 99), (true, 100), (false, 101), (false, 102)] (by kernel_rfl) (by kernel_rfl) (by kernel_rfl) stChk3 (by kernel_rfl) (HR.out.kept ((Kept.refl [] w).drew)) (fun h0 => ?_)
  generalize World.drew w = v0 at h0 HQ0 HK0 ⊢
  refine seqH_take (i := 0) (v := .pointer (some ⟨P, 0, none⟩)) (d := some 3) rfl (by kernel_rfl) (fun _ _ _ h => h) (Or.inl ⟨by kernel_rfl, fun w hSw => by go_simp⟩) ?_
  try simp only [Act.put, List.setIfInBounds_toArray, List.set_cons_zero, List.set_cons_succ]
  refine seqH_take (i := 1) (v := .pointer (some ⟨P, 0, none⟩)) (d := some 4) rfl (by kernel_rfl) (fun _ _ _ h => h) (Or.inl ⟨by kernel_rfl, fun w hSw => by go_simp⟩) ?_
  try simp only [Act.put, List.setIfInBounds_toArray, List.set_cons_zero, List.set_cons_succ]
  refine seqH_take (i := 2) (v := .pointer (some ⟨P, 0, none⟩)) (d := some 5) rfl (by kernel_rfl) (fun _ _ _ h => h) (Or.inl ⟨by kernel_rfl, fun w hSw => by go_simp⟩) ?_
  try simp only [Act.put, List.setIfInBounds_toArray, List.set_cons_zero, List.set_cons_succ]
  refine seqH_take (i := 3) (v := dv) (d := some 6) rfl (by kernel_rfl) (fun _ _ _ h => h) (Or.inl ⟨by kernel_rfl, fun w hSw => by have c0 := hSw.p0; go_simp⟩) ?_
  try simp only [Act.put, List.setIfInBounds_toArray, List.set_cons_zero, List.set_cons_succ]
  refine seqH_take (i := 5) (v := .pointer (some ⟨P, 0, none⟩)) (d := some 8) rfl (by kernel_rfl) (fun _ _ _ h => h) (Or.inl ⟨by kernel_rfl, fun w hSw => by go_simp⟩) ?_
  try simp only [Act.put, List.setIfInBounds_toArray, List.set_cons_zero, List.set_cons_succ]
  refine seqH_take (i := 6) (v := .pointer (some ⟨P, 0, none⟩)) (d := some 9) rfl (by kernel_rfl) (fun _ _ _ h => h) (Or.inl ⟨by kernel_rfl, fun w hSw => by go_simp⟩) ?_
  try simp only [Act.put, List.setIfInBounds_toArray, List.set_cons_zero, List.set_cons_succ]
  refine seqH_take (i := 7) (v := .pointer (some ⟨P, 1, none⟩)) (d := some 10) rfl (by kernel_rfl) (fun _ _ _ h => h) (Or.inl ⟨by kernel_rfl, fun w hSw => by go_simp⟩) ?_
  try simp only [Act.put, List.setIfInBounds_toArray, List.set_cons_zero, List.set_cons_succ]
  refine seqH_take (i := 8) (v := rv) (d := some 11) rfl (by kernel_rfl) (fun _ _ _ h => h) (Or.inl ⟨by kernel_rfl, fun w hSw => by have c0 := hSw.p1; go_simp⟩) ?_
  try simp only [Act.put, List.setIfInBounds_toArray, List.set_cons_zero, List.set_cons_succ]
  refine seqH_run (i := 4) rfl (fun K hK => ?_)
  rw [if_pos (by kernel_rfl)]
  go_simp
  refine (off_z HQ0.out.1).mono ?_
  rintro e v1 ⟨rfl, hw⟩
  obtain rfl := hw.symm
  refine hK.out _ _ (h0) (fun h1 => ?_)
  clear hK K
  try simp only [Act.put, List.setIfInBounds_toArray, List.set_cons_zero, List.set_cons_succ]
  refine seqH_run (i := 9) rfl (fun K hK => ?_)
  rw [if_pos (by kernel_rfl)]
  go_simp
  refine (roff_z HQ0.out.2).mono ?_
  rintro e v2 ⟨rfl, hw⟩
  obtain rfl := hw.symm
  refine hK.out _ _ (h1) (fun h2 => ?_)
  clear hK K
  try simp only [Act.put, List.setIfInBounds_toArray, List.set_cons_zero, List.set_cons_succ]
  refine seqH_take (i := 10) (v := .bool true) (d := some 13) rfl (by kernel_rfl) (fun _ _ _ h => h) (Or.inl ⟨by kernel_rfl, fun w hSw => by go_simp⟩) ?_
  try simp only [Act.put, List.setIfInBounds_toArray, List.set_cons_zero, List.set_cons_succ]
  refine seqH_take (i := 11) (v := .bool true) (d := some 14) rfl (by kernel_rfl) (fun _ _ _ h => h) (Or.inl ⟨by kernel_rfl, fun w hSw => by go_simp⟩) ?_
  try simp only [Act.put, List.setIfInBounds_toArray, List.set_cons_zero, List.set_cons_succ]
  refine seqH_take (i := 12) (v := .pointer (some ⟨P, 0, none⟩)) (d := some 15) rfl (by kernel_rfl) (fun _ _ _ h => h) (Or.inl ⟨by kernel_rfl, fun w hSw => by go_simp⟩) ?_
  try simp only [Act.put, List.setIfInBounds_toArray, List.set_cons_zero, List.set_cons_succ]
  refine seqH_take (i := 13) (v := .pointer (some ⟨P, 0, none⟩)) (d := some 16) rfl (by kernel_rfl) (fun _ _ _ h => h) (Or.inl ⟨by kernel_rfl, fun w hSw => by go_simp⟩) ?_
  try simp only [Act.put, List.setIfInBounds_toArray, List.set_cons_zero, List.set_cons_succ]
  refine seqH_take (i := 14) (v := .pointer (some ⟨P, 0, none⟩)) (d := some 17) rfl (by kernel_rfl) (fun _ _ _ h => h) (Or.inl ⟨by kernel_rfl, fun w hSw => by go_simp⟩) ?_
  try simp only [Act.put, List.setIfInBounds_toArray, List.set_cons_zero, List.set_cons_succ]
  refine seqH_take (i := 15) (v := dv) (d := some 18) rfl (by kernel_rfl) (fun _ _ _ h => h) (Or.inl ⟨by kernel_rfl, fun w hSw => by have c0 := hSw.p0; go_simp⟩) ?_
  try simp only [Act.put, List.setIfInBounds_toArray, List.set_cons_zero, List.set_cons_succ]
  refine seqH_take (i := 17) (v := .pointer (some ⟨P, 0, none⟩)) (d := some 20) rfl (by kernel_rfl) (fun _ _ _ h => h) (Or.inl ⟨by kernel_rfl, fun w hSw => by go_simp⟩) ?_
  try simp only [Act.put, List.setIfInBounds_toArray, List.set_cons_zero, List.set_cons_succ]
  refine seqH_take (i := 18) (v := .pointer (some ⟨P, 0, none⟩)) (d := some 21) rfl (by kernel_rfl) (fun _ _ _ h => h) (Or.inl ⟨by kernel_rfl, fun w hSw => by go_simp⟩) ?_
  try simp only [Act.put, List.setIfInBounds_toArray, List.set_cons_zero, List.set_cons_succ]
  refine seqH_take (i := 19) (v := .pointer (some ⟨P, 1, none⟩)) (d := some 22) rfl (by kernel_rfl) (fun _ _ _ h => h) (Or.inl ⟨by kernel_rfl, fun w hSw => by go_simp⟩) ?_
  try simp only [Act.put, List.setIfInBounds_toArray, List.set_cons_zero, List.set_cons_succ]
  refine seqH_take (i := 20) (v := rv) (d := some 23) rfl (by kernel_rfl) (fun _ _ _ h => h) (Or.inl ⟨by kernel_rfl, fun w hSw => by have c0 := hSw.p1; go_simp⟩) ?_
  try simp only [Act.put, List.setIfInBounds_toArray, List.set_cons_zero, List.set_cons_succ]
  refine seqH_run (i := 16) rfl (fun K hK => ?_)
  rw [if_pos (by kernel_rfl)]
  go_simp
  refine (strokes_z HQ0.out.1).mono ?_
  rintro e v3 ⟨rfl, hw⟩
  obtain rfl := hw.symm
  refine hK.out _ _ (h2) (fun h3 => ?_)
  clear hK K
  try simp only [Act.put, List.setIfInBounds_toArray, List.set_cons_zero, List.set_cons_succ]
  refine seqH_run (i := 21) rfl (fun K hK => ?_)
  rw [if_pos (by kernel_rfl)]
  go_simp
  refine (rstrokes_z HQ0.out.2).mono ?_
  rintro e v4 ⟨rfl, hw⟩
  obtain rfl := hw.symm
  refine hK.out _ _ (h3) (fun h4 => ?_)
  clear hK K
  try simp only [Act.put, List.setIfInBounds_toArray, List.set_cons_zero, List.set_cons_succ]
  refine seqH_take (i := 22) (v := .bool true) (d := some 25) rfl (by kernel_rfl) (fun _ _ _ h => h) (Or.inl ⟨by kernel_rfl, fun w hSw => by go_simp⟩) ?_
  try simp only [Act.put, List.setIfInBounds_toArray, List.set_cons_zero, List.set_cons_succ]
  refine seqH_take (i := 23) (v := .bool true) (d := some 26) rfl (by kernel_rfl) (fun _ _ _ h => h) (Or.inl ⟨by kernel_rfl, fun w hSw => by go_simp⟩) ?_
  try simp only [Act.put, List.setIfInBounds_toArray, List.set_cons_zero, List.set_cons_succ]
  refine seqH_take (i := 24) (v := .bool true) (d := some 27) rfl (by kernel_rfl) (fun _ _ _ h => h) (Or.inl ⟨by kernel_rfl, fun w hSw => by go_simp⟩) ?_
  try simp only [Act.put, List.setIfInBounds_toArray, List.set_cons_zero, List.set_cons_succ]
  refine seqH_take (i := 25) (v := .pointer (some ⟨P, 0, none⟩)) (d := some 28) rfl (by kernel_rfl) (fun _ _ _ h => h) (Or.inl ⟨by kernel_rfl, fun w hSw => by go_simp⟩) ?_
  try simp only [Act.put, List.setIfInBounds_toArray, List.set_cons_zero, List.set_cons_succ]
  refine seqH_take (i := 26) (v := .pointer (some ⟨P, 0, none⟩)) (d := some 29) rfl (by kernel_rfl) (fun _ _ _ h => h) (Or.inl ⟨by kernel_rfl, fun w hSw => by go_simp⟩) ?_
  try simp only [Act.put, List.setIfInBounds_toArray, List.set_cons_zero, List.set_cons_succ]
  refine seqH_take (i := 27) (v := .pointer (some ⟨P, 0, none⟩)) (d := some 30) rfl (by kernel_rfl) (fun _ _ _ h => h) (Or.inl ⟨by kernel_rfl, fun w hSw => by go_simp⟩) ?_
  try simp only [Act.put, List.setIfInBounds_toArray, List.set_cons_zero, List.set_cons_succ]
  refine seqH_take (i := 28) (v := dv) (d := some 31) rfl (by kernel_rfl) (fun _ _ _ h => h) (Or.inl ⟨by kernel_rfl, fun w hSw => by have c0 := hSw.p0; go_simp⟩) ?_
  try simp only [Act.put, List.setIfInBounds_toArray, List.set_cons_zero, List.set_cons_succ]
  refine seqH_take (i := 30) (v := .pointer (some ⟨P, 0, none⟩)) (d := some 33) rfl (by kernel_rfl) (fun _ _ _ h => h) (Or.inl ⟨by kernel_rfl, fun w hSw => by go_simp⟩) ?_
  try simp only [Act.put, List.setIfInBounds_toArray, List.set_cons_zero, List.set_cons_succ]
  refine seqH_take (i := 31) (v := .pointer (some ⟨P, 0, none⟩)) (d := some 34) rfl (by kernel_rfl) (fun _ _ _ h => h) (Or.inl ⟨by kernel_rfl, fun w hSw => by go_simp⟩) ?_
  try simp only [Act.put, List.setIfInBounds_toArray, List.set_cons_zero, List.set_cons_succ]
  refine seqH_take (i := 32) (v := .pointer (some ⟨P, 1, none⟩)) (d := some 35) rfl (by kernel_rfl) (fun _ _ _ h => h) (Or.inl ⟨by kernel_rfl, fun w hSw => by go_simp⟩) ?_
  try simp only [Act.put, List.setIfInBounds_toArray, List.set_cons_zero, List.set_cons_succ]
  refine seqH_take (i := 33) (v := rv) (d := some 36) rfl (by kernel_rfl) (fun _ _ _ h => h) (Or.inl ⟨by kernel_rfl, fun w hSw => by have c0 := hSw.p1; go_simp⟩) ?_
  try simp only [Act.put, List.setIfInBounds_toArray, List.set_cons_zero, List.set_cons_succ]
  refine seqH_run (i := 29) rfl (fun K hK => ?_)
  rw [if_pos (by kernel_rfl)]
  go_simp
  refine (used_z HQ0.out.1).mono ?_
  rintro e v5 ⟨rfl, hk⟩
  have hk1 : Kept [] v0 v5 := hk
  have HQ1 : Hid (OffD dv v5 ∧ OffR rv v5) := hide ⟨HQ0.out.1.kept hk1, HQ0.out.2.kept hk1⟩
  have HK1 : Hid (Kept [] w v5) := hide (HK0.out.trans hk1 (by simp))
  clear HQ0 HK0
  refine hK.out _ _ (h4.kept hk1) (fun h5 => ?_)
  clear hK K
  try simp only [Act.put, List.setIfInBounds_toArray, List.set_cons_zero, List.set_cons_succ]
  refine seqH_run (i := 34) rfl (fun K hK => ?_)
  rw [if_pos (by kernel_rfl)]
  go_simp
  refine (rused_z HQ1.out.2).mono ?_
  rintro e v6 ⟨rfl, hw⟩
  obtain rfl := hw.symm
  refine hK.out _ _ (h5) (fun h6 => ?_)
  clear hK K
  try simp only [Act.put, List.setIfInBounds_toArray, List.set_cons_zero, List.set_cons_succ]
  refine seqH_take (i := 35) (v := .bool true) (d := some 38) rfl (by kernel_rfl) (fun _ _ _ h => h) (Or.inl ⟨by kernel_rfl, fun w hSw => by go_simp⟩) ?_
  try simp only [Act.put, List.setIfInBounds_toArray, List.set_cons_zero, List.set_cons_succ]
  refine seqH_take (i := 36) (v := .bool true) (d := some 39) rfl (by kernel_rfl) (fun _ _ _ h => h) (Or.inl ⟨by kernel_rfl, fun w hSw => by go_simp⟩) ?_
  try simp only [Act.put, List.setIfInBounds_toArray, List.set_cons_zero, List.set_cons_succ]
  refine seqH_take (i := 37) (v := .bool true) (d := some 40) rfl (by kernel_rfl) (fun _ _ _ h => h) (Or.inl ⟨by kernel_rfl, fun w hSw => by go_simp⟩) ?_
  try simp only [Act.put, List.setIfInBounds_toArray, List.set_cons_zero, List.set_cons_succ]
  refine seqH_take (i := 38) (v := .pointer (some ⟨P, 0, none⟩)) (d := some 41) rfl (by kernel_rfl) (fun _ _ _ h => h) (Or.inl ⟨by kernel_rfl, fun w hSw => by go_simp⟩) ?_
  try simp only [Act.put, List.setIfInBounds_toArray, List.set_cons_zero, List.set_cons_succ]
  refine seqH_take (i := 39) (v := .pointer (some ⟨P, 0, none⟩)) (d := some 42) rfl (by kernel_rfl) (fun _ _ _ h => h) (Or.inl ⟨by kernel_rfl, fun w hSw => by go_simp⟩) ?_
  try simp only [Act.put, List.setIfInBounds_toArray, List.set_cons_zero, List.set_cons_succ]
  refine seqH_take (i := 40) (v := .pointer (some ⟨P, 0, none⟩)) (d := some 43) rfl (by kernel_rfl) (fun _ _ _ h => h) (Or.inl ⟨by kernel_rfl, fun w hSw => by go_simp⟩) ?_
  try simp only [Act.put, List.setIfInBounds_toArray, List.set_cons_zero, List.set_cons_succ]
  refine seqH_take (i := 41) (v := dv) (d := some 44) rfl (by kernel_rfl) (fun _ _ _ h => h) (Or.inl ⟨by kernel_rfl, fun w hSw => by have c0 := hSw.p0; go_simp⟩) ?_
  try simp only [Act.put, List.setIfInBounds_toArray, List.set_cons_zero, List.set_cons_succ]
  refine seqH_take (i := 43) (v := .pointer (some ⟨P, 0, none⟩)) (d := some 46) rfl (by kernel_rfl) (fun _ _ _ h => h) (Or.inl ⟨by kernel_rfl, fun w hSw => by go_simp⟩) ?_
  try simp only [Act.put, List.setIfInBounds_toArray, List.set_cons_zero, List.set_cons_succ]
  refine seqH_take (i := 44) (v := .pointer (some ⟨P, 0, none⟩)) (d := some 47) rfl (by kernel_rfl) (fun _ _ _ h => h) (Or.inl ⟨by kernel_rfl, fun w hSw => by go_simp⟩) ?_
  try simp only [Act.put, List.setIfInBounds_toArray, List.set_cons_zero, List.set_cons_succ]
  refine seqH_take (i := 45) (v := .pointer (some ⟨P, 1, none⟩)) (d := some 48) rfl (by kernel_rfl) (fun _ _ _ h => h) (Or.inl ⟨by kernel_rfl, fun w hSw => by go_simp⟩) ?_
  try simp only [Act.put, List.setIfInBounds_toArray, List.set_cons_zero, List.set_cons_succ]
  refine seqH_take (i := 46) (v := rv) (d := some 49) rfl (by kernel_rfl) (fun _ _ _ h => h) (Or.inl ⟨by kernel_rfl, fun w hSw => by have c0 := hSw.p1; go_simp⟩) ?_
  try simp only [Act.put, List.setIfInBounds_toArray, List.set_cons_zero, List.set_cons_succ]
  refine seqH_run (i := 42) rfl (fun K hK => ?_)
  rw [if_pos (by kernel_rfl)]
  go_simp
  refine (room_z HQ1.out.1).mono ?_
  rintro e v7 ⟨rfl, hw⟩
  obtain rfl := hw.symm
  refine hK.out _ _ (h6) (fun h7 => ?_)
  clear hK K
  try simp only [Act.put, List.setIfInBounds_toArray, List.set_cons_zero, List.set_cons_succ]
  refine seqH_run (i := 47) rfl (fun K hK => ?_)
  rw [if_pos (by kernel_rfl)]
  go_simp
  refine (rroom_z HQ1.out.2).mono ?_
  rintro e v8 ⟨rfl, hw⟩
  obtain rfl := hw.symm
  refine hK.out _ _ (h7) (fun h8 => ?_)
  clear hK K
  try simp only [Act.put, List.setIfInBounds_toArray, List.set_cons_zero, List.set_cons_succ]
  refine seqH_take (i := 48) (v := .bool true) (d := some 51) rfl (by kernel_rfl) (fun _ _ _ h => h) (Or.inl ⟨by kernel_rfl, fun w hSw => by go_simp⟩) ?_
  try simp only [Act.put, List.setIfInBounds_toArray, List.set_cons_zero, List.set_cons_succ]
  refine seqH_take (i := 49) (v := .bool true) (d := some 52) rfl (by kernel_rfl) (fun _ _ _ h => h) (Or.inl ⟨by kernel_rfl, fun w hSw => by go_simp⟩) ?_
  try simp only [Act.put, List.setIfInBounds_toArray, List.set_cons_zero, List.set_cons_succ]
  refine seqH_take (i := 50) (v := .bool true) (d := some 53) rfl (by kernel_rfl) (fun _ _ _ h => h) (Or.inl ⟨by kernel_rfl, fun w hSw => by go_simp⟩) ?_
  try simp only [Act.put, List.setIfInBounds_toArray, List.set_cons_zero, List.set_cons_succ]
  refine seqH_take (i := 51) (v := .pointer (some ⟨P, 0, none⟩)) (d := some 54) rfl (by kernel_rfl) (fun _ _ _ h => h) (Or.inl ⟨by kernel_rfl, fun w hSw => by go_simp⟩) ?_
  try simp only [Act.put, List.setIfInBounds_toArray, List.set_cons_zero, List.set_cons_succ]
  refine seqH_take (i := 52) (v := .pointer (some ⟨P, 0, none⟩)) (d := some 55) rfl (by kernel_rfl) (fun _ _ _ h => h) (Or.inl ⟨by kernel_rfl, fun w hSw => by go_simp⟩) ?_
  try simp only [Act.put, List.setIfInBounds_toArray, List.set_cons_zero, List.set_cons_succ]
  refine seqH_take (i := 53) (v := .pointer (some ⟨P, 0, none⟩)) (d := some 56) rfl (by kernel_rfl) (fun _ _ _ h => h) (Or.inl ⟨by kernel_rfl, fun w hSw => by go_simp⟩) ?_
  try simp only [Act.put, List.setIfInBounds_toArray, List.set_cons_zero, List.set_cons_succ]
  refine seqH_take (i := 54) (v := dv) (d := some 57) rfl (by kernel_rfl) (fun _ _ _ h => h) (Or.inl ⟨by kernel_rfl, fun w hSw => by have c0 := hSw.p0; go_simp⟩) ?_
  try simp only [Act.put, List.setIfInBounds_toArray, List.set_cons_zero, List.set_cons_succ]
  refine seqH_take (i := 56) (v := .pointer (some ⟨P, 0, none⟩)) (d := some 59) rfl (by kernel_rfl) (fun _ _ _ h => h) (Or.inl ⟨by kernel_rfl, fun w hSw => by go_simp⟩) ?_
  try simp only [Act.put, List.setIfInBounds_toArray, List.set_cons_zero, List.set_cons_succ]
  refine seqH_take (i := 57) (v := .pointer (some ⟨P, 0, none⟩)) (d := some 60) rfl (by kernel_rfl) (fun _ _ _ h => h) (Or.inl ⟨by kernel_rfl, fun w hSw => by go_simp⟩) ?_
  try simp only [Act.put, List.setIfInBounds_toArray, List.set_cons_zero, List.set_cons_succ]
  refine seqH_take (i := 58) (v := .pointer (some ⟨P, 1, none⟩)) (d := some 61) rfl (by kernel_rfl) (fun _ _ _ h => h) (Or.inl ⟨by kernel_rfl, fun w hSw => by go_simp⟩) ?_
  try simp only [Act.put, List.setIfInBounds_toArray, List.set_cons_zero, List.set_cons_succ]
  refine seqH_take (i := 59) (v := rv) (d := some 62) rfl (by kernel_rfl) (fun _ _ _ h => h) (Or.inl ⟨by kernel_rfl, fun w hSw => by have c0 := hSw.p1; go_simp⟩) ?_
  try simp only [Act.put, List.setIfInBounds_toArray, List.set_cons_zero, List.set_cons_succ]
  refine seqH_run (i := 55) rfl (fun K hK => ?_)
  rw [if_pos (by kernel_rfl)]
  go_simp
  refine (files_z HQ1.out.1).mono ?_
  rintro e v9 ⟨rfl, hk⟩
  have hk2 : Kept [] v5 v9 := hk
  have HQ2 : Hid (OffD dv v9 ∧ OffR rv v9) := hide ⟨HQ1.out.1.kept hk2, HQ1.out.2.kept hk2⟩
  have HK2 : Hid (Kept [] w v9) := hide (HK1.out.trans hk2 (by simp))
  clear HQ1 HK1
  refine hK.out _ _ (h8.kept hk2) (fun h9 => ?_)
  clear hK K
  try simp only [Act.put, List.setIfInBounds_toArray, List.set_cons_zero, List.set_cons_succ]
  refine seqH_run (i := 60) rfl (fun K hK => ?_)
  rw [if_pos (by kernel_rfl)]
  go_simp
  refine (rfiles_z HQ2.out.2).mono ?_
  rintro e v10 ⟨rfl, hw⟩
  obtain rfl := hw.symm
  refine hK.out _ _ (h9) (fun h10 => ?_)
  clear hK K
  try simp only [Act.put, List.setIfInBounds_toArray, List.set_cons_zero, List.set_cons_succ]
  refine seqH_run (i := 61) rfl (fun K hK => ?_)
  rw [if_pos (by kernel_rfl)]
  go_simp
  refine (files_yes none none 0 0 0 [] _ rfl (by decide) (fun f hf => by cases hf) (fun i hi => by simp at hi) (fun i hi => by simp at hi)).mono ?_
  rintro e v11 ⟨rfl, kk, hw⟩
  have hk3 : Kept [] v9 v11 := (by rw [hw]; exact (Kept.refl [] _).drewN kk)
  clear hw
  have HQ3 : Hid (OffD dv v11 ∧ OffR rv v11) := hide ⟨HQ2.out.1.kept hk3, HQ2.out.2.kept hk3⟩
  have HK3 : Hid (Kept [] w v11) := hide (HK2.out.trans hk3 (by simp))
  clear HQ2 HK2
  refine hK.out _ _ (h10.kept hk3) (fun h11 => ?_)
  clear hK K
  try simp only [Act.put, List.setIfInBounds_toArray, List.set_cons_zero, List.set_cons_succ]
  refine seqH_take (i := 62) (v := .bool true) (d := some 65) rfl (by kernel_rfl) (fun _ _ _ h => h) (Or.inl ⟨by kernel_rfl, fun w hSw => by go_simp⟩) ?_
  try simp only [Act.put, List.setIfInBounds_toArray, List.set_cons_zero, List.set_cons_succ]
  refine seqH_take (i := 63) (v := .bool true) (d := some 66) rfl (by kernel_rfl) (fun _ _ _ h => h) (Or.inl ⟨by kernel_rfl, fun w hSw => by go_simp⟩) ?_
  try simp only [Act.put, List.setIfInBounds_toArray, List.set_cons_zero, List.set_cons_succ]
  refine seqH_take (i := 64) (v := .pointer (some ⟨P, 0, none⟩)) (d := some 67) rfl (by kernel_rfl) (fun _ _ _ h => h) (Or.inl ⟨by kernel_rfl, fun w hSw => by go_simp⟩) ?_
  try simp only [Act.put, List.setIfInBounds_toArray, List.set_cons_zero, List.set_cons_succ]
  refine seqH_take (i := 65) (v := .pointer (some ⟨P, 0, none⟩)) (d := some 68) rfl (by kernel_rfl) (fun _ _ _ h => h) (Or.inl ⟨by kernel_rfl, fun w hSw => by go_simp⟩) ?_
  try simp only [Act.put, List.setIfInBounds_toArray, List.set_cons_zero, List.set_cons_succ]
  refine seqH_take (i := 66) (v := .pointer (some ⟨P, 0, none⟩)) (d := some 69) rfl (by kernel_rfl) (fun _ _ _ h => h) (Or.inl ⟨by kernel_rfl, fun w hSw => by go_simp⟩) ?_
  try simp only [Act.put, List.setIfInBounds_toArray, List.set_cons_zero, List.set_cons_succ]
  refine seqH_take (i := 67) (v := dv) (d := some 70) rfl (by kernel_rfl) (fun _ _ _ h => h) (Or.inl ⟨by kernel_rfl, fun w hSw => by have c0 := hSw.p0; go_simp⟩) ?_
  try simp only [Act.put, List.setIfInBounds_toArray, List.set_cons_zero, List.set_cons_succ]
  refine seqH_take (i := 69) (v := .pointer (some ⟨P, 0, none⟩)) (d := some 72) rfl (by kernel_rfl) (fun _ _ _ h => h) (Or.inl ⟨by kernel_rfl, fun w hSw => by go_simp⟩) ?_
  try simp only [Act.put, List.setIfInBounds_toArray, List.set_cons_zero, List.set_cons_succ]
  refine seqH_take (i := 70) (v := .pointer (some ⟨P, 0, none⟩)) (d := some 73) rfl (by kernel_rfl) (fun _ _ _ h => h) (Or.inl ⟨by kernel_rfl, fun w hSw => by go_simp⟩) ?_
  try simp only [Act.put, List.setIfInBounds_toArray, List.set_cons_zero, List.set_cons_succ]
  refine seqH_take (i := 71) (v := .pointer (some ⟨P, 1, none⟩)) (d := some 74) rfl (by kernel_rfl) (fun _ _ _ h => h) (Or.inl ⟨by kernel_rfl, fun w hSw => by go_simp⟩) ?_
  try simp only [Act.put, List.setIfInBounds_toArray, List.set_cons_zero, List.set_cons_succ]
  refine seqH_take (i := 72) (v := rv) (d := some 75) rfl (by kernel_rfl) (fun _ _ _ h => h) (Or.inl ⟨by kernel_rfl, fun w hSw => by have c0 := hSw.p1; go_simp⟩) ?_
  try simp only [Act.put, List.setIfInBounds_toArray, List.set_cons_zero, List.set_cons_succ]
  refine seqH_run (i := 68) rfl (fun K hK => ?_)
  rw [if_pos (by kernel_rfl)]
  go_simp
  refine (safe_z HQ3.out.1).mono ?_
  rintro e v12 ⟨rfl, hk⟩
  have hk4 : Kept [] v11 v12 := hk
  have HQ4 : Hid (OffD dv v12 ∧ OffR rv v12) := hide ⟨HQ3.out.1.kept hk4, HQ3.out.2.kept hk4⟩
  have HK4 : Hid (Kept [] w v12) := hide (HK3.out.trans hk4 (by simp))
  clear HQ3 HK3
  refine hK.out _ _ (h11.kept hk4) (fun h12 => ?_)
  clear hK K
  try simp only [Act.put, List.setIfInBounds_toArray, List.set_cons_zero, List.set_cons_succ]
  refine seqH_run (i := 73) rfl (fun K hK => ?_)
  rw [if_pos (by kernel_rfl)]
  go_simp
  refine (rsafe_z HQ4.out.2).mono ?_
  rintro e v13 ⟨rfl, hw⟩
  obtain rfl := hw.symm
  refine hK.out _ _ (h12) (fun h13 => ?_)
  clear hK K
  try simp only [Act.put, List.setIfInBounds_toArray, List.set_cons_zero, List.set_cons_succ]
  refine seqH_run (i := 74) rfl (fun K hK => ?_)
  rw [if_pos (by kernel_rfl)]
  go_simp
  refine (files_yes none none 0 0 0 [] _ rfl (by decide) (fun f hf => by cases hf) (fun i hi => by simp at hi) (fun i hi => by simp at hi)).mono ?_
  rintro e v14 ⟨rfl, kk, hw⟩
  have hk5 : Kept [] v12 v14 := (by rw [hw]; exact (Kept.refl [] _).drewN kk)
  clear hw
  have HQ5 : Hid (OffD dv v14 ∧ OffR rv v14) := hide ⟨HQ4.out.1.kept hk5, HQ4.out.2.kept hk5⟩
  have HK5 : Hid (Kept [] w v14) := hide (HK4.out.trans hk5 (by simp))
  clear HQ4 HK4
  refine hK.out _ _ (h13.kept hk5) (fun h14 => ?_)
  clear hK K
  try simp only [Act.put, List.setIfInBounds_toArray, List.set_cons_zero, List.set_cons_succ]
  refine seqH_take (i := 75) (v := .bool true) (d := some 78) rfl (by kernel_rfl) (fun _ _ _ h => h) (Or.inl ⟨by kernel_rfl, fun w hSw => by go_simp⟩) ?_
  try simp only [Act.put, List.setIfInBounds_toArray, List.set_cons_zero, List.set_cons_succ]
  refine seqH_take (i := 76) (v := .bool true) (d := some 79) rfl (by kernel_rfl) (fun _ _ _ h => h) (Or.inl ⟨by kernel_rfl, fun w hSw => by go_simp⟩) ?_
  try simp only [Act.put, List.setIfInBounds_toArray, List.set_cons_zero, List.set_cons_succ]
  refine seqH_take (i := 77) (v := .pointer (some ⟨P, 0, none⟩)) (d := some 80) rfl (by kernel_rfl) (fun _ _ _ h => h) (Or.inl ⟨by kernel_rfl, fun w hSw => by go_simp⟩) ?_
  try simp only [Act.put, List.setIfInBounds_toArray, List.set_cons_zero, List.set_cons_succ]
  refine seqH_take (i := 78) (v := .pointer (some ⟨P, 0, none⟩)) (d := some 81) rfl (by kernel_rfl) (fun _ _ _ h => h) (Or.inl ⟨by kernel_rfl, fun w hSw => by go_simp⟩) ?_
  try simp only [Act.put, List.setIfInBounds_toArray, List.set_cons_zero, List.set_cons_succ]
  refine seqH_take (i := 79) (v := .pointer (some ⟨P, 0, none⟩)) (d := some 82) rfl (by kernel_rfl) (fun _ _ _ h => h) (Or.inl ⟨by kernel_rfl, fun w hSw => by go_simp⟩) ?_
  try simp only [Act.put, List.setIfInBounds_toArray, List.set_cons_zero, List.set_cons_succ]
  refine seqH_take (i := 80) (v := dv) (d := some 83) rfl (by kernel_rfl) (fun _ _ _ h => h) (Or.inl ⟨by kernel_rfl, fun w hSw => by have c0 := hSw.p0; go_simp⟩) ?_
  try simp only [Act.put, List.setIfInBounds_toArray, List.set_cons_zero, List.set_cons_succ]
  refine seqH_take (i := 82) (v := .pointer (some ⟨P, 0, none⟩)) (d := some 85) rfl (by kernel_rfl) (fun _ _ _ h => h) (Or.inl ⟨by kernel_rfl, fun w hSw => by go_simp⟩) ?_
  try simp only [Act.put, List.setIfInBounds_toArray, List.set_cons_zero, List.set_cons_succ]
  refine seqH_take (i := 83) (v := .pointer (some ⟨P, 0, none⟩)) (d := some 86) rfl (by kernel_rfl) (fun _ _ _ h => h) (Or.inl ⟨by kernel_rfl, fun w hSw => by go_simp⟩) ?_
  try simp only [Act.put, List.setIfInBounds_toArray, List.set_cons_zero, List.set_cons_succ]
  refine seqH_take (i := 84) (v := .pointer (some ⟨P, 1, none⟩)) (d := some 87) rfl (by kernel_rfl) (fun _ _ _ h => h) (Or.inl ⟨by kernel_rfl, fun w hSw => by go_simp⟩) ?_
  try simp only [Act.put, List.setIfInBounds_toArray, List.set_cons_zero, List.set_cons_succ]
  refine seqH_take (i := 85) (v := rv) (d := some 88) rfl (by kernel_rfl) (fun _ _ _ h => h) (Or.inl ⟨by kernel_rfl, fun w hSw => by have c0 := hSw.p1; go_simp⟩) ?_
  try simp only [Act.put, List.setIfInBounds_toArray, List.set_cons_zero, List.set_cons_succ]
  refine seqH_run (i := 81) rfl (fun K hK => ?_)
  rw [if_pos (by kernel_rfl)]
  go_simp
  refine (reads_z HQ5.out.1).mono ?_
  rintro e v15 ⟨rfl, hw⟩
  obtain rfl := hw.symm
  refine hK.out _ _ (h14) (fun h15 => ?_)
  clear hK K
  try simp only [Act.put, List.setIfInBounds_toArray, List.set_cons_zero, List.set_cons_succ]
  refine seqH_run (i := 86) rfl (fun K hK => ?_)
  rw [if_pos (by kernel_rfl)]
  go_simp
  refine (rreads_z HQ5.out.2).mono ?_
  rintro e v16 ⟨bo2, bc, rfl, hk⟩
  have hk6 : Kept [] v14 v16 := hk
  have HQ6 : Hid (OffD dv v16 ∧ OffR rv v16) := hide ⟨HQ5.out.1.kept hk6, HQ5.out.2.kept hk6⟩
  have HK6 : Hid (Kept [] w v16) := hide (HK5.out.trans hk6 (by simp))
  clear HQ5 HK5
  refine hK.out _ _ (h15.kept hk6) (fun h16 => ?_)
  clear hK K
  try simp only [Act.put, List.setIfInBounds_toArray, List.set_cons_zero, List.set_cons_succ]
  refine seqH_run (i := 87) rfl (fun K hK => ?_)
  rw [if_pos (by kernel_rfl)]
  go_simp
  refine (spans_yes none bo2 0 0 bc [] _ rfl (by decide) (fun i hi => by simp at hi) (fun i hi => by simp at hi)).mono ?_
  rintro e v17 ⟨rfl, kk, hw⟩
  have hk7 : Kept [] v16 v17 := (by rw [hw]; exact (Kept.refl [] _).drewN kk)
  clear hw
  have HQ7 : Hid (OffD dv v17 ∧ OffR rv v17) := hide ⟨HQ6.out.1.kept hk7, HQ6.out.2.kept hk7⟩
  have HK7 : Hid (Kept [] w v17) := hide (HK6.out.trans hk7 (by simp))
  clear HQ6 HK6
  refine hK.out _ _ (h16.kept hk7) (fun h17 => ?_)
  clear hK K
  try simp only [Act.put, List.setIfInBounds_toArray, List.set_cons_zero, List.set_cons_succ]
  refine seqH_take (i := 88) (v := .bool true) (d := some 91) rfl (by kernel_rfl) (fun _ _ _ h => h) (Or.inl ⟨by kernel_rfl, fun w hSw => by go_simp⟩) ?_
  try simp only [Act.put, List.setIfInBounds_toArray, List.set_cons_zero, List.set_cons_succ]
  refine seqH_take (i := 89) (v := .bool true) (d := some 92) rfl (by kernel_rfl) (fun _ _ _ h => h) (Or.inl ⟨by kernel_rfl, fun w hSw => by go_simp⟩) ?_
  try simp only [Act.put, List.setIfInBounds_toArray, List.set_cons_zero, List.set_cons_succ]
  refine seqH_take (i := 90) (v := .pointer (some ⟨P, 0, none⟩)) (d := some 93) rfl (by kernel_rfl) (fun _ _ _ h => h) (Or.inl ⟨by kernel_rfl, fun w hSw => by go_simp⟩) ?_
  try simp only [Act.put, List.setIfInBounds_toArray, List.set_cons_zero, List.set_cons_succ]
  refine seqH_take (i := 91) (v := .pointer (some ⟨P, 0, none⟩)) (d := some 94) rfl (by kernel_rfl) (fun _ _ _ h => h) (Or.inl ⟨by kernel_rfl, fun w hSw => by go_simp⟩) ?_
  try simp only [Act.put, List.setIfInBounds_toArray, List.set_cons_zero, List.set_cons_succ]
  refine seqH_take (i := 92) (v := .pointer (some ⟨P, 0, none⟩)) (d := some 95) rfl (by kernel_rfl) (fun _ _ _ h => h) (Or.inl ⟨by kernel_rfl, fun w hSw => by go_simp⟩) ?_
  try simp only [Act.put, List.setIfInBounds_toArray, List.set_cons_zero, List.set_cons_succ]
  refine seqH_take (i := 93) (v := dv) (d := some 96) rfl (by kernel_rfl) (fun _ _ _ h => h) (Or.inl ⟨by kernel_rfl, fun w hSw => by have c0 := hSw.p0; go_simp⟩) ?_
  try simp only [Act.put, List.setIfInBounds_toArray, List.set_cons_zero, List.set_cons_succ]
  refine seqH_take (i := 95) (v := .pointer (some ⟨P, 0, none⟩)) (d := some 98) rfl (by kernel_rfl) (fun _ _ _ h => h) (Or.inl ⟨by kernel_rfl, fun w hSw => by go_simp⟩) ?_
  try simp only [Act.put, List.setIfInBounds_toArray, List.set_cons_zero, List.set_cons_succ]
  refine seqH_take (i := 96) (v := .pointer (some ⟨P, 0, none⟩)) (d := some 99) rfl (by kernel_rfl) (fun _ _ _ h => h) (Or.inl ⟨by kernel_rfl, fun w hSw => by go_simp⟩) ?_
  try simp only [Act.put, List.setIfInBounds_toArray, List.set_cons_zero, List.set_cons_succ]
  refine seqH_take (i := 97) (v := .pointer (some ⟨P, 1, none⟩)) (d := some 100) rfl (by kernel_rfl) (fun _ _ _ h => h) (Or.inl ⟨by kernel_rfl, fun w hSw => by go_simp⟩) ?_
  try simp only [Act.put, List.setIfInBounds_toArray, List.set_cons_zero, List.set_cons_succ]
  refine seqH_take (i := 98) (v := rv) (d := some 101) rfl (by kernel_rfl) (fun _ _ _ h => h) (Or.inl ⟨by kernel_rfl, fun w hSw => by have c0 := hSw.p1; go_simp⟩) ?_
  try simp only [Act.put, List.setIfInBounds_toArray, List.set_cons_zero, List.set_cons_succ]
  refine seqH_run (i := 94) rfl (fun K hK => ?_)
  rw [if_pos (by kernel_rfl)]
  go_simp
  refine (list_z HQ7.out.1 []).mono ?_
  rintro e v18 ⟨rfl, hw⟩
  obtain rfl := hw.symm
  refine hK.out _ _ (h17) (fun h18 => ?_)
  clear hK K
  try simp only [Act.put, List.setIfInBounds_toArray, List.set_cons_zero, List.set_cons_succ]
  refine seqH_run (i := 99) rfl (fun K hK => ?_)
  rw [if_pos (by kernel_rfl)]
  go_simp
  refine (rlist_z HQ7.out.2 []).mono ?_
  rintro e v19 ⟨rfl, hw⟩
  obtain rfl := hw.symm
  refine hK.out _ _ (h18) (fun h19 => ?_)
  clear hK K
  try simp only [Act.put, List.setIfInBounds_toArray, List.set_cons_zero, List.set_cons_succ]
  refine seqH_run (i := 100) rfl (fun K hK => ?_)
  rw [if_pos (by kernel_rfl)]
  go_simp
  refine (names_yes none none 0 0 0 [] _ rfl (by decide) (fun i hi => by simp at hi) (fun i hi => by simp at hi)).mono ?_
  rintro e v20 ⟨rfl, kk, hw⟩
  have hk8 : Kept [] v17 v20 := (by rw [hw]; exact (Kept.refl [] _).drewN kk)
  clear hw
  have HQ8 : Hid (OffD dv v20 ∧ OffR rv v20) := hide ⟨HQ7.out.1.kept hk8, HQ7.out.2.kept hk8⟩
  have HK8 : Hid (Kept [] w v20) := hide (HK7.out.trans hk8 (by simp))
  clear HQ7 HK7
  refine hK.out _ _ (h19.kept hk8) (fun h20 => ?_)
  clear hK K
  try simp only [Act.put, List.setIfInBounds_toArray, List.set_cons_zero, List.set_cons_succ]
  refine seqH_take (i := 101) (v := .bool true) (d := some 104) rfl (by kernel_rfl) (fun _ _ _ h => h) (Or.inl ⟨by kernel_rfl, fun w hSw => by go_simp⟩) ?_
  try simp only [Act.put, List.setIfInBounds_toArray, List.set_cons_zero, List.set_cons_succ]
  refine seqH_take (i := 102) (v := .bool true) (d := some 2) rfl (by kernel_rfl) (fun _ _ _ h => h) (Or.inl ⟨by kernel_rfl, fun w hSw => by go_simp⟩) ?_
  try simp only [Act.put, List.setIfInBounds_toArray, List.set_cons_zero, List.set_cons_succ]
  refine seqH_done ?_
  go_wp2
  go_ret
  exact ⟨rfl, HK8.out⟩
end Go.Proofs.YtmoaaimjgdbelaaGreat
