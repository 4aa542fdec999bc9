/-
  The walk: freightlaw3.RollWindows, a size that has no window; the whole.
-/
import Derived.Test.YtjfekdcghgpchaaEm4
namespace Go.Proofs.Ytjfekdcghgpchaa
open Go.RowKit
set_option linter.unusedVariables false
set_option linter.unusedSimpArgs false

set_option maxHeartbeats 4000000 in
set_option maxRecDepth 100000 in
theorem windows_bad1 (ao : Option Addr) (n cap : Nat) (size stop : Int) (xs : List UInt8) (w : World) (hi : InB w ao n cap xs) (hs1 : 0 < size) (hs2 : (n : Int) < size) (hbig : n ≤ 100000) :
    Calls Try.prog 6 #[.slice ao n cap, .int .i64 size, .int .i64 stop] w fun e w' => e = .returned (.bool true) ∧ Kept [] w w' := by
  have hbad : size < 1 ∨ (n : Int) < size := by omega
  have HBAD := hide hbad
  clear hbad
  have hzv := Try.zeroDesk
  have hnf := Try.notNil
  have HI : Hid (InB w ao n cap xs) := hi
  have hcl := hi.le
  have hcm := hi.max
  obtain ⟨q0, q1, q2, q3, hk0⟩ := boxes4 w (.slice ao n cap) (.int .i64 size) (.int .i64 stop) (.slice none 0 0) 23 3 3 26
  clear hi
  go_enter Try.func6, Try.ntmps6
  go_upto_region 4 with (fail)
  generalize World.alloc (World.alloc (World.alloc (World.alloc w _) _) _) _ = w4 at q0 q1 q2 q3 hk0 ⊢
  have hdb : w.heap.size ≤ w.heap.size := Nat.le_refl _
  obtain ⟨Db, hDb⟩ : ∃ Db, Db = w.heap.size := ⟨_, rfl⟩
  obtain ⟨Sz, hSz⟩ : ∃ Sz, Sz = w.heap.size + 1 := ⟨_, rfl⟩
  obtain ⟨St, hSt⟩ : ∃ St, St = w.heap.size + 1 + 1 := ⟨_, rfl⟩
  obtain ⟨D, hD⟩ : ∃ D, D = w.heap.size + 1 + 1 + 1 := ⟨_, rfl⟩
  rw [← hD] at q3 ⊢
  rw [← hSt] at q2 ⊢
  rw [← hSz] at q1 ⊢
  rw [← hDb] at q0 ⊢
  have hord : w.heap.size ≤ Db ∧ Db < Sz ∧ Sz < St ∧ St < D := by omega
  clear hDb hSz hSt hD hdb hzv
  have HD0 : Hid (w4.cell? ⟨Db, 0, none⟩ = some (.slice ao n cap)) := q0.cell
  have HS0 : Hid (w4.cell? ⟨Sz, 0, none⟩ = some (.int .i64 size)) := q1.cell
  have HT0 : Hid (w4.cell? ⟨St, 0, none⟩ = some (.int .i64 stop)) := q2.cell
  have hDl := q3.lt
  have HDs : Hid (Ds w w4 D none []) := ⟨q3.dk, by omega, by simp, hk0⟩
  have HN1 : Hid (Db ∉ dkfp D none) := by show Db ∉ dkfp D none; simp [dkfp]; omega
  have HN2 : Hid (Sz ∉ dkfp D none) := by show Sz ∉ dkfp D none; simp [dkfp]; omega
  clear q0 q1 q2 q3 hk0
  refine wp_region_held_drew (S := fun w' => Kept (dkfp D none) w4 w') (by kernel_rfl) ((Kept.refl (dkfp D none) w4).drew) (fun h0 => ?_)
  have hds : Ds w w4.drew D none [] := HDs.out.later ((Kept.refl [] w4).drew) (by simp) (by simp) (by simp)
  generalize World.drew w4 = v0 at h0 hds ⊢
  refine wpAnyH_take (i := 0) (v := .pointer (some ⟨D, 0, none⟩)) rfl (by kernel_rfl) (by kernel_rfl) (by kernel_rfl) (fun _ _ _ h => h) (Or.inl ⟨by rfl, fun w hSw => by go_simp⟩) h0 ?_
  try simp only [List.getElem_toArray, List.getElem_cons_zero, List.getElem_cons_succ, Act.put, List.setIfInBounds_toArray, List.set_cons_zero, List.set_cons_succ]
  refine wpAnyH_take (i := 1) (v := .slice ao n cap) rfl (by kernel_rfl) (by kernel_rfl) (by kernel_rfl) (fun _ _ _ h => h) (Or.inl ⟨by rfl, fun w hSw => by have c := Kept.cellOf hSw HD0.out HN1.out; go_simp⟩) h0 ?_
  try simp only [List.getElem_toArray, List.getElem_cons_zero, List.getElem_cons_succ, Act.put, List.setIfInBounds_toArray, List.set_cons_zero, List.set_cons_succ]
  refine wpAnyH_take (i := 3) (v := .int .i64 size) rfl (by kernel_rfl) (by kernel_rfl) (by kernel_rfl) (fun _ _ _ h => h) (Or.inl ⟨by rfl, fun w hSw => by have c := Kept.cellOf hSw HS0.out HN2.out; go_simp⟩) h0 ?_
  try simp only [List.getElem_toArray, List.getElem_cons_zero, List.getElem_cons_succ, Act.put, List.setIfInBounds_toArray, List.set_cons_zero, List.set_cons_succ]
  refine wpAnyH_ready (rs := [2]) (by kernel_rfl) (by simp) (AllReadyH.cons (i := 2) rfl (fun K hK => ?_) AllReadyH.nil)
  rw [if_pos (by rfl)]
  go_simp
  refine (lay_ds hds ao n cap xs HI.out.len HI.out.sl (by omega)).mono ?_
  have hDv0 := hds.dk.lt
  rintro e v1 ⟨g1, m1, rfl, hds1, hm5, hsl, hq, hg1n⟩
  have hg1D : D < g1 := by rcases hg1n with hh | hh; cases hh; omega
  clear hg1n hDv0
  refine hK.out _ _ (h0.trans hq (fun i hi _ => hi)) (fun h1 => ?_)
  clear hK K hq h0 hds
  try simp only [List.getElem_toArray, List.getElem_cons_zero, List.getElem_cons_succ, Act.put, List.setIfInBounds_toArray, List.set_cons_zero, List.set_cons_succ]
  refine wpAnyH_ready (rs := [4]) (by kernel_rfl) (by simp) (AllReadyH.cons (i := 4) rfl (fun K hK => ?_) AllReadyH.nil)
  rw [if_pos (by rfl)]
  go_simp
  refine (windows_bad _ n m1 size _ HBAD.out).mono ?_
  rintro e v2 ⟨rfl, hq⟩
  have hds2 := hds1.later hq (by simp) (by simp) (by simp)
  refine hK.out _ _ (h1.trans hq (by simp)) (fun hS2 => ?_)
  clear hK K hq h1 hds1 hsl
  try simp only [List.getElem_toArray, List.getElem_cons_zero, List.getElem_cons_succ, Act.put, List.setIfInBounds_toArray, List.set_cons_zero, List.set_cons_succ]
  refine wpAnyH_take (i := 5) (v := .func (.func 27) #[] #[]) rfl (by kernel_rfl) (by kernel_rfl) (by kernel_rfl) (fun _ _ _ h => h) (Or.inl ⟨by rfl, fun w hSw => by go_simp⟩) hS2 ?_
  try simp only [List.getElem_toArray, List.getElem_cons_zero, List.getElem_cons_succ, Act.put, List.setIfInBounds_toArray, List.set_cons_zero, List.set_cons_succ]
  refine wpAnyH_done (by kernel_rfl) ?_ _
  have HD2 : Hid (v2.cell? ⟨Db, 0, none⟩ = some (.slice ao n cap)) := hS2.cellOf HD0.out HN1.out
  have HS2 : Hid (v2.cell? ⟨Sz, 0, none⟩ = some (.int .i64 size)) := hS2.cellOf HS0.out HN2.out
  have HT2 : Hid (v2.cell? ⟨St, 0, none⟩ = some (.int .i64 stop)) := hS2.cellOf HT0.out (by simp [dkfp]; omega)
  have HDs2 : Hid (Ds w v2 D (some g1) (laid xs m1)) := hds2
  clear hds2 hS2 HD0 HS0 HT0 HDs HN1 HN2
  have c1 := HD2.out
  go_wp2_with (fail)
  refine (lies_ds HDs2.out ao n cap HI.out.len HI.out.sl hm5).mono ?_
  rintro e u3 ⟨rfl, k3, rfl⟩
  have hkd : Kept [] v2 (v2.drewN k3) := (Kept.refl [] v2).drewN k3
  have HD3 : Hid ((v2.drewN k3).cell? ⟨Db, 0, none⟩ = some (.slice ao n cap)) := HD2.out
  have HS3 : Hid ((v2.drewN k3).cell? ⟨Sz, 0, none⟩ = some (.int .i64 size)) := HS2.out
  have HT3 : Hid ((v2.drewN k3).cell? ⟨St, 0, none⟩ = some (.int .i64 stop)) := HT2.out
  have HDs3 : Hid (Ds w (v2.drewN k3) D (some g1) (laid xs m1)) := HDs2.out.later hkd (by simp) (by simp) (by simp)
  clear hkd HD2 HS2 HT2 HDs2 c1
  generalize v2.drewN k3 = v3 at HD3 HS3 HT3 HDs3 ⊢
  go_wp2_with (fail)
  refine (lay_ds HDs3.out none 0 0 [] rfl (Sl.nil _ _) (by omega)).mono ?_
  rintro e v4 ⟨g4, m4, rfl, hd4, _, _, hk4, _⟩
  have HD4 : Hid (v4.cell? ⟨Db, 0, none⟩ = some (.slice ao n cap)) := hk4.cellOf HD3.out (by simp [dkfp]; omega)
  have HS4 : Hid (v4.cell? ⟨Sz, 0, none⟩ = some (.int .i64 size)) := hk4.cellOf HS3.out (by simp [dkfp]; omega)
  have HT4 : Hid (v4.cell? ⟨St, 0, none⟩ = some (.int .i64 stop)) := hk4.cellOf HT3.out (by simp [dkfp]; omega)
  have HK4 : Hid (Kept [] w v4) := hd4.kept
  clear HD3 HS3 HT3 HDs3 hd4 hk4
  have hka : Kept [] v4 (v4.alloc (.cells #[.int .i64 0] 3)) := (Kept.refl _ _).alloc _
  have c1 := hka.cellOf HD4.out (by simp)
  have c2 := hka.cellOf HS4.out (by simp)
  have c3 := hka.cellOf HT4.out (by simp)
  have c4 := (Var1.new v4 (.int .i64 0) 3).cell
  have HD5 := hide c1
  have HS5 := hide c2
  have HT5 := hide c3
  have HN5 := hide c4
  have HK5 := hide (HK4.out.trans hka (by simp))
  clear HD4 HS4 HT4 HK4 hka c3 c4
  go_wp2_with (fail)
  clear c1 c2
  generalize v4.alloc _ = w5 at HD5 HS5 HT5 HN5 HK5 ⊢
  generalize v4.heap.size = Nb at HN5 ⊢
  go_loopw [10] (fun x wr => ∃ k : Nat, k ≤ 2 ∧ x = .int .i64 k ∧ Hid (wr.cell? ⟨Db, 0, none⟩ = some (.slice ao n cap)) ∧ Hid (wr.cell? ⟨Sz, 0, none⟩ = some (.int .i64 size)) ∧ Hid (wr.cell? ⟨St, 0, none⟩ = some (.int .i64 stop)) ∧ Hid (wr.cell? ⟨Nb, 0, none⟩ = some (.int .i64 0)) ∧ Hid (Kept [] w wr)) (fun x wr => 2 - (intOf x).toNat)
  case atStart => exact ⟨0, by omega, rfl, HD5, HS5, HT5, HN5, HK5⟩
  case round =>
    clear HD5 HS5 HT5 HN5 HK5
    obtain ⟨k, hk, rfl, HD, HS, HT, HN, HK⟩ := hrel
    by_cases hk2 : k < 2
    · have hka : Kept [] wr ((wr.alloc (.cells #[.int .i64 0] 3)).alloc (.cells #[.bool true] 4)) := ((Kept.refl _ _).alloc _).alloc _
      have c4 := hka.cellOf HN.out (by simp)
      have HDn := hide (hka.cellOf HD.out (by simp))
      have HSn := hide (hka.cellOf HS.out (by simp))
      have HTn := hide (hka.cellOf HT.out (by simp))
      have HNn := hide c4
      have HKn := hide (HK.out.trans hka (by simp))
      clear HD HS HT HN HK hka
      go_wp2_with (go_at_call 27; refine (win1_any _ _).mono ?_; rintro e w' ⟨rfl, hw⟩; obtain rfl := hw.symm)
      go_roundw
      case rel => exact ⟨k + 1, by omega, by go_num, HDn, HSn, HTn, HNn, HKn⟩
      case measure => simp [intOf]; omega
    · have hka : Kept [] wr ((wr.alloc (.cells #[.int .i64 0] 3)).alloc (.cells #[.bool false] 4)) := ((Kept.refl _ _).alloc _).alloc _
      have c1 := hka.cellOf HD.out (by simp)
      have c2 := hka.cellOf HS.out (by simp)
      have c3 := hka.cellOf HT.out (by simp)
      have c4 := hka.cellOf HN.out (by simp)
      have HKn := hide (HK.out.trans hka (by simp))
      have HNE : Hid (∀ W, Calls Try.prog 20 #[.func (.func 27) #[] #[], .slice ao n cap, .int .i64 size, .int .i64 0] W fun e w' => e = .returned (.bool true) ∧ Kept [] W w') := fun W => nested_bad _ size W ao n cap rfl
      clear HD HS HT HN HK hka
      by_cases hst : stop < 0
      · go_wp2_with (first | (go_at_call 27; refine (win1_any _ _).mono ?_; rintro e w' ⟨rfl, hw⟩; obtain rfl := hw.symm) | (go_at_call 20; refine (HNE.out _).mono ?_; rintro e w7 ⟨rfl, hk7⟩) | (go_at_call 13; refine (known_any _).mono ?_; rintro e w8 ⟨rfl, hk8⟩))
        go_ret
        exact ⟨rfl, (HKn.out.trans hk7 (by simp)).trans hk8 (by simp)⟩
      · have hst0 : 0 ≤ stop := by omega
        have hst1 : ¬ stop < 0 := hst
        go_wp2_with (first | (go_at_call 27; refine (win1_any _ _).mono ?_; rintro e w' ⟨rfl, hw⟩; obtain rfl := hw.symm) | (go_at_call 20; refine (HNE.out _).mono ?_; rintro e w7 ⟨rfl, hk7⟩) | (go_at_call 13; refine (known_any _).mono ?_; rintro e w8 ⟨rfl, hk8⟩))
        go_ret
        exact ⟨rfl, (HKn.out.trans hk7 (by simp)).trans hk8 (by simp)⟩

set_option maxHeartbeats 4000000 in
set_option maxRecDepth 100000 in
theorem windows_bad2 (ao : Option Addr) (n cap : Nat) (size stop : Int) (xs : List UInt8) (w : World) (hi : InB w ao n cap xs) (hs1 : size ≤ 0) (hbig : n ≤ 100000) :
    Calls Try.prog 6 #[.slice ao n cap, .int .i64 size, .int .i64 stop] w fun e w' => e = .returned (.bool true) ∧ Kept [] w w' := by
  have hbad : size < 1 ∨ (n : Int) < size := by omega
  have HBAD := hide hbad
  clear hbad
  have hzv := Try.zeroDesk
  have hnf := Try.notNil
  have HI : Hid (InB w ao n cap xs) := hi
  have hcl := hi.le
  have hcm := hi.max
  obtain ⟨q0, q1, q2, q3, hk0⟩ := boxes4 w (.slice ao n cap) (.int .i64 size) (.int .i64 stop) (.slice none 0 0) 23 3 3 26
  clear hi
  go_enter Try.func6, Try.ntmps6
  go_upto_region 4 with (fail)
  generalize World.alloc (World.alloc (World.alloc (World.alloc w _) _) _) _ = w4 at q0 q1 q2 q3 hk0 ⊢
  have hdb : w.heap.size ≤ w.heap.size := Nat.le_refl _
  obtain ⟨Db, hDb⟩ : ∃ Db, Db = w.heap.size := ⟨_, rfl⟩
  obtain ⟨Sz, hSz⟩ : ∃ Sz, Sz = w.heap.size + 1 := ⟨_, rfl⟩
  obtain ⟨St, hSt⟩ : ∃ St, St = w.heap.size + 1 + 1 := ⟨_, rfl⟩
  obtain ⟨D, hD⟩ : ∃ D, D = w.heap.size + 1 + 1 + 1 := ⟨_, rfl⟩
  rw [← hD] at q3 ⊢
  rw [← hSt] at q2 ⊢
  rw [← hSz] at q1 ⊢
  rw [← hDb] at q0 ⊢
  have hord : w.heap.size ≤ Db ∧ Db < Sz ∧ Sz < St ∧ St < D := by omega
  clear hDb hSz hSt hD hdb hzv
  have HD0 : Hid (w4.cell? ⟨Db, 0, none⟩ = some (.slice ao n cap)) := q0.cell
  have HS0 : Hid (w4.cell? ⟨Sz, 0, none⟩ = some (.int .i64 size)) := q1.cell
  have HT0 : Hid (w4.cell? ⟨St, 0, none⟩ = some (.int .i64 stop)) := q2.cell
  have hDl := q3.lt
  have HDs : Hid (Ds w w4 D none []) := ⟨q3.dk, by omega, by simp, hk0⟩
  have HN1 : Hid (Db ∉ dkfp D none) := by show Db ∉ dkfp D none; simp [dkfp]; omega
  have HN2 : Hid (Sz ∉ dkfp D none) := by show Sz ∉ dkfp D none; simp [dkfp]; omega
  clear q0 q1 q2 q3 hk0
  refine wp_region_held_drew (S := fun w' => Kept (dkfp D none) w4 w') (by kernel_rfl) ((Kept.refl (dkfp D none) w4).drew) (fun h0 => ?_)
  have hds : Ds w w4.drew D none [] := HDs.out.later ((Kept.refl [] w4).drew) (by simp) (by simp) (by simp)
  generalize World.drew w4 = v0 at h0 hds ⊢
  refine wpAnyH_take (i := 0) (v := .pointer (some ⟨D, 0, none⟩)) rfl (by kernel_rfl) (by kernel_rfl) (by kernel_rfl) (fun _ _ _ h => h) (Or.inl ⟨by rfl, fun w hSw => by go_simp⟩) h0 ?_
  try simp only [List.getElem_toArray, List.getElem_cons_zero, List.getElem_cons_succ, Act.put, List.setIfInBounds_toArray, List.set_cons_zero, List.set_cons_succ]
  refine wpAnyH_take (i := 1) (v := .slice ao n cap) rfl (by kernel_rfl) (by kernel_rfl) (by kernel_rfl) (fun _ _ _ h => h) (Or.inl ⟨by rfl, fun w hSw => by have c := Kept.cellOf hSw HD0.out HN1.out; go_simp⟩) h0 ?_
  try simp only [List.getElem_toArray, List.getElem_cons_zero, List.getElem_cons_succ, Act.put, List.setIfInBounds_toArray, List.set_cons_zero, List.set_cons_succ]
  refine wpAnyH_take (i := 3) (v := .int .i64 size) rfl (by kernel_rfl) (by kernel_rfl) (by kernel_rfl) (fun _ _ _ h => h) (Or.inl ⟨by rfl, fun w hSw => by have c := Kept.cellOf hSw HS0.out HN2.out; go_simp⟩) h0 ?_
  try simp only [List.getElem_toArray, List.getElem_cons_zero, List.getElem_cons_succ, Act.put, List.setIfInBounds_toArray, List.set_cons_zero, List.set_cons_succ]
  refine wpAnyH_ready (rs := [2]) (by kernel_rfl) (by simp) (AllReadyH.cons (i := 2) rfl (fun K hK => ?_) AllReadyH.nil)
  rw [if_pos (by rfl)]
  go_simp
  refine (lay_ds hds ao n cap xs HI.out.len HI.out.sl (by omega)).mono ?_
  have hDv0 := hds.dk.lt
  rintro e v1 ⟨g1, m1, rfl, hds1, hm5, hsl, hq, hg1n⟩
  have hg1D : D < g1 := by rcases hg1n with hh | hh; cases hh; omega
  clear hg1n hDv0
  refine hK.out _ _ (h0.trans hq (fun i hi _ => hi)) (fun h1 => ?_)
  clear hK K hq h0 hds
  try simp only [List.getElem_toArray, List.getElem_cons_zero, List.getElem_cons_succ, Act.put, List.setIfInBounds_toArray, List.set_cons_zero, List.set_cons_succ]
  refine wpAnyH_ready (rs := [4]) (by kernel_rfl) (by simp) (AllReadyH.cons (i := 4) rfl (fun K hK => ?_) AllReadyH.nil)
  rw [if_pos (by rfl)]
  go_simp
  refine (windows_bad _ n m1 size _ HBAD.out).mono ?_
  rintro e v2 ⟨rfl, hq⟩
  have hds2 := hds1.later hq (by simp) (by simp) (by simp)
  refine hK.out _ _ (h1.trans hq (by simp)) (fun hS2 => ?_)
  clear hK K hq h1 hds1 hsl
  try simp only [List.getElem_toArray, List.getElem_cons_zero, List.getElem_cons_succ, Act.put, List.setIfInBounds_toArray, List.set_cons_zero, List.set_cons_succ]
  refine wpAnyH_take (i := 5) (v := .func (.func 27) #[] #[]) rfl (by kernel_rfl) (by kernel_rfl) (by kernel_rfl) (fun _ _ _ h => h) (Or.inl ⟨by rfl, fun w hSw => by go_simp⟩) hS2 ?_
  try simp only [List.getElem_toArray, List.getElem_cons_zero, List.getElem_cons_succ, Act.put, List.setIfInBounds_toArray, List.set_cons_zero, List.set_cons_succ]
  refine wpAnyH_done (by kernel_rfl) ?_ _
  have HD2 : Hid (v2.cell? ⟨Db, 0, none⟩ = some (.slice ao n cap)) := hS2.cellOf HD0.out HN1.out
  have HS2 : Hid (v2.cell? ⟨Sz, 0, none⟩ = some (.int .i64 size)) := hS2.cellOf HS0.out HN2.out
  have HT2 : Hid (v2.cell? ⟨St, 0, none⟩ = some (.int .i64 stop)) := hS2.cellOf HT0.out (by simp [dkfp]; omega)
  have HDs2 : Hid (Ds w v2 D (some g1) (laid xs m1)) := hds2
  clear hds2 hS2 HD0 HS0 HT0 HDs HN1 HN2
  have c1 := HD2.out
  go_wp2_with (fail)
  refine (lies_ds HDs2.out ao n cap HI.out.len HI.out.sl hm5).mono ?_
  rintro e u3 ⟨rfl, k3, rfl⟩
  have hkd : Kept [] v2 (v2.drewN k3) := (Kept.refl [] v2).drewN k3
  have HD3 : Hid ((v2.drewN k3).cell? ⟨Db, 0, none⟩ = some (.slice ao n cap)) := HD2.out
  have HS3 : Hid ((v2.drewN k3).cell? ⟨Sz, 0, none⟩ = some (.int .i64 size)) := HS2.out
  have HT3 : Hid ((v2.drewN k3).cell? ⟨St, 0, none⟩ = some (.int .i64 stop)) := HT2.out
  have HDs3 : Hid (Ds w (v2.drewN k3) D (some g1) (laid xs m1)) := HDs2.out.later hkd (by simp) (by simp) (by simp)
  clear hkd HD2 HS2 HT2 HDs2 c1
  generalize v2.drewN k3 = v3 at HD3 HS3 HT3 HDs3 ⊢
  go_wp2_with (fail)
  refine (lay_ds HDs3.out none 0 0 [] rfl (Sl.nil _ _) (by omega)).mono ?_
  rintro e v4 ⟨g4, m4, rfl, hd4, _, _, hk4, _⟩
  have HD4 : Hid (v4.cell? ⟨Db, 0, none⟩ = some (.slice ao n cap)) := hk4.cellOf HD3.out (by simp [dkfp]; omega)
  have HS4 : Hid (v4.cell? ⟨Sz, 0, none⟩ = some (.int .i64 size)) := hk4.cellOf HS3.out (by simp [dkfp]; omega)
  have HT4 : Hid (v4.cell? ⟨St, 0, none⟩ = some (.int .i64 stop)) := hk4.cellOf HT3.out (by simp [dkfp]; omega)
  have HK4 : Hid (Kept [] w v4) := hd4.kept
  clear HD3 HS3 HT3 HDs3 hd4 hk4
  have hka : Kept [] v4 (v4.alloc (.cells #[.int .i64 0] 3)) := (Kept.refl _ _).alloc _
  have c1 := hka.cellOf HD4.out (by simp)
  have c2 := hka.cellOf HS4.out (by simp)
  have c3 := hka.cellOf HT4.out (by simp)
  have c4 := (Var1.new v4 (.int .i64 0) 3).cell
  have HD5 := hide c1
  have HS5 := hide c2
  have HT5 := hide c3
  have HN5 := hide c4
  have HK5 := hide (HK4.out.trans hka (by simp))
  clear HD4 HS4 HT4 HK4 hka c3 c4
  go_wp2_with (fail)
  clear c1 c2
  generalize v4.alloc _ = w5 at HD5 HS5 HT5 HN5 HK5 ⊢
  generalize v4.heap.size = Nb at HN5 ⊢
  go_loopw [10] (fun x wr => ∃ k : Nat, k ≤ 2 ∧ x = .int .i64 k ∧ Hid (wr.cell? ⟨Db, 0, none⟩ = some (.slice ao n cap)) ∧ Hid (wr.cell? ⟨Sz, 0, none⟩ = some (.int .i64 size)) ∧ Hid (wr.cell? ⟨St, 0, none⟩ = some (.int .i64 stop)) ∧ Hid (wr.cell? ⟨Nb, 0, none⟩ = some (.int .i64 0)) ∧ Hid (Kept [] w wr)) (fun x wr => 2 - (intOf x).toNat)
  case atStart => exact ⟨0, by omega, rfl, HD5, HS5, HT5, HN5, HK5⟩
  case round =>
    clear HD5 HS5 HT5 HN5 HK5
    obtain ⟨k, hk, rfl, HD, HS, HT, HN, HK⟩ := hrel
    by_cases hk2 : k < 2
    · have hka : Kept [] wr ((wr.alloc (.cells #[.int .i64 0] 3)).alloc (.cells #[.bool true] 4)) := ((Kept.refl _ _).alloc _).alloc _
      have c4 := hka.cellOf HN.out (by simp)
      have HDn := hide (hka.cellOf HD.out (by simp))
      have HSn := hide (hka.cellOf HS.out (by simp))
      have HTn := hide (hka.cellOf HT.out (by simp))
      have HNn := hide c4
      have HKn := hide (HK.out.trans hka (by simp))
      clear HD HS HT HN HK hka
      go_wp2_with (go_at_call 27; refine (win1_any _ _).mono ?_; rintro e w' ⟨rfl, hw⟩; obtain rfl := hw.symm)
      go_roundw
      case rel => exact ⟨k + 1, by omega, by go_num, HDn, HSn, HTn, HNn, HKn⟩
      case measure => simp [intOf]; omega
    · have hka : Kept [] wr ((wr.alloc (.cells #[.int .i64 0] 3)).alloc (.cells #[.bool false] 4)) := ((Kept.refl _ _).alloc _).alloc _
      have c1 := hka.cellOf HD.out (by simp)
      have c2 := hka.cellOf HS.out (by simp)
      have c3 := hka.cellOf HT.out (by simp)
      have c4 := hka.cellOf HN.out (by simp)
      have HKn := hide (HK.out.trans hka (by simp))
      have HNE : Hid (∀ W, Calls Try.prog 20 #[.func (.func 27) #[] #[], .slice ao n cap, .int .i64 size, .int .i64 0] W fun e w' => e = .returned (.bool true) ∧ Kept [] W w') := fun W => nested_bad _ size W ao n cap rfl
      clear HD HS HT HN HK hka
      by_cases hst : stop < 0
      · go_wp2_with (first | (go_at_call 27; refine (win1_any _ _).mono ?_; rintro e w' ⟨rfl, hw⟩; obtain rfl := hw.symm) | (go_at_call 20; refine (HNE.out _).mono ?_; rintro e w7 ⟨rfl, hk7⟩) | (go_at_call 13; refine (known_any _).mono ?_; rintro e w8 ⟨rfl, hk8⟩))
        go_ret
        exact ⟨rfl, (HKn.out.trans hk7 (by simp)).trans hk8 (by simp)⟩
      · have hst0 : 0 ≤ stop := by omega
        have hst1 : ¬ stop < 0 := hst
        go_wp2_with (first | (go_at_call 27; refine (win1_any _ _).mono ?_; rintro e w' ⟨rfl, hw⟩; obtain rfl := hw.symm) | (go_at_call 20; refine (HNE.out _).mono ?_; rintro e w7 ⟨rfl, hk7⟩) | (go_at_call 13; refine (known_any _).mono ?_; rintro e w8 ⟨rfl, hk8⟩))
        go_ret
        exact ⟨rfl, (HKn.out.trans hk7 (by simp)).trans hk8 (by simp)⟩

set_option maxHeartbeats 2000000 in
set_option maxRecDepth 100000 in
theorem windows_walk (ao : Option Addr) (n cap : Nat) (size stop : Int) (xs : List UInt8) (w : World) (hi : InB w ao n cap xs) (w1 : (Lit.int .i64 size).wf = true) (w2 : (Lit.int .i64 stop).wf = true) :
    Calls Try.prog 6 #[.slice ao n cap, .int .i64 size, .int .i64 stop] w fun e w' => e = .returned (.bool true) ∧ Below w.heap.size w w' := by
  have HK3 : Hid (Kept [] w (((w.alloc (.cells #[.slice ao n cap] 23)).alloc (.cells #[.int .i64 size] 3)).alloc (.cells #[.int .i64 stop] 3))) := (((Kept.refl [] w).alloc _).alloc _).alloc _
  by_cases hbig : 100000 < n
  · clear hi
    go_enter Try.func6, Try.ntmps6
    go_wp2
    go_ret
    exact ⟨rfl, HK3.out.below (Nat.le_refl _) (by simp)⟩
  by_cases hbad : size < 1 ∨ (n : Int) < size
  · by_cases hs0 : size ≤ 0
    · exact (windows_bad2 ao n cap size stop xs w hi hs0 (by omega)).mono fun e w' ⟨he, hk⟩ => ⟨he, hk.below (Nat.le_refl _) (by simp)⟩
    · exact (windows_bad1 ao n cap size stop xs w hi (by omega) (by omega) (by omega)).mono fun e w' ⟨he, hk⟩ => ⟨he, hk.below (Nat.le_refl _) (by simp)⟩
  obtain ⟨s, rfl⟩ : ∃ s : Nat, size = (s : Int) := ⟨size.toNat, by omega⟩
  by_cases hwk : 3000000 < ((n : Int) - (s : Int) + 1) * (s : Int)
  · have h1 : 1 ≤ s := by omega
    have h2 : s ≤ n := by omega
    have hprod : ((n : Int) - (s : Int) + 1) * (s : Int) ≤ 10000000000 := by
      have h3 : ((n : Int) - (s : Int) + 1) * (s : Int) ≤ 100000 * (s : Int) := Int.mul_le_mul_of_nonneg_right (by omega) (by omega)
      omega
    have hprod0 : 0 ≤ ((n : Int) - (s : Int) + 1) * (s : Int) := by omega
    clear hi hbad
    go_enter Try.func6, Try.ntmps6
    go_wp2
    go_ret
    exact ⟨rfl, HK3.out.below (Nat.le_refl _) (by simp)⟩
  · exact (windows_good ao n cap s stop xs w hi (by omega) (by omega) (by omega) hwk).mono fun e w' ⟨he, hk⟩ => ⟨he, hk.below (Nat.le_refl _) (by simp)⟩

end Go.Proofs.Ytjfekdcghgpchaa
