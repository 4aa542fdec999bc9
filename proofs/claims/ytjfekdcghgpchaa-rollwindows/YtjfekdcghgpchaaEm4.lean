/-
  The walk: freightlaw3.RollWindows.
-/
import Derived.Test.YtjfekdcghgpchaaEm3
import Derived.Test.YtjfekdcghgpchaaEa
import Derived.Deep.Cut
import Derived.Deep.RegionHeld3
namespace Go.Proofs.Ytjfekdcghgpchaa
open Go.RowKit
set_option linter.unusedVariables false
set_option linter.unusedSimpArgs false

theorem boxes4 (w : World) (v0 v1 v2 v3 : Value) (t0 t1 t2 t3 : TypeId) :
    Var1 ((((w.alloc (.cells #[v0] t0)).alloc (.cells #[v1] t1)).alloc (.cells #[v2] t2)).alloc (.cells #[v3] t3)) w.heap.size v0 t0 ∧ Var1 ((((w.alloc (.cells #[v0] t0)).alloc (.cells #[v1] t1)).alloc (.cells #[v2] t2)).alloc (.cells #[v3] t3)) (w.heap.size + 1) v1 t1 ∧ Var1 ((((w.alloc (.cells #[v0] t0)).alloc (.cells #[v1] t1)).alloc (.cells #[v2] t2)).alloc (.cells #[v3] t3)) (w.heap.size + 1 + 1) v2 t2 ∧ Var1 ((((w.alloc (.cells #[v0] t0)).alloc (.cells #[v1] t1)).alloc (.cells #[v2] t2)).alloc (.cells #[v3] t3)) (w.heap.size + 1 + 1 + 1) v3 t3 ∧ Kept [] w ((((w.alloc (.cells #[v0] t0)).alloc (.cells #[v1] t1)).alloc (.cells #[v2] t2)).alloc (.cells #[v3] t3)) := by
  have h := boxes6 w v0 v1 v2 v3 v3 v3 t0 t1 t2 t3 t3 t3
  have ka : ∀ (W : World) (o : Obj), Kept [] W (W.alloc o) := fun W o => (Kept.refl [] W).alloc o
  have n1 : Var1 ((w.alloc (.cells #[v0] t0)).alloc (.cells #[v1] t1)) (w.heap.size + 1) v1 t1 := by simpa using Var1.new (w.alloc (.cells #[v0] t0)) v1 t1
  have n2 : Var1 (((w.alloc (.cells #[v0] t0)).alloc (.cells #[v1] t1)).alloc (.cells #[v2] t2)) (w.heap.size + 1 + 1) v2 t2 := by simpa using Var1.new ((w.alloc (.cells #[v0] t0)).alloc (.cells #[v1] t1)) v2 t2
  have n3 : Var1 ((((w.alloc (.cells #[v0] t0)).alloc (.cells #[v1] t1)).alloc (.cells #[v2] t2)).alloc (.cells #[v3] t3)) (w.heap.size + 1 + 1 + 1) v3 t3 := by simpa using Var1.new (((w.alloc (.cells #[v0] t0)).alloc (.cells #[v1] t1)).alloc (.cells #[v2] t2)) v3 t3
  exact ⟨(((Var1.new w v0 t0).kept (ka _ _) (by simp)).kept (ka _ _) (by simp)).kept (ka _ _) (by simp), (n1.kept (ka _ _) (by simp)).kept (ka _ _) (by simp), n2.kept (ka _ _) (by simp), n3, (((ka w _).alloc _).alloc _).alloc _⟩

theorem hide {p : Prop} (h : p) : Hid p := h

theorem Var1.dk {w : World} {D : Nat} (h : Var1 w D (.slice none 0 0) 26) : Dk w D none [] :=
  ⟨h.cell, h.fr, fun _ => rfl, by simp, by simp⟩

set_option maxHeartbeats 4000000 in
set_option maxRecDepth 100000 in
theorem windows_good (ao : Option Addr) (n cap size : Nat) (stop : Int) (xs : List UInt8) (w : World) (hi : InB w ao n cap xs) (h1 : 1 ≤ size) (h2 : size ≤ n) (hbig : n ≤ 100000) (hwk : ¬ 3000000 < ((n : Int) - (size : Int) + 1) * (size : Int)) :
    Calls Try.prog 6 #[.slice ao n cap, .int .i64 size, .int .i64 stop] w fun e w' => e = .returned (.bool true) ∧ Kept [] w w' := by
  have hzv := Try.zeroDesk
  have hnf := Try.notNil
  obtain ⟨b, off, hao, hb0⟩ := hi.sl 0 (by have := hi.len; omega)
  subst hao
  have HI : Hid (InB w (some ⟨b, off, none⟩) n cap xs) := hi
  have hbw : b < w.heap.size := World.block_lt_of_cell? _ _ hb0
  have hcl := hi.le
  have hcm := hi.max
  have hprod : ((n : Int) - (size : Int) + 1) * (size : Int) ≤ 3000000 := by omega
  have hprod0 : 0 ≤ ((n : Int) - (size : Int) + 1) * (size : Int) := Int.mul_nonneg (by omega) (by omega)
  obtain ⟨q0, q1, q2, q3, hk0⟩ := boxes4 w (.slice (some ⟨b, off, none⟩) n cap) (.int .i64 size) (.int .i64 stop) (.slice none 0 0) 23 3 3 26
  clear hi hb0
  go_enter Try.func6, Try.ntmps6
  go_upto_region 4 with (fail)
  generalize World.alloc (World.alloc (World.alloc (World.alloc w _) _) _) _ = w4 at q0 q1 q2 q3 hk0 ⊢
  have hdb : w.heap.size ≤ w.heap.size := Nat.le_refl _
  obtain ⟨Db, hDb⟩ : ∃ Db, Db = w.heap.size := ⟨_, rfl⟩
  obtain ⟨Sz, hSz⟩ : ∃ Sz, Sz = w.heap.size + 1 := ⟨_, rfl⟩
  obtain ⟨St, hSt⟩ : ∃ St, St = w.heap.size + 1 + 1 := ⟨_, rfl⟩
  obtain ⟨D, hD⟩ : ∃ D, D = w.heap.size + 1 + 1 + 1 := ⟨_, rfl⟩
  rw [← hD] at q3 ⊢
  rw [← hSt] at q2 ⊢
  rw [← hSz] at q1 ⊢
  rw [← hDb] at q0 ⊢
  have hord : w.heap.size ≤ Db ∧ Db < Sz ∧ Sz < St ∧ St < D := by omega
  clear hDb hSz hSt hD hdb hzv
  have HD0 : Hid (w4.cell? ⟨Db, 0, none⟩ = some (.slice (some ⟨b, off, none⟩) n cap)) := q0.cell
  have HS0 : Hid (w4.cell? ⟨Sz, 0, none⟩ = some (.int .i64 size)) := q1.cell
  have HT0 : Hid (w4.cell? ⟨St, 0, none⟩ = some (.int .i64 stop)) := q2.cell
  have hDl := q3.lt
  have HDs : Hid (Ds w w4 D none []) := ⟨q3.dk, by omega, by simp, hk0⟩
  have HN1 : Hid (Db ∉ dkfp D none) := by show Db ∉ dkfp D none; simp [dkfp]; omega
  have HN2 : Hid (Sz ∉ dkfp D none) := by show Sz ∉ dkfp D none; simp [dkfp]; omega
  clear q0 q1 q2 q3 hk0
  refine wp_region_held_drew (S := fun w' => Kept (dkfp D none) w4 w') (by kernel_rfl) ((Kept.refl (dkfp D none) w4).drew) (fun h0 => ?_)
  have hds : Ds w w4.drew D none [] := HDs.out.later ((Kept.refl [] w4).drew) (by simp) (by simp) (by simp)
  generalize World.drew w4 = v0 at h0 hds ⊢
  refine wpAnyH_take (i := 0) (v := .pointer (some ⟨D, 0, none⟩)) rfl (by kernel_rfl) (by kernel_rfl) (by kernel_rfl) (fun _ _ _ h => h) (Or.inl ⟨by rfl, fun w hSw => by go_simp⟩) h0 ?_
  try simp only [List.getElem_toArray, List.getElem_cons_zero, List.getElem_cons_succ, Act.put, List.setIfInBounds_toArray, List.set_cons_zero, List.set_cons_succ]
  refine wpAnyH_take (i := 1) (v := .slice (some ⟨b, off, none⟩) n cap) rfl (by kernel_rfl) (by kernel_rfl) (by kernel_rfl) (fun _ _ _ h => h) (Or.inl ⟨by rfl, fun w hSw => by have c := Kept.cellOf hSw HD0.out HN1.out; go_simp⟩) h0 ?_
  try simp only [List.getElem_toArray, List.getElem_cons_zero, List.getElem_cons_succ, Act.put, List.setIfInBounds_toArray, List.set_cons_zero, List.set_cons_succ]
  refine wpAnyH_take (i := 3) (v := .int .i64 (size : Nat)) rfl (by kernel_rfl) (by kernel_rfl) (by kernel_rfl) (fun _ _ _ h => h) (Or.inl ⟨by rfl, fun w hSw => by have c := Kept.cellOf hSw HS0.out HN2.out; go_simp⟩) h0 ?_
  try simp only [List.getElem_toArray, List.getElem_cons_zero, List.getElem_cons_succ, Act.put, List.setIfInBounds_toArray, List.set_cons_zero, List.set_cons_succ]
  refine wpAnyH_ready (rs := [2]) (by kernel_rfl) (by simp) (AllReadyH.cons (i := 2) rfl (fun K hK => ?_) AllReadyH.nil)
  rw [if_pos (by rfl)]
  go_simp
  refine (lay_ds hds (some ⟨b, off, none⟩) n cap xs HI.out.len HI.out.sl (by omega)).mono ?_
  have hDv0 := hds.dk.lt
  rintro e v1 ⟨g1, m1, rfl, hds1, hm5, hsl, hq, hg1n⟩
  have hg1D : D < g1 := by rcases hg1n with hh | hh; cases hh; omega
  clear hg1n hDv0
  refine hK.out _ _ (h0.trans hq (fun i hi _ => hi)) (fun h1 => ?_)
  clear hK K hq h0 hds
  try simp only [List.getElem_toArray, List.getElem_cons_zero, List.getElem_cons_succ, Act.put, List.setIfInBounds_toArray, List.set_cons_zero, List.set_cons_succ]
  refine wpAnyH_ready (rs := [4]) (by kernel_rfl) (by simp) (AllReadyH.cons (i := 4) rfl (fun K hK => ?_) AllReadyH.nil)
  rw [if_pos (by rfl)]
  go_simp
  refine (windows_ok _ n m1 size xs _ HI.out.len (by omega) hsl (by omega) h2).mono ?_
  rintro e v2 ⟨Kb, Sb, gd, cap', rfl, hwc, hk1, hk2, hk3, hq⟩
  have hds2 := hds1.later hq (by simp) (by simp) (by simp)
  have hv1s := hds1.kept.size
  have hg1l := hds1.dk.ltg g1 rfl
  have hDl1 := hds1.dk.lt
  refine hK.out _ _ (h1.trans hq (by simp)) (fun hS2 => ?_)
  clear hK K hq h1 hds1 hsl
  try simp only [List.getElem_toArray, List.getElem_cons_zero, List.getElem_cons_succ, Act.put, List.setIfInBounds_toArray, List.set_cons_zero, List.set_cons_succ]
  refine wpAnyH_take (i := 5) (v := .func (.func 29) #[] #[.pointer (some ⟨Kb, 0, none⟩), .pointer (some ⟨Sb, 0, none⟩)]) rfl (by kernel_rfl) (by kernel_rfl) (by kernel_rfl) (fun _ _ _ h => h) (Or.inl ⟨by rfl, fun w hSw => by go_simp⟩) hS2 ?_
  try simp only [List.getElem_toArray, List.getElem_cons_zero, List.getElem_cons_succ, Act.put, List.setIfInBounds_toArray, List.set_cons_zero, List.set_cons_succ]
  refine wpAnyH_done (by kernel_rfl) ?_ _
  have hord2 : St < Kb ∧ St < Sb ∧ St < gd ∧ D < Kb ∧ D < Sb ∧ D < gd ∧ g1 < Kb ∧ g1 < Sb ∧ g1 < gd := by
    have := hS2.size
    omega
  have HWC : Hid (Wc v2 Kb Sb gd cap' size xs) := hwc
  have HD2 : Hid (v2.cell? ⟨Db, 0, none⟩ = some (.slice (some ⟨b, off, none⟩) n cap)) := hS2.cellOf HD0.out HN1.out
  have HS2 : Hid (v2.cell? ⟨Sz, 0, none⟩ = some (.int .i64 size)) := hS2.cellOf HS0.out HN2.out
  have HT2 : Hid (v2.cell? ⟨St, 0, none⟩ = some (.int .i64 stop)) := hS2.cellOf HT0.out (by simp [dkfp]; omega)
  have HDs2 : Hid (Ds w v2 D (some g1) (laid xs m1)) := hds2
  clear hwc hds2 hS2 HD0 HS0 HT0 HDs HN1 HN2 hk1 hk2 hk3
  have c1 := HD2.out
  go_wp2_with (fail)
  refine (lies_ds HDs2.out (some ⟨b, off, none⟩) n cap HI.out.len HI.out.sl hm5).mono ?_
  rintro e u3 ⟨rfl, k3, rfl⟩
  have hkd : Kept [] v2 (v2.drewN k3) := (Kept.refl [] v2).drewN k3
  have HWC3 : Hid (Wc (v2.drewN k3) Kb Sb gd cap' size xs) := HWC.out.kept hkd (by simp) (by simp) (by simp)
  have HD3 : Hid ((v2.drewN k3).cell? ⟨Db, 0, none⟩ = some (.slice (some ⟨b, off, none⟩) n cap)) := HD2.out
  have HS3 : Hid ((v2.drewN k3).cell? ⟨Sz, 0, none⟩ = some (.int .i64 size)) := HS2.out
  have HT3 : Hid ((v2.drewN k3).cell? ⟨St, 0, none⟩ = some (.int .i64 stop)) := HT2.out
  have HDs3 : Hid (Ds w (v2.drewN k3) D (some g1) (laid xs m1)) := HDs2.out.later hkd (by simp) (by simp) (by simp)
  clear hkd HWC HD2 HS2 HT2 HDs2 c1
  generalize v2.drewN k3 = v3 at HWC3 HD3 HS3 HT3 HDs3 ⊢
  go_wp2_with (fail)
  refine (lay_ds HDs3.out none 0 0 [] rfl (Sl.nil _ _) (by omega)).mono ?_
  rintro e v4 ⟨g4, m4, rfl, hd4, _, _, hk4, _⟩
  have HWC4 : Hid (Wc v4 Kb Sb gd cap' size xs) := HWC3.out.kept hk4 (by simp [dkfp]; omega) (by simp [dkfp]; omega) (by simp [dkfp]; omega)
  have HD4 : Hid (v4.cell? ⟨Db, 0, none⟩ = some (.slice (some ⟨b, off, none⟩) n cap)) := hk4.cellOf HD3.out (by simp [dkfp]; omega)
  have HS4 : Hid (v4.cell? ⟨Sz, 0, none⟩ = some (.int .i64 size)) := hk4.cellOf HS3.out (by simp [dkfp]; omega)
  have HT4 : Hid (v4.cell? ⟨St, 0, none⟩ = some (.int .i64 stop)) := hk4.cellOf HT3.out (by simp [dkfp]; omega)
  have HK4 : Hid (Kept [] w v4) := hd4.kept
  clear HWC3 HD3 HS3 HT3 HDs3 hd4 hk4
  have hka : Kept [] v4 (v4.alloc (.cells #[.int .i64 0] 3)) := (Kept.refl _ _).alloc _
  have c1 := hka.cellOf HD4.out (by simp)
  have c2 := hka.cellOf HS4.out (by simp)
  have hnb : Db < v4.heap.size ∧ Sz < v4.heap.size ∧ St < v4.heap.size ∧ Kb < v4.heap.size ∧ Sb < v4.heap.size ∧ gd < v4.heap.size := ⟨World.block_lt_of_cell? _ _ HD4.out, World.block_lt_of_cell? _ _ HS4.out, World.block_lt_of_cell? _ _ HT4.out, World.block_lt_of_cell? _ _ HWC4.out.k, World.block_lt_of_cell? _ _ HWC4.out.s, World.block_lt_of_cell? _ _ (HWC4.out.d 0 (by have := HI.out.len; omega))⟩
  go_wp2_with (fail)
  obtain ⟨nn, hnn⟩ : ∃ nn, nn = n - size + 1 := ⟨_, rfl⟩
  have hnc : ((n : Int) - (size : Int) + 1) = (nn : Int) := by omega
  have hnv : (Value.int .i64 ((n : Int) - (size : Int) + 1)) = .int .i64 (nn : Int) := by rw [hnc]
  have hNb := Var1.new v4 (.int .i64 ((n : Int) - (size : Int) + 1)) 3
  have hkb : Kept [] v4 (v4.alloc (.cells #[.int .i64 ((n : Int) - (size : Int) + 1)] 3)) := (Kept.refl _ _).alloc _
  have HIT0 : Hid (It (v4.alloc (.cells #[.int .i64 ((n : Int) - (size : Int) + 1)] 3)) Kb Sb gd cap' Db Sz v4.heap.size b off cap size nn xs) := by
    have hl := HI.out.len
    refine ⟨HWC4.out.kept hkb (by simp) (by simp) (by simp), ⟨by rw [hl]; exact hkb.cellOf HD4.out (by simp), hkb.cellOf HS4.out (by simp), by rw [← hnc]; exact hNb.cell, (HI.out.sl.kept HK4.out (by simp)).kept hkb (by simp), h1, by omega, by omega, by omega, by omega⟩⟩
  have HT5 : Hid ((v4.alloc (.cells #[.int .i64 ((n : Int) - (size : Int) + 1)] 3)).cell? ⟨St, 0, none⟩ = some (.int .i64 stop)) := hkb.cellOf HT4.out (by simp)
  have HK5 : Hid (Kept [] w (v4.alloc (.cells #[.int .i64 ((n : Int) - (size : Int) + 1)] 3))) := HK4.out.trans hkb (by simp)
  clear hNb hkb hka c1 c2 HWC4 HD4 HS4 HT4 HK4
  generalize v4.alloc _ = w5 at HIT0 HT5 HK5 ⊢
  generalize v4.heap.size = Nb at HIT0 hnb ⊢
  have hNbb : b < Nb := by omega
  have HNN : Hid (nn = n - size + 1) := hnn
  clear hnn hnc hnv hprod hprod0 hwk
  go_loopw [10] (fun x wr => ∃ k : Nat, k ≤ 2 ∧ x = .int .i64 k ∧ Hid (It wr Kb Sb gd cap' Db Sz Nb b off cap size nn xs) ∧ Hid (wr.cell? ⟨St, 0, none⟩ = some (.int .i64 stop)) ∧ Hid (Kept [] w wr)) (fun x wr => 2 - (intOf x).toNat)
  case atStart => exact ⟨0, by omega, rfl, HIT0, HT5, HK5⟩
  case round =>
    clear HIT0 HT5 HK5
    obtain ⟨k, hk, rfl, HIT, HT, HK⟩ := hrel
    have hlts := HIT.out.lts
    have hSl : St < wr.heap.size := World.block_lt_of_cell? _ _ HT.out
    by_cases hk2 : k < 2
    · have hka : Kept [] wr ((wr.alloc (.cells #[.int .i64 0] 3)).alloc (.cells #[.bool true] 4)) := ((Kept.refl _ _).alloc _).alloc _
      have v1 : Var1 ((wr.alloc (.cells #[.int .i64 0] 3)).alloc (.cells #[.bool true] 4)) wr.heap.size (.int .i64 0) 3 := (Var1.new wr _ _).kept ((Kept.refl [] _).alloc _) (by simp)
      have v2' : Var1 ((wr.alloc (.cells #[.int .i64 0] 3)).alloc (.cells #[.bool true] 4)) (wr.heap.size + 1) (.bool true) 4 := by simpa using Var1.new (wr.alloc (.cells #[.int .i64 0] 3)) (.bool true) 4
      have HC := it1_ok wr.heap.size (wr.heap.size + 1) Kb Sb gd cap' Db Sz Nb b off cap size nn xs _ (HIT.out.kept hka (by simp)) v1 ⟨by omega, by omega, by omega, by omega, by omega, by omega, by omega⟩
      have HCC := hide HC
      have HV2 := hide v2'
      have HKA := hide hka
      clear HC v1 v2' hka
      go_wp2_with (fail)
      refine HCC.out.mono ?_
      rintro e w6 ⟨rfl, hg6, hk6⟩
      have c1 := hg6.cell
      have c2 := (HV2.out.kept hk6 (by simp)).cell
      have hkw : Kept [] wr w6 := HKA.out.trans hk6 (by simp)
      have HITn : Hid (It w6 Kb Sb gd cap' Db Sz Nb b off cap size nn xs) := HIT.out.kept hkw (by simp)
      have HTn : Hid (w6.cell? ⟨St, 0, none⟩ = some (.int .i64 stop)) := hkw.cellOf HT.out (by simp)
      have HKn : Hid (Kept [] w w6) := HK.out.trans hkw (by simp)
      have c3 := HITn.out.v.n
      clear hg6 hk6 hkw HIT HT HK HCC HV2 HKA hlts hSl
      go_wp2
      go_roundw
      case rel => exact ⟨k + 1, by omega, by go_num, HITn, HTn, HKn⟩
      case measure => simp [intOf]; omega
    · have hka : Kept [] wr ((wr.alloc (.cells #[.int .i64 0] 3)).alloc (.cells #[.bool false] 4)) := ((Kept.refl _ _).alloc _).alloc _
      have v1 : Var1 ((wr.alloc (.cells #[.int .i64 0] 3)).alloc (.cells #[.bool false] 4)) wr.heap.size (.int .i64 0) 3 := (Var1.new wr _ _).kept ((Kept.refl [] _).alloc _) (by simp)
      have v2' : Var1 ((wr.alloc (.cells #[.int .i64 0] 3)).alloc (.cells #[.bool false] 4)) (wr.heap.size + 1) (.bool false) 4 := by simpa using Var1.new (wr.alloc (.cells #[.int .i64 0] 3)) (.bool false) 4
      have HC := it2_ok wr.heap.size (wr.heap.size + 1) St Kb Sb gd cap' Db Sz Nb b off cap size nn stop xs _ (HIT.out.kept hka (by simp)) v1 v2' (hka.cellOf HT.out (by simp)) (by omega) ⟨by omega, by omega⟩ ⟨by omega, by omega, by omega, by omega, by omega, by omega, by omega⟩ ⟨by omega, by omega, by omega, by omega, by omega, by omega, by omega⟩
      have HCC := hide HC
      have HKA := hide hka
      clear HC v1 v2' hka
      go_wp2_with (fail)
      refine HCC.out.mono ?_
      rintro e w6 ⟨rfl, ho6, hk6, j, hj6, hjj⟩
      have c1 := hj6.cell
      have c2 := ho6.cell
      have hkw : Kept [] wr w6 := HKA.out.trans hk6 (by simp)
      have HITn : Hid (It w6 Kb Sb gd cap' Db Sz Nb b off cap size nn xs) := HIT.out.kept hkw (by simp)
      have c4 := hkw.cellOf HT.out (by simp)
      have HKn : Hid (Kept [] w w6) := HK.out.trans hkw (by simp)
      have c3 := HITn.out.v.n
      have c5 := HITn.out.v.d
      have c6 := HITn.out.v.s
      rw [HI.out.len] at c5
      have HNE : Hid (Calls Try.prog 20 #[.func (.func 29) #[] #[.pointer (some ⟨Kb, 0, none⟩), .pointer (some ⟨Sb, 0, none⟩)], .slice (some ⟨b, off, none⟩) n cap, .int .i64 size, .int .i64 nn] w6 fun e w' => e = .returned (.bool true) ∧ Kept [] w6 w') := nested_ok Kb Sb gd cap' b off n cap size nn xs w6 HITn.out.c HI.out.len HITn.out.v.sl (by omega) hbig HNN.out
      have hnm : nn ≤ 100000 := by have := HNN.out; omega
      clear ho6 hk6 hkw HIT HT HK HCC HKA hlts hSl hj6 HITn
      have hcase : (0 ≤ stop ∧ stop < (nn : Int) ∧ (j : Int) = stop + 1) ∨ (stop < 0 ∧ j = nn) ∨ (0 ≤ stop ∧ (nn : Int) ≤ stop ∧ j = nn) := by omega
      clear hjj
      have l1 : (Value.int IntKind.i64 (j : Int)) = .int .i64 j := rfl
      rcases hcase with ⟨h5, h6, h7⟩ | ⟨h5, rfl⟩ | ⟨h5, h6, rfl⟩
      · have g1 : ((j : Int) != stop + 1) = false := by rw [h7]; simp
        have hj5 : j ≤ 100000 := by omega
        clear h7
        go_wp2_with (first | (go_at_call 20; refine HNE.out.mono ?_; rintro e w7 ⟨rfl, hk7⟩) | (go_at_call 13; refine (known_any _).mono ?_; rintro e w8 ⟨rfl, hk8⟩))
        go_ret
        exact ⟨rfl, (HKn.out.trans hk7 (by simp)).trans hk8 (by simp)⟩
      · go_wp2_with (first | (go_at_call 20; refine HNE.out.mono ?_; rintro e w7 ⟨rfl, hk7⟩) | (go_at_call 13; refine (known_any _).mono ?_; rintro e w8 ⟨rfl, hk8⟩))
        go_ret
        exact ⟨rfl, (HKn.out.trans hk7 (by simp)).trans hk8 (by simp)⟩
      · go_wp2_with (first | (go_at_call 20; refine HNE.out.mono ?_; rintro e w7 ⟨rfl, hk7⟩) | (go_at_call 13; refine (known_any _).mono ?_; rintro e w8 ⟨rfl, hk8⟩))
        go_ret
        exact ⟨rfl, (HKn.out.trans hk7 (by simp)).trans hk8 (by simp)⟩

end Go.Proofs.Ytjfekdcghgpchaa
