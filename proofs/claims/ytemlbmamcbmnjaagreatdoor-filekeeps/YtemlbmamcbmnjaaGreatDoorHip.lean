/-
  Contracts: Strokes, Room, isNone, Plan, Look, Size, Read, Reads.
-/
import Derived.Test.YtemlbmamcbmnjaaGreatDoorHep
import Derived.Test.YtemlbmamcbmnjaaGreatDoorHhp
namespace Go.Proofs.YtemlbmamcbmnjaaGreatDoor
open Go.RowKit Dsk
set_option linter.unusedVariables false
set_option linter.unusedSimpArgs false

set_option maxHeartbeats 800000 in
set_option maxRecDepth 100000 in
theorem strokes_ok {w : World} {p : Nat} {S : Ds} {A : Nat → Nat} {o : Lab} (h : PD w p S A o) : Calls Tryz.prog 18 #[.pointer (some ⟨p, 0, none⟩)] w fun e w' => e = .returned (.int .i64 S.strokes) ∧ w' = w := by
  obtain ⟨ms, mh, rv, sv, h⟩ := h
  have c5 := h.c5
  clear h
  go_enter Tryz.func18, Tryz.ntmps18
  go_wp2
  go_ret
  exact ⟨rfl, rfl⟩
set_option maxHeartbeats 800000 in
set_option maxRecDepth 100000 in
theorem isNone_ok {w : World} {p : Nat} {S : Ds} {A : Nat → Nat} {o : Lab} {ms mh : Nat} {rv sv : Value} (h : PDx w p S A o ms mh rv sv) : Calls Tryz.prog 67 #[.pointer (some ⟨p, 0, none⟩)] w fun e w' => e = .returned (.bool false) ∧ w' = w := by
  have c0 := h.c0
  have hr := h.wf.room
  have hz : ((S.room : Int) == 0) = false := by simp; omega
  clear h
  go_enter Tryz.func67, Tryz.ntmps67
  go_wp2
  go_ret
  exact ⟨rfl, rfl⟩
theorem offD_ok {w : World} {p : Nat} {S : Ds} {A : Nat → Nat} {o : Lab} (h : PD w p S A o) : Calls Tryz.prog 25 #[.pointer (some ⟨p, 0, none⟩)] w fun e w' => e = .returned (.bool (!S.on)) ∧ w' = w := by
  obtain ⟨ms, mh, rv, sv, h⟩ := h
  exact off_ok h
theorem usedD_ok {w : World} {p : Nat} {S : Ds} {A : Nat → Nat} {o : Lab} {N : Nat} (h : PD w p S A o) (hB : S.Bd N) (hN : N ≤ 536870912) : Calls Tryz.prog 120 #[.pointer (some ⟨p, 0, none⟩)] w fun e w' => e = .returned (.int .i64 S.used) ∧ Kept [] w w' := by
  obtain ⟨ms, mh, rv, sv, h⟩ := h
  exact used_ok h hB hN

set_option maxHeartbeats 800000 in
set_option maxRecDepth 100000 in
theorem plan_ok {w : World} {p : Nat} {S : Ds} {A : Nat → Nat} {o : Lab} (h : PD w p S A o) (a b c : Int) (hp : (Lit.int .i64 a).wf = true ∧ (Lit.int .i64 b).wf = true ∧ (Lit.int .i64 c).wf = true) : Calls Tryz.prog 15 #[.pointer (some ⟨p, 0, none⟩), .agg #[.int .i64 a, .int .i64 b, .int .i64 c]] w fun e w' => e = .returned (.tuple #[]) ∧ Aft w w' p (S.setPlan a b c) o := by
  obtain ⟨ms, mh, rv, sv, h⟩ := h
  obtain ⟨w0, hw0⟩ : ∃ w0, w0 = w.alloc (.cells #[.int .i64 a, .int .i64 b, .int .i64 c] 30) := ⟨_, rfl⟩
  have hk0 : Kept [] w w0 := by rw [hw0]; exact (Kept.refl [] w).alloc _
  have h0 := h.keep (Keep.ofNone (F := fun _ => False) hk0) (fun _ _ h => h)
  have hoff := off_ok h0
  have hb0 : w0.heap[w.heap.size]? = some (.cells #[.int .i64 a, .int .i64 b, .int .i64 c] 30 (0, 0)) := by rw [hw0]; exact (MapKept.heap_alloc w _).1
  have i0 : w0.cell? ⟨w.heap.size, 0, none⟩ = some (.int .i64 a) := by rw [cell_of_row w0 _ 0 _ _ _ hb0]; rfl
  have i1 : w0.cell? ⟨w.heap.size, 1, none⟩ = some (.int .i64 b) := by rw [cell_of_row w0 _ 1 _ _ _ hb0]; rfl
  have i2 : w0.cell? ⟨w.heap.size, 2, none⟩ = some (.int .i64 c) := by rw [cell_of_row w0 _ 2 _ _ _ hb0]; rfl
  by_cases hon : S.on = true
  · rw [hon] at hoff
    have HC : Hid (S.setPlan a b c = { S with off := a, from_ := b, to := c, planned := 0 }) := hide (by simp [Ds.setPlan, hon])
    have c6 := h0.c6
    have c7 := h0.c7
    have c8 := h0.c8
    have c9 := h0.c9
    have f6 := h0.fr 6
    have f7 := h0.fr 7
    have f8 := h0.fr 8
    have f9 := h0.fr 9
    have FIN : Hid (Aft w ((((w0.setCell ⟨p, 6, none⟩ (.int .i64 a)).setCell ⟨p, 7, none⟩ (.int .i64 b)).setCell ⟨p, 8, none⟩ (.int .i64 c)).setCell ⟨p, 9, none⟩ (.int .i64 0)) p (S.setPlan a b c) o) := by
      have hK : Keep (· = p) w0 ((((w0.setCell ⟨p, 6, none⟩ (.int .i64 a)).setCell ⟨p, 7, none⟩ (.int .i64 b)).setCell ⟨p, 8, none⟩ (.int .i64 c)).setCell ⟨p, 9, none⟩ (.int .i64 0)) := ((((Keep.refl (· = p) w0).setCell (p := ⟨p, 6, none⟩) (fun _ => rfl) _).setCell (p := ⟨p, 7, none⟩) (fun _ => rfl) _).setCell (p := ⟨p, 8, none⟩) (fun _ => rfl) _).setCell (p := ⟨p, 9, none⟩) (fun _ => rfl) _
      have q6 := heap_setCell_same w0 p 6 _ _ (.int .i64 a) h0.cells
      have q7 := heap_setCell_same _ p 7 _ _ (.int .i64 b) q6
      have q8 := heap_setCell_same _ p 8 _ _ (.int .i64 c) q7
      have q9 := heap_setCell_same _ p 9 _ _ (.int .i64 0) q8
      rw [HC.out]
      have hwf := h.wf.setPlan a b c
      rw [HC.out] at hwf
      exact Aft.trans (Lab.Ext.refl _ _) (Keep.ofNone hk0) (Aft.of (h0.recell hK hwf q9 rfl rfl rfl rfl rfl rfl hp) (mine_p h0 hK))
    have HI := hide hb0
    clear h h0 hb0 hk0 HC
    go_enter Tryz.func15, Tryz.ntmps15
    go_upto_region 1 with (fail)
    rw [← hw0]
    clear hw0
    go_wp2_with (go_at_call 25; refine hoff.mono ?_; rintro e w' ⟨rfl, rfl⟩)
    first | refine bodyPost_end (results_none rfl _ _ _) rfl ?_ | refine bodyPost_ret (results_none rfl _ _ _) rfl ?_
    exact ⟨rfl, FIN.out⟩
  · simp only [Bool.not_eq_true] at hon
    rw [hon] at hoff
    have FIN : Hid (Aft w w0 p (S.setPlan a b c) o) := by
      have : S.setPlan a b c = S := by simp [Ds.setPlan, hon]
      rw [this]
      exact Aft.of h0 (Keep.ofNone hk0)
    clear h h0 hb0 hk0
    go_enter Tryz.func15, Tryz.ntmps15
    go_upto_region 1 with (fail)
    rw [← hw0]
    clear hw0
    go_wp2_with (go_at_call 25; refine hoff.mono ?_; rintro e w' ⟨rfl, rfl⟩)
    first | refine bodyPost_end (results_none rfl _ _ _) rfl ?_ | refine bodyPost_ret (results_none rfl _ _ _) rfl ?_
    exact ⟨rfl, FIN.out⟩

set_option maxHeartbeats 800000 in
set_option maxRecDepth 100000 in
theorem size_ok {w : World} {p : Nat} {S : Ds} {A : Nat → Nat} {o : Lab} (h : PD w p S A o) (nm : By) (hnl : nm.length ≤ 4611686018427387904) : Calls Tryz.prog 74 #[.pointer (some ⟨p, 0, none⟩), encStr nm] w fun e w' => e = .returned (.tuple #[.int .i64 (S.size nm), .int .i64 (S.find nm).1]) ∧ w' = w := by
  obtain ⟨ms, mh, rv, sv, h⟩ := h
  have hfd := find_ok h nm hnl
  by_cases h0 : (S.find nm).1 = 0
  · obtain ⟨hon, hnm, hmem, hlt⟩ := Ds.find_ok h.wf h0
    have hv : findV S A nm = .pointer (some ⟨A (S.find nm).2, 0, none⟩) := by unfold findV; rw [if_pos h0]
    have HC : Hid (S.size nm = (S.th (S.find nm).2).shown.length) := hide (by simp [Ds.size, h0])
    have HE := hide h0
    rw [hv, h0] at hfd
    generalize (S.find nm).2 = k at hfd HC hlt
    obtain ⟨rv1, sv1, ht⟩ := h.th k hlt
    obtain ⟨so, sc, rfl, _⟩ := ht.shown.shape
    have i2 := ht.th0.c2
    clear h ht h0 hv hmem hnm hon
    go_enter Tryz.func74, Tryz.ntmps74
    go_wp2_with (go_at_call 82; refine hfd.mono ?_; rintro e w' ⟨rfl, rfl⟩; clear hfd)
    go_ret2
    exact ⟨by rw [HC.out, HE.out]; rfl, rfl⟩
  · have hv : findV S A nm = .pointer none := by unfold findV; rw [if_neg h0]
    have HC : Hid (S.size nm = 0) := hide (by simp [Ds.size, h0])
    rw [hv] at hfd
    generalize (S.find nm).1 = E at hfd h0
    have e0 : (E != 0) = true := by simpa using h0
    clear h h0 hv
    go_enter Tryz.func74, Tryz.ntmps74
    go_wp2_with (go_at_call 82; refine hfd.mono ?_; rintro e w' ⟨rfl, rfl⟩; clear hfd)
    go_ret2
    exact ⟨by rw [HC.out]; rfl, rfl⟩