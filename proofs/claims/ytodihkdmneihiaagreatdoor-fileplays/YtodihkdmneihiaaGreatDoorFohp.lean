import Derived.Test.YtodihkdmneihiaaGreatDoorFoep
import Derived.Test.YtodihkdmneihiaaGreatDoorJpp
import Derived.Test.YtodihkdmneihiaaGreatDoorGyp
namespace Go.Proofs.YtodihkdmneihiaaGreatDoor
section
open Go.RowKit Dsk
set_option linter.unusedVariables false
set_option linter.unusedSimpArgs false
def NewE (w : World) (v : Value) : Prop := ∀ t a, v = .iface t (.pointer (some a)) → w.heap.size ≤ a.block
set_option maxRecDepth 100000 in
theorem fault_new (op name : By) (n : Int) (w : World) : Calls Tryz.prog 51 #[encStr op, encStr name, .int .i64 n] w fun e w' => ∃ v, e = .returned v ∧ ErrV w' v op name n ∧ Kept [] w w' ∧ NewE w v := by
 by_cases h0 : n = 0
 ·subst h0
  go_enter Tryz.func51, Tryz.ntmps51
  go_wp2
  go_ret
  exact ⟨_, rfl, .inl ⟨rfl, rfl⟩, Kept.refl [] w, fun t a h => by cases h⟩
 ·have hb : (n == 0) = false := by simpa using h0
  have H0 := hide h0
  clear h0
  go_enter Tryz.func51, Tryz.ntmps51
  go_wp2
  go_ret
  exact ⟨_, rfl, .inr ⟨H0.out, w.heap.size, rfl, (MapKept.heap_alloc w _).1⟩, (Kept.refl [] w).alloc _, fun t a h => by cases h; exact Nat.le_refl _⟩
theorem drop_new {X : Nat → Prop} {wa w : World} {p : Nat} {S : Ds} {N : Nat} (h : Ax X wa w p S N) (hN : N + 2 ≤ 268435456) (name : By) (hm : name.length ≤ 4611686018427387900) :
  Calls Tryz.prog 19 #[.pointer (some ⟨p, 0, none⟩), encStr name] w fun e w' => ∃ v w3, e = .returned v ∧ ErrV w' v opDrop name (S.drop name).1 ∧ Ax X wa w3 p (S.drop name).2 (N + 3) ∧ Kept [] w3 w' ∧ NewE w3 v := by
 have c1 := fisName_ok name w (by omega)
 by_cases hn : isNm name = true
 ·rw [hn] at c1
  have hrm := remove_ax h (by omega) name (by omega)
  have eD : S.drop name = if (S.remove name).1 = 0 then (S.remove name).2.syncNames else S.remove name := by rw [Ds.drop, if_pos hn]
  by_cases h0 : (S.remove name).1 = 0
  ·rw [if_pos h0] at eD
   rw [eD]
   rw [h0] at hrm
   clear eD h0 h
   generalize (S.remove name).2 = S1 at hrm ⊢
   go_enter Tryz.func19, Tryz.ntmps19
   go_wp2_with (first
    | (go_at_call 53; refine c1.mono ?_; rintro e w' ⟨rfl, hww⟩; obtain rfl := hww.symm; clear c1)
    | (go_at_call 31; refine hrm.mono ?_; rintro e w1 ⟨rfl, hA1⟩; have HA1 := hide hA1; clear hrm hA1)
    | (go_at_call 35; refine (syncNames_ax HA1.out hN).mono ?_; rintro e w2 ⟨rfl, hA2⟩; have HA2 := hide hA2; clear hA2)
    | (go_at_call 51; refine (fault_new opDrop name _ _).mono ?_; rintro e w3 ⟨v, rfl, hv⟩; have HV := hide hv; clear hv))
   go_ret
   exact ⟨_, _, rfl, HV.out.1, HA2.out, HV.out.2⟩
  ·rw [if_neg h0] at eD
   rw [eD]
   have hb : ((S.remove name).1 != 0) = true := by simpa using h0
   clear eD h0 h
   generalize (S.remove name).2 = S1 at hrm ⊢
   generalize (S.remove name).1 = E at hrm hb ⊢
   go_enter Tryz.func19, Tryz.ntmps19
   go_wp2_with (first
    | (go_at_call 53; refine c1.mono ?_; rintro e w' ⟨rfl, hww⟩; obtain rfl := hww.symm; clear c1)
    | (go_at_call 31; refine hrm.mono ?_; rintro e w1 ⟨rfl, hA1⟩; have HA1 := hide hA1; clear hrm hA1)
    | (go_at_call 51; refine (fault_new opDrop name _ _).mono ?_; rintro e w3 ⟨v, rfl, hv⟩; have HV := hide hv; clear hv))
   go_ret
   exact ⟨_, _, rfl, HV.out.1, HA1.out.mono (by omega), HV.out.2⟩
 ·have hf : isNm name = false := by simpa using hn
  have eD : S.drop name = (51, S) := by rw [Ds.drop, if_neg hn]
  rw [eD]
  rw [hf] at c1
  have HA := hide (h.mono (M := N + 3) (by omega))
  clear eD h hn hf
  go_enter Tryz.func19, Tryz.ntmps19
  go_wp2_with (first
   | (go_at_call 53; refine c1.mono ?_; rintro e w' ⟨rfl, hww⟩; obtain rfl := hww.symm; clear c1)
   | (go_at_call 51; refine (fault_new opDrop name _ _).mono ?_; rintro e w3 ⟨v, rfl, hv⟩; have HV := hide hv; clear hv))
  go_ret
  exact ⟨_, _, rfl, HV.out.1, HA.out, HV.out.2⟩
namespace Dsk
end Dsk
end

section
open Go.RowKit Dsk
set_option linter.unusedVariables false
set_option linter.unusedSimpArgs false
set_option maxHeartbeats 1600000 in
set_option maxRecDepth 100000 in
theorem refused_big {w : World} {p : Nat} {S : Ds} {A : Nat → Nat} {o : Lab} {ms mh : Nat} {rv sv : Value} {N : Nat} (h : PDx w p S A o ms mh rv sv) (hB : S.Bd N) (hN : N ≤ 536870912) (more : Int) (hm1 : -1073741824 ≤ more) (hm2 : more ≤ 4611686018427387904) : Calls Tryz.prog 68 #[.pointer (some ⟨p, 0, none⟩), .int .i64 more] w fun e w' => e = .returned (.int .i64 (fullE S more)) ∧ Kept [] w w' := by
 have c9 := h.c9
 have c7 := h.c7
 have c8 := h.c8
 have c0 := h.c0
 have hpl := hB.planned
 have HUS : Hid (∀ v, Kept [] w v → Calls Tryz.prog 106 #[.pointer (some ⟨p, 0, none⟩)] v fun e w' => e = .returned (.int .i64 S.used) ∧ Kept [] v w') := fun v hv => used_ok (h.keep (Keep.ofNone (F := fun _ => False) hv) (fun _ _ h => h)) hB hN
 have hule : S.used ≤ 536870912 * 536870912 := Nat.le_trans (Ds.used_le h.wf hB) (Nat.mul_le_mul hN hN)
 have hroom := h.wf.room
 clear h hB
 go_enter Tryz.func68, Tryz.ntmps68
 cases hlk : S.lacks
 ·have HL : Hid (S.lacks = false) := hide hlk
  have hlk' : (decide (S.from_ ≤ (S.planned : Int) + 1) && decide ((S.planned : Int) + 1 ≤ S.to)) = false := hlk
  clear hlk
  have hcase : ¬ (S.from_ ≤ (S.planned : Int) + 1) ∨ (S.from_ ≤ (S.planned : Int) + 1 ∧ ¬ ((S.planned : Int) + 1 ≤ S.to)) := by
   simp only [Bool.and_eq_false_iff, decide_eq_false_iff_not] at hlk'
   omega
  clear hlk'
  have hwr : IntKind.i64.wrap ((S.used : Int) + more) = (S.used : Int) + more := IntWalk.i64_in _ (by omega)
  by_cases hmore : 0 < more
  ·have HF : Hid (S.full more = decide ((S.room : Int) < S.used + more)) := hide (by unfold Ds.full; rw [HL.out]; simp [hmore])
   have hd : decide (0 < more) = true := by simpa using hmore
   rcases hcase with l1 | ⟨l1, l2⟩
   all_goals go_upto_region 4 with (fail)
   all_goals (
    refine wp_region_late (fun w' => Kept [] w w') (fun i => false) (by kernel_rfl) ?_
    have h0 : Kept [] w w.drew := (Kept.refl [] w).drew
    generalize World.drew w = v0 at h0 ⊢
    refine wpAnyL_free (i := 0) (v := .int .i64 more) rfl (by kernel_rfl) (by kernel_rfl) (by kernel_rfl) (fun _ _ _ h => h) (Or.inl ⟨by rfl, fun w _ => by go_simp⟩) ?_
    try simp only [z1, z2, z3, z4, z5, z6, z7, z8]
    refine wpAnyL_free (i := 1) (v := .bool true) rfl (by kernel_rfl) (by kernel_rfl) (by kernel_rfl) (fun _ _ _ h => h) (Or.inl ⟨by rfl, fun w _ => by go_simp⟩) ?_
    try simp only [z1, z2, z3, z4, z5, z6, z7, z8]
    refine wpAnyL_free (i := 2) (v := .bool true) rfl (by kernel_rfl) (by kernel_rfl) (by kernel_rfl) (fun _ _ _ h => h) (Or.inl ⟨by rfl, fun w _ => by go_simp⟩) ?_
    try simp only [z1, z2, z3, z4, z5, z6, z7, z8]
    refine wpAnyL_free (i := 3) (v := .pointer (some ⟨p, 0, none⟩)) rfl (by kernel_rfl) (by kernel_rfl) (by kernel_rfl) (fun _ _ _ h => h) (Or.inl ⟨by rfl, fun w _ => by go_simp⟩) ?_
    try simp only [z1, z2, z3, z4, z5, z6, z7, z8]
    refine wpAnyL_free (i := 5) (v := .int .i64 more) rfl (by kernel_rfl) (by kernel_rfl) (by kernel_rfl) (fun _ _ _ h => h) (Or.inl ⟨by rfl, fun w _ => by go_simp⟩) ?_
    try simp only [z1, z2, z3, z4, z5, z6, z7, z8]
    refine wpAnyL_free (i := 7) (v := .pointer (some ⟨p, 0, none⟩)) rfl (by kernel_rfl) (by kernel_rfl) (by kernel_rfl) (fun _ _ _ h => h) (Or.inl ⟨by rfl, fun w _ => by go_simp⟩) ?_
    try simp only [z1, z2, z3, z4, z5, z6, z7, z8]
    refine wpAnyL_free (i := 8) (v := .pointer (some ⟨p, 0, none⟩)) rfl (by kernel_rfl) (by kernel_rfl) (by kernel_rfl) (fun _ _ _ h => h) (Or.inl ⟨by rfl, fun w _ => by go_simp⟩) ?_
    try simp only [z1, z2, z3, z4, z5, z6, z7, z8]
    refine wpAnyL_free (i := 9) (v := .pointer (some ⟨p, 0, none⟩)) rfl (by kernel_rfl) (by kernel_rfl) (by kernel_rfl) (fun _ _ _ h => h) (Or.inl ⟨by rfl, fun w _ => by go_simp⟩) ?_
    try simp only [z1, z2, z3, z4, z5, z6, z7, z8]
    refine wpAnyL_take (i := 10) (v := .int .i64 S.room) rfl (by kernel_rfl) (by kernel_rfl) (by kernel_rfl) (by kernel_rfl) (by kernel_rfl) (fun _ _ _ h => h) (Or.inl ⟨by rfl, fun w hSw => by have c := Kept.cellOf hSw c0 (by simp); go_simp⟩) h0 ?_
    try simp only [z1, z2, z3, z4, z5, z6, z7, z8]
    refine wpAnyL_one (i := 4) (by kernel_rfl) rfl (fun K hK => ?_)
    rw [if_pos (by rfl)]
    go_simp
    refine (HUS.out v0 h0).mono ?_
    rintro e v1 ⟨rfl, hq⟩
    have h1 : Kept [] w v1 := h0.trans hq (by simp)
    refine hK.out _ _ (fun _ _ => h1) ?_
    clear hK K hq h0
    try simp only [z1, z2, z3, z4, z5, z6, z7, z8]
    refine wpAnyL_free (i := 6) (v := .int .i64 ((S.used : Int) + more)) rfl (by kernel_rfl) (by kernel_rfl) (by kernel_rfl) (fun _ _ _ h => h) (Or.inl ⟨by rfl, fun w _ => by go_simp⟩) ?_
    try simp only [z1, z2, z3, z4, z5, z6, z7, z8]
    refine wpAnyL_free (i := 11) (v := .bool (decide ((S.room : Int) < (S.used : Int) + more))) rfl (by kernel_rfl) (by kernel_rfl) (by kernel_rfl) (fun _ _ _ h => h) (Or.inl ⟨by rfl, fun w _ => by go_simp⟩) ?_
    try simp only [z1, z2, z3, z4, z5, z6, z7, z8]
    refine wpAnyL_free (i := 12) (v := .bool (decide ((S.room : Int) < (S.used : Int) + more))) rfl (by kernel_rfl) (by kernel_rfl) (by kernel_rfl) (fun _ _ _ h => h) (Or.inl ⟨by rfl, fun w _ => by go_simp⟩) ?_
    try simp only [z1, z2, z3, z4, z5, z6, z7, z8]
    refine wpAnyL_done (by kernel_rfl) ?_ _
    cases hfin : decide ((S.room : Int) < (S.used : Int) + more)
    ·go_wp2
     go_ret
     exact ⟨by unfold fullE; rw [HF.out, hfin]; rfl, h1⟩
    ·go_wp2
     go_ret
     exact ⟨by unfold fullE; rw [HF.out, hfin]; rfl, h1⟩)
  ·have HF : Hid (S.full more = false) := hide (by unfold Ds.full; rw [HL.out]; simp [hmore])
   have hd : decide (0 < more) = false := by simpa using hmore
   rcases hcase with l1 | ⟨l1, l2⟩
   all_goals go_upto_region 4 with (fail)
   all_goals (
    go_quiet (fail)
    go_wp2
    go_ret
    exact ⟨by unfold fullE; rw [HF.out]; rfl, (Kept.refl [] w).drewN nq⟩)
 ·have HF : Hid (S.full more = true) := hide (by unfold Ds.full; rw [hlk]; rfl)
  have hlk' : (decide (S.from_ ≤ (S.planned : Int) + 1) && decide ((S.planned : Int) + 1 ≤ S.to)) = true := hlk
  clear hlk
  simp only [Bool.and_eq_true, decide_eq_true_eq] at hlk'
  obtain ⟨l1, l2⟩ := hlk'
  go_wp2
  go_ret
  exact ⟨by unfold fullE; rw [HF.out]; rfl, Kept.refl _ _⟩
theorem Dsk.Ds.full_big {S : Ds} (hw : S.Wf) {more : Int} (h : 1048576 < more) : S.full more = true := by
 unfold Ds.full
 have := hw.room
 simp only [Bool.or_eq_true, Bool.and_eq_true, decide_eq_true_eq]
 exact .inr ⟨by omega, by omega⟩
set_option maxHeartbeats 1600000 in
set_option maxRecDepth 100000 in
theorem write_big {w : World} {p : Nat} {S : Ds} {A : Nat → Nat} {o : Lab} {N : Nat} {ms mh : Nat} {rv sv : Value} (h : PDx w p S A o ms mh rv sv) (hB : S.Bd N) {k n : Nat} {d : By} {ao : Option Addr} {ac : Nat} (hN : N ≤ 268435456) (hn : 1048576 < n) (hn2 : n ≤ 4611686018427387900) (hk : k < S.nx) (hdl : d.length = n) :
  Calls Tryz.prog 75 #[.pointer (some ⟨p, 0, none⟩), .pointer (some ⟨A k, 0, none⟩), .int .i64 ((S.th k).shown.length : Nat), .slice ao n ac] w fun e w' => e = .returned (.int .i64 (S.write k (S.th k).shown.length d).1) ∧ Aft w w' p (S.write k (S.th k).shown.length d).2 o := by
 obtain ⟨rv1, sv1, ht⟩ := h.th k hk
 obtain ⟨so, sc, rfl, _⟩ := ht.shown.shape
 have i2 := ht.th0.c2
 have hlen := hB.len h.wf hk
 have hfl := Ds.full_big h.wf (more := (n : Int)) (by omega)
 have hrf := refused_big h hB (by omega) (n : Int) (by omega) (by omega)
 have hf0 : fullE S (n : Int) = 55 := by unfold fullE; rw [hfl]; rfl
 rw [hf0] at hrf
 have HC : Hid (S.write k (S.th k).shown.length d = (S.ans 55, S.tick)) := hide (by
  unfold Ds.write
  rw [show (((S.th k).shown.length : Nat) : Int) + d.length - (S.th k).shown.length = (n : Int) by rw [hdl]; omega, hfl]; rfl)
 have HS : Hid (∀ v, Kept [] w v → Calls Tryz.prog 69 #[.pointer (some ⟨p, 0, none⟩), .int .i64 55] v fun e w' => e = .returned (.int .i64 (S.ans 55)) ∧ PDx w' p S.tick A o ms mh rv sv ∧ Keep (· = p) v w') := hide (fun v hv => stroke_ok (h.keep (Keep.ofNone (F := fun _ => False) hv) (fun _ _ h => h)) 55 (by have := hB.strokes; omega) (by have := hB.planned; omega))
 have HAF : Hid (∀ v w2, Kept [] w v → PDx w2 p S.tick A o ms mh rv sv → Keep (· = p) v w2 → Keep o.mine w w2) := hide (fun v w2 hv h2 hk => (Keep.ofNone hv).trans (mine_p h2 hk) (fun _ h _ => h))
 clear h hB ht hfl hf0
 rw [HC.out]
 generalize (S.th k).shown.length = m at i2 hlen ⊢
 have hM2 : (m : Int) + (n : Int) - (m : Int) = (n : Int) := by omega
 have hM3 : (m : Int) + (n : Int) ≤ 4611686018427387900 + 268435456 := by omega
 clear HC hdl
 go_enter Tryz.func75, Tryz.ntmps75
 go_wp2_with (first
  | (go_at_call 68; have Ha := hrf; refine hrf.mono ?_; rintro e w1 ⟨rfl, hk1⟩; clear Ha hrf)
  | (go_at_call 69; have Ha := HS; refine (HS.out w1 hk1).mono ?_; rintro e w2 ⟨rfl, hP2, hk2⟩; have H2 := hide (Aft.of hP2 (HAF.out w1 w2 hk1 hP2 hk2)); clear hP2 hk2 HS Ha))
 go_ret
 exact ⟨rfl, H2.out⟩
set_option maxHeartbeats 1600000 in
set_option maxRecDepth 100000 in
theorem append_big {w : World} {p : Nat} {S : Ds} {A : Nat → Nat} {o : Lab} {N : Nat} (h : PD w p S A o) (hB : S.Bd N) {n : Nat} {d : By} {ao : Option Addr} {ac : Nat} (hN : N ≤ 268435456) (hn : 1048576 < n) (hn2 : n ≤ 4611686018427387900) (nm : By) (hnl : nm.length ≤ 4611686018427387904) (hdl : d.length = n) :
  Calls Tryz.prog 25 #[.pointer (some ⟨p, 0, none⟩), encStr nm, .slice ao n ac] w fun e w' => e = .returned (.int .i64 (S.append nm d).1) ∧ Aft w w' p (S.append nm d).2 o := by
 obtain ⟨ms, mh, rv, sv, h⟩ := h
 have hfd := find_ok h nm hnl
 by_cases h0 : (S.find nm).1 = 0
 ·obtain ⟨hon, hnm, hmem, hlt⟩ := Ds.find_ok h.wf h0
  have hv : findV S A nm = .pointer (some ⟨A (S.find nm).2, 0, none⟩) := by unfold findV; rw [if_pos h0]
  have HC : Hid (S.append nm d = S.write (S.find nm).2 (S.th (S.find nm).2).shown.length d) := hide (by simp [Ds.append, h0])
  rw [hv, h0] at hfd
  generalize (S.find nm).2 = k at hfd HC hlt
  have hw := write_big h hB (ao := ao) (ac := ac) hN hn hn2 hlt hdl
  obtain ⟨rv1, sv1, ht⟩ := h.th k hlt
  obtain ⟨so, sc, rfl, _⟩ := ht.shown.shape
  have i2 := ht.th0.c2
  clear h hB ht h0 hv hmem hnm hon
  go_enter Tryz.func25, Tryz.ntmps25
  go_wp2_with (first
   | (go_at_call 67; refine hfd.mono ?_; rintro e w' ⟨rfl, rfl⟩; clear hfd)
   | (go_at_call 75; refine hw.mono ?_; rintro e w1 ⟨rfl, ha⟩; have H1 := hide ha; clear ha))
  go_ret
  exact ⟨by rw [HC.out]; rfl, by rw [HC.out]; exact H1.out⟩
 ·have hv : findV S A nm = .pointer none := by unfold findV; rw [if_neg h0]
  have HC : Hid (S.append nm d = ((S.find nm).1, S)) := hide (by simp [Ds.append, h0])
  have HA := hide (Aft.of h (Keep.refl _ w))
  rw [hv] at hfd
  generalize (S.find nm).1 = E at hfd h0 HC
  have e0 : (E != 0) = true := by simpa using h0
  clear h hB h0 hv
  go_enter Tryz.func25, Tryz.ntmps25
  go_wp2_with (go_at_call 67; refine hfd.mono ?_; rintro e w' ⟨rfl, rfl⟩; clear hfd)
  go_ret
  exact ⟨by rw [HC.out]; rfl, by rw [HC.out]; exact HA.out⟩
theorem Dsk.Ds.append_bd {S : Ds} {N : Nat} (hw : S.Wf) (hb : S.Bd N) (nm d : By) (hn : 1048576 < d.length) : (S.append nm d).2.Bd (N + 2) := by
 unfold Ds.append
 split
 ·exact hb.mono (by omega)
 ·unfold Ds.write
  rw [if_pos (Ds.full_big hw (by omega))]
  exact hb.tick.mono (by omega)
section
variable {X : Nat → Prop} {wa w w' : World} {p : Nat} {S : Ds} {N : Nat}
theorem append_axm (h : Ax X wa w p S N) {w1 : World} (hk : Kept [] w w1) {ao : Option Addr} {n c : Nat} {d : By} (hN : N + 1048576 ≤ 268435456) (hn2 : n ≤ 4611686018427387900) (nm : By) (hnl : nm.length ≤ 4611686018427387904) (hl : d.length = n) (hs : Sl w1 ao d) (h0 : ao = none → n = 0) (hnew : d ≠ [] → ∀ a, ao = some a → w.heap.size ≤ a.block ∨ X a.block) :
  Calls Tryz.prog 25 #[.pointer (some ⟨p, 0, none⟩), encStr nm, .slice ao n c] w1 fun e w' => e = .returned (.int .i64 (S.append nm d).1) ∧ Ax X wa w' p (S.append nm d).2 (N + min n 1048576 + 2) := by
 by_cases hb : n ≤ 1048576
 ·rw [Nat.min_eq_left hb]
  exact append_ax h hk (by omega) nm hnl hl hs h0 hnew
 ·have hwf := h.wf
  obtain ⟨A, o, hP, ho, hw, hB⟩ := h
  have hP1 : PD w1 p S A o := hP.keep (Keep.ofNone (F := fun _ => False) hk) (fun _ _ h => h)
  refine (append_big hP1 hB (by omega) (by omega) hn2 nm hnl hl).mono ?_
  rintro e w' ⟨rfl, ha⟩
  exact ⟨rfl, aft_ax ho (hw.kept hk) ha ((Ds.append_bd hwf hB nm d (by omega)).mono (by omega))⟩
end
end

end Go.Proofs.YtodihkdmneihiaaGreatDoor
