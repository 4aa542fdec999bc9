import Derived.Test.YtodihkdmneihiaaGreatDoorGqp
import Derived.Maps.RangeWalk
import Derived.Maps.OwnSet
namespace Go.Proofs.YtodihkdmneihiaaGreatDoor
section
open Go.RowKit Dsk
set_option linter.unusedVariables false
set_option linter.unusedSimpArgs false
def sumNot (f : Nat → Nat) (left : Lit → Bool) : Nm → Nat
 | [] => 0
 | p :: r => (if left (.string p.1) then 0 else f p.2) + sumNot f left r
theorem sumNot_none (f : Nat → Nat) (left : Lit → Bool) (l : Nm) (h : ∀ p ∈ l, left (.string p.1) = true) : sumNot f left l = 0 := by
 induction l with
 | nil => rfl
 | cons p r ih => simp only [sumNot, h p (by simp), if_true, Nat.zero_add]; exact ih (fun q hq => h q (by simp [hq]))
theorem sumNot_all (f : Nat → Nat) (left : Lit → Bool) (l : Nm) (h : ∀ k, left k = false) : sumNot f left l = (l.map (fun p => f p.2)).sum := by
 induction l with
 | nil => rfl
 | cons p r ih => simp [sumNot, h, ih]
theorem sumNot_off (f : Nat → Nat) (left : Lit → Bool) (n : By) (l : Nm) (h : ∀ p ∈ l, p.1 ≠ n) : sumNot f (fun z => left z && !z.sameKey (.string n)) l = sumNot f left l := by
 induction l with
 | nil => rfl
 | cons p r ih =>
  have h1 : (Lit.string p.1).sameKey (.string n) = false := by rw [same_str]; simpa using h p (by simp)
  simp only [sumNot, h1, Bool.not_false, Bool.and_true]
  rw [ih (fun q hq => h q (by simp [hq]))]
theorem sumNot_step (f : Nat → Nat) (left : Lit → Bool) {n : By} {k : Nat} {l : Nm} (hup : l.Up) (hm : (n, k) ∈ l) (hl : left (.string n) = true) : sumNot f (fun z => left z && !z.sameKey (.string n)) l = sumNot f left l + f k := by
 induction l with
 | nil => simp at hm
 | cons p r ih =>
  have hp := List.pairwise_cons.1 hup
  rcases List.mem_cons.1 hm with e | hm'
  ·subst e
   have h1 : (Lit.string n).sameKey (.string n) = true := by rw [same_str]; simp
   have h2 : ∀ q ∈ r, q.1 ≠ n := fun q hq e => by have := hp.1 q hq; rw [e, before_irrefl] at this; cases this
   simp only [sumNot, h1, hl]
   rw [sumNot_off f left n r h2]
   simp
   omega
  ·have h1 : p.1 ≠ n := fun e => by have := hp.1 _ hm'; rw [e, before_irrefl] at this; cases this
   have h2 : (Lit.string p.1).sameKey (.string n) = false := by rw [same_str]; simpa using h1
   simp only [sumNot, h2, Bool.not_false, Bool.and_true]
   rw [ih hp.2 hm']
   omega
theorem sumNot_le (f : Nat → Nat) (left : Lit → Bool) (l : Nm) (N : Nat) (h : ∀ p ∈ l, f p.2 ≤ N) : sumNot f left l ≤ l.length * N := by
 induction l with
 | nil => simp [sumNot]
 | cons p r ih =>
  have h1 := h p (by simp)
  have h2 := ih (fun q hq => h q (by simp [hq]))
  simp only [sumNot, List.length_cons, Nat.add_mul, Nat.one_mul]
  split <;> omega
theorem Ds.used_le {S : Ds} {N : Nat} (hw : S.Wf) (hB : S.Bd N) : S.used ≤ N * N := by
 have h1 := sumNot_le (fun k => (S.th k).shown.length) (fun _ => false) S.shown N (fun p hp => hB.len hw (hw.slt (n := p.1) hp))
 rw [sumNot_all _ _ _ (fun _ => rfl)] at h1
 exact Nat.le_trans h1 (Nat.mul_le_mul_right _ (hB.shown hw))
def mkP : Option Nat → Value
 | none => .pointer none
 | some b => .pointer (some ⟨b, 0, none⟩)
theorem mkP_inv (v : Value) (y : DataW Unit × List MemPlace) (h : ptrElem v = some y) : ∃ c, v = mkP c := by
 unfold ptrElem at h
 split at h
 ·exact ⟨none, rfl⟩
 ·exact ⟨some _, rfl⟩
 ·cases h
theorem came {A : Nat → Nat} {l : Nm} {x : By} {c : Option Nat} {y : DataW Unit × List MemPlace} (hv : ptrElem (mkP c) = some y) (hat : ∀ zd, (nmD A l).atKey (.string x) zd = y.1) : ∃ k, l.get x = some k ∧ c = some (A k) := by
 cases hg : l.get x with
 | none =>
  have h1 := hat .nil
  have h2 := hat (.lit (.bool true))
  rw [nmD_at, hg] at h1 h2
  rw [← h1] at h2
  cases h2
 | some k =>
  have h1 := hat .nil
  rw [nmD_at, hg] at h1
  refine ⟨k, rfl, ?_⟩
  cases c with
  | none => simp only [mkP, ptrElem, Option.some.injEq] at hv; rw [← hv] at h1; cases h1
  | some b =>
   simp only [mkP, ptrElem, Option.some.injEq] at hv
   rw [← hv] at h1
   simp only [DataW.lit.injEq, Lit.int.injEq, true_and] at h1
   congr 1
   omega
set_option maxHeartbeats 1600000 in
set_option maxRecDepth 100000 in
theorem used_ok {w : World} {p : Nat} {S : Ds} {A : Nat → Nat} {o : Lab} {ms mh : Nat} {rv sv : Value} {N : Nat} (h : PDx w p S A o ms mh rv sv) (hB : S.Bd N) (hN : N ≤ 536870912) : Calls Tryz.prog 106 #[.pointer (some ⟨p, 0, none⟩)] w fun e w' => e = .returned (.int .i64 S.used) ∧ Kept [] w w' := by
 have c4 := h.c4
 have HP := hide (And.intro h hB)
 have hown : w.ownsMap Tryz.prog 9 ptrElem mh S.shown.length (nmD A S.shown) := h.shown
 have hNN : N * N ≤ 536870912 * 536870912 := Nat.mul_le_mul hN hN
 clear h hB
 go_enter Tryz.func106, Tryz.ntmps106
 go_wp2_with (at_range; refine wpList_range_own _ rfl _ 92 rfl 9 114 Tryz.keyed Tryz.underlying92 ptrElem mh S.shown.length (nmD A S.shown) rfl hown ?_; intro w1 hrg hgr hsz)
 have hR : Hid (w1.ranges Tryz.prog 9 ptrElem mh w.heap.size S.shown.length (nmD A S.shown) (Maps.has (nmD A S.shown)) (Maps.size (nmD A S.shown)) ∧ Keep (· = w.heap.size) w w1) := ⟨hrg, (Keep.refl _ w).grown hgr (by simp)⟩
 clear hrg hgr
 generalize hr : w.heap.size = r at hR ⊢
 have HS : Hid (sumNot (fun k => (S.th k).shown.length) (Maps.has (nmD A S.shown)) S.shown = 0) := hide (sumNot_none _ _ _ (fun q hq => by
  rw [nmD, Maps.has_eq]
  simp only [List.any_map, List.any_eq_true]
  exact ⟨q, hq, by show (Lit.string q.1).sameKey (.string q.1) = true; rw [same_str]; simp⟩))
 go_frame
 go_loopw [3, 5] (fun s _ wr => ∃ (left : Lit → Bool) (cnt : Nat), Hid (wr.ranges Tryz.prog 9 ptrElem mh r S.shown.length (nmD A S.shown) left cnt ∧ Keep (· = r) w wr) ∧ s = .int .i64 (sumNot (fun k => (S.th k).shown.length) left S.shown)) (fun _ _ wr => wr.rangeLeft mh r)
 case atStart => exact ⟨_, _, hR, by rw [HS.out]; rfl⟩
 case round =>
  obtain ⟨left, cnt, HR, rfl⟩ := hrel
  have hrg := HR.out.1
  have hle := sumNot_le (fun k => (S.th k).shown.length) left S.shown N (fun q hq => HP.out.2.len HP.out.1.wf (HP.out.1.wf.slt (n := q.1) hq))
  have hsl := HP.out.2.shown HP.out.1.wf
  have hle2 : sumNot (fun k => (S.th k).shown.length) left S.shown ≤ 536870912 * 536870912 := Nat.le_trans hle (Nat.le_trans (Nat.mul_le_mul_right _ hsl) hNN)
  go_wp2_with (first
   | (at_next; refine wpList_next_ranges _ rfl _ rfl 9 Tryz.keyed ptrElem encStr mkP (fun key kl hk => by obtain ⟨x, hx, _⟩ := Maps.keyOf_str Tryz.underlying9 hk; exact ⟨x, hx⟩) mkP_inv mh r S.shown.length _ _ _ rfl hrg ?_ ?_)
   | go_in)
  ·intro _ hl0
   have HU : Hid (sumNot (fun k => (S.th k).shown.length) left S.shown = S.used) := hide (sumNot_all _ _ _ hl0)
   go_wp2
   go_ret
   refine ⟨by rw [← HU.out]; rfl, ?_⟩
   have hk := HR.out.2
   exact ⟨hk.os, hk.tape, hk.output, hk.size, fun i hi _ => hk.block i hi (by show ¬ i = r; omega)⟩
  ·intro x c kl yd yp w2 cnt2 hkey hlk hv hat hrg2 hlt hgr2 hsz2 hen
   obtain ⟨x', ex, rfl, _⟩ := Maps.keyOf_str Tryz.underlying9 hkey
   obtain rfl : x = x' := encStr_inj ex
   obtain ⟨k, hg, rfl⟩ := came (y := (yd, yp)) hv hat
   have hm := (Nm.get_some HP.out.1.wf.sup).1 hg
   have hK2 : Keep (· = r) w w2 := HR.out.2.grown hgr2 (fun j e _ => by injection e with e; exact e.symm)
   obtain ⟨rv1, sv1, ht⟩ := HP.out.1.th k (HP.out.1.wf.slt hm)
   have ht2 := (ht.th0).keep hK2 (fun j hj e => by
    have : j < w.heap.size := by
     rcases hj with rfl | e1 | e1
     ·exact ht.lt
     ·exact (ht.row.lt j e1).2
     ·exact ht.shown.lt e1
    omega)
   obtain ⟨so, sc, rfl, _⟩ := ht.shown.shape
   have i2 := ht2.c2
   have HST : Hid (sumNot (fun k => (S.th k).shown.length) (fun z => left z && !z.sameKey (.string x)) S.shown = sumNot (fun k => (S.th k).shown.length) left S.shown + (S.th k).shown.length) := hide (sumNot_step (fun k => (S.th k).shown.length) left HP.out.1.wf.sup hm hlk)
   have hlk2 := HP.out.2.len HP.out.1.wf (HP.out.1.wf.slt hm)
   have H2 := hide (And.intro hrg2 hK2)
   have HL := hide (And.intro hrg hlt)
   simp only [mkP] at hen
   clear hle hsl hat hv hkey hgr2 hrg2 hK2 ht ht2 hg hm hrg hlt hlk HR
   generalize sumNot (fun k => (S.th k).shown.length) left S.shown = s0 at hle2 HST
   generalize (S.th k).shown.length = m at HST hlk2 i2
   go_wp2
   go_roundw
   case rel => exact ⟨_, cnt2, H2, by rw [HST.out]; go_num⟩
   case measure => rw [H2.out.1.left_eq, HL.out.1.left_eq]; exact HL.out.2
end

section
open Go.RowKit Dsk
set_option linter.unusedVariables false
set_option linter.unusedSimpArgs false
def fullE (S : Ds) (more : Int) : Int := if S.full more then 55 else 0
set_option maxHeartbeats 1600000 in
set_option maxRecDepth 100000 in
theorem refused_ok {w : World} {p : Nat} {S : Ds} {A : Nat → Nat} {o : Lab} {ms mh : Nat} {rv sv : Value} {N : Nat} (h : PDx w p S A o ms mh rv sv) (hB : S.Bd N) (hN : N ≤ 536870912) (more : Int) (hm1 : -1073741824 ≤ more) (hm2 : more ≤ 1073741824) : Calls Tryz.prog 68 #[.pointer (some ⟨p, 0, none⟩), .int .i64 more] w fun e w' => e = .returned (.int .i64 (fullE S more)) ∧ Kept [] w w' := by
 have c9 := h.c9
 have c7 := h.c7
 have c8 := h.c8
 have c0 := h.c0
 have hpl := hB.planned
 have HUS : Hid (∀ v, Kept [] w v → Calls Tryz.prog 106 #[.pointer (some ⟨p, 0, none⟩)] v fun e w' => e = .returned (.int .i64 S.used) ∧ Kept [] v w') := fun v hv => used_ok (h.keep (Keep.ofNone (F := fun _ => False) hv) (fun _ _ h => h)) hB hN
 have hule : S.used ≤ 536870912 * 536870912 := Nat.le_trans (Ds.used_le h.wf hB) (Nat.mul_le_mul hN hN)
 have hroom := h.wf.room
 clear h hB
 go_enter Tryz.func68, Tryz.ntmps68
 cases hlk : S.lacks
 ·have HL : Hid (S.lacks = false) := hide hlk
  have hlk' : (decide (S.from_ ≤ (S.planned : Int) + 1) && decide ((S.planned : Int) + 1 ≤ S.to)) = false := hlk
  clear hlk
  have hcase : ¬ (S.from_ ≤ (S.planned : Int) + 1) ∨ (S.from_ ≤ (S.planned : Int) + 1 ∧ ¬ ((S.planned : Int) + 1 ≤ S.to)) := by
   simp only [Bool.and_eq_false_iff, decide_eq_false_iff_not] at hlk'
   omega
  clear hlk'
  have hwr : IntKind.i64.wrap ((S.used : Int) + more) = (S.used : Int) + more := IntWalk.i64_in _ (by omega)
  by_cases hmore : 0 < more
  ·have HF : Hid (S.full more = decide ((S.room : Int) < S.used + more)) := hide (by unfold Ds.full; rw [HL.out]; simp [hmore])
   have hd : decide (0 < more) = true := by simpa using hmore
   rcases hcase with l1 | ⟨l1, l2⟩
   all_goals go_upto_region 4 with (fail)
   all_goals (
    refine wp_region_late (fun w' => Kept [] w w') (fun i => false) (by kernel_rfl) ?_
    have h0 : Kept [] w w.drew := (Kept.refl [] w).drew
    generalize World.drew w = v0 at h0 ⊢
    refine wpAnyL_free (i := 0) (v := .int .i64 more) rfl (by kernel_rfl) (by kernel_rfl) (by kernel_rfl) (fun _ _ _ h => h) (Or.inl ⟨by rfl, fun w _ => by go_simp⟩) ?_
    try simp only [z1, z2, z3, z4, z5, z6, z7, z8]
    refine wpAnyL_free (i := 1) (v := .bool true) rfl (by kernel_rfl) (by kernel_rfl) (by kernel_rfl) (fun _ _ _ h => h) (Or.inl ⟨by rfl, fun w _ => by go_simp⟩) ?_
    try simp only [z1, z2, z3, z4, z5, z6, z7, z8]
    refine wpAnyL_free (i := 2) (v := .bool true) rfl (by kernel_rfl) (by kernel_rfl) (by kernel_rfl) (fun _ _ _ h => h) (Or.inl ⟨by rfl, fun w _ => by go_simp⟩) ?_
    try simp only [z1, z2, z3, z4, z5, z6, z7, z8]
    refine wpAnyL_free (i := 3) (v := .pointer (some ⟨p, 0, none⟩)) rfl (by kernel_rfl) (by kernel_rfl) (by kernel_rfl) (fun _ _ _ h => h) (Or.inl ⟨by rfl, fun w _ => by go_simp⟩) ?_
    try simp only [z1, z2, z3, z4, z5, z6, z7, z8]
    refine wpAnyL_free (i := 5) (v := .int .i64 more) rfl (by kernel_rfl) (by kernel_rfl) (by kernel_rfl) (fun _ _ _ h => h) (Or.inl ⟨by rfl, fun w _ => by go_simp⟩) ?_
    try simp only [z1, z2, z3, z4, z5, z6, z7, z8]
    refine wpAnyL_free (i := 7) (v := .pointer (some ⟨p, 0, none⟩)) rfl (by kernel_rfl) (by kernel_rfl) (by kernel_rfl) (fun _ _ _ h => h) (Or.inl ⟨by rfl, fun w _ => by go_simp⟩) ?_
    try simp only [z1, z2, z3, z4, z5, z6, z7, z8]
    refine wpAnyL_free (i := 8) (v := .pointer (some ⟨p, 0, none⟩)) rfl (by kernel_rfl) (by kernel_rfl) (by kernel_rfl) (fun _ _ _ h => h) (Or.inl ⟨by rfl, fun w _ => by go_simp⟩) ?_
    try simp only [z1, z2, z3, z4, z5, z6, z7, z8]
    refine wpAnyL_free (i := 9) (v := .pointer (some ⟨p, 0, none⟩)) rfl (by kernel_rfl) (by kernel_rfl) (by kernel_rfl) (fun _ _ _ h => h) (Or.inl ⟨by rfl, fun w _ => by go_simp⟩) ?_
    try simp only [z1, z2, z3, z4, z5, z6, z7, z8]
    refine wpAnyL_take (i := 10) (v := .int .i64 S.room) rfl (by kernel_rfl) (by kernel_rfl) (by kernel_rfl) (by kernel_rfl) (by kernel_rfl) (fun _ _ _ h => h) (Or.inl ⟨by rfl, fun w hSw => by have c := Kept.cellOf hSw c0 (by simp); go_simp⟩) h0 ?_
    try simp only [z1, z2, z3, z4, z5, z6, z7, z8]
    refine wpAnyL_one (i := 4) (by kernel_rfl) rfl (fun K hK => ?_)
    rw [if_pos (by rfl)]
    go_simp
    refine (HUS.out v0 h0).mono ?_
    rintro e v1 ⟨rfl, hq⟩
    have h1 : Kept [] w v1 := h0.trans hq (by simp)
    refine hK.out _ _ (fun _ _ => h1) ?_
    clear hK K hq h0
    try simp only [z1, z2, z3, z4, z5, z6, z7, z8]
    refine wpAnyL_free (i := 6) (v := .int .i64 ((S.used : Int) + more)) rfl (by kernel_rfl) (by kernel_rfl) (by kernel_rfl) (fun _ _ _ h => h) (Or.inl ⟨by rfl, fun w _ => by go_simp⟩) ?_
    try simp only [z1, z2, z3, z4, z5, z6, z7, z8]
    refine wpAnyL_free (i := 11) (v := .bool (decide ((S.room : Int) < (S.used : Int) + more))) rfl (by kernel_rfl) (by kernel_rfl) (by kernel_rfl) (fun _ _ _ h => h) (Or.inl ⟨by rfl, fun w _ => by go_simp⟩) ?_
    try simp only [z1, z2, z3, z4, z5, z6, z7, z8]
    refine wpAnyL_free (i := 12) (v := .bool (decide ((S.room : Int) < (S.used : Int) + more))) rfl (by kernel_rfl) (by kernel_rfl) (by kernel_rfl) (fun _ _ _ h => h) (Or.inl ⟨by rfl, fun w _ => by go_simp⟩) ?_
    try simp only [z1, z2, z3, z4, z5, z6, z7, z8]
    refine wpAnyL_done (by kernel_rfl) ?_ _
    cases hfin : decide ((S.room : Int) < (S.used : Int) + more)
    ·go_wp2
     go_ret
     exact ⟨by unfold fullE; rw [HF.out, hfin]; rfl, h1⟩
    ·go_wp2
     go_ret
     exact ⟨by unfold fullE; rw [HF.out, hfin]; rfl, h1⟩)
  ·have HF : Hid (S.full more = false) := hide (by unfold Ds.full; rw [HL.out]; simp [hmore])
   have hd : decide (0 < more) = false := by simpa using hmore
   rcases hcase with l1 | ⟨l1, l2⟩
   all_goals go_upto_region 4 with (fail)
   all_goals (
    go_quiet (fail)
    go_wp2
    go_ret
    exact ⟨by unfold fullE; rw [HF.out]; rfl, (Kept.refl [] w).drewN nq⟩)
 ·have HF : Hid (S.full more = true) := hide (by unfold Ds.full; rw [hlk]; rfl)
  have hlk' : (decide (S.from_ ≤ (S.planned : Int) + 1) && decide ((S.planned : Int) + 1 ≤ S.to)) = true := hlk
  clear hlk
  simp only [Bool.and_eq_true, decide_eq_true_eq] at hlk'
  obtain ⟨l1, l2⟩ := hlk'
  go_wp2
  go_ret
  exact ⟨by unfold fullE; rw [HF.out]; rfl, Kept.refl _ _⟩
end

section
open Go.RowKit Dsk
set_option linter.unusedVariables false
set_option linter.unusedSimpArgs false
def Aft (w w' : World) (p : Nat) (S' : Ds) (o : Lab) : Prop := ∃ A' o', PD w' p S' A' o' ∧ o.Ext o' w ∧ Keep o.mine w w'
theorem Lab.Ext.refl (o : Lab) (w : World) : o.Ext o w := fun _ _ h => h
theorem Lab.Ext.trans {o o1 o2 : Lab} {w w1 : World} (h : o.Ext o1 w) (h1 : o1.Ext o2 w1) (hs : w.heap.size ≤ w1.heap.size) : o.Ext o2 w := fun b hb hn => h b hb (h1 b (by omega) hn)
theorem Aft.of {w w' : World} {p : Nat} {S' : Ds} {A : Nat → Nat} {o : Lab} {ms mh : Nat} {rv sv : Value} (h : PDx w' p S' A o ms mh rv sv) (hk : Keep o.mine w w') : Aft w w' p S' o := ⟨A, o, ⟨ms, mh, rv, sv, h⟩, Lab.Ext.refl _ _, hk⟩
theorem Aft.trans {w w1 w2 : World} {p : Nat} {S2 : Ds} {o o1 : Lab} (he : o.Ext o1 w) (hk : Keep o.mine w w1) (h : Aft w1 w2 p S2 o1) : Aft w w2 p S2 o := by
 obtain ⟨A2, o2, h2, e2, k2⟩ := h
 exact ⟨A2, o2, h2, he.trans e2 hk.size, hk.trans k2 (fun i hi hlt => he i hlt hi)⟩
theorem mine_p {w : World} {p : Nat} {S : Ds} {A : Nat → Nat} {o : Lab} {ms mh : Nat} {rv sv : Value} (h : PDx w p S A o ms mh rv sv) {w1 w2 : World} (hk : Keep (· = p) w1 w2) : Keep o.mine w1 w2 :=
 hk.mono (fun i e _ => by subst e; show o i ≠ 0; rw [h.lp]; decide)
section
variable {w : World} {p : Nat} {S : Ds} {A : Nat → Nat} {o : Lab} {ms mh : Nat} {rv sv : Value}
theorem PDx.thing {w' : World} {k : Nat} {rv1 sv1 : Value} {t' : Th} (h : PDx w p S A o ms mh rv sv) (hk : k < S.nx) (ht : ThAt w o (k + 2) (A k) rv1 sv1 (S.th k)) (hm : Mv w w' (A k) rv1 sv1 t') (hwf : ({ S with th := upd S.th k t' } : Ds).Wf) :
  PDx w' p { S with th := upd S.th k t' } A (o.ext w w' (k + 2)) ms mh rv sv ∧ Keep (fun b => o b = k + 2) w w' := by
 obtain ⟨h1, hK⟩ := ht.moved hm
 have n1 : ∀ b, o b = 1 → ¬ o b = k + 2 := fun b e e2 => by omega
 have old : ∀ b, b < w.heap.size → o.ext w w' (k + 2) b = o b := fun b hb => Lab.ext_old hb
 refine ⟨⟨hwf, hK.heapOf h.cells (n1 p h.lp), h.ne, h.safe.keep hK (n1 _ h.lm), h.shown.keep hK (n1 _ h.lh), own_keeps h.row hK (fun g hg => n1 g (h.lr g hg)), own_keeps h.reads hK (fun g hg => n1 g (h.ls g hg)), ?_, (old p h.lt).trans h.lp, (old _ h.safe.lt).trans h.lm, (old _ h.shown.lt).trans h.lh, fun g hg => (old g (h.row.lt g hg).2).trans (h.lr g hg), fun g hg => (old g (h.reads.lt g hg).2).trans (h.ls g hg), lim_ext h.lim hK.size, h.pl⟩, hK⟩
 intro j hj
 show Tg w' _ (j + 2) (A j) (upd S.th k t' j)
 by_cases e : j = k
 ·subst e; rw [upd_same]; exact h1
 ·rw [upd_other _ _ e]
  exact (h.th j hj).ext hK (fun g hg e2 => by omega)
theorem PDx.names {w' : World} {c : Nc} {rv' : Value} (h : PDx w p S A o ms mh rv sv) (hwf : (S.addName c).Wf) (hc : w'.heap[p]? = some (.cells #[.int .i64 S.room, .bool S.on, .map (some ms), rv', .map (some mh), .int .i64 S.strokes, .int .i64 S.off, .int .i64 S.from_, .int .i64 S.to, .int .i64 S.planned, sv] 97 (0, 0)))
  (hr : w'.ownsRow 0 182 1 rv' (S.row ++ [c]).length ((S.row ++ [c]).map (encNc A))) (hM : Mp w' mh A (c.apply S.shown)) (hK : Keep (fun k => k = p ∨ k = mh ∨ rv.ownBlock = some k) w w') (hl : ∀ g, rv'.ownBlock = some g → rv.ownBlock = some g ∨ w.heap.size ≤ g) :
  PDx w' p (S.addName c) A (o.ext w w' 1) ms mh rv' sv ∧ Keep (fun b => o b = 1) w w' := by
 have hF : ∀ b, (b = p ∨ b = mh ∨ rv.ownBlock = some b) → o b = 1 := fun b hb => by
  rcases hb with rfl | rfl | e
  ·exact h.lp
  ·exact h.lh
  ·exact h.lr b e
 have old : ∀ b, b < w.heap.size → o.ext w w' 1 b = o b := fun b hb => Lab.ext_old hb
 have hms : ¬ (ms = p ∨ ms = mh ∨ rv.ownBlock = some ms) := by
  rintro (e | e | e)
  ·exact h.ne_m e
  ·exact h.ne e
  ·exact own_nmap h.row h.safe.blk e
 refine ⟨⟨hwf, hc, h.ne, h.safe.keep hK hms, hM, hr, own_keeps h.reads hK (fun g hg => ?_), ?_, (old p h.lt).trans h.lp, (old _ h.safe.lt).trans h.lm, (old _ h.shown.lt).trans h.lh, fun g hg => ?_, fun g hg => (old g (h.reads.lt g hg).2).trans (h.ls g hg), lim_ext h.lim hK.size, h.pl⟩, hK.mono (fun b hb _ => hF b hb)⟩
 ·rintro (e | e | e)
  ·exact h.ne_s (by rw [hg, e])
  ·exact own_nmap h.reads h.shown.blk (by rw [hg, e])
  ·exact own_two h.reads h.row (by decide) g hg e
 ·intro j hj
  exact (h.th j hj).ext hK (fun g hg e2 => by have := hF g e2; omega)
 ·rcases hl g hg with e | e
  ·exact (old g (h.row.lt g e).2).trans (h.lr g e)
  ·exact Lab.ext_new e (hr.lt g hg).2
theorem encNc_congr {A A' : Nat → Nat} {row : List Nc} {n : Nat} (h : ∀ k, k < n → A' k = A k) (hr : ∀ k ∈ madeN row, k < n) : row.map (encNc A') = row.map (encNc A) := by
 refine List.map_congr_left (fun c hc => ?_)
 cases c with
 | mk nm k =>
  have : k ∈ madeN row := List.mem_flatMap.2 ⟨_, hc, by simp [Nc.made]⟩
  simp only [encNc, h k (hr k this)]
 | gv f t => rfl
 | tk nm => rfl
theorem PDx.fresh (h : PDx w p S A o ms mh rv sv) (w' : World) (hw : w' = w.alloc (.cells #[encStr [], .slice none 0 0, .slice none 0 0] 122)) :
  PDx w' p { S with th := upd S.th S.nx Th.new, nx := S.nx + 1 } (upd A S.nx w.heap.size) (o.ext w w' (S.nx + 2)) ms mh rv sv ∧ Kept [] w w' := by
 have hk : Kept [] w w' := by rw [hw]; exact (Kept.refl [] w).alloc _
 have hK : Keep (fun _ => False) w w' := Keep.ofNone hk
 have old : ∀ b, b < w.heap.size → o.ext w w' (S.nx + 2) b = o b := fun b hb => Lab.ext_old hb
 have hA : ∀ k, k < S.nx → upd A S.nx w.heap.size k = A k := fun k hk => upd_other _ _ (by omega)
 have hsz : w'.heap.size = w.heap.size + 1 := by rw [hw]; simp
 have hids : ∀ l : Nm, (∀ k ∈ l.ids, k < S.nx) → ∀ k ∈ l.ids, upd A S.nx w.heap.size k = A k := fun l hl k hk => hA k (hl k hk)
 refine ⟨⟨⟨h.wf.room, h.wf.up, h.wf.shown, h.wf.ok, h.wf.nodup, fun k hk => Nat.lt_succ_of_lt (h.wf.lt k hk), h.wf.nm, h.wf.nmr, ?_⟩, hK.heapOf h.cells (fun h => h), h.ne, ?_, ?_, ?_, own_keeps h.reads hK (fun _ _ h => h), ?_, (old p h.lt).trans h.lp, (old _ h.safe.lt).trans h.lm, (old _ h.shown.lt).trans h.lh, fun g hg => (old g (h.row.lt g hg).2).trans (h.lr g hg), fun g hg => (old g (h.reads.lt g hg).2).trans (h.ls g hg), lim_ext h.lim hK.size, h.pl⟩, hk⟩
 ·intro k hk'
  show (upd S.th S.nx Th.new k).ok
  have hk2 : k < S.nx + 1 := hk'
  by_cases e : k = S.nx
  ·subst e; rw [upd_same]; exact Th.new_ok
  ·rw [upd_other _ _ e]; exact h.wf.th k (by omega)
 ·exact (h.safe.keep hK (fun h => h)).congr (hids _ (fun k hk => h.wf.lt k (List.mem_append_left _ hk)))
 ·exact (h.shown.keep hK (fun h => h)).congr (hids _ (fun k hk => by obtain ⟨n, hn⟩ := Nm.mem_ids.1 hk; exact h.wf.slt hn))
 ·have := own_keeps h.row hK (fun _ _ h => h)
  rw [← encNc_congr hA (fun k hk => h.wf.lt k (List.mem_append_right _ hk))] at this
  exact this
 ·intro j hj
  have hj2 : j < S.nx + 1 := hj
  show Tg w' _ (j + 2) (upd A S.nx w.heap.size j) (upd S.th S.nx Th.new j)
  by_cases e : j = S.nx
  ·subst e
   rw [upd_same, upd_same]
   refine ⟨.slice none 0 0, .slice none 0 0, by rw [hw]; exact (MapKept.heap_alloc w _).1, World.ownsRow_nil _ _ _ _, OwnB.nil _, Lab.ext_new (Nat.le_refl _) (by omega), by simp [Value.ownBlock], by simp [Value.ownBlock]⟩
  ·rw [upd_other _ _ e, upd_other _ _ e]
   exact (h.th j (by omega)).ext hK (fun _ _ h => h)
end
end

section
open Go.RowKit Dsk
set_option linter.unusedVariables false
set_option linter.unusedSimpArgs false
theorem isNm_len {n : By} (h : isNm n = true) : n.length ≤ 112 := by unfold isNm at h; simp at h; omega
section
variable {w : World} {p : Nat} {S : Ds} {A : Nat → Nat} {o : Lab} {ms mh : Nat} {rv sv : Value}
theorem dirChange_pd (h : PDx w p S A o ms mh rv sv) {c : Nc} (hwf : (S.addName c).Wf) (hok : c.ok S.shown) (hs : ncShort c) {N : Nat} (hB : S.Bd N) (hN : N ≤ 536870912) :
  Calls Tryz.prog 70 #[.pointer (some ⟨p, 2, none⟩), encNc A c] w fun e w' => e = .returned (.tuple #[]) ∧ ∃ rv', PDx w' p (S.addName c) A (o.ext w w' 1) ms mh rv' sv ∧ Keep (fun b => o b = 1) w w' := by
 have h1 := hB.shown h.wf
 have h2 := hB.nm
 refine (dirChange_ok c p 2 mh 97 _ rv A S.shown S.row w h.cells (by decide) rfl rfl h.row h.shown hok hs (by omega) (by omega)).mono ?_
 rintro e w' ⟨rfl, rv', h1, h2, h3, h4, h5⟩
 exact ⟨rfl, rv', h.names hwf h1 h2 h3 h4 h5⟩
theorem thingChange_pd (h : PDx w p S A o ms mh rv sv) {k : Nat} (hk : k < S.nx) {c : Ch} (hp : c.place ≤ (S.th k).shown.length) {N : Nat} (hB : S.Bd N) (hN : N + c.units < 536870912) :
  Calls Tryz.prog 78 #[.pointer (some ⟨A k, 0, none⟩), encCh c] w fun e w' => e = .returned (.tuple #[]) ∧ PDx w' p (S.addByte k c) A (o.ext w w' (k + 2)) ms mh rv sv ∧ Keep (fun b => o b = k + 2) w w' := by
 obtain ⟨rv1, sv1, ht⟩ := h.th k hk
 have h1 := hB.len h.wf hk
 have h2 := hB.th k hk
 refine (thingChange_ok c (A k) rv1 sv1 (S.th k) w ht.th0 hp (by omega)).mono ?_
 rintro e w' ⟨rfl, hm⟩
 exact ⟨rfl, h.thing hk ht hm (h.wf.addByte hp hk)⟩
theorem thingSync_pd (h : PDx w p S A o ms mh rv sv) {k : Nat} (hk : k < S.nx) (hwf : ({ S with th := upd S.th k (S.th k).sync } : Ds).Wf) :
  Calls Tryz.prog 81 #[.pointer (some ⟨A k, 0, none⟩)] w fun e w' => e = .returned (.tuple #[]) ∧ PDx w' p { S with th := upd S.th k (S.th k).sync } A (o.ext w w' (k + 2)) ms mh rv sv ∧ Keep (fun b => o b = k + 2) w w' := by
 obtain ⟨rv1, sv1, ht⟩ := h.th k hk
 refine (thingSync_ok (A k) rv1 sv1 (S.th k) w ht.th0).mono ?_
 rintro e w' ⟨rfl, hm⟩
 exact ⟨rfl, h.thing hk ht hm hwf⟩
theorem mine_k {k : Nat} {w1 w2 : World} (hk : Keep (fun b => o b = k + 1) w1 w2) : Keep o.mine w1 w2 := hk.mono (fun i e _ => by show o i ≠ 0; omega)
end
set_option maxHeartbeats 1600000 in
set_option maxRecDepth 100000 in
theorem create_ok {w : World} {p : Nat} {S : Ds} {A : Nat → Nat} {o : Lab} {N : Nat} (h : PD w p S A o) (hB : S.Bd N) (hN : N ≤ 268435456) (n : By) (hn : n.length ≤ 4611686018427387904) :
  Calls Tryz.prog 23 #[.pointer (some ⟨p, 0, none⟩), encStr n] w fun e w' => e = .returned (.int .i64 (S.create n).1) ∧ Aft w w' p (S.create n).2 o := by
 obtain ⟨ms, mh, rv, sv, h⟩ := h
 have hfd := find_ok h n hn
 by_cases h0 : (S.find n).1 = 0
 ·have HC : Hid (S.create n = (52, S)) := hide (by simp [Ds.create, h0])
  have hv : findV S A n = .pointer (some ⟨A (S.find n).2, 0, none⟩) := by unfold findV; rw [if_pos h0]
  rw [hv, h0] at hfd
  have HA := hide (Aft.of h (Keep.refl _ w))
  clear h hB h0 hv
  go_enter Tryz.func23, Tryz.ntmps23
  go_wp2_with (go_at_call 67; refine hfd.mono ?_; rintro e w' ⟨rfl, rfl⟩)
  go_ret
  exact ⟨by rw [HC.out]; rfl, by rw [HC.out]; exact HA.out⟩
 have hv : findV S A n = .pointer none := by unfold findV; rw [if_neg h0]
 rw [hv] at hfd
 by_cases h53 : (S.find n).1 = 53
 ·obtain ⟨hon, hnm, hget⟩ := Ds.find_none h53
  rw [h53] at hfd
  have hrf := refused_ok h hB (by omega) 0 (by omega) (by omega)
  have hf0 : fullE S 0 = if S.lacks then 55 else 0 := by unfold fullE Ds.full; simp
  rw [hf0] at hrf
  have HW : Hid (∀ v, Kept [] w v → PDx v p S A o ms mh rv sv) := fun v hv => h.keep (Keep.ofNone (F := fun _ => False) hv) (fun _ _ h => h)
  have HL : Hid (∀ v, Kept [] w v → (Builtin.len_ #[92] 3 #[.map (some mh)]).run Tryz.prog v = .ok (.int .i64 S.shown.length) v) := fun v hv => by
   have := World.ownsMap.len (HW.out v hv).shown Tryz.underlying92 3
   rw [nmD_size] at this
   exact this
  have HS : Hid (∀ v r, Kept [] w v → Calls Tryz.prog 69 #[.pointer (some ⟨p, 0, none⟩), .int .i64 r] v fun e w' => e = .returned (.int .i64 (S.ans r)) ∧ PDx w' p S.tick A o ms mh rv sv ∧ Keep (· = p) v w') := fun v r hv => stroke_ok (HW.out v hv) r (by have := hB.strokes; omega) (by have := hB.planned; omega)
  have HC4 : Hid (∀ v, Kept [] w v → v.cell? ⟨p, 4, none⟩ = some (.map (some mh))) := fun v hv => (HW.out v hv).c4
  have HAF : Hid (∀ v w2, Kept [] w v → PDx w2 p S.tick A o ms mh rv sv → Keep (· = p) v w2 → Aft w w2 p S.tick o) := fun v w2 hv h2 hk => Aft.of h2 ((Keep.ofNone hv).trans (mine_p h2 hk) (fun _ h _ => h))
  have hsl := hB.shown h.wf
  have hlp := h.lp
  by_cases hfl : 256 ≤ S.shown.length
  ·have HC : Hid (S.create n = (S.ans 56, S.tick)) := hide (by
    have : S.refusedCreate = 56 := by unfold Ds.refusedCreate; rw [if_pos hfl]
    simp [Ds.create, h53, this])
   clear h hB h0 hv h53 hf0 hget
   generalize (if S.lacks = true then (55 : Int) else 0) = q at hrf
   go_enter Tryz.func23, Tryz.ntmps23
   go_wp2_with (first
    | (go_at_call 67; refine hfd.mono ?_; rintro e w' ⟨rfl, rfl⟩; clear hfd)
    | (go_at_call 68; have Ha := hrf; refine hrf.mono ?_; rintro e w1 ⟨rfl, hk1⟩; have hl := HL.out w1 hk1; have c4 := HC4.out w1 hk1; clear Ha hrf)
    | (go_at_call 69; refine (HS.out w1 56 hk1).mono ?_; rintro e w2 ⟨rfl, hP2, hk2⟩; have H2 := hide (HAF.out w1 w2 hk1 hP2 hk2); clear hP2 hk2))
   go_ret
   exact ⟨by rw [HC.out]; rfl, by rw [HC.out]; exact H2.out⟩
  ·cases hlk : S.lacks
   ·have hr0 : S.refusedCreate = 0 := by unfold Ds.refusedCreate; rw [if_neg hfl, hlk]; rfl
    have hcr : S.create n = (S.ans 0, ({ S.tick with th := upd S.th S.nx Th.new, nx := S.nx + 1 } : Ds).addName (.mk n S.nx)) := by simp [Ds.create, h53, hr0]
    have hwfc := h.wf.create n
    rw [hcr] at hwfc
    have HC := hide hcr
    rw [hlk] at hrf
    have HD : Hid (∀ v, PDx v p S.tick A o ms mh rv sv → Calls Tryz.prog 70 #[.pointer (some ⟨p, 2, none⟩), .iface 124 (.agg #[encStr n, .pointer (some ⟨v.heap.size, 0, none⟩)])] (v.alloc (.cells #[encStr [], .slice none 0 0, .slice none 0 0] 122)) fun e w' => e = .returned (.tuple #[]) ∧ Aft v w' p (({ S.tick with th := upd S.th S.nx Th.new, nx := S.nx + 1 } : Ds).addName (.mk n S.nx)) o) := fun v hv => by
     obtain ⟨hf, hkf⟩ := hv.fresh _ rfl
     have hBt : ({ S.tick with th := upd S.th S.nx Th.new, nx := S.nx + 1 } : Ds).Bd (N + 1) := by
      have hb := hB.create n
      rw [hcr] at hb
      exact ⟨by have := hB.nm; show S.safe.length + S.row.length ≤ _; omega, hb.th, hb.reads, hb.strokes, hb.planned⟩
     have hd := dirChange_pd hf (c := .mk n S.nx) hwfc trivial (isNm_len hnm) hBt (by omega)
     simp only [encNc, upd_same, show S.tick.nx = S.nx from rfl] at hd
     refine hd.mono ?_
     rintro e w' ⟨rfl, rv', hP, hK⟩
     refine ⟨rfl, _, _, ⟨_, _, _, _, hP⟩, ?_, ?_⟩
     ·exact (Ext_ext o v _ _).trans (Ext_ext _ _ _ _) hkf.size
     ·refine (Keep.ofNone hkf).trans hK (fun i hi hlt => ?_)
      rw [Lab.ext_old hlt] at hi
      show o i ≠ 0
      omega
    have HPT : Hid (∀ v w2 w3, Kept [] w v → PDx w2 p S.tick A o ms mh rv sv → Keep (· = p) v w2 → Aft w2 w3 p (({ S.tick with th := upd S.th S.nx Th.new, nx := S.nx + 1 } : Ds).addName (.mk n S.nx)) o → Aft w w3 p (({ S.tick with th := upd S.th S.nx Th.new, nx := S.nx + 1 } : Ds).addName (.mk n S.nx)) o) := fun v w2 w3 hv h2 hk ha => Aft.trans (Lab.Ext.refl _ _) ((Keep.ofNone hv).trans (mine_p h2 hk) (fun _ h _ => h)) ha
    clear h hB h0 hv h53 hf0 hget hcr hwfc hr0 hlk
    go_enter Tryz.func23, Tryz.ntmps23
    go_wp2_with (first
     | (go_at_call 67; refine hfd.mono ?_; rintro e w' ⟨rfl, rfl⟩; clear hfd)
     | (go_at_call 68; have Ha := hrf; refine hrf.mono ?_; rintro e w1 ⟨rfl, hk1⟩; have hl := HL.out w1 hk1; have c4 := HC4.out w1 hk1; clear Ha hrf)
     | (go_at_call 69; have Ha := HS; refine (HS.out w1 0 hk1).mono ?_; rintro e w2 ⟨rfl, hP2, hk2⟩; have HH2 := hide (And.intro hP2 hk2); clear hP2 hk2 HS Ha)
     | (go_at_call 70; refine (HD.out w2 HH2.out.1).mono ?_; rintro e w3 ⟨rfl, ha3⟩; have H3 := hide (HPT.out w1 w2 w3 hk1 HH2.out.1 HH2.out.2 ha3); clear ha3))
    go_ret
    exact ⟨by rw [HC.out]; rfl, by rw [HC.out]; exact H3.out⟩
   ·have HC : Hid (S.create n = (S.ans 55, S.tick)) := hide (by
     have : S.refusedCreate = 55 := by unfold Ds.refusedCreate; rw [if_neg hfl, hlk]; rfl
     simp [Ds.create, h53, this])
    rw [hlk] at hrf
    clear h hB h0 hv h53 hf0 hget hlk
    go_enter Tryz.func23, Tryz.ntmps23
    go_wp2_with (first
     | (go_at_call 67; refine hfd.mono ?_; rintro e w' ⟨rfl, rfl⟩; clear hfd)
     | (go_at_call 68; have Ha := hrf; refine hrf.mono ?_; rintro e w1 ⟨rfl, hk1⟩; have hl := HL.out w1 hk1; have c4 := HC4.out w1 hk1; clear Ha hrf)
     | (go_at_call 69; refine (HS.out w1 55 hk1).mono ?_; rintro e w2 ⟨rfl, hP2, hk2⟩; have H2 := hide (HAF.out w1 w2 hk1 hP2 hk2); clear hP2 hk2))
    go_ret
    exact ⟨by rw [HC.out]; rfl, by rw [HC.out]; exact H2.out⟩
 ·have HC : Hid (S.create n = ((S.find n).1, S)) := hide (by simp [Ds.create, h0, h53])
  have HA := hide (Aft.of h (Keep.refl _ w))
  generalize (S.find n).1 = E at hfd h0 h53 HC
  have e0 : (E == 0) = false := by simpa using h0
  have e53 : (E != 53) = true := by simpa using h53
  clear h hB hv h0 h53
  go_enter Tryz.func23, Tryz.ntmps23
  go_wp2_with (go_at_call 67; refine hfd.mono ?_; rintro e w' ⟨rfl, rfl⟩)
  go_ret
  exact ⟨by rw [HC.out]; rfl, by rw [HC.out]; exact HA.out⟩
end

end Go.Proofs.YtodihkdmneihiaaGreatDoor
