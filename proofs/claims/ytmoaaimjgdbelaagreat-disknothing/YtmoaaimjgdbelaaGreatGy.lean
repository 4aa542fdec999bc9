/-
  Contracts: Used, refusedRoom.
-/
import Derived.Test.YtmoaaimjgdbelaaGreatGx
import Derived.Maps.RangeWalk
namespace Go.Proofs.YtmoaaimjgdbelaaGreat
open Go.RowKit Dsk
set_option linter.unusedVariables false
set_option linter.unusedSimpArgs false

/-- The sum over those that are not left. -/
def sumNot (f : Nat → Nat) (left : Lit → Bool) : Nm → Nat
  | [] => 0
  | p :: r => (if left (.string p.1) then 0 else f p.2) + sumNot f left r
theorem sumNot_none (f : Nat → Nat) (left : Lit → Bool) (l : Nm) (h : ∀ p ∈ l, left (.string p.1) = true) : sumNot f left l = 0 := by
  induction l with
  | nil => rfl
  | cons p r ih => simp only [sumNot, h p (by simp), if_true, Nat.zero_add]; exact ih (fun q hq => h q (by simp [hq]))
theorem sumNot_all (f : Nat → Nat) (left : Lit → Bool) (l : Nm) (h : ∀ k, left k = false) : sumNot f left l = (l.map (fun p => f p.2)).sum := by
  induction l with
  | nil => rfl
  | cons p r ih => simp [sumNot, h, ih]
theorem sumNot_off (f : Nat → Nat) (left : Lit → Bool) (n : By) (l : Nm) (h : ∀ p ∈ l, p.1 ≠ n) : sumNot f (fun z => left z && !z.sameKey (.string n)) l = sumNot f left l := by
  induction l with
  | nil => rfl
  | cons p r ih =>
    have h1 : (Lit.string p.1).sameKey (.string n) = false := by rw [same_str]; simpa using h p (by simp)
    simp only [sumNot, h1, Bool.not_false, Bool.and_true]
    rw [ih (fun q hq => h q (by simp [hq]))]
theorem sumNot_step (f : Nat → Nat) (left : Lit → Bool) {n : By} {k : Nat} {l : Nm} (hup : l.Up) (hm : (n, k) ∈ l) (hl : left (.string n) = true) : sumNot f (fun z => left z && !z.sameKey (.string n)) l = sumNot f left l + f k := by
  induction l with
  | nil => simp at hm
  | cons p r ih =>
    have hp := List.pairwise_cons.1 hup
    rcases List.mem_cons.1 hm with e | hm'
    · subst e
      have h1 : (Lit.string n).sameKey (.string n) = true := by rw [same_str]; simp
      have h2 : ∀ q ∈ r, q.1 ≠ n := fun q hq e => by have := hp.1 q hq; rw [e, before_irrefl] at this; cases this
      simp only [sumNot, h1, hl]
      rw [sumNot_off f left n r h2]
      simp
      omega
    · have h1 : p.1 ≠ n := fun e => by have := hp.1 _ hm'; rw [e, before_irrefl] at this; cases this
      have h2 : (Lit.string p.1).sameKey (.string n) = false := by rw [same_str]; simpa using h1
      simp only [sumNot, h2, Bool.not_false, Bool.and_true]
      rw [ih hp.2 hm']
      omega
theorem sumNot_le (f : Nat → Nat) (left : Lit → Bool) (l : Nm) (N : Nat) (h : ∀ p ∈ l, f p.2 ≤ N) : sumNot f left l ≤ l.length * N := by
  induction l with
  | nil => simp [sumNot]
  | cons p r ih =>
    have h1 := h p (by simp)
    have h2 := ih (fun q hq => h q (by simp [hq]))
    simp only [sumNot, List.length_cons, Nat.add_mul, Nat.one_mul]
    split <;> omega
theorem Ds.used_le {S : Ds} {N : Nat} (hw : S.Wf) (hB : S.Bd N) : S.used ≤ N * N := by
  have h1 := sumNot_le (fun k => (S.th k).shown.length) (fun _ => false) S.shown N (fun p hp => hB.len hw (hw.slt (n := p.1) hp))
  rw [sumNot_all _ _ _ (fun _ => rfl)] at h1
  exact Nat.le_trans h1 (Nat.mul_le_mul_right _ (hB.shown hw))

def mkP : Option Nat → Value
  | none => .pointer none
  | some b => .pointer (some ⟨b, 0, none⟩)
theorem mkP_inv (v : Value) (y : DataW Unit × List MemPlace) (h : ptrElem v = some y) : ∃ c, v = mkP c := by
  unfold ptrElem at h
  split at h
  · exact ⟨none, rfl⟩
  · exact ⟨some _, rfl⟩
  · cases h
/-- Which entry has come. -/
theorem came {A : Nat → Nat} {l : Nm} {x : By} {c : Option Nat} {y : DataW Unit × List MemPlace} (hv : ptrElem (mkP c) = some y) (hat : ∀ zd, (nmD A l).atKey (.string x) zd = y.1) : ∃ k, l.get x = some k ∧ c = some (A k) := by
  cases hg : l.get x with
  | none =>
    have h1 := hat .nil
    have h2 := hat (.lit (.bool true))
    rw [nmD_at, hg] at h1 h2
    rw [← h1] at h2
    cases h2
  | some k =>
    have h1 := hat .nil
    rw [nmD_at, hg] at h1
    refine ⟨k, rfl, ?_⟩
    cases c with
    | none => simp only [mkP, ptrElem, Option.some.injEq] at hv; rw [← hv] at h1; cases h1
    | some b =>
      simp only [mkP, ptrElem, Option.some.injEq] at hv
      rw [← hv] at h1
      simp only [DataW.lit.injEq, Lit.int.injEq, true_and] at h1
      congr 1
      omega

set_option maxHeartbeats 1600000 in
set_option maxRecDepth 100000 in
theorem used_ok {w : World} {p : Nat} {S : Ds} {A : Nat → Nat} {o : Lab} {ms mh : Nat} {rv sv : Value} {N : Nat} (h : PDx w p S A o ms mh rv sv) (hB : S.Bd N) (hN : N ≤ 536870912) : Calls Tryz.prog 44 #[.pointer (some ⟨p, 0, none⟩)] w fun e w' => e = .returned (.int .i64 S.used) ∧ Kept [] w w' := by
  have c4 := h.c4
  have HP := hide (And.intro h hB)
  have hown : w.ownsMap Tryz.prog 9 ptrElem mh S.shown.length (nmD A S.shown) := h.shown
  have hNN : N * N ≤ 536870912 * 536870912 := Nat.mul_le_mul hN hN
  clear h hB
  go_enter Tryz.func44, Tryz.ntmps44
  go_wp2_with (at_range; refine wpList_range_own _ rfl _ 64 rfl 9 77 Tryz.keyed Tryz.underlying64 ptrElem mh S.shown.length (nmD A S.shown) rfl hown ?_; intro w1 hrg hgr hsz)
  have hR : Hid (w1.ranges Tryz.prog 9 ptrElem mh w.heap.size S.shown.length (nmD A S.shown) (Maps.has (nmD A S.shown)) (Maps.size (nmD A S.shown)) ∧ Keep (· = w.heap.size) w w1) := ⟨hrg, (Keep.refl _ w).grown hgr (by simp)⟩
  clear hrg hgr
  generalize hr : w.heap.size = r at hR ⊢
  have HS : Hid (sumNot (fun k => (S.th k).shown.length) (Maps.has (nmD A S.shown)) S.shown = 0) := hide (sumNot_none _ _ _ (fun q hq => by
    rw [nmD, Maps.has_eq]
    simp only [List.any_map, List.any_eq_true]
    exact ⟨q, hq, by show (Lit.string q.1).sameKey (.string q.1) = true; rw [same_str]; simp⟩))
  go_frame
  go_loopw [3, 5] (fun s _ wr => ∃ (left : Lit → Bool) (cnt : Nat), Hid (wr.ranges Tryz.prog 9 ptrElem mh r S.shown.length (nmD A S.shown) left cnt ∧ Keep (· = r) w wr) ∧ s = .int .i64 (sumNot (fun k => (S.th k).shown.length) left S.shown)) (fun _ _ wr => wr.rangeLeft mh r)
  case atStart => exact ⟨_, _, hR, by rw [HS.out]; rfl⟩
  case round =>
    obtain ⟨left, cnt, HR, rfl⟩ := hrel
    have hrg := HR.out.1
    have hle := sumNot_le (fun k => (S.th k).shown.length) left S.shown N (fun q hq => HP.out.2.len HP.out.1.wf (HP.out.1.wf.slt (n := q.1) hq))
    have hsl := HP.out.2.shown HP.out.1.wf
    have hle2 : sumNot (fun k => (S.th k).shown.length) left S.shown ≤ 536870912 * 536870912 := Nat.le_trans hle (Nat.le_trans (Nat.mul_le_mul_right _ hsl) hNN)
    go_wp2_with (first
      | (at_next; refine wpList_next_ranges _ rfl _ rfl 9 Tryz.keyed ptrElem encStr mkP (fun key kl hk => by obtain ⟨x, hx, _⟩ := Maps.keyOf_str Tryz.underlying9 hk; exact ⟨x, hx⟩) mkP_inv mh r S.shown.length _ _ _ rfl hrg ?_ ?_)
      | go_in)
    · intro _ hl0
      have HU : Hid (sumNot (fun k => (S.th k).shown.length) left S.shown = S.used) := hide (sumNot_all _ _ _ hl0)
      go_wp2
      go_ret
      refine ⟨by rw [← HU.out]; rfl, ?_⟩
      have hk := HR.out.2
      exact ⟨hk.os, hk.tape, hk.output, hk.size, fun i hi _ => hk.block i hi (by show ¬ i = r; omega)⟩
    · intro x c kl yd yp w2 cnt2 hkey hlk hv hat hrg2 hlt hgr2 hsz2 hen
      obtain ⟨x', ex, rfl, _⟩ := Maps.keyOf_str Tryz.underlying9 hkey
      obtain rfl : x = x' := encStr_inj ex
      obtain ⟨k, hg, rfl⟩ := came (y := (yd, yp)) hv hat
      have hm := (Nm.get_some HP.out.1.wf.sup).1 hg
      have hK2 : Keep (· = r) w w2 := HR.out.2.grown hgr2 (fun j e _ => by injection e with e; exact e.symm)
      obtain ⟨rv1, sv1, ht⟩ := HP.out.1.th k (HP.out.1.wf.slt hm)
      have ht2 := (ht.th0).keep hK2 (fun j hj e => by
        have : j < w.heap.size := by
          rcases hj with rfl | e1 | e1
          · exact ht.lt
          · exact (ht.row.lt j e1).2
          · exact ht.shown.lt e1
        omega)
      obtain ⟨so, sc, rfl, _⟩ := ht.shown.shape
      have i2 := ht2.c2
      have HST : Hid (sumNot (fun k => (S.th k).shown.length) (fun z => left z && !z.sameKey (.string x)) S.shown = sumNot (fun k => (S.th k).shown.length) left S.shown + (S.th k).shown.length) := hide (sumNot_step (fun k => (S.th k).shown.length) left HP.out.1.wf.sup hm hlk)
      have hlk2 := HP.out.2.len HP.out.1.wf (HP.out.1.wf.slt hm)
      have H2 := hide (And.intro hrg2 hK2)
      have HL := hide (And.intro hrg hlt)
      simp only [mkP] at hen
      clear hle hsl hat hv hkey hgr2 hrg2 hK2 ht ht2 hg hm hrg hlt hlk HR
      generalize sumNot (fun k => (S.th k).shown.length) left S.shown = s0 at hle2 HST
      generalize (S.th k).shown.length = m at HST hlk2 i2
      go_wp2
      go_roundw
      case rel => exact ⟨_, cnt2, H2, by rw [HST.out]; go_num⟩
      case measure => rw [H2.out.1.left_eq, HL.out.1.left_eq]; exact HL.out.2
end Go.Proofs.YtmoaaimjgdbelaaGreat
