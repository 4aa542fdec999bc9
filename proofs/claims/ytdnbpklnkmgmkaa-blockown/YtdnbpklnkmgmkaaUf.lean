/-
  Contract: press.Unpack. (Written by tools/uf.py.)
-/
import Derived.Test.YtdnbpklnkmgmkaaUd
import Derived.Test.YtdnbpklnkmgmkaaUe
import Derived.Test.YtdnbpklnkmgmkaaQp2
namespace Go.Proofs.Ytdnbpklnkmgmkaa
open Go.RowKit
set_option linter.unusedVariables false
set_option linter.unusedSimpArgs false

namespace Prs
theorem unp_zeroFlag (n f : Nat) (xs out : List UInt8) : unp n 0 f xs out = unp n 0 0 xs out := by
  cases xs with
  | nil => rw [unp_end, unp_end]
  | cons x r => cases r with
    | nil => rw [unp_one, unp_one]
    | cons y r => rw [unp_flag, unp_flag]
end Prs

theorem own_mono {w : World} {b b' : Nat} {e : TypeId} {s : Nat} {v : Value} {n : Nat} {xs : List Value} (h : w.ownsRow b e s v n xs) (hb : b' ≤ b) : w.ownsRow b' e s v n xs := by
  refine ⟨h.1, ?_⟩
  rcases h.2 with h | ⟨g, c, cur, h1, h2, h3⟩
  · exact .inl h
  · exact .inr ⟨g, c, cur, h1, Nat.le_trans hb h2, h3⟩

theorem and1 : ∀ n : Nat, n < 256 → bits .and .u8 (n : Int) 1 = ((n % 2 : Nat) : Int) := by decide +kernel

/-- Its frame. -/
def frU (U n : Nat) (v7 v8 v9 : Value) (u : Nat → Value) : Act :=
  { tmps := #[u 0, .int .i64 n, u 2, u 3, u 4, u 5, .pointer (some ⟨U, 0, none⟩), v7, v8, v9, u 10, u 11, u 12, u 13, u 14, u 15, u 16, u 17, u 18, u 19, u 20, u 21, u 22, u 23, u 24, u 25, u 26, u 27, u 28, u 29, u 30, u 31, u 32, u 33, u 34, u 35, u 36, u 37, u 38, u 39, u 40, u 41, u 42, u 43, u 44, u 45, u 46, u 47, u 48, u 49, u 50, u 51, u 52, u 53, u 54, u 55, u 56, u 57, u 58, u 59, u 60, u 61], defers := [] }
theorem frU_mk {U n : Nat} {v7 v8 v9 : Value} (a : Act) (h : a = frU U n v7 v8 v9 (fun i => a.tmps.getD i undef)) : ∃ u, a = frU U n v7 v8 v9 u := ⟨_, h⟩

/-- What it has: what is to come of it is R. -/
def Uw (w0 w : World) (U n : Nat) (xs out : List UInt8) : Prop := ∃ ao rc bo bc, Up w U ao rc xs bo bc out n ∧ Below U w0 w

/-- What holds at the labels: 0 end, 1 flag, 2 next, 3 item. -/
def Ju (w0 : World) (U n : Nat) (R : List UInt8 × Nat) (m : Nat) : Nat → Act → World → Prop
  | 0, a, w => ∃ v7 v8 v9 out xs, (∃ u, a = frU U n v7 v8 v9 u) ∧ Hid (Uw w0 w U n xs out ∧ Prs.unp n 0 0 [] out = R)
  | 1, a, w => ∃ v7 v8 v9 xs out, (∃ u, a = frU U n v7 v8 v9 u) ∧ Hid (Uw w0 w U n xs out ∧ Prs.unp n 0 0 xs out = R ∧ m = 4 * xs.length + 2)
  | 2, a, w => (∃ flag k xs out, (∃ u, a = frU U n (.int .u8 (flag : Nat)) (.int .i64 ((k + 1 : Nat) : Int)) (.int .i64 0) u) ∧ Hid (Uw w0 w U n xs out ∧ Prs.unp n k (flag / 2) xs out = R ∧ flag < 2 ^ (k + 1) ∧ k < 8 ∧ m = 4 * xs.length + 3)) ∨
      (∃ v7 v8 err, (∃ u, a = frU U n v7 v8 (.int .i64 ((err : Nat) : Int)) u) ∧ Hid (Below U w0 w ∧ R = ([], err) ∧ err ≠ 0))
  | 3, a, w => ∃ flag k x r out v9, (∃ u, a = frU U n (.int .u8 (flag : Nat)) (.int .i64 ((k + 1 : Nat) : Int)) v9 u) ∧ Hid (Uw w0 w U n (x :: r) out ∧ Prs.unp n (k + 1) flag (x :: r) out = R ∧ flag < 2 ^ (k + 1) ∧ k < 8 ∧ m = 4 * (x :: r).length + 1)
  | _, _, _ => False

/-- What it answers. -/
def Ans (w0 : World) (R : List UInt8 × Nat) (e : Ending) (w : World) : Prop :=
  ∃ bo bc, e = .returned (.tuple #[.slice bo R.1.length bc, .int .i64 R.2]) ∧ w.ownsRow w0.heap.size 5 1 (.slice bo R.1.length bc) R.1.length (bys R.1) ∧ Below w0.heap.size w0 w

/-- The code from its labels on. -/
noncomputable def bodyU : Code := match Try.f38.body with | some (.seq _ (.scope c)) => c | _ => .skip
abbrev QU (w : World) (R : List UInt8 × Nat) : Exit → Act → World → Prop := bodyPost Try.prog Try.f38 (Ans w R)
abbrev OnU (w : World) (U n : Nat) (R : List UInt8 × Nat) (m l : Nat) (a : Act) (w1 : World) : Prop := OnFrom Try.prog bodyU (Ju w U n R) (QU w R) m l a w1

set_option maxHeartbeats 2000000 in
set_option maxRecDepth 100000 in
theorem uL0 {w : World} {U n : Nat} {R : List UInt8 × Nat} (hU : U = w.heap.size) (m : Nat) (a : Act) (w1 : World) (hj : Ju w U n R m 0 a w1) : OnU w U n R m 0 a w1 := by
  obtain ⟨v7, v8, v9, out, ys, ⟨u, hu⟩, HW⟩ := hj
  have HU : Hid (U = w.heap.size) := hU
  clear hU
  refine ⟨_, rfl, ?_⟩
  subst hu
  obtain ⟨⟨ao, rc, bo, bc, hUp, hB⟩, hRR⟩ := HW.out
  have HUP : Hid (Up w1 U ao rc ys bo bc out n ∧ Below U w w1) := ⟨hUp, hB⟩
  have c1 := hUp.c1
  have hle := hUp.le
  clear HW hUp hB
  unfold frU
  rw [Prs.unp_end] at hRR
  by_cases hl : out.length < n
  · rw [if_pos hl] at hRR
    have hq : ((out.length : Int) < (n : Int)) := by omega
    subst hRR
    go_wp2
    go_ret2
    exact ⟨none, 0, rfl, World.ownsRow_nil _ _ _ _, by have := HU.out; subst this; exact HUP.out.2⟩
  · rw [if_neg hl] at hRR
    have hq : ¬ ((out.length : Int) < (n : Int)) := by omega
    subst hRR
    go_wp2
    go_ret2
    have := HU.out
    subst this
    exact ⟨bo, bc, rfl, own_mono HUP.out.1.own (by omega), HUP.out.2⟩

set_option maxHeartbeats 2000000 in
set_option maxRecDepth 100000 in
theorem uL1 {w : World} {U n : Nat} {R : List UInt8 × Nat} (hU : U = w.heap.size) (m : Nat) (ih : ∀ m', m' < m → ∀ l a w1, Ju w U n R m' l a w1 → OnU w U n R m' l a w1) (a : Act) (w1 : World) (hj : Ju w U n R m 1 a w1) : OnU w U n R m 1 a w1 := by
  obtain ⟨v7, v8, v9, ys, out, ⟨u, hu⟩, HW⟩ := hj
  have HU : Hid (U = w.heap.size) := hU
  have HI : Hid (∀ m', m' < m → ∀ l a w1, Ju w U n R m' l a w1 → OnU w U n R m' l a w1) := ih
  clear hU ih
  refine ⟨_, rfl, ?_⟩
  subst hu
  obtain ⟨⟨ao, rc, bo, bc, hUp, hB⟩, hRR, hm⟩ := HW.out
  have HM : Hid (m = 4 * ys.length + 2) := hm
  have c0 := hUp.c0
  clear HW hm
  rcases ys with _ | ⟨x, _ | ⟨y, r⟩⟩
  · have HUP : Hid (Up w1 U ao rc [] bo bc out n ∧ Below U w w1 ∧ Prs.unp n 0 0 [] out = R) := ⟨hUp, hB, hRR⟩
    clear hUp hB hRR
    unfold frU
    go_wp2
    go_step3
    show ∃ m', m' < m ∧ Ju w U n R m' 0 _ _
    exact ⟨0, by have := HM.out; omega, _, _, _, _, _, frU_mk _ rfl, ⟨_, _, _, _, HUP.out.1, HUP.out.2.1⟩, HUP.out.2.2⟩
  · have HUP : Hid (Below U w w1) := hB
    clear hUp hB
    rw [Prs.unp_one] at hRR
    subst hRR
    unfold frU
    go_wp2
    go_ret2
    exact ⟨none, 0, rfl, World.ownsRow_nil _ _ _ _, by have := HU.out; subst this; exact HUP.out⟩
  · rw [Prs.unp_flag] at hRR
    have HUP : Hid (Up w1 U ao rc (x :: y :: r) bo bc out n ∧ Below U w w1 ∧ Prs.unp n 8 x.toNat (y :: r) out = R) := ⟨hUp, hB, hRR⟩
    obtain ⟨rb, ro, hao, hrb, hcell⟩ := hUp.rest.open (by simp)
    subst hao
    have cx := hcell 0 (by simp)
    simp only [Nat.add_zero, List.getD_cons_zero] at cx
    simp only [List.length_cons] at c0
    have hq3 : (((r.length : Int) + 1 + 1) == 0) = false := by simp; omega
    have hq4 : (((r.length : Int) + 1 + 1) == 1) = false := by simp; omega
    have hb0 : ¬ ((r.length : Int) + 1 + 1 ≤ 0) := by omega
    clear hUp hB hRR hcell
    unfold frU
    go_wp2
    refine wp_region_late (fun w' => Kept [] w1 w') (fun i => decide (10 ≤ i)) (by kernel_rfl) ?_
    have h0 : Kept [] w1 w1.drew := (Kept.refl [] w1).drew
    generalize World.drew w1 = v0 at h0 ⊢
    have H0 := HUP.out.1.kept h0
    have B0 : Below U w v0 := HUP.out.2.1.trans (h0.below (Nat.le_of_lt HUP.out.1.lt) (by simp))
    have f0 := H0.fr 0
    have d0 := H0.c0
    obtain ⟨ao', rc', hcut, hU5, hB5⟩ := H0.cut 1 (by simp) (by decide)
    simp only [List.length_cons, List.drop_succ_cons, List.drop_zero] at hcut hU5 hB5 d0
    have HF : Hid (Up (v0.setCell ⟨U, 0, none⟩ (.slice ao' (r.length + 1) rc')) U ao' rc' (y :: r) bo bc out n ∧ Below U w (v0.setCell ⟨U, 0, none⟩ (.slice ao' (r.length + 1) rc'))) := ⟨hU5, B0.trans hB5⟩
    have hcut1 : ∀ W, (Instr.slice 23 (.slice (some ⟨rb, ro, none⟩) (r.length + 1 + 1) rc) (some (.int .i64 1)) none none).run Try.prog W = .ok (.slice ao' (r.length + 1) rc') W := hcut
    clear H0 B0 hcut hU5 hB5
    refine wpAnyL_free (i := 0) (v := .pointer (some ⟨U, 0, none⟩)) rfl (by kernel_rfl) (by kernel_rfl) (by kernel_rfl) (fun _ _ _ h => h) (Or.inl ⟨by rfl, fun w _ => by go_simp⟩) ?_
    try simp only [List.getElem_toArray, List.getElem_cons_zero, List.getElem_cons_succ, Act.put, List.setIfInBounds_toArray, List.set_cons_zero, List.set_cons_succ]
    refine wpAnyL_take (i := 1) (v := .slice (some ⟨rb, ro, none⟩) (r.length + 1 + 1) rc) rfl (by kernel_rfl) (by kernel_rfl) (by kernel_rfl) (by kernel_rfl) (by kernel_rfl) (fun _ _ _ h => h) (Or.inl ⟨by rfl, fun w hSw => by have c := Kept.cellOf hSw c0 (by simp); go_simp⟩) h0 ?_
    try simp only [List.getElem_toArray, List.getElem_cons_zero, List.getElem_cons_succ, Act.put, List.setIfInBounds_toArray, List.set_cons_zero, List.set_cons_succ]
    refine wpAnyL_free (i := 2) (v := .pointer (some ⟨rb, ro, none⟩)) rfl (by kernel_rfl) (by kernel_rfl) (by kernel_rfl) (fun _ _ _ h => h) (Or.inl ⟨by rfl, fun w _ => by go_simp⟩) ?_
    try simp only [List.getElem_toArray, List.getElem_cons_zero, List.getElem_cons_succ, Act.put, List.setIfInBounds_toArray, List.set_cons_zero, List.set_cons_succ]
    refine wpAnyL_take (i := 3) (v := .int .u8 x.toNat) rfl (by kernel_rfl) (by kernel_rfl) (by kernel_rfl) (by kernel_rfl) (by kernel_rfl) (fun _ _ _ h => h) (Or.inl ⟨by rfl, fun w hSw => by have c := Kept.cellOf hSw cx (by simp); go_simp⟩) h0 ?_
    try simp only [List.getElem_toArray, List.getElem_cons_zero, List.getElem_cons_succ, Act.put, List.setIfInBounds_toArray, List.set_cons_zero, List.set_cons_succ]
    refine wpAnyL_free (i := 4) (v := .pointer (some ⟨U, 0, none⟩)) rfl (by kernel_rfl) (by kernel_rfl) (by kernel_rfl) (fun _ _ _ h => h) (Or.inl ⟨by rfl, fun w _ => by go_simp⟩) ?_
    try simp only [List.getElem_toArray, List.getElem_cons_zero, List.getElem_cons_succ, Act.put, List.setIfInBounds_toArray, List.set_cons_zero, List.set_cons_succ]
    refine wpAnyL_take (i := 5) (v := .slice (some ⟨rb, ro, none⟩) (r.length + 1 + 1) rc) rfl (by kernel_rfl) (by kernel_rfl) (by kernel_rfl) (by kernel_rfl) (by kernel_rfl) (fun _ _ _ h => h) (Or.inl ⟨by rfl, fun w hSw => by have c := Kept.cellOf hSw c0 (by simp); go_simp⟩) h0 ?_
    try simp only [List.getElem_toArray, List.getElem_cons_zero, List.getElem_cons_succ, Act.put, List.setIfInBounds_toArray, List.set_cons_zero, List.set_cons_succ]
    refine wpAnyL_take (i := 6) (v := .slice ao' (r.length + 1) rc') rfl (by kernel_rfl) (by kernel_rfl) (by kernel_rfl) (by kernel_rfl) (by kernel_rfl) (fun _ _ _ h => h) (Or.inl ⟨by rfl, fun w hSw => by have c := hcut1 w; go_simp⟩) h0 ?_
    try simp only [List.getElem_toArray, List.getElem_cons_zero, List.getElem_cons_succ, Act.put, List.setIfInBounds_toArray, List.set_cons_zero, List.set_cons_succ]
    refine wpAnyL_free (i := 7) (v := .int .u8 x.toNat) rfl (by kernel_rfl) (by kernel_rfl) (by kernel_rfl) (fun _ _ _ h => h) (Or.inl ⟨by rfl, fun w _ => by go_simp⟩) ?_
    try simp only [List.getElem_toArray, List.getElem_cons_zero, List.getElem_cons_succ, Act.put, List.setIfInBounds_toArray, List.set_cons_zero, List.set_cons_succ]
    refine wpAnyL_free (i := 8) (v := .int .i64 8) rfl (by kernel_rfl) (by kernel_rfl) (by kernel_rfl) (fun _ _ _ h => h) (Or.inl ⟨by rfl, fun w _ => by go_simp⟩) ?_
    try simp only [List.getElem_toArray, List.getElem_cons_zero, List.getElem_cons_succ, Act.put, List.setIfInBounds_toArray, List.set_cons_zero, List.set_cons_succ]
    refine wpAnyL_free (i := 9) (v := .pointer (some ⟨U, 0, none⟩)) rfl (by kernel_rfl) (by kernel_rfl) (by kernel_rfl) (fun _ _ _ h => h) (Or.inl ⟨by rfl, fun w _ => by go_simp⟩) ?_
    try simp only [List.getElem_toArray, List.getElem_cons_zero, List.getElem_cons_succ, Act.put, List.setIfInBounds_toArray, List.set_cons_zero, List.set_cons_succ]
    refine wpAnyL_one (i := 10) (by kernel_rfl) rfl (fun K hK => ?_)
    rw [if_pos (by rfl)]
    go_simp
    refine hK.out _ _ (fun _ h => by cases h) ?_
    clear hK K
    try simp only [List.getElem_toArray, List.getElem_cons_zero, List.getElem_cons_succ, Act.put, List.setIfInBounds_toArray, List.set_cons_zero, List.set_cons_succ]
    refine wpAnyL_done (by kernel_rfl) ?_ _
    go_wp2
    go_step3
    simp only [Exit.then]
    rename_i K hK
    refine hK _ _ ?_
    refine (HI.out (4 * (y :: r).length + 1) (by have := HM.out; simp only [List.length_cons] at this ⊢; omega) 3 _ _ ?_).run (by have := HM.out; simp only [List.length_cons] at this ⊢; omega) rfl
    exact ⟨x.toNat, 7, y, r, out, _, frU_mk _ rfl, ⟨_, _, _, _, HF.out.1, HF.out.2⟩, HUP.out.2.2, UInt8.toNat_lt x, by omega, rfl⟩


set_option maxHeartbeats 2000000 in
set_option maxRecDepth 100000 in
theorem uL3 {w : World} {U n : Nat} {R : List UInt8 × Nat} (hU : U = w.heap.size) (m : Nat) (ih : ∀ m', m' < m → ∀ l a w1, Ju w U n R m' l a w1 → OnU w U n R m' l a w1) (a : Act) (w1 : World) (hj : Ju w U n R m 3 a w1) : OnU w U n R m 3 a w1 := by
  obtain ⟨flag, k, x, r, out, v9, ⟨u, hu⟩, HW⟩ := hj
  have HU : Hid (U = w.heap.size) := hU
  have HI : Hid (∀ m', m' < m → ∀ l a w1, Ju w U n R m' l a w1 → OnU w U n R m' l a w1) := ih
  clear hU ih
  refine ⟨_, rfl, ?_⟩
  subst hu
  obtain ⟨⟨ao, rc, bo, bc, hUp, hB⟩, hRR, hfl, hk8, hm⟩ := HW.out
  have hf256 : flag < 256 := Nat.lt_of_lt_of_le hfl (Nat.pow_le_pow_right (by decide) (by omega : k + 1 ≤ 8))
  have HF : Hid (flag < 2 ^ (k + 1) ∧ k < 8 ∧ m = 4 * (x :: r).length + 1) := ⟨hfl, hk8, hm⟩
  have HUP : Hid (Up w1 U ao rc (x :: r) bo bc out n ∧ Below U w w1) := ⟨hUp, hB⟩
  have HRR : Hid (Prs.unp n (k + 1) flag (x :: r) out = R) := hRR
  clear HW hUp hB hRR hfl hk8 hm
  unfold frU
  have hand := and1 flag hf256
  rcases Nat.mod_two_eq_zero_or_one flag with hz | hz
  · rw [hz] at hand
    have HRR2 := HRR.out
    by_cases hfull : out.length = n
    · rw [Prs.unp_full _ _ _ _ _ _ hz hfull] at HRR2
      have HC : Hid (∀ W, Kept [] w1 W → Calls Try.prog 41 #[.pointer (some ⟨U, 0, none⟩)] W fun e w' => e = .returned (.int .i64 41) ∧ Kept [] W w') := fun W hk => ulit_full (HUP.out.1.kept hk) hfull
      clear hfull
      go_wp2_with (go_at_call 41; refine (HC.out _ (Kept.refl _ _)).mono ?_; rintro e w2 ⟨rfl, hk2⟩)
      go_step3
      show ∃ m', m' < m ∧ Ju w U n R m' 2 _ _
      exact ⟨0, by have := HF.out.2.2; omega, .inr ⟨_, _, 41, frU_mk _ rfl, HUP.out.2.trans (hk2.below (Nat.le_of_lt HUP.out.1.lt) (by simp)), HRR2.symm, by decide⟩⟩
    · rw [Prs.unp_lit _ _ _ _ _ _ hz hfull] at HRR2
      have HC : Hid (∀ W, Kept [] w1 W → Calls Try.prog 41 #[.pointer (some ⟨U, 0, none⟩)] W fun e w' => e = .returned (.int .i64 0) ∧ (∃ ao' rc' bo' bc', Up w' U ao' rc' r bo' bc' (out ++ [x]) n) ∧ Below U W w') := fun W hk => ulit_ok (HUP.out.1.kept hk) hfull
      clear hfull
      go_wp2_with (go_at_call 41; refine (HC.out _ (Kept.refl _ _)).mono ?_; rintro e w2 ⟨rfl, hk2, hB2⟩)
      go_step3
      show ∃ m', m' < m ∧ Ju w U n R m' 2 _ _
      obtain ⟨ao', rc', bo', bc', hU2⟩ := hk2
      exact ⟨4 * r.length + 3, by have := HF.out.2.2; simp at this; omega, .inl ⟨flag, k, r, _, frU_mk _ rfl, ⟨_, _, _, _, hU2, HUP.out.2.trans hB2⟩, HRR2, HF.out.1, HF.out.2.1, rfl⟩⟩
  · rw [hz] at hand
    have HRR2 := HRR.out
    have HE : Hid (∃ e2 : Nat, ((e2 ≠ 0 ∧ R = ([], e2)) ∨ e2 = 0) ∧ ∀ W, Kept [] w1 W → Calls Try.prog 42 #[.pointer (some ⟨U, 0, none⟩)] W fun e w' => e = .returned (.int .i64 (e2 : Nat)) ∧ Below U W w' ∧ (e2 = 0 → ∃ xs2 out2, xs2.length < (x :: r).length ∧ Prs.unp n k (flag / 2) xs2 out2 = R ∧ ∃ ao' rc' bo' bc', Up w' U ao' rc' xs2 bo' bc' out2 n)) := by
      have hlt := HUP.out.1.lt
      have up : ∀ {W : World}, Kept [] w1 W → U ≤ W.heap.size := fun hk => by have := hk.size; omega
      cases r with
      | nil =>
        rw [Prs.unp_half _ _ _ _ _ hz] at HRR2
        exact ⟨40, .inl ⟨by decide, HRR2.symm⟩, fun W hk => (umat_half (HUP.out.1.kept hk) (by simp)).mono fun e w' ⟨he, hk'⟩ => ⟨he, hk'.below (up hk) (by simp), by simp⟩⟩
      | cons y r =>
        by_cases h1 : out.length < (256 * x.toNat + y.toNat) / 64 + 1
        · rw [Prs.unp_far _ _ _ _ _ _ _ hz h1] at HRR2
          exact ⟨40, .inl ⟨by decide, HRR2.symm⟩, fun W hk => (umat_any (HUP.out.1.kept hk) _ _ rfl rfl).mono fun e w' hh => ⟨(hh.1 h1).1, (hh.1 h1).2.below (up hk) (by simp), by simp⟩⟩
        · by_cases h2 : n < out.length + (256 * x.toNat + y.toNat) % 64 + 3
          · rw [Prs.unp_long _ _ _ _ _ _ _ hz h1 h2] at HRR2
            exact ⟨41, .inl ⟨by decide, HRR2.symm⟩, fun W hk => (umat_any (HUP.out.1.kept hk) _ _ rfl rfl).mono fun e w' hh => ⟨(hh.2.1 (by omega) (by omega)).1, (hh.2.1 (by omega) (by omega)).2.below (up hk) (by simp), by simp⟩⟩
          · rw [Prs.unp_mat _ _ _ _ _ _ _ hz h1 h2] at HRR2
            exact ⟨0, .inr rfl, fun W hk => (umat_any (HUP.out.1.kept hk) _ _ rfl rfl).mono fun e w' hh => ⟨(hh.2.2 (by omega) (by omega)).1, (hh.2.2 (by omega) (by omega)).2.2, fun _ => ⟨r, _, by simp; omega, HRR2, (hh.2.2 (by omega) (by omega)).2.1⟩⟩⟩
    obtain ⟨e2, he2, hC⟩ := HE.out
    have HC := hide hC
    have HE2 := hide he2
    clear HRR2 HE he2 hC
    go_wp2_with (go_at_call 42; refine (HC.out _ (Kept.refl _ _)).mono ?_; rintro e w2 ⟨rfl, hk2⟩)
    go_step3
    simp only [Exit.then]
    rename_i K hK
    refine hK _ _ ?_
    by_cases h0 : e2 = 0
    · subst h0
      obtain ⟨xs2, out2, hl2, hu2, ao', rc', bo', bc', hU2⟩ := hk2.2 rfl
      refine (HI.out (4 * xs2.length + 3) (by have := HF.out.2.2; simp only [List.length_cons] at this hl2; omega) 2 _ _ ?_).run (by have := HF.out.2.2; simp only [List.length_cons] at this hl2; omega) rfl
      exact .inl ⟨flag, k, xs2, _, frU_mk _ rfl, ⟨_, _, _, _, hU2, HUP.out.2.trans hk2.1⟩, hu2, HF.out.1, HF.out.2.1, rfl⟩
    · refine (HI.out 0 (by have := HF.out.2.2; omega) 2 _ _ ?_).run (by omega) rfl
      exact .inr ⟨_, _, e2, frU_mk _ rfl, HUP.out.2.trans hk2.1, by rcases HE2.out with h | h; exact h.2; exact absurd h h0, h0⟩

set_option maxHeartbeats 2000000 in
set_option maxRecDepth 100000 in
theorem uL2 {w : World} {U n : Nat} {R : List UInt8 × Nat} (hU : U = w.heap.size) (m : Nat) (ih : ∀ m', m' < m → ∀ l a w1, Ju w U n R m' l a w1 → OnU w U n R m' l a w1) (a : Act) (w1 : World) (hj : Ju w U n R m 2 a w1) : OnU w U n R m 2 a w1 := by
  have HU : Hid (U = w.heap.size) := hU
  have HI : Hid (∀ m', m' < m → ∀ l a w1, Ju w U n R m' l a w1 → OnU w U n R m' l a w1) := ih
  clear hU ih
  refine ⟨_, rfl, ?_⟩
  rcases hj with ⟨flag, k, xs, out, ⟨u, hu⟩, HW⟩ | ⟨v7, v8, err, ⟨u, hu⟩, HW⟩
  · subst hu
    obtain ⟨⟨ao, rc, bo, bc, hUp, hB⟩, hRR, hfl, hk8, hm⟩ := HW.out
    have hf256 : flag < 256 := Nat.lt_of_lt_of_le hfl (Nat.pow_le_pow_right (by decide) (by omega : k + 1 ≤ 8))
    have HF : Hid (flag / 2 < 2 ^ k ∧ k < 8 ∧ m = 4 * xs.length + 3) := ⟨by rw [Nat.pow_succ] at hfl; omega, hk8, hm⟩
    have HUP : Hid (Up w1 U ao rc xs bo bc out n ∧ Below U w w1) := ⟨hUp, hB⟩
    have HRR : Hid (Prs.unp n k (flag / 2) xs out = R) := hRR
    have c0 := hUp.c0
    clear HW hUp hB hRR hfl hm
    unfold frU
    by_cases hk0 : k = 0
    · subst hk0
      go_wp2
      go_step3
      show ∃ m', m' < m ∧ Ju w U n R m' 1 _ _
      exact ⟨4 * xs.length + 2, by have := HF.out.2.2; omega, _, _, _, _, _, frU_mk _ rfl, ⟨_, _, _, _, HUP.out.1, HUP.out.2⟩, by rw [← Prs.unp_zeroFlag]; exact HRR.out, rfl⟩
    · have hkq : (((k : Int)) == 0) = false := by simp; omega
      obtain ⟨j, rfl⟩ : ∃ j, k = j + 1 := ⟨k - 1, by omega⟩
      have hdiv : ((flag : Int) / 2) = ((flag / 2 : Nat) : Int) := by omega
      rcases xs with _ | ⟨x, r⟩
      · have hg := Prs.unp_gaps n out (j + 1) (flag / 2) HF.out.1
        have hr := HRR.out
        rw [hg] at hr
        by_cases hf0 : flag / 2 = 0
        · rw [if_pos hf0] at hr
          have HR2 := hide hr
          have hq5 : ((flag : Int) / 2 != 0) = false := by rw [hdiv, hf0]; rfl
          clear hg hr hf0 hdiv
          go_wp2
          go_step3
          simp only [Exit.then]
          rename_i K hK
          refine hK _ _ ?_
          refine (HI.out 0 (by have := HF.out.2.2; omega) 0 _ _ ?_).run (by omega) rfl
          exact ⟨_, _, _, _, _, frU_mk _ rfl, ⟨_, _, _, _, HUP.out.1, HUP.out.2⟩, HR2.out⟩
        · rw [if_neg hf0] at hr
          have HR2 := hide hr
          have hq5 : ((flag : Int) / 2 != 0) = true := by rw [hdiv]; simp; omega
          clear hg hr hf0 hdiv
          go_wp2
          rw [jumps_ret]
          go_ret2
          have := HR2.out
          subst this
          exact ⟨none, 0, rfl, World.ownsRow_nil _ _ _ _, by have := HU.out; subst this; exact HUP.out.2⟩
      · simp only [List.length_cons] at c0
        have hq6 : (0 : Int) < (r.length : Int) + 1 := by omega
        clear hdiv
        go_wp2
        go_step3
        show ∃ m', m' < m ∧ Ju w U n R m' 3 _ _
        exact ⟨4 * (x :: r).length + 1, by have := HF.out.2.2; omega, flag / 2, j, x, r, out, .int .i64 0, frU_mk _ (by simp [frU]), ⟨_, _, _, _, HUP.out.1, HUP.out.2⟩, HRR.out, HF.out.1, by omega, rfl⟩
  · subst hu
    have hne : (((err : Nat) : Int) == 0) = false := by have := HW.out.2.2; simp; omega
    unfold frU
    go_wp2
    go_ret2
    obtain ⟨h1, h2, h3⟩ := HW.out
    subst h2
    exact ⟨none, 0, rfl, World.ownsRow_nil _ _ _ _, by have := HU.out; subst this; exact h1⟩

set_option maxHeartbeats 2000000 in
set_option maxRecDepth 100000 in
theorem unpack_in (pa : Option Addr) (pn pc n : Nat) (xs : List UInt8) (w : World) (hn : n ≤ 4096) (hxs : xs.length = pn) (hcap : pn ≤ pc) (hs : Sl w pa xs) :
    Calls Try.prog 38 #[.slice pa pn pc, .int .i64 n] w (Ans w (Prs.unp n 0 0 xs [])) := by
  subst hxs
  have hq1 : ¬ ((n : Int) < 0) := by omega
  have hq2 : ¬ ((4096 : Int) < (n : Int)) := by omega
  have HIN : Hid (n ≤ 4096 ∧ xs.length ≤ pc ∧ Sl w pa xs) := ⟨hn, hcap, hs⟩
  obtain ⟨R, hR⟩ : ∃ R, Prs.unp n 0 0 xs [] = R := ⟨_, rfl⟩
  have HR : Hid (Prs.unp n 0 0 xs [] = R) := hR
  rw [hR]
  clear hn hcap hs hR
  go_enter Try.func38, Try.ntmps38
  go_wp2
  refine wp_scope_tails (c := bodyU) (Ju w w.heap.size n R) ?_ ?_
  · intro m ih l a w1 hj
    match l, hj with
    | 0, hj => exact uL0 rfl m a w1 hj
    | 1, hj => exact uL1 rfl m ih a w1 hj
    | 2, hj => exact uL2 rfl m ih a w1 hj
    | 3, hj => exact uL3 rfl m ih a w1 hj
  · intro all
    have HA := hide all
    clear all
    unfold bodyU Try.f38
    go_wp2
    go_step3
    simp only [Exit.then]
    rename_i K hK
    refine hK _ _ ?_
    refine (HA.out (4 * xs.length + 2) 1 _ _ ?_).runFirst rfl
    obtain ⟨h1, h2, h3⟩ := HIN.out
    exact ⟨_, _, _, xs, [], frU_mk _ rfl, ⟨pa, pc, none, 0, ⟨(MapKept.heap_alloc _ _).1, h3.kept ((Kept.refl [] w).alloc _) (by simp), h2, (fun hne a ha => by obtain ⟨b, off, e, hb, _⟩ := h3.open hne; rw [e] at ha; cases ha; exact ⟨hb, rfl⟩), World.ownsRow_nil _ _ _ _, by simp, h1⟩, ((Kept.refl [] w).alloc _).below (Nat.le_refl _) (by simp)⟩, HR.out, rfl⟩

set_option maxHeartbeats 2000000 in
set_option maxRecDepth 100000 in
theorem unpack_bad (pa : Option Addr) (pn pc : Nat) (n : Int) (w : World) (hn : n < 0 ∨ 4096 < n) :
    Calls Try.prog 38 #[.slice pa pn pc, .int .i64 n] w (Ans w ([], 1)) := by
  go_enter Try.func38, Try.ntmps38
  go_wp2
  refine wp_scope_tails (c := bodyU) (fun _ _ _ _ => False) (fun n ih l a w h => h.elim) (fun all => ?_)
  clear all
  unfold bodyU Try.f38
  by_cases h0 : n < 0
  · clear hn
    go_wp2
    go_ret2
    exact ⟨none, 0, rfl, World.ownsRow_nil _ _ _ _, Below.refl _ _⟩
  · have h1 : 4096 < n := by omega
    clear hn
    go_wp2
    go_ret2
    exact ⟨none, 0, rfl, World.ownsRow_nil _ _ _ _, Below.refl _ _⟩

/-- Unpack, of whatever bytes and number. -/
theorem unpack_any (pa : Option Addr) (pn pc : Nat) (n : Int) (xs : List UInt8) (w : World) (hxs : xs.length = pn) (hcap : pn ≤ pc) (hs : Sl w pa xs) :
    Calls Try.prog 38 #[.slice pa pn pc, .int .i64 n] w (Ans w (Prs.unpack xs n)) := by
  unfold Prs.unpack
  by_cases h : n < 0 ∨ 4096 < n
  · rw [if_pos h]
    exact unpack_bad pa pn pc n w h
  · rw [if_neg h]
    obtain ⟨k, rfl⟩ : ∃ k : Nat, n = k := ⟨n.toNat, by omega⟩
    exact unpack_in pa pn pc k xs w (by omega) hxs hcap hs

end Go.Proofs.Ytdnbpklnkmgmkaa
