/-
  Contract: the statements' own fit.
-/
import Derived.Test.YtjmameknbnflaabLw
import Derived.Test.YtjmameknbnflaabPure5
namespace Go.Proofs.Ytjmameknbnflaab
open Go.RowKit
set_option linter.unusedVariables false
set_option linter.unusedSimpArgs false

/-- May the call be written, and read again with what it has? -/
def Fit (kd vv wd : Int) : Prop := (kd = 1 ∧ 0 ≤ vv ∧ vv ≤ 2147483647) ∨ (kd = 2 ∧ 1 ≤ wd ∧ wd ≤ 4 ∧ 0 ≤ vv ∧ vv < 256 ^ wd.toNat) ∨ kd = 3 ∨ kd = 4
instance (kd vv wd : Int) : Decidable (Fit kd vv wd) := by unfold Fit; infer_instance

set_option maxHeartbeats 1500000 in
set_option maxRecDepth 100000 in
theorem fit_two (vv wd : Int) (da : Option Addr) (dn dc : Nat) (w : World) (h1 : 1 ≤ wd) (h4 : wd ≤ 4) (hv : 0 ≤ vv) :
    Calls Try.prog 8 #[.agg #[.int .i64 2, .int .i64 vv, .int .i64 wd, .slice da dn dc]] w fun e w' => e = .returned (.bool (decide (vv < 256 ^ wd.toNat))) ∧ Kept [] w w' := by
  have d1 : decide (1 ≤ wd) = true := by simpa using h1
  have d2 : decide (wd ≤ 4) = true := by simpa using h4
  have d3 : decide (0 ≤ vv) = true := by simpa using hv
  obtain rfl | rfl | rfl | rfl : wd = 1 ∨ wd = 2 ∨ wd = 3 ∨ wd = 4 := by omega
  · go_enter Try.func8, Try.ntmps8
    go_wp2
    go_ret
    refine ⟨?_, (Kept.refl [] w).alloc _⟩
    have e : (256 : Int) ^ Int.toNat 1 = 256 := by decide
    rw [e]
    by_cases h : vv < 256
    · have e2 : vv / 256 = 0 := by omega
      rw [decide_eq_true h, e2]; rfl
    · have e2 : ¬ vv / 256 = 0 := by omega
      rw [decide_eq_false h]
      simp [e2]
  · go_enter Try.func8, Try.ntmps8
    go_wp2
    go_ret
    refine ⟨?_, (Kept.refl [] w).alloc _⟩
    have e : (256 : Int) ^ Int.toNat 2 = 65536 := by decide
    rw [e]
    by_cases h : vv < 65536
    · have e2 : vv / 65536 = 0 := by omega
      rw [decide_eq_true h, e2]; rfl
    · have e2 : ¬ vv / 65536 = 0 := by omega
      rw [decide_eq_false h]
      simp [e2]
  · go_enter Try.func8, Try.ntmps8
    go_wp2
    go_ret
    refine ⟨?_, (Kept.refl [] w).alloc _⟩
    have e : (256 : Int) ^ Int.toNat 3 = 16777216 := by decide
    rw [e]
    by_cases h : vv < 16777216
    · have e2 : vv / 16777216 = 0 := by omega
      rw [decide_eq_true h, e2]; rfl
    · have e2 : ¬ vv / 16777216 = 0 := by omega
      rw [decide_eq_false h]
      simp [e2]
  · go_enter Try.func8, Try.ntmps8
    go_wp2
    go_ret
    refine ⟨?_, (Kept.refl [] w).alloc _⟩
    have e : (256 : Int) ^ Int.toNat 4 = 4294967296 := by decide
    rw [e]
    by_cases h : vv < 4294967296
    · have e2 : vv / 4294967296 = 0 := by omega
      rw [decide_eq_true h, e2]; rfl
    · have e2 : ¬ vv / 4294967296 = 0 := by omega
      rw [decide_eq_false h]
      simp [e2]

set_option maxHeartbeats 1500000 in
set_option maxRecDepth 100000 in
theorem fit_two1 (vv wd : Int) (da : Option Addr) (dn dc : Nat) (w : World) (h1 : wd < 1) :
    Calls Try.prog 8 #[.agg #[.int .i64 2, .int .i64 vv, .int .i64 wd, .slice da dn dc]] w fun e w' => e = .returned (.bool false) ∧ Kept [] w w' := by
  have d1 : decide (1 ≤ wd) = false := by simp; omega
  go_enter Try.func8, Try.ntmps8
  go_wp2
  go_ret
  exact ⟨rfl, (Kept.refl [] w).alloc _⟩

set_option maxHeartbeats 1500000 in
set_option maxRecDepth 100000 in
theorem fit_two2 (vv wd : Int) (da : Option Addr) (dn dc : Nat) (w : World) (h1 : 4 < wd) :
    Calls Try.prog 8 #[.agg #[.int .i64 2, .int .i64 vv, .int .i64 wd, .slice da dn dc]] w fun e w' => e = .returned (.bool false) ∧ Kept [] w w' := by
  have d0 : decide (1 ≤ wd) = true := by simp; omega
  have d1 : decide (wd ≤ 4) = false := by simp; omega
  go_enter Try.func8, Try.ntmps8
  go_wp2
  go_ret
  exact ⟨rfl, (Kept.refl [] w).alloc _⟩

set_option maxHeartbeats 1500000 in
set_option maxRecDepth 100000 in
theorem fit_two3 (vv wd : Int) (da : Option Addr) (dn dc : Nat) (w : World) (h1 : 1 ≤ wd) (h4 : wd ≤ 4) (hv : vv < 0) :
    Calls Try.prog 8 #[.agg #[.int .i64 2, .int .i64 vv, .int .i64 wd, .slice da dn dc]] w fun e w' => e = .returned (.bool false) ∧ Kept [] w w' := by
  have d0 : decide (1 ≤ wd) = true := by simp; omega
  have d1 : decide (wd ≤ 4) = true := by simp; omega
  have d2 : decide (0 ≤ vv) = false := by simp; omega
  go_enter Try.func8, Try.ntmps8
  go_wp2
  go_ret
  exact ⟨rfl, (Kept.refl [] w).alloc _⟩

set_option maxHeartbeats 1500000 in
set_option maxRecDepth 100000 in
theorem fit_one1 (vv wd : Int) (da : Option Addr) (dn dc : Nat) (w : World) (hv : vv < 0) :
    Calls Try.prog 8 #[.agg #[.int .i64 1, .int .i64 vv, .int .i64 wd, .slice da dn dc]] w fun e w' => e = .returned (.bool false) ∧ Kept [] w w' := by
  have d2 : decide (0 ≤ vv) = false := by simp; omega
  go_enter Try.func8, Try.ntmps8
  go_wp2
  go_ret
  exact ⟨rfl, (Kept.refl [] w).alloc _⟩

set_option maxHeartbeats 1500000 in
set_option maxRecDepth 100000 in
theorem fit_one2 (vv wd : Int) (da : Option Addr) (dn dc : Nat) (w : World) (hv : 2147483647 < vv) :
    Calls Try.prog 8 #[.agg #[.int .i64 1, .int .i64 vv, .int .i64 wd, .slice da dn dc]] w fun e w' => e = .returned (.bool false) ∧ Kept [] w w' := by
  have d1 : decide (0 ≤ vv) = true := by simp; omega
  have d2 : decide (vv ≤ 2147483647) = false := by simp; omega
  go_enter Try.func8, Try.ntmps8
  go_wp2
  go_ret
  exact ⟨rfl, (Kept.refl [] w).alloc _⟩

set_option maxHeartbeats 1500000 in
set_option maxRecDepth 100000 in
theorem fit_one (vv wd : Int) (da : Option Addr) (dn dc : Nat) (w : World) (h0 : 0 ≤ vv) (hv : vv ≤ 2147483647) :
    Calls Try.prog 8 #[.agg #[.int .i64 1, .int .i64 vv, .int .i64 wd, .slice da dn dc]] w fun e w' => e = .returned (.bool true) ∧ Kept [] w w' := by
  have d1 : decide (0 ≤ vv) = true := by simp; omega
  have d2 : decide (vv ≤ 2147483647) = true := by simp; omega
  go_enter Try.func8, Try.ntmps8
  go_wp2
  go_ret
  exact ⟨rfl, (Kept.refl [] w).alloc _⟩

set_option maxHeartbeats 1500000 in
set_option maxRecDepth 100000 in
theorem fit_three (vv wd : Int) (da : Option Addr) (dn dc : Nat) (w : World)  :
    Calls Try.prog 8 #[.agg #[.int .i64 3, .int .i64 vv, .int .i64 wd, .slice da dn dc]] w fun e w' => e = .returned (.bool true) ∧ Kept [] w w' := by
  go_enter Try.func8, Try.ntmps8
  go_wp2
  go_ret
  exact ⟨rfl, (Kept.refl [] w).alloc _⟩

set_option maxHeartbeats 1500000 in
set_option maxRecDepth 100000 in
theorem fit_four (vv wd : Int) (da : Option Addr) (dn dc : Nat) (w : World)  :
    Calls Try.prog 8 #[.agg #[.int .i64 4, .int .i64 vv, .int .i64 wd, .slice da dn dc]] w fun e w' => e = .returned (.bool true) ∧ Kept [] w w' := by
  go_enter Try.func8, Try.ntmps8
  go_wp2
  go_ret
  exact ⟨rfl, (Kept.refl [] w).alloc _⟩

set_option maxHeartbeats 1500000 in
set_option maxRecDepth 100000 in
theorem fit_other (kd vv wd : Int) (da : Option Addr) (dn dc : Nat) (w : World) (b1 : (kd == 1) = false) (b2 : (kd == 2) = false) (b3 : (kd == 3) = false) (b4 : (kd == 4) = false) :
    Calls Try.prog 8 #[.agg #[.int .i64 kd, .int .i64 vv, .int .i64 wd, .slice da dn dc]] w fun e w' => e = .returned (.bool false) ∧ Kept [] w w' := by
  go_enter Try.func8, Try.ntmps8
  go_wp2
  go_ret
  exact ⟨rfl, (Kept.refl [] w).alloc _⟩

theorem fit_any (kd vv wd : Int) (da : Option Addr) (dn dc : Nat) (w : World) :
    Calls Try.prog 8 #[.agg #[.int .i64 kd, .int .i64 vv, .int .i64 wd, .slice da dn dc]] w fun e w' => e = .returned (.bool (decide (Fit kd vv wd))) ∧ Kept [] w w' := by
  have conv : ∀ {c : Bool} {P : Prop} [Decidable P], (c = true ↔ P) → Calls Try.prog 8 #[.agg #[.int .i64 kd, .int .i64 vv, .int .i64 wd, .slice da dn dc]] w (fun e w' => e = .returned (.bool c) ∧ Kept [] w w') → Calls Try.prog 8 #[.agg #[.int .i64 kd, .int .i64 vv, .int .i64 wd, .slice da dn dc]] w (fun e w' => e = .returned (.bool (decide P)) ∧ Kept [] w w') := fun hc h => h.mono fun e w' ⟨he, hk⟩ => ⟨by rw [he]; congr 2; rw [Bool.eq_iff_iff, hc]; simp, hk⟩
  by_cases k1 : kd = 1
  · subst k1
    by_cases c1 : vv < 0
    · exact conv (by simp [Fit]; omega) (fit_one1 vv wd da dn dc w c1)
    by_cases c2 : 2147483647 < vv
    · exact conv (by simp [Fit]; omega) (fit_one2 vv wd da dn dc w c2)
    exact conv (by simp [Fit]; omega) (fit_one vv wd da dn dc w (by omega) (by omega))
  by_cases k2 : kd = 2
  · subst k2
    by_cases c1 : wd < 1
    · exact conv (by simp [Fit]; omega) (fit_two1 vv wd da dn dc w c1)
    by_cases c2 : 4 < wd
    · exact conv (by simp [Fit]; omega) (fit_two2 vv wd da dn dc w c2)
    by_cases c3 : vv < 0
    · exact conv (by simp [Fit]; omega) (fit_two3 vv wd da dn dc w (by omega) (by omega) c3)
    exact conv (by simp [Fit]; omega) (fit_two vv wd da dn dc w (by omega) (by omega) (by omega))
  by_cases k3 : kd = 3
  · subst k3
    exact conv (by simp [Fit]) (fit_three vv wd da dn dc w)
  by_cases k4 : kd = 4
  · subst k4
    exact conv (by simp [Fit]) (fit_four vv wd da dn dc w)
  exact conv (by simp [Fit, k1, k2, k3, k4]) (fit_other kd vv wd da dn dc w (by simpa using k1) (by simpa using k2) (by simpa using k3) (by simpa using k4))

end Go.Proofs.Ytjmameknbnflaab
