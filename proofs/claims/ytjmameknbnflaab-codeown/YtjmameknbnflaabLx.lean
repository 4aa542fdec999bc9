/-
  Contracts: the statements' own read, told exactly, and again.
-/
import Derived.Test.YtjmameknbnflaabLr
namespace Go.Proofs.Ytjmameknbnflaab
open Go.RowKit
set_option linter.unusedVariables false
set_option linter.unusedSimpArgs false

/-- Where a reader stands behind a call that is no Raw and no Text. -/
def stStep (xs : List UInt8) (s : Rs) (kd wd : Int) : Rs := if kd = 1 then (stNumber xs s).2 else if kd = 2 then (stFixed xs s wd).2 else s

set_option maxHeartbeats 1500000 in
set_option maxRecDepth 100000 in
theorem lreadx_number {w : World} {b x : Nat} {ao a2 : Option Addr} {cap c2 : Nat} {xs : List UInt8} {s : Rs} (h : Two w b x ao a2 cap c2 xs s) (kd vv wd : Int) (da : Option Addr) (dn dc : Nat) (b1 : (kd == 1) = true) :
    Calls Try.prog 29 #[.pointer (some ⟨b, 0, none⟩), .pointer (some ⟨x, 0, none⟩), .agg #[.int .i64 kd, .int .i64 vv, .int .i64 wd, .slice da dn dc]] w fun e w' => e = .returned (.bool true) ∧ Kept [b, x] w w' ∧ Two w' b x ao a2 cap c2 xs (stStep xs s kd wd) := by
  have HA : Hid (Two (w.alloc (.cells #[.int .i64 kd, .int .i64 vv, .int .i64 wd, .slice da dn dc] 34)) b x ao a2 cap c2 xs s) := h.kept ((Kept.refl [] w).alloc _) (by simp) (by simp) (by simp) (by simp)
  have HKA : Hid (Kept [] w (w.alloc (.cells #[.int .i64 kd, .int .i64 vv, .int .i64 wd, .slice da dn dc] 34))) := (Kept.refl [] w).alloc _
  obtain ⟨cb, hcb⟩ : ∃ cb, cb = w.heap.size := ⟨_, rfl⟩
  have hcx : cb ≠ x := by have := h.rf.lt; omega
  have hcbb : cb ≠ b := by have := h.rd.lt; omega
  have c11 : (w.alloc (.cells #[.int .i64 kd, .int .i64 vv, .int .i64 wd, .slice da dn dc] 34)).cell? ⟨cb, 1, none⟩ = some (.int .i64 vv) := by rw [hcb]; simp
  have c12 : (w.alloc (.cells #[.int .i64 kd, .int .i64 vv, .int .i64 wd, .slice da dn dc] 34)).cell? ⟨cb, 2, none⟩ = some (.int .i64 wd) := by rw [hcb]; simp
  clear h
  go_enter Try.func29, Try.ntmps29
  go_wp2_with (fail)
  try rw [← hcb]
  generalize w.alloc _ = wa at HA HKA c11 c12 ⊢
  clear hcb

  refine (takenum_st HA.out.rf).mono ?_
  rintro e w1 ⟨rfl, hk1, hf1⟩
  have d11 : w1.cell? ⟨cb, 1, none⟩ = some (.int .i64 vv) := hk1.cellOf c11 (by simpa using hcx)
  have d12 : w1.cell? ⟨cb, 2, none⟩ = some (.int .i64 wd) := hk1.cellOf c12 (by simpa using hcx)
  go_wp2_with (fail)
  refine (rnumber_st (HA.out.rd1 hk1)).mono ?_
  rintro e w2 ⟨rfl, hk2, hr2⟩
  have HT : Hid (Two w2 b x ao a2 cap c2 xs (stNumber xs s).2) := HA.out.next hf1 hk2 hr2
  have HK : Hid (Kept [b, x] w w2) := kept_two HKA.out hk1 hk2
  clear hk1 hf1 hk2 hr2 HA HKA c11 c12 d11 d12
  generalize (stNumber xs s).1 = v
  obtain ⟨s2, hs2⟩ : ∃ s2, s2 = (stNumber xs s).2 := ⟨_, rfl⟩
  have HS2 : Hid (s2 = stStep xs s kd wd) := by show s2 = _; rw [hs2]; unfold stStep; rw [if_pos (by simpa using b1)]
  rw [← hs2] at HT
  clear hs2
  go_wp2_with (fail)
  refine (err_st HT.out.rd).mono ?_
  rintro e w' ⟨rfl, n3, rfl⟩
  have HT3 : Hid (Two (w2.drewN n3) b x ao a2 cap c2 xs s2) := HT.out.kept ((Kept.refl [] w2).drewN n3) (by simp) (by simp) (by simp) (by simp)
  have HK3 : Hid (Kept [b, x] w (w2.drewN n3)) := HK.out.drewN n3
  have x2 := HT3.out.rf.c2
  have x3 := HT3.out.rf.c3
  clear HT HK
  generalize w2.drewN n3 = w3 at HT3 HK3 x2 x3 ⊢
  go_wp2
  go_quiet (first | (go_at_call 14; exact Calls.quiet_of (left_st (HT3.out.rd.drewN _))) | (go_at_call 54; exact Calls.quiet_of (refleft_st (HT3.out.rf.drewN _))) | (go_at_call 39; exact Calls.quiet_of_same (num_any _ _)))
  go_wp2
  go_ret
  exact ⟨rfl, HK3.out.drewN _, HS2.out ▸ HT3.out.kept ((Kept.refl [] w3).drewN _) (by simp) (by simp) (by simp) (by simp)⟩

set_option maxHeartbeats 1500000 in
set_option maxRecDepth 100000 in
theorem lreadx_fixed {w : World} {b x : Nat} {ao a2 : Option Addr} {cap c2 : Nat} {xs : List UInt8} {s : Rs} (h : Two w b x ao a2 cap c2 xs s) (kd vv wd : Int) (da : Option Addr) (dn dc : Nat) (b1 : (kd == 1) = false) (b2 : (kd == 2) = true) :
    Calls Try.prog 29 #[.pointer (some ⟨b, 0, none⟩), .pointer (some ⟨x, 0, none⟩), .agg #[.int .i64 kd, .int .i64 vv, .int .i64 wd, .slice da dn dc]] w fun e w' => e = .returned (.bool true) ∧ Kept [b, x] w w' ∧ Two w' b x ao a2 cap c2 xs (stStep xs s kd wd) := by
  have HA : Hid (Two (w.alloc (.cells #[.int .i64 kd, .int .i64 vv, .int .i64 wd, .slice da dn dc] 34)) b x ao a2 cap c2 xs s) := h.kept ((Kept.refl [] w).alloc _) (by simp) (by simp) (by simp) (by simp)
  have HKA : Hid (Kept [] w (w.alloc (.cells #[.int .i64 kd, .int .i64 vv, .int .i64 wd, .slice da dn dc] 34))) := (Kept.refl [] w).alloc _
  obtain ⟨cb, hcb⟩ : ∃ cb, cb = w.heap.size := ⟨_, rfl⟩
  have hcx : cb ≠ x := by have := h.rf.lt; omega
  have hcbb : cb ≠ b := by have := h.rd.lt; omega
  have c11 : (w.alloc (.cells #[.int .i64 kd, .int .i64 vv, .int .i64 wd, .slice da dn dc] 34)).cell? ⟨cb, 1, none⟩ = some (.int .i64 vv) := by rw [hcb]; simp
  have c12 : (w.alloc (.cells #[.int .i64 kd, .int .i64 vv, .int .i64 wd, .slice da dn dc] 34)).cell? ⟨cb, 2, none⟩ = some (.int .i64 wd) := by rw [hcb]; simp
  clear h
  go_enter Try.func29, Try.ntmps29
  go_wp2_with (fail)
  try rw [← hcb]
  generalize w.alloc _ = wa at HA HKA c11 c12 ⊢
  clear hcb

  refine (takefix_st HA.out.rf wd).mono ?_
  rintro e w1 ⟨rfl, hk1, hf1⟩
  have d11 : w1.cell? ⟨cb, 1, none⟩ = some (.int .i64 vv) := hk1.cellOf c11 (by simpa using hcx)
  have d12 : w1.cell? ⟨cb, 2, none⟩ = some (.int .i64 wd) := hk1.cellOf c12 (by simpa using hcx)
  go_wp2_with (fail)
  refine (rfixed_st (HA.out.rd1 hk1) wd).mono ?_
  rintro e w2 ⟨rfl, hk2, hr2⟩
  have HT : Hid (Two w2 b x ao a2 cap c2 xs (stFixed xs s wd).2) := HA.out.next hf1 hk2 hr2
  have HK : Hid (Kept [b, x] w w2) := kept_two HKA.out hk1 hk2
  clear hk1 hf1 hk2 hr2 HA HKA c11 c12 d11 d12
  generalize (stFixed xs s wd).1 = v
  obtain ⟨s2, hs2⟩ : ∃ s2, s2 = (stFixed xs s wd).2 := ⟨_, rfl⟩
  have HS2 : Hid (s2 = stStep xs s kd wd) := by show s2 = _; rw [hs2]; unfold stStep; rw [if_neg (by simpa using b1), if_pos (by simpa using b2)]
  rw [← hs2] at HT
  clear hs2
  go_wp2_with (fail)
  refine (err_st HT.out.rd).mono ?_
  rintro e w' ⟨rfl, n3, rfl⟩
  have HT3 : Hid (Two (w2.drewN n3) b x ao a2 cap c2 xs s2) := HT.out.kept ((Kept.refl [] w2).drewN n3) (by simp) (by simp) (by simp) (by simp)
  have HK3 : Hid (Kept [b, x] w (w2.drewN n3)) := HK.out.drewN n3
  have x2 := HT3.out.rf.c2
  have x3 := HT3.out.rf.c3
  clear HT HK
  generalize w2.drewN n3 = w3 at HT3 HK3 x2 x3 ⊢
  go_wp2
  go_quiet (first | (go_at_call 14; exact Calls.quiet_of (left_st (HT3.out.rd.drewN _))) | (go_at_call 54; exact Calls.quiet_of (refleft_st (HT3.out.rf.drewN _))) | (go_at_call 39; exact Calls.quiet_of_same (num_any _ _)))
  go_wp2
  go_ret
  exact ⟨rfl, HK3.out.drewN _, HS2.out ▸ HT3.out.kept ((Kept.refl [] w3).drewN _) (by simp) (by simp) (by simp) (by simp)⟩

set_option maxHeartbeats 1500000 in
set_option maxRecDepth 100000 in
theorem lreadx_other {w : World} {b x : Nat} {ao a2 : Option Addr} {cap c2 : Nat} {xs : List UInt8} {s : Rs} (h : Two w b x ao a2 cap c2 xs s) (kd vv wd : Int) (da : Option Addr) (dn dc : Nat) (b1 : (kd == 1) = false) (b2 : (kd == 2) = false) (b3 : (kd == 3) = false) (b4 : (kd == 4) = false) :
    Calls Try.prog 29 #[.pointer (some ⟨b, 0, none⟩), .pointer (some ⟨x, 0, none⟩), .agg #[.int .i64 kd, .int .i64 vv, .int .i64 wd, .slice da dn dc]] w fun e w' => e = .returned (.bool true) ∧ Kept [b, x] w w' ∧ Two w' b x ao a2 cap c2 xs (stStep xs s kd wd) := by
  have HA : Hid (Two (w.alloc (.cells #[.int .i64 kd, .int .i64 vv, .int .i64 wd, .slice da dn dc] 34)) b x ao a2 cap c2 xs s) := h.kept ((Kept.refl [] w).alloc _) (by simp) (by simp) (by simp) (by simp)
  have HKA : Hid (Kept [] w (w.alloc (.cells #[.int .i64 kd, .int .i64 vv, .int .i64 wd, .slice da dn dc] 34))) := (Kept.refl [] w).alloc _
  obtain ⟨cb, hcb⟩ : ∃ cb, cb = w.heap.size := ⟨_, rfl⟩
  have hcx : cb ≠ x := by have := h.rf.lt; omega
  have hcbb : cb ≠ b := by have := h.rd.lt; omega
  have c11 : (w.alloc (.cells #[.int .i64 kd, .int .i64 vv, .int .i64 wd, .slice da dn dc] 34)).cell? ⟨cb, 1, none⟩ = some (.int .i64 vv) := by rw [hcb]; simp
  have c12 : (w.alloc (.cells #[.int .i64 kd, .int .i64 vv, .int .i64 wd, .slice da dn dc] 34)).cell? ⟨cb, 2, none⟩ = some (.int .i64 wd) := by rw [hcb]; simp
  clear h
  go_enter Try.func29, Try.ntmps29
  go_wp2_with (fail)
  try rw [← hcb]
  generalize w.alloc _ = wa at HA HKA c11 c12 ⊢
  clear hcb

  obtain ⟨w2, rfl⟩ : ∃ w2, w2 = wa := ⟨_, rfl⟩
  obtain ⟨s2, hs2⟩ : ∃ s2, s2 = s := ⟨_, rfl⟩
  have HS2 : Hid (s2 = stStep xs s kd wd) := by show s2 = _; rw [hs2]; unfold stStep; rw [if_neg (by simpa using b1), if_neg (by simpa using b2)]
  rw [← hs2] at HA
  clear hs2
  have HT := HA
  have HK : Hid (Kept [b, x] w w2) := HKA.out.mono (by simp)
  clear HA HKA c11 c12
  refine (err_st HT.out.rd).mono ?_
  rintro e w' ⟨rfl, n3, rfl⟩
  have HT3 : Hid (Two (w2.drewN n3) b x ao a2 cap c2 xs s2) := HT.out.kept ((Kept.refl [] w2).drewN n3) (by simp) (by simp) (by simp) (by simp)
  have HK3 : Hid (Kept [b, x] w (w2.drewN n3)) := HK.out.drewN n3
  have x2 := HT3.out.rf.c2
  have x3 := HT3.out.rf.c3
  clear HT HK
  generalize w2.drewN n3 = w3 at HT3 HK3 x2 x3 ⊢
  go_wp2
  go_quiet (first | (go_at_call 14; exact Calls.quiet_of (left_st (HT3.out.rd.drewN _))) | (go_at_call 54; exact Calls.quiet_of (refleft_st (HT3.out.rf.drewN _))) | (go_at_call 39; exact Calls.quiet_of_same (num_any _ _)))
  go_wp2
  go_ret
  exact ⟨rfl, HK3.out.drewN _, HS2.out ▸ HT3.out.kept ((Kept.refl [] w3).drewN _) (by simp) (by simp) (by simp) (by simp)⟩

/-- read, told exactly. -/
theorem lreadx_any {w : World} {b x : Nat} {ao a2 : Option Addr} {cap c2 : Nat} {xs : List UInt8} {s : Rs} (h : Two w b x ao a2 cap c2 xs s) (kd vv wd : Int) (da : Option Addr) (dn dc : Nat) (k3 : kd ≠ 3) (k4 : kd ≠ 4) :
    Calls Try.prog 29 #[.pointer (some ⟨b, 0, none⟩), .pointer (some ⟨x, 0, none⟩), .agg #[.int .i64 kd, .int .i64 vv, .int .i64 wd, .slice da dn dc]] w fun e w' => e = .returned (.bool true) ∧ Kept [b, x] w w' ∧ Two w' b x ao a2 cap c2 xs (stStep xs s kd wd) := by
  by_cases k1 : kd = 1
  · exact lreadx_number h kd vv wd da dn dc (by simpa using k1)
  by_cases k2 : kd = 2
  · exact lreadx_fixed h kd vv wd da dn dc (by simpa using k1) (by simpa using k2)
  exact lreadx_other h kd vv wd da dn dc (by simpa using k1) (by simpa using k2) (by simpa using k3) (by simpa using k4)

set_option maxHeartbeats 1500000 in
set_option maxRecDepth 100000 in
theorem again_any {w : World} {b : Nat} {ao : Option Addr} {cap : Nat} {xs : List UInt8} {s : Rs} (h : RdS w b ao cap xs s) (kd vv wd : Int) (da : Option Addr) (dn dc : Nat) :
    Calls Try.prog 30 #[.pointer (some ⟨b, 0, none⟩), .agg #[.int .i64 kd, .int .i64 vv, .int .i64 wd, .slice da dn dc]] w fun e w' => e = .returned (.tuple #[]) ∧ Kept [b] w w' ∧ RdS w' b ao cap xs (stStep xs s kd wd) := by
  have HKA : Hid (Kept [b] w (w.alloc (.cells #[.int .i64 kd, .int .i64 vv, .int .i64 wd, .slice da dn dc] 34))) := (Kept.refl [b] w).alloc _
  have HA : Hid (RdS (w.alloc (.cells #[.int .i64 kd, .int .i64 vv, .int .i64 wd, .slice da dn dc] 34)) b ao cap xs s) := h.kept ((Kept.refl [] w).alloc _) (by simp) (by simp)
  obtain ⟨cb, hcb⟩ : ∃ cb, cb = w.heap.size := ⟨_, rfl⟩
  have HCB : Hid (cb ≠ b) := by have := h.lt; show cb ≠ b; omega
  have c10 : (w.alloc (.cells #[.int .i64 kd, .int .i64 vv, .int .i64 wd, .slice da dn dc] 34)).cell? ⟨cb, 0, none⟩ = some (.int .i64 kd) := by rw [hcb]; simp
  have c12 : (w.alloc (.cells #[.int .i64 kd, .int .i64 vv, .int .i64 wd, .slice da dn dc] 34)).cell? ⟨cb, 2, none⟩ = some (.int .i64 wd) := by rw [hcb]; simp
  clear h
  by_cases k1 : kd = 1
  · subst k1
    have HST : Hid (stStep xs s 1 wd = (stNumber xs s).2) := rfl
    go_enter Try.func30, Try.ntmps30
    go_wp2_with (fail)
    try rw [← hcb]
    generalize w.alloc _ = wa at HA HKA c10 c12 ⊢
    clear hcb
    refine (rnumber_st HA.out).mono ?_
    rintro e w1 ⟨rfl, hk1, hr1⟩
    have HE : Hid (Kept [b] w w1 ∧ RdS w1 b ao cap xs (stStep xs s 1 wd)) := ⟨HKA.out.trans hk1 (by simp), HST.out ▸ hr1⟩
    have d10 := hk1.cellOf c10 (by simpa using HCB.out)
    clear hk1 hr1 c10 c12 HA HKA
    generalize (stNumber xs s).1 = v
    go_wp2
    go_end0
    exact ⟨rfl, HE.out.1, HE.out.2⟩
  by_cases k2 : kd = 2
  · subst k2
    have HST : Hid (stStep xs s 2 wd = (stFixed xs s wd).2) := rfl
    go_enter Try.func30, Try.ntmps30
    go_wp2_with (fail)
    try rw [← hcb]
    generalize w.alloc _ = wa at HA HKA c10 c12 ⊢
    clear hcb
    refine (rfixed_st HA.out wd).mono ?_
    rintro e w1 ⟨rfl, hk1, hr1⟩
    have HE : Hid (Kept [b] w w1 ∧ RdS w1 b ao cap xs (stStep xs s 2 wd)) := ⟨HKA.out.trans hk1 (by simp), HST.out ▸ hr1⟩
    clear hk1 hr1 c10 c12 HA HKA
    generalize (stFixed xs s wd).1 = v
    go_wp2
    go_end0
    exact ⟨rfl, HE.out.1, HE.out.2⟩
  · have b1 : (kd == 1) = false := by simpa using k1
    have b2 : (kd == 2) = false := by simpa using k2
    have HE : Hid (RdS (w.alloc (.cells #[.int .i64 kd, .int .i64 vv, .int .i64 wd, .slice da dn dc] 34)) b ao cap xs (stStep xs s kd wd)) := by
      show RdS _ b ao cap xs (stStep xs s kd wd)
      unfold stStep
      rw [if_neg k1, if_neg k2]
      exact HA.out
    clear k1 k2 c10 c12 hcb HA
    go_enter Try.func30, Try.ntmps30
    go_wp2
    go_end0
    exact ⟨rfl, HKA.out, HE.out⟩

end Go.Proofs.Ytjmameknbnflaab
