/-
  Contract: the statements' own read. (Written by tools/genlr.py.)
-/
import Derived.Test.YtjmameknbnflaabSt
import Derived.Test.YtjmameknbnflaabKn1
import Derived.Test.YtjmameknbnflaabLong
namespace Go.Proofs.Ytjmameknbnflaab
open Go.RowKit
set_option linter.unusedVariables false
set_option linter.unusedSimpArgs false

/-- The two readers beside one another: neither lies in the other's way. -/
structure Two (w : World) (b x : Nat) (ao a2 : Option Addr) (cap c2 : Nat) (xs : List UInt8) (s : Rs) : Prop where
  rd : RdS w b ao cap xs s
  rf : RfS w x a2 c2 xs s
  ne : b ≠ x
  n1 : xs ≠ [] → ∀ a, ao = some a → a.block ≠ x
  n2 : xs ≠ [] → ∀ a, a2 = some a → a.block ≠ b

theorem Two.kept {l : List Nat} {w w' : World} {b x : Nat} {ao a2 : Option Addr} {cap c2 : Nat} {xs : List UInt8} {s : Rs} (h : Two w b x ao a2 cap c2 xs s) (hk : Kept l w w') (hb : b ∉ l) (hx : x ∉ l) (h1 : xs ≠ [] → ∀ a, ao = some a → a.block ∉ l) (h2 : xs ≠ [] → ∀ a, a2 = some a → a.block ∉ l) : Two w' b x ao a2 cap c2 xs s :=
  ⟨h.rd.kept hk hb h1, h.rf.kept hk hx h2, h.ne, h.n1, h.n2⟩
theorem Two.rd1 {w w1 : World} {b x : Nat} {ao a2 : Option Addr} {cap c2 : Nat} {xs : List UInt8} {s : Rs} (h : Two w b x ao a2 cap c2 xs s) (hk1 : Kept [x] w w1) : RdS w1 b ao cap xs s :=
  h.rd.kept hk1 (by simpa using h.ne) (fun hne a ha => by simpa using h.n1 hne a ha)
theorem Two.next {w w1 w2 : World} {b x : Nat} {ao a2 : Option Addr} {cap c2 : Nat} {xs : List UInt8} {s s' : Rs} (h : Two w b x ao a2 cap c2 xs s) (hf : RfS w1 x a2 c2 xs s') (hk2 : Kept [b] w1 w2) (hr : RdS w2 b ao cap xs s') : Two w2 b x ao a2 cap c2 xs s' :=
  ⟨hr, hf.kept hk2 (by simpa using h.ne.symm) (fun hne a ha => by simpa using h.n2 hne a ha), h.ne, h.n1, h.n2⟩
theorem kept_two {w wa w1 w2 : World} {b x : Nat} (ha : Kept [] w wa) (h1 : Kept [x] wa w1) (h2 : Kept [b] w1 w2) : Kept [b, x] w w2 :=
  ((ha.mono (l2 := [b, x]) (by simp)).trans h1 (by simp)).trans h2 (by simp)

theorem stRaw_le (xs : List UInt8) (s : Rs) (n : Int) : (stRaw xs s n).1.length ≤ xs.length := by
  unfold stRaw
  split
  · split
    · simp
    · split
      · simp
      · simp; omega
  · simp
theorem stText_le (xs : List UInt8) (s : Rs) (n : Int) : (stText xs s n).1.length ≤ xs.length := by
  unfold stText
  split
  · split
    · simp
    · split
      · split
        · simp
        · split
          · simp
          · simp; omega
      · simp
  · simp

set_option maxHeartbeats 1500000 in
set_option maxRecDepth 100000 in
theorem lread_number {w : World} {b x : Nat} {ao a2 : Option Addr} {cap c2 : Nat} {xs : List UInt8} {s : Rs} (h : Two w b x ao a2 cap c2 xs s) (kd vv wd : Int) (da : Option Addr) (dn dc : Nat) (b1 : (kd == 1) = true) :
    Calls Try.prog 29 #[.pointer (some ⟨b, 0, none⟩), .pointer (some ⟨x, 0, none⟩), .agg #[.int .i64 kd, .int .i64 vv, .int .i64 wd, .slice da dn dc]] w fun e w' => e = .returned (.bool true) ∧ Kept [b, x] w w' ∧ ∃ s', Two w' b x ao a2 cap c2 xs s' := by
  have HA : Hid (Two (w.alloc (.cells #[.int .i64 kd, .int .i64 vv, .int .i64 wd, .slice da dn dc] 34)) b x ao a2 cap c2 xs s) := h.kept ((Kept.refl [] w).alloc _) (by simp) (by simp) (by simp) (by simp)
  have HKA : Hid (Kept [] w (w.alloc (.cells #[.int .i64 kd, .int .i64 vv, .int .i64 wd, .slice da dn dc] 34))) := (Kept.refl [] w).alloc _
  obtain ⟨cb, hcb⟩ : ∃ cb, cb = w.heap.size := ⟨_, rfl⟩
  have hcx : cb ≠ x := by have := h.rf.lt; omega
  have hcbb : cb ≠ b := by have := h.rd.lt; omega
  have c11 : (w.alloc (.cells #[.int .i64 kd, .int .i64 vv, .int .i64 wd, .slice da dn dc] 34)).cell? ⟨cb, 1, none⟩ = some (.int .i64 vv) := by rw [hcb]; simp
  have c12 : (w.alloc (.cells #[.int .i64 kd, .int .i64 vv, .int .i64 wd, .slice da dn dc] 34)).cell? ⟨cb, 2, none⟩ = some (.int .i64 wd) := by rw [hcb]; simp
  clear h
  go_enter Try.func29, Try.ntmps29
  go_wp2_with (fail)
  try rw [← hcb]
  generalize w.alloc _ = wa at HA HKA c11 c12 ⊢
  clear hcb

  refine (takenum_st HA.out.rf).mono ?_
  rintro e w1 ⟨rfl, hk1, hf1⟩
  have d11 : w1.cell? ⟨cb, 1, none⟩ = some (.int .i64 vv) := hk1.cellOf c11 (by simpa using hcx)
  have d12 : w1.cell? ⟨cb, 2, none⟩ = some (.int .i64 wd) := hk1.cellOf c12 (by simpa using hcx)
  go_wp2_with (fail)
  refine (rnumber_st (HA.out.rd1 hk1)).mono ?_
  rintro e w2 ⟨rfl, hk2, hr2⟩
  have HT : Hid (Two w2 b x ao a2 cap c2 xs (stNumber xs s).2) := HA.out.next hf1 hk2 hr2
  have HK : Hid (Kept [b, x] w w2) := kept_two HKA.out hk1 hk2
  clear hk1 hf1 hk2 hr2 HA HKA c11 c12 d11 d12
  generalize (stNumber xs s).1 = v
  generalize (stNumber xs s).2 = s2 at HT
  go_wp2_with (fail)
  refine (err_st HT.out.rd).mono ?_
  rintro e w' ⟨rfl, n3, rfl⟩
  have HT3 : Hid (Two (w2.drewN n3) b x ao a2 cap c2 xs s2) := HT.out.kept ((Kept.refl [] w2).drewN n3) (by simp) (by simp) (by simp) (by simp)
  have HK3 : Hid (Kept [b, x] w (w2.drewN n3)) := HK.out.drewN n3
  have x2 := HT3.out.rf.c2
  have x3 := HT3.out.rf.c3
  clear HT HK
  generalize w2.drewN n3 = w3 at HT3 HK3 x2 x3 ⊢
  go_wp2
  go_quiet (first | (go_at_call 14; exact Calls.quiet_of (left_st (HT3.out.rd.drewN _))) | (go_at_call 54; exact Calls.quiet_of (refleft_st (HT3.out.rf.drewN _))) | (go_at_call 39; exact Calls.quiet_of_same (num_any _ _)))
  go_wp2
  go_ret
  exact ⟨rfl, HK3.out.drewN _, s2, HT3.out.kept ((Kept.refl [] w3).drewN _) (by simp) (by simp) (by simp) (by simp)⟩

set_option maxHeartbeats 1500000 in
set_option maxRecDepth 100000 in
theorem lread_fixed {w : World} {b x : Nat} {ao a2 : Option Addr} {cap c2 : Nat} {xs : List UInt8} {s : Rs} (h : Two w b x ao a2 cap c2 xs s) (kd vv wd : Int) (da : Option Addr) (dn dc : Nat) (b1 : (kd == 1) = false) (b2 : (kd == 2) = true) :
    Calls Try.prog 29 #[.pointer (some ⟨b, 0, none⟩), .pointer (some ⟨x, 0, none⟩), .agg #[.int .i64 kd, .int .i64 vv, .int .i64 wd, .slice da dn dc]] w fun e w' => e = .returned (.bool true) ∧ Kept [b, x] w w' ∧ ∃ s', Two w' b x ao a2 cap c2 xs s' := by
  have HA : Hid (Two (w.alloc (.cells #[.int .i64 kd, .int .i64 vv, .int .i64 wd, .slice da dn dc] 34)) b x ao a2 cap c2 xs s) := h.kept ((Kept.refl [] w).alloc _) (by simp) (by simp) (by simp) (by simp)
  have HKA : Hid (Kept [] w (w.alloc (.cells #[.int .i64 kd, .int .i64 vv, .int .i64 wd, .slice da dn dc] 34))) := (Kept.refl [] w).alloc _
  obtain ⟨cb, hcb⟩ : ∃ cb, cb = w.heap.size := ⟨_, rfl⟩
  have hcx : cb ≠ x := by have := h.rf.lt; omega
  have hcbb : cb ≠ b := by have := h.rd.lt; omega
  have c11 : (w.alloc (.cells #[.int .i64 kd, .int .i64 vv, .int .i64 wd, .slice da dn dc] 34)).cell? ⟨cb, 1, none⟩ = some (.int .i64 vv) := by rw [hcb]; simp
  have c12 : (w.alloc (.cells #[.int .i64 kd, .int .i64 vv, .int .i64 wd, .slice da dn dc] 34)).cell? ⟨cb, 2, none⟩ = some (.int .i64 wd) := by rw [hcb]; simp
  clear h
  go_enter Try.func29, Try.ntmps29
  go_wp2_with (fail)
  try rw [← hcb]
  generalize w.alloc _ = wa at HA HKA c11 c12 ⊢
  clear hcb

  refine (takefix_st HA.out.rf wd).mono ?_
  rintro e w1 ⟨rfl, hk1, hf1⟩
  have d11 : w1.cell? ⟨cb, 1, none⟩ = some (.int .i64 vv) := hk1.cellOf c11 (by simpa using hcx)
  have d12 : w1.cell? ⟨cb, 2, none⟩ = some (.int .i64 wd) := hk1.cellOf c12 (by simpa using hcx)
  go_wp2_with (fail)
  refine (rfixed_st (HA.out.rd1 hk1) wd).mono ?_
  rintro e w2 ⟨rfl, hk2, hr2⟩
  have HT : Hid (Two w2 b x ao a2 cap c2 xs (stFixed xs s wd).2) := HA.out.next hf1 hk2 hr2
  have HK : Hid (Kept [b, x] w w2) := kept_two HKA.out hk1 hk2
  clear hk1 hf1 hk2 hr2 HA HKA c11 c12 d11 d12
  generalize (stFixed xs s wd).1 = v
  generalize (stFixed xs s wd).2 = s2 at HT
  go_wp2_with (fail)
  refine (err_st HT.out.rd).mono ?_
  rintro e w' ⟨rfl, n3, rfl⟩
  have HT3 : Hid (Two (w2.drewN n3) b x ao a2 cap c2 xs s2) := HT.out.kept ((Kept.refl [] w2).drewN n3) (by simp) (by simp) (by simp) (by simp)
  have HK3 : Hid (Kept [b, x] w (w2.drewN n3)) := HK.out.drewN n3
  have x2 := HT3.out.rf.c2
  have x3 := HT3.out.rf.c3
  clear HT HK
  generalize w2.drewN n3 = w3 at HT3 HK3 x2 x3 ⊢
  go_wp2
  go_quiet (first | (go_at_call 14; exact Calls.quiet_of (left_st (HT3.out.rd.drewN _))) | (go_at_call 54; exact Calls.quiet_of (refleft_st (HT3.out.rf.drewN _))) | (go_at_call 39; exact Calls.quiet_of_same (num_any _ _)))
  go_wp2
  go_ret
  exact ⟨rfl, HK3.out.drewN _, s2, HT3.out.kept ((Kept.refl [] w3).drewN _) (by simp) (by simp) (by simp) (by simp)⟩

set_option maxHeartbeats 1500000 in
set_option maxRecDepth 100000 in
theorem lread_raw {w : World} {b x : Nat} {ao a2 : Option Addr} {cap c2 : Nat} {xs : List UInt8} {s : Rs} (h : Two w b x ao a2 cap c2 xs s) (kd vv wd : Int) (da : Option Addr) (dn dc : Nat) (b1 : (kd == 1) = false) (b2 : (kd == 2) = false) (b3 : (kd == 3) = true) :
    Calls Try.prog 29 #[.pointer (some ⟨b, 0, none⟩), .pointer (some ⟨x, 0, none⟩), .agg #[.int .i64 kd, .int .i64 vv, .int .i64 wd, .slice da dn dc]] w fun e w' => e = .returned (.bool true) ∧ Kept [b, x] w w' ∧ ∃ s', Two w' b x ao a2 cap c2 xs s' := by
  have HA : Hid (Two (w.alloc (.cells #[.int .i64 kd, .int .i64 vv, .int .i64 wd, .slice da dn dc] 34)) b x ao a2 cap c2 xs s) := h.kept ((Kept.refl [] w).alloc _) (by simp) (by simp) (by simp) (by simp)
  have HKA : Hid (Kept [] w (w.alloc (.cells #[.int .i64 kd, .int .i64 vv, .int .i64 wd, .slice da dn dc] 34))) := (Kept.refl [] w).alloc _
  obtain ⟨cb, hcb⟩ : ∃ cb, cb = w.heap.size := ⟨_, rfl⟩
  have hcx : cb ≠ x := by have := h.rf.lt; omega
  have hcbb : cb ≠ b := by have := h.rd.lt; omega
  have c11 : (w.alloc (.cells #[.int .i64 kd, .int .i64 vv, .int .i64 wd, .slice da dn dc] 34)).cell? ⟨cb, 1, none⟩ = some (.int .i64 vv) := by rw [hcb]; simp
  have c12 : (w.alloc (.cells #[.int .i64 kd, .int .i64 vv, .int .i64 wd, .slice da dn dc] 34)).cell? ⟨cb, 2, none⟩ = some (.int .i64 wd) := by rw [hcb]; simp
  clear h
  go_enter Try.func29, Try.ntmps29
  go_wp2_with (fail)
  try rw [← hcb]
  generalize w.alloc _ = wa at HA HKA c11 c12 ⊢
  clear hcb

  refine (takeraw_st HA.out.rf vv).mono ?_
  rintro e w1 ⟨⟨a3, c3, rfl, hfr3⟩, hk1, hf1⟩
  have d11 : w1.cell? ⟨cb, 1, none⟩ = some (.int .i64 vv) := hk1.cellOf c11 (by simpa using hcx)
  have d12 : w1.cell? ⟨cb, 2, none⟩ = some (.int .i64 wd) := hk1.cellOf c12 (by simpa using hcx)
  have HFR3 : Hid (Fresh wa w1 a3 c3 (stRaw xs s vv).1) := hfr3
  clear hfr3
  obtain ⟨ys, hys⟩ : ∃ ys, (stRaw xs s vv).1 = ys := ⟨_, rfl⟩
  have HYS : Hid ((stRaw xs s vv).1 = ys) := hys
  rw [hys] at HFR3 ⊢
  clear hys
  go_wp2_with (fail)
  refine (raw_st (HA.out.rd1 hk1) vv).mono ?_
  rintro e w2 ⟨⟨a4, c4, rfl, hfr4⟩, hk2, hr2⟩
  rw [HYS.out] at hfr4 ⊢
  have hln : ys.length ≤ 140737488355328 := by
    rw [← HYS.out]
    exact Nat.le_trans (stRaw_le xs s vv) HA.out.rf.small
  have HS4 : Hid (Sl w2 a4 ys) := hfr4.1
  have HS3 : Hid (Sl w2 a3 ys) := HFR3.out.1.kept hk2 (fun _ a ha => by
    have h1 := (HFR3.out.2.2.2 a ha).1
    have h2 := HA.out.rd.lt
    simp only [List.mem_singleton]
    omega)
  have HT : Hid (Two w2 b x ao a2 cap c2 xs (stRaw xs s vv).2) := HA.out.next hf1 hk2 hr2
  have HK : Hid (Kept [b, x] w w2) := kept_two HKA.out hk1 hk2
  clear hk1 hf1 hk2 hr2 HA HKA c11 c12 d11 d12 HFR3 hfr4 HYS
  generalize (stRaw xs s vv).2 = s2 at HT
  go_wp2_with (fail)
  refine (bytes_any a4 a3 ys.length c4 ys.length c3 ys ys _ rfl rfl (by omega) HS4.out HS3.out).mono ?_
  rintro e w' ⟨rfl, n5, rfl⟩
  have HT5 : Hid (Two (w2.drewN n5) b x ao a2 cap c2 xs s2) := HT.out.kept ((Kept.refl [] w2).drewN n5) (by simp) (by simp) (by simp) (by simp)
  have HK5 : Hid (Kept [b, x] w (w2.drewN n5)) := HK.out.drewN n5
  clear HT HK HS4 HS3
  generalize w2.drewN n5 = w5 at HT5 HK5 ⊢
  obtain ⟨w2, rfl⟩ : ∃ w2, w2 = w5 := ⟨_, rfl⟩
  have HT := HT5
  have HK := HK5
  clear HT5 HK5
  go_wp2_with (fail)
  refine (err_st HT.out.rd).mono ?_
  rintro e w' ⟨rfl, n3, rfl⟩
  have HT3 : Hid (Two (w2.drewN n3) b x ao a2 cap c2 xs s2) := HT.out.kept ((Kept.refl [] w2).drewN n3) (by simp) (by simp) (by simp) (by simp)
  have HK3 : Hid (Kept [b, x] w (w2.drewN n3)) := HK.out.drewN n3
  have x2 := HT3.out.rf.c2
  have x3 := HT3.out.rf.c3
  clear HT HK
  generalize w2.drewN n3 = w3 at HT3 HK3 x2 x3 ⊢
  go_wp2
  go_quiet (first | (go_at_call 14; exact Calls.quiet_of (left_st (HT3.out.rd.drewN _))) | (go_at_call 54; exact Calls.quiet_of (refleft_st (HT3.out.rf.drewN _))) | (go_at_call 39; exact Calls.quiet_of_same (num_any _ _)))
  go_wp2
  go_ret
  exact ⟨rfl, HK3.out.drewN _, s2, HT3.out.kept ((Kept.refl [] w3).drewN _) (by simp) (by simp) (by simp) (by simp)⟩

set_option maxHeartbeats 1500000 in
set_option maxRecDepth 100000 in
theorem lread_text {w : World} {b x : Nat} {ao a2 : Option Addr} {cap c2 : Nat} {xs : List UInt8} {s : Rs} (h : Two w b x ao a2 cap c2 xs s) (kd vv wd : Int) (da : Option Addr) (dn dc : Nat) (b1 : (kd == 1) = false) (b2 : (kd == 2) = false) (b3 : (kd == 3) = false) (b4 : (kd == 4) = true) :
    Calls Try.prog 29 #[.pointer (some ⟨b, 0, none⟩), .pointer (some ⟨x, 0, none⟩), .agg #[.int .i64 kd, .int .i64 vv, .int .i64 wd, .slice da dn dc]] w fun e w' => e = .returned (.bool true) ∧ Kept [b, x] w w' ∧ ∃ s', Two w' b x ao a2 cap c2 xs s' := by
  have HA : Hid (Two (w.alloc (.cells #[.int .i64 kd, .int .i64 vv, .int .i64 wd, .slice da dn dc] 34)) b x ao a2 cap c2 xs s) := h.kept ((Kept.refl [] w).alloc _) (by simp) (by simp) (by simp) (by simp)
  have HKA : Hid (Kept [] w (w.alloc (.cells #[.int .i64 kd, .int .i64 vv, .int .i64 wd, .slice da dn dc] 34))) := (Kept.refl [] w).alloc _
  obtain ⟨cb, hcb⟩ : ∃ cb, cb = w.heap.size := ⟨_, rfl⟩
  have hcx : cb ≠ x := by have := h.rf.lt; omega
  have hcbb : cb ≠ b := by have := h.rd.lt; omega
  have c11 : (w.alloc (.cells #[.int .i64 kd, .int .i64 vv, .int .i64 wd, .slice da dn dc] 34)).cell? ⟨cb, 1, none⟩ = some (.int .i64 vv) := by rw [hcb]; simp
  have c12 : (w.alloc (.cells #[.int .i64 kd, .int .i64 vv, .int .i64 wd, .slice da dn dc] 34)).cell? ⟨cb, 2, none⟩ = some (.int .i64 wd) := by rw [hcb]; simp
  clear h
  go_enter Try.func29, Try.ntmps29
  go_wp2_with (fail)
  try rw [← hcb]
  generalize w.alloc _ = wa at HA HKA c11 c12 ⊢
  clear hcb

  refine (taketext_st HA.out.rf vv).mono ?_
  rintro e w1 ⟨⟨a3, c3, rfl, hfr3⟩, hk1, hf1⟩
  have d11 : w1.cell? ⟨cb, 1, none⟩ = some (.int .i64 vv) := hk1.cellOf c11 (by simpa using hcx)
  have d12 : w1.cell? ⟨cb, 2, none⟩ = some (.int .i64 wd) := hk1.cellOf c12 (by simpa using hcx)
  have HFR3 : Hid (Fresh wa w1 a3 c3 (stText xs s vv).1) := hfr3
  clear hfr3
  obtain ⟨ys, hys⟩ : ∃ ys, (stText xs s vv).1 = ys := ⟨_, rfl⟩
  have HYS : Hid ((stText xs s vv).1 = ys) := hys
  rw [hys] at HFR3 ⊢
  clear hys
  go_wp2_with (fail)
  refine (text_st (HA.out.rd1 hk1) vv).mono ?_
  rintro e w2 ⟨⟨a4, c4, rfl, hfr4⟩, hk2, hr2⟩
  rw [HYS.out] at hfr4 ⊢
  have hln : ys.length ≤ 140737488355328 := by
    rw [← HYS.out]
    exact Nat.le_trans (stText_le xs s vv) HA.out.rf.small
  have HS4 : Hid (Sl w2 a4 ys) := hfr4.1
  have HS3 : Hid (Sl w2 a3 ys) := HFR3.out.1.kept hk2 (fun _ a ha => by
    have h1 := (HFR3.out.2.2.2 a ha).1
    have h2 := HA.out.rd.lt
    simp only [List.mem_singleton]
    omega)
  have HT : Hid (Two w2 b x ao a2 cap c2 xs (stText xs s vv).2) := HA.out.next hf1 hk2 hr2
  have HK : Hid (Kept [b, x] w w2) := kept_two HKA.out hk1 hk2
  clear hk1 hf1 hk2 hr2 HA HKA c11 c12 d11 d12 HFR3 hfr4 HYS
  generalize (stText xs s vv).2 = s2 at HT
  go_wp2_with (fail)
  refine (bytes_any a4 a3 ys.length c4 ys.length c3 ys ys _ rfl rfl (by omega) HS4.out HS3.out).mono ?_
  rintro e w' ⟨rfl, n5, rfl⟩
  have HT5 : Hid (Two (w2.drewN n5) b x ao a2 cap c2 xs s2) := HT.out.kept ((Kept.refl [] w2).drewN n5) (by simp) (by simp) (by simp) (by simp)
  have HK5 : Hid (Kept [b, x] w (w2.drewN n5)) := HK.out.drewN n5
  clear HT HK HS4 HS3
  generalize w2.drewN n5 = w5 at HT5 HK5 ⊢
  obtain ⟨w2, rfl⟩ : ∃ w2, w2 = w5 := ⟨_, rfl⟩
  have HT := HT5
  have HK := HK5
  clear HT5 HK5
  go_wp2_with (fail)
  refine (err_st HT.out.rd).mono ?_
  rintro e w' ⟨rfl, n3, rfl⟩
  have HT3 : Hid (Two (w2.drewN n3) b x ao a2 cap c2 xs s2) := HT.out.kept ((Kept.refl [] w2).drewN n3) (by simp) (by simp) (by simp) (by simp)
  have HK3 : Hid (Kept [b, x] w (w2.drewN n3)) := HK.out.drewN n3
  have x2 := HT3.out.rf.c2
  have x3 := HT3.out.rf.c3
  clear HT HK
  generalize w2.drewN n3 = w3 at HT3 HK3 x2 x3 ⊢
  go_wp2
  go_quiet (first | (go_at_call 14; exact Calls.quiet_of (left_st (HT3.out.rd.drewN _))) | (go_at_call 54; exact Calls.quiet_of (refleft_st (HT3.out.rf.drewN _))) | (go_at_call 39; exact Calls.quiet_of_same (num_any _ _)))
  go_wp2
  go_ret
  exact ⟨rfl, HK3.out.drewN _, s2, HT3.out.kept ((Kept.refl [] w3).drewN _) (by simp) (by simp) (by simp) (by simp)⟩

set_option maxHeartbeats 1500000 in
set_option maxRecDepth 100000 in
theorem lread_other {w : World} {b x : Nat} {ao a2 : Option Addr} {cap c2 : Nat} {xs : List UInt8} {s : Rs} (h : Two w b x ao a2 cap c2 xs s) (kd vv wd : Int) (da : Option Addr) (dn dc : Nat) (b1 : (kd == 1) = false) (b2 : (kd == 2) = false) (b3 : (kd == 3) = false) (b4 : (kd == 4) = false) :
    Calls Try.prog 29 #[.pointer (some ⟨b, 0, none⟩), .pointer (some ⟨x, 0, none⟩), .agg #[.int .i64 kd, .int .i64 vv, .int .i64 wd, .slice da dn dc]] w fun e w' => e = .returned (.bool true) ∧ Kept [b, x] w w' ∧ ∃ s', Two w' b x ao a2 cap c2 xs s' := by
  have HA : Hid (Two (w.alloc (.cells #[.int .i64 kd, .int .i64 vv, .int .i64 wd, .slice da dn dc] 34)) b x ao a2 cap c2 xs s) := h.kept ((Kept.refl [] w).alloc _) (by simp) (by simp) (by simp) (by simp)
  have HKA : Hid (Kept [] w (w.alloc (.cells #[.int .i64 kd, .int .i64 vv, .int .i64 wd, .slice da dn dc] 34))) := (Kept.refl [] w).alloc _
  obtain ⟨cb, hcb⟩ : ∃ cb, cb = w.heap.size := ⟨_, rfl⟩
  have hcx : cb ≠ x := by have := h.rf.lt; omega
  have hcbb : cb ≠ b := by have := h.rd.lt; omega
  have c11 : (w.alloc (.cells #[.int .i64 kd, .int .i64 vv, .int .i64 wd, .slice da dn dc] 34)).cell? ⟨cb, 1, none⟩ = some (.int .i64 vv) := by rw [hcb]; simp
  have c12 : (w.alloc (.cells #[.int .i64 kd, .int .i64 vv, .int .i64 wd, .slice da dn dc] 34)).cell? ⟨cb, 2, none⟩ = some (.int .i64 wd) := by rw [hcb]; simp
  clear h
  go_enter Try.func29, Try.ntmps29
  go_wp2_with (fail)
  try rw [← hcb]
  generalize w.alloc _ = wa at HA HKA c11 c12 ⊢
  clear hcb

  obtain ⟨w2, rfl⟩ : ∃ w2, w2 = wa := ⟨_, rfl⟩
  obtain ⟨s2, rfl⟩ : ∃ s2, s2 = s := ⟨_, rfl⟩
  have HT := HA
  have HK : Hid (Kept [b, x] w w2) := HKA.out.mono (by simp)
  clear HA HKA c11 c12
  refine (err_st HT.out.rd).mono ?_
  rintro e w' ⟨rfl, n3, rfl⟩
  have HT3 : Hid (Two (w2.drewN n3) b x ao a2 cap c2 xs s2) := HT.out.kept ((Kept.refl [] w2).drewN n3) (by simp) (by simp) (by simp) (by simp)
  have HK3 : Hid (Kept [b, x] w (w2.drewN n3)) := HK.out.drewN n3
  have x2 := HT3.out.rf.c2
  have x3 := HT3.out.rf.c3
  clear HT HK
  generalize w2.drewN n3 = w3 at HT3 HK3 x2 x3 ⊢
  go_wp2
  go_quiet (first | (go_at_call 14; exact Calls.quiet_of (left_st (HT3.out.rd.drewN _))) | (go_at_call 54; exact Calls.quiet_of (refleft_st (HT3.out.rf.drewN _))) | (go_at_call 39; exact Calls.quiet_of_same (num_any _ _)))
  go_wp2
  go_ret
  exact ⟨rfl, HK3.out.drewN _, s2, HT3.out.kept ((Kept.refl [] w3).drewN _) (by simp) (by simp) (by simp) (by simp)⟩

/-- read: what the program's reader answers is the document's. -/
theorem lread_any {w : World} {b x : Nat} {ao a2 : Option Addr} {cap c2 : Nat} {xs : List UInt8} {s : Rs} (h : Two w b x ao a2 cap c2 xs s) (kd vv wd : Int) (da : Option Addr) (dn dc : Nat) :
    Calls Try.prog 29 #[.pointer (some ⟨b, 0, none⟩), .pointer (some ⟨x, 0, none⟩), .agg #[.int .i64 kd, .int .i64 vv, .int .i64 wd, .slice da dn dc]] w fun e w' => e = .returned (.bool true) ∧ Kept [b, x] w w' ∧ ∃ s', Two w' b x ao a2 cap c2 xs s' := by
  by_cases k1 : kd = 1
  · exact lread_number h kd vv wd da dn dc (by simpa using k1)
  by_cases k2 : kd = 2
  · exact lread_fixed h kd vv wd da dn dc (by simpa using k1) (by simpa using k2)
  by_cases k3 : kd = 3
  · exact lread_raw h kd vv wd da dn dc (by simpa using k1) (by simpa using k2) (by simpa using k3)
  by_cases k4 : kd = 4
  · exact lread_text h kd vv wd da dn dc (by simpa using k1) (by simpa using k2) (by simpa using k3) (by simpa using k4)
  exact lread_other h kd vv wd da dn dc (by simpa using k1) (by simpa using k2) (by simpa using k3) (by simpa using k4)

end Go.Proofs.Ytjmameknbnflaab
