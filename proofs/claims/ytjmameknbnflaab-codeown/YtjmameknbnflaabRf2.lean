/-
  Contracts: freightref1's reader: TakeNumber, TakeFixed.
-/
import Derived.Test.YtjmameknbnflaabRf1
import Derived.Test.YtjmameknbnflaabPure
namespace Go.Proofs.Ytjmameknbnflaab
open Go.RowKit
set_option linter.unusedVariables false
set_option linter.unusedSimpArgs false

set_option maxHeartbeats 400000 in
set_option maxRecDepth 100000 in
theorem takenum_bad {w : World} {b : Nat} {ao : Option Addr} {cap : Nat} {xs : List UInt8} {at_ : Nat} {c p : Int} (h : Rf w b ao cap xs at_ c p) (he : c ≠ 0) :
    Calls Try.prog 52 #[.pointer (some ⟨b, 0, none⟩)] w fun e' w' => e' = .returned (.int .i64 0) ∧ w' = w := by
  have h2 := h.c2
  have hne : (c != 0) = true := by simpa using he
  clear h
  go_enter Try.func52, Try.ntmps52
  go_wp2
  go_ret
  exact ⟨rfl, rfl⟩

set_option maxHeartbeats 800000 in
set_option maxRecDepth 100000 in
theorem takenum_as {w : World} {b : Nat} {ao : Option Addr} {cap : Nat} {xs : List UInt8} {at_ : Nat} {p : Int} (h : Rf w b ao cap xs at_ 0 p) {v k : Nat} (hr : Pure.num (xs.drop at_) = (v, k, 0)) :
    Calls Try.prog 52 #[.pointer (some ⟨b, 0, none⟩)] w fun e' w' => e' = .returned (.int .i64 v) ∧ Kept [b] w w' ∧ Rf w' b ao cap xs (at_ + k) 0 p := by
  have hf := Pure.num_facts (xs.drop at_)
  rw [hr] at hf
  simp only [List.length_drop] at hf
  have hk : k ≤ 5 ∧ at_ + k ≤ xs.length := by have := h.le; omega
  obtain ⟨hk5, hkn⟩ := hk
  have HR : Hid (Pure.num (xs.drop at_) = (v, k, 0)) := hr
  have h0 := h.c0
  have h1 := h.c1
  have h2 := h.c2
  have f1 := h.f1
  have hs := h.small
  have hl := h.le
  have H := (show Hid (Rf w b ao cap xs at_ 0 p) from h)
  clear h hr hf
  go_enter Try.func52, Try.ntmps52
  go_wp2
  go_quiet ((go_at_call 51; exact Calls.quiet_of_same (refnum_any ao xs.length cap at_ xs _ rfl hl hs (H.out.sl.drewN _) HR.out)))
  go_wp2
  go_ret
  refine ⟨rfl, ((Kept.refl [b] w).drewN nq).setCell (by simp) _, ?_⟩
  have := (H.out.drewN nq).moved (at_ + k) hkn
  simpa using this

set_option maxHeartbeats 800000 in
set_option maxRecDepth 100000 in
theorem takenum_no {w : World} {b : Nat} {ao : Option Addr} {cap : Nat} {xs : List UInt8} {at_ : Nat} {p : Int} (h : Rf w b ao cap xs at_ 0 p) {v k c : Nat} (hr : Pure.num (xs.drop at_) = (v, k, c)) (hc : c ≠ 0) :
    Calls Try.prog 52 #[.pointer (some ⟨b, 0, none⟩)] w fun e' w' => e' = .returned (.int .i64 0) ∧ Kept [b] w w' ∧ Rf w' b ao cap xs at_ c at_ := by
  have HR : Hid (Pure.num (xs.drop at_) = (v, k, c)) := hr
  have hne : ((c : Int) != 0) = true := by simp [hc]
  have h0 := h.c0
  have h1 := h.c1
  have h2 := h.c2
  have hs := h.small
  have hl := h.le
  have H := (show Hid (Rf w b ao cap xs at_ 0 p) from h)
  clear h hr hc
  go_enter Try.func52, Try.ntmps52
  go_wp2
  go_quiet ((go_at_call 51; exact Calls.quiet_of_same (refnum_any ao xs.length cap at_ xs _ rfl hl hs (H.out.sl.drewN _) HR.out)))
  go_wp2_with (go_at_call 50; refine (spoil_any (H.out.drewN _) _).mono ?_; rintro e w1 ⟨rfl, hk1, hr1⟩)
  go_ret
  exact ⟨rfl, ((Kept.refl [b] w).drewN nq).trans hk1 (by simp), hr1⟩

set_option maxHeartbeats 400000 in
set_option maxRecDepth 100000 in
theorem takefix_bad {w : World} {b : Nat} {ao : Option Addr} {cap : Nat} {xs : List UInt8} {at_ : Nat} {c p : Int} (h : Rf w b ao cap xs at_ c p) (he : c ≠ 0) (n : Int) :
    Calls Try.prog 53 #[.pointer (some ⟨b, 0, none⟩), .int .i64 n] w fun e' w' => e' = .returned (.int .i64 0) ∧ w' = w := by
  have h2 := h.c2
  have hne : (c != 0) = true := by simpa using he
  clear h
  go_enter Try.func53, Try.ntmps53
  go_wp2
  go_ret
  exact ⟨rfl, rfl⟩

set_option maxHeartbeats 800000 in
set_option maxRecDepth 100000 in
theorem takefix_arg {w : World} {b : Nat} {ao : Option Addr} {cap : Nat} {xs : List UInt8} {at_ : Nat} {p : Int} (h : Rf w b ao cap xs at_ 0 p) (n : Int) (hn : n < 1 ∨ 4 < n) :
    Calls Try.prog 53 #[.pointer (some ⟨b, 0, none⟩), .int .i64 n] w fun e' w' => e' = .returned (.int .i64 0) ∧ Kept [b] w w' ∧ Rf w' b ao cap xs at_ 1 at_ := by
  have h2 := h.c2
  have H := (show Hid (Rf w b ao cap xs at_ 0 p) from h)
  clear h
  by_cases hlow : n < 1
  · clear hn
    go_enter Try.func53, Try.ntmps53
    go_wp2_with (go_at_call 50; refine (spoil_any H.out _).mono ?_; rintro e w1 ⟨rfl, hk1, hr1⟩)
    go_ret
    exact ⟨rfl, hk1, hr1⟩
  · have d1 : decide (n < 1) = false := by simpa using hlow
    have hhi : 4 < n := by omega
    clear hn
    go_enter Try.func53, Try.ntmps53
    go_wp2_with (go_at_call 50; refine (spoil_any H.out _).mono ?_; rintro e w1 ⟨rfl, hk1, hr1⟩)
    go_ret
    exact ⟨rfl, hk1, hr1⟩

set_option maxHeartbeats 800000 in
set_option maxRecDepth 100000 in
theorem takefix_short {w : World} {b : Nat} {ao : Option Addr} {cap : Nat} {xs : List UInt8} {at_ : Nat} {p : Int} (h : Rf w b ao cap xs at_ 0 p) (n : Int) (hn0 : 1 ≤ n) (hn4 : n ≤ 4) (hn : (xs.length - at_ : Nat) < n) :
    Calls Try.prog 53 #[.pointer (some ⟨b, 0, none⟩), .int .i64 n] w fun e' w' => e' = .returned (.int .i64 0) ∧ Kept [b] w w' ∧ Rf w' b ao cap xs at_ 10 at_ := by
  have h0 := h.c0
  have h1 := h.c1
  have h2 := h.c2
  have hs := h.small
  have hl := h.le
  have H := (show Hid (Rf w b ao cap xs at_ 0 p) from h)
  clear h
  go_enter Try.func53, Try.ntmps53
  go_wp2
  go_quiet (fail)
  go_wp2_with (go_at_call 50; refine (spoil_any (H.out.drewN _) _).mono ?_; rintro e w1 ⟨rfl, hk1, hr1⟩)
  go_ret
  exact ⟨rfl, ((Kept.refl [b] w).drewN nq).trans hk1 (by simp), hr1⟩

end Go.Proofs.Ytjmameknbnflaab
