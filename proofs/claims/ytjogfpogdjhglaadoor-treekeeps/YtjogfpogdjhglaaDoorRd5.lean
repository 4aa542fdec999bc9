/-
  Contracts: code.Reader, Text.
-/
import Derived.Test.YtjogfpogdjhglaaDoorRd4
namespace Go.Proofs.YtjogfpogdjhglaaDoor
open Go.RowKit
set_option linter.unusedVariables false

/-- Reader.Number, its three parts under names. -/
theorem rnumber_as {w : World} {b : Nat} {p : Int} {ao : Option Addr} {cap : Nat} {xs : List UInt8} {at_ : Nat} (h : Rd w b 0 p ao cap xs at_) {v k : Nat} (hr : Pure.num (xs.drop at_) = (v, k, 0)) :
    Calls Tryd.prog 32 #[.pointer (some ⟨b, 0, none⟩)] w fun e' w' => e' = .returned (.int .i64 v) ∧ Kept [b] w w' ∧ Rd w' b 0 p ao cap xs (at_ + k) := by
  refine (rnumber_ok h).mono fun e w' ⟨he, hk, hR⟩ => ?_
  rw [hr] at he hR
  exact ⟨he, hk, hR⟩
theorem rnumber_no {w : World} {b : Nat} {p : Int} {ao : Option Addr} {cap : Nat} {xs : List UInt8} {at_ : Nat} (h : Rd w b 0 p ao cap xs at_) {v k c : Nat} (hr : Pure.num (xs.drop at_) = (v, k, c)) (hc : c ≠ 0) :
    Calls Tryd.prog 32 #[.pointer (some ⟨b, 0, none⟩)] w fun e' w' => e' = .returned (.int .i64 0) ∧ Kept [b] w w' ∧ Rd w' b c at_ ao cap xs at_ := by
  have hf := Pure.num_facts (xs.drop at_)
  rw [hr] at hf
  obtain ⟨rfl, rfl⟩ : v = 0 ∧ k = 0 := by simp only at hf; omega
  refine (rnumber_ok h).mono fun e w' ⟨he, hk, hR⟩ => ?_
  rw [hr] at he hR
  rw [if_neg hc] at hR
  exact ⟨he, hk, hR⟩

set_option maxHeartbeats 800000 in
set_option maxRecDepth 100000 in
theorem text_neg {w : World} {b : Nat} {p : Int} {ao : Option Addr} {cap : Nat} {xs : List UInt8} {at_ : Nat} (h : Rd w b 0 p ao cap xs at_) (most : Int) (hn : most < 0) :
    Calls Tryd.prog 46 #[.pointer (some ⟨b, 0, none⟩), .int .i64 most] w fun e' w' => e' = .returned (.slice none 0 0) ∧ Kept [b] w w' ∧ Rd w' b 1 at_ ao cap xs at_ := by
  have h0 := h.c0
  have h1 := h.c1
  have h3 := h.c3
  have hs := h.small
  have hl := h.le
  have hlc := h.lc
  have f0 := h.f0
  have f1 := h.f1
  have H := (show Hid _ from h)
  clear h
  go_enter Tryd.func46, Tryd.ntmps46
  go_wp2_with (first | (go_at_call 42; refine (rclosed_ok _ _ h0).mono ?_; rintro e w' ⟨rfl, hw⟩; obtain rfl := hw.symm) | (go_at_call 28; refine (refuse_ok _ p _ _ _ h0 h1 f0 f1).mono ?_; rintro e w' ⟨rfl, rfl⟩))
  go_ret
  exact ⟨rfl, kept_refused0 _ _ _ _, H.out.refused 1 at_⟩

set_option maxHeartbeats 800000 in
set_option maxRecDepth 100000 in
theorem text_form {w : World} {b : Nat} {p : Int} {ao : Option Addr} {cap : Nat} {xs : List UInt8} {at_ : Nat} (h : Rd w b 0 p ao cap xs at_) (most : Int) (hn : 0 ≤ most) {v k c : Nat} (hr : Pure.num (xs.drop at_) = (v, k, c)) (hc : c ≠ 0) :
    Calls Tryd.prog 46 #[.pointer (some ⟨b, 0, none⟩), .int .i64 most] w fun e' w' => e' = .returned (.slice none 0 0) ∧ Kept [b] w w' ∧ Rd w' b c at_ ao cap xs at_ := by
  have HR : Hid (Pure.num (xs.drop at_) = (v, k, c)) := hr
  have h0 := h.c0
  have h1 := h.c1
  have h3 := h.c3
  have hs := h.small
  have hl := h.le
  have hlc := h.lc
  have f0 := h.f0
  have f1 := h.f1
  have H := (show Hid _ from h)
  clear h
  clear hr
  have hc1 : ((c : Int) != 0) = true := by simp [hc]
  go_enter Tryd.func46, Tryd.ntmps46
  go_wp2_with (first | (go_at_call 42; refine (rclosed_ok _ _ h0).mono ?_; rintro e w' ⟨rfl, hw⟩; obtain rfl := hw.symm) | (go_at_call 32; refine (rnumber_no H.out HR.out hc).mono ?_; rintro e w1 ⟨rfl, hk1, hr1⟩; have c10 := hr1.c0; have c11 := hr1.c1; have g10 := hr1.f0; have g11 := hr1.f1; have H1 := (show Hid _ from hr1); clear hr1) | (go_at_call 41; refine (spoilt_any _ _ _ c10).mono ?_; rintro e w' ⟨rfl, hw⟩; obtain rfl := hw.symm))
  go_ret
  exact ⟨rfl, hk1, H1.out⟩

set_option maxHeartbeats 800000 in
set_option maxRecDepth 100000 in
theorem text_long {w : World} {b : Nat} {p : Int} {ao : Option Addr} {cap : Nat} {xs : List UInt8} {at_ : Nat} (h : Rd w b 0 p ao cap xs at_) (most : Int) (hn : 0 ≤ most) {v k : Nat} (hr : Pure.num (xs.drop at_) = (v, k, 0)) (hv : most < v) :
    Calls Tryd.prog 46 #[.pointer (some ⟨b, 0, none⟩), .int .i64 most] w fun e' w' => e' = .returned (.slice none 0 0) ∧ Kept [b] w w' ∧ Rd w' b 2 at_ ao cap xs (at_ + k) := by
  have HR : Hid (Pure.num (xs.drop at_) = (v, k, 0)) := hr
  have h0 := h.c0
  have h1 := h.c1
  have h3 := h.c3
  have hs := h.small
  have hl := h.le
  have hlc := h.lc
  have f0 := h.f0
  have f1 := h.f1
  have H := (show Hid _ from h)
  clear h
  clear hr
  go_enter Tryd.func46, Tryd.ntmps46
  go_wp2_with (first | (go_at_call 42; refine (rclosed_ok _ _ h0).mono ?_; rintro e w' ⟨rfl, hw⟩; obtain rfl := hw.symm) | (go_at_call 32; refine (rnumber_as H.out HR.out).mono ?_; rintro e w1 ⟨rfl, hk1, hr1⟩; have c10 := hr1.c0; have c11 := hr1.c1; have g10 := hr1.f0; have g11 := hr1.f1; have H1 := (show Hid _ from hr1); clear hr1) | (go_at_call 41; refine (spoilt_any _ _ _ c10).mono ?_; rintro e w' ⟨rfl, hw⟩; obtain rfl := hw.symm) | (go_at_call 28; refine (refuse_ok _ p _ _ _ c10 c11 g10 g11).mono ?_; rintro e w2 ⟨rfl, rfl⟩))
  go_ret
  exact ⟨rfl, hk1.trans (kept_refused0 _ _ _ _) (by simp), H1.out.refused 2 at_⟩

set_option maxHeartbeats 800000 in
set_option maxRecDepth 100000 in
theorem text_short {w : World} {b : Nat} {p : Int} {ao : Option Addr} {cap : Nat} {xs : List UInt8} {at_ : Nat} (h : Rd w b 0 p ao cap xs at_) (most : Int) (hn : 0 ≤ most) {v k : Nat} (hr : Pure.num (xs.drop at_) = (v, k, 0)) (hv : v ≤ most) (hsh : xs.length - (at_ + k) < v) :
    Calls Tryd.prog 46 #[.pointer (some ⟨b, 0, none⟩), .int .i64 most] w fun e' w' => e' = .returned (.slice none 0 0) ∧ Kept [b] w w' ∧ Rd w' b 10 at_ ao cap xs (at_ + k) := by
  have HR : Hid (Pure.num (xs.drop at_) = (v, k, 0)) := hr
  have h0 := h.c0
  have h1 := h.c1
  have h3 := h.c3
  have hs := h.small
  have hl := h.le
  have hlc := h.lc
  have f0 := h.f0
  have f1 := h.f1
  have H := (show Hid _ from h)
  clear h
  clear hr
  go_enter Tryd.func46, Tryd.ntmps46
  go_wp2_with (first | (go_at_call 42; refine (rclosed_ok _ _ h0).mono ?_; rintro e w' ⟨rfl, hw⟩; obtain rfl := hw.symm) | (go_at_call 32; refine (rnumber_as H.out HR.out).mono ?_; rintro e w1 ⟨rfl, hk1, hr1⟩; have c10 := hr1.c0; have c11 := hr1.c1; have g10 := hr1.f0; have g11 := hr1.f1; have H1 := (show Hid _ from hr1); clear hr1) | (go_at_call 41; refine (spoilt_any _ _ _ c10).mono ?_; rintro e w' ⟨rfl, hw⟩; obtain rfl := hw.symm) | (go_at_call 43; refine (take_short H1.out _ _ (by omega)).mono ?_; rintro e w2 ⟨rfl, hk2, hr2⟩) | (go_at_call 36; refine (clone_nil _).mono ?_; rintro e w' ⟨rfl, hw⟩; obtain rfl := hw.symm))
  go_ret
  exact ⟨rfl, hk1.trans hk2 (by simp), hr2⟩

set_option maxHeartbeats 800000 in
set_option maxRecDepth 100000 in
theorem text_ok {w : World} {b : Nat} {p : Int} {ao : Option Addr} {cap : Nat} {xs : List UInt8} {at_ : Nat} (h : Rd w b 0 p ao cap xs at_) (most : Int) (hn : 0 ≤ most) {v k : Nat} (hr : Pure.num (xs.drop at_) = (v, k, 0)) (hv : v ≤ most) (hsh : v ≤ xs.length - (at_ + k)) :
    Calls Tryd.prog 46 #[.pointer (some ⟨b, 0, none⟩), .int .i64 most] w fun e' w' => ∃ ao' cap', e' = .returned (.slice ao' v cap') ∧ Fresh w w' ao' cap' ((xs.drop (at_ + k)).take v) ∧ Kept [b] w w' ∧ Rd w' b 0 p ao cap xs (at_ + k + v) := by
  have HR : Hid (Pure.num (xs.drop at_) = (v, k, 0)) := hr
  have h0 := h.c0
  have h1 := h.c1
  have h3 := h.c3
  have hs := h.small
  have hl := h.le
  have hlc := h.lc
  have f0 := h.f0
  have f1 := h.f1
  have H := (show Hid _ from h)
  clear h
  clear hr
  go_enter Tryd.func46, Tryd.ntmps46
  go_wp2_with (first | (go_at_call 42; refine (rclosed_ok _ _ h0).mono ?_; rintro e w' ⟨rfl, hw⟩; obtain rfl := hw.symm) | (go_at_call 32; refine (rnumber_as H.out HR.out).mono ?_; rintro e w1 ⟨rfl, hk1, hr1⟩; have c10 := hr1.c0; have c11 := hr1.c1; have g10 := hr1.f0; have g11 := hr1.f1; have H1 := (show Hid _ from hr1); clear hr1) | (go_at_call 41; refine (spoilt_any _ _ _ c10).mono ?_; rintro e w' ⟨rfl, hw⟩; obtain rfl := hw.symm) | (go_at_call 43; refine (take_ok H1.out _ _ hsh).mono ?_; rintro e w2 ⟨ao1, cap1, rfl, hsl1, hnn1, hsp1, hk2, hr2⟩))
  refine (clone_any ao1 v cap1 ((xs.drop (at_ + k)).take v) w2 (by simp; omega) (by simp; omega) hsl1 (fun h => by obtain ⟨rfl, rfl⟩ := hnn1 h; simp)).mono ?_
  rintro e w3 ⟨ao2, cap2, rfl, hfr2, hk3⟩
  go_wp2
  go_ret
  exact ⟨ao2, cap2, rfl, hfr2.later (hk1.trans hk2 (by simp)), (hk1.trans hk2 (by simp)).trans hk3 (by simp), hr2.kept hk3 (by simp) (by simp)⟩

end Go.Proofs.YtjogfpogdjhglaaDoor
