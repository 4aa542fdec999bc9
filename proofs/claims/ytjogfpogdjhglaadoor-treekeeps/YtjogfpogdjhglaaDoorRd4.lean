/-
  Contracts: code.Reader, Raw.
-/
import Derived.Test.YtjogfpogdjhglaaDoorRd3
namespace Go.Proofs.YtjogfpogdjhglaaDoor
open Go.RowKit
set_option linter.unusedVariables false

set_option maxHeartbeats 800000 in
set_option maxRecDepth 100000 in
theorem raw_neg {w : World} {b : Nat} {p : Int} {ao : Option Addr} {cap : Nat} {xs : List UInt8} {at_ : Nat} (h : Rd w b 0 p ao cap xs at_) (n : Int) (hn : n < 0) :
    Calls Tryd.prog 47 #[.pointer (some ⟨b, 0, none⟩), .int .i64 n] w fun e' w' => e' = .returned (.slice none 0 0) ∧ Kept [b] w w' ∧ Rd w' b 1 at_ ao cap xs at_ := by
  have h0 := h.c0
  have h1 := h.c1
  have h3 := h.c3
  have hs := h.small
  have hl := h.le
  have hlc := h.lc
  have f0 := h.f0
  have f1 := h.f1
  have H := (show Hid _ from h)
  clear h
  go_enter Tryd.func47, Tryd.ntmps47
  go_wp2
  go_region_with (go_at_call 28; refine (refuse_ok _ p _ _ _ (by simpa using h0) (by simpa using h1) (by simpa using f0) (by simpa using f1)).mono ?_; rintro e w' ⟨rfl, rfl⟩)
  go_wp2
  go_ret
  exact ⟨rfl, kept_refused _ _ 1 _ _, (H.out.drewN 1).refused 1 at_⟩

set_option maxHeartbeats 800000 in
set_option maxRecDepth 100000 in
theorem raw_short {w : World} {b : Nat} {p : Int} {ao : Option Addr} {cap : Nat} {xs : List UInt8} {at_ : Nat} (h : Rd w b 0 p ao cap xs at_) (n : Int) (hn0 : 0 ≤ n) (hn : (xs.length - at_ : Nat) < n) :
    Calls Tryd.prog 47 #[.pointer (some ⟨b, 0, none⟩), .int .i64 n] w fun e' w' => e' = .returned (.slice none 0 0) ∧ Kept [b] w w' ∧ Rd w' b 10 at_ ao cap xs at_ := by
  have h0 := h.c0
  have h1 := h.c1
  have h3 := h.c3
  have hs := h.small
  have hl := h.le
  have hlc := h.lc
  have f0 := h.f0
  have f1 := h.f1
  have H := (show Hid _ from h)
  clear h
  go_enter Tryd.func47, Tryd.ntmps47
  go_wp2_with (first | (go_at_call 42; refine (rclosed_ok _ _ h0).mono ?_; rintro e w' ⟨rfl, hw⟩; obtain rfl := hw.symm) | (go_at_call 43; refine (take_short H.out _ _ hn).mono ?_; rintro e w' ⟨rfl, hk, hr⟩) | (go_at_call 36; refine (clone_nil _).mono ?_; rintro e w' ⟨rfl, rfl⟩))
  go_ret
  exact ⟨rfl, by assumption, by assumption⟩

set_option maxHeartbeats 800000 in
set_option maxRecDepth 100000 in
theorem raw_ok {w : World} {b : Nat} {p : Int} {ao : Option Addr} {cap : Nat} {xs : List UInt8} {at_ : Nat} (h : Rd w b 0 p ao cap xs at_) (n : Nat) (hn : n ≤ xs.length - at_) :
    Calls Tryd.prog 47 #[.pointer (some ⟨b, 0, none⟩), .int .i64 n] w fun e' w' => ∃ ao' cap', e' = .returned (.slice ao' n cap') ∧ Fresh w w' ao' cap' ((xs.drop at_).take n) ∧ Kept [b] w w' ∧ Rd w' b 0 p ao cap xs (at_ + n) := by
  have h0 := h.c0
  have h1 := h.c1
  have h3 := h.c3
  have hs := h.small
  have hl := h.le
  have hlc := h.lc
  have f0 := h.f0
  have f1 := h.f1
  have H := (show Hid _ from h)
  clear h
  go_enter Tryd.func47, Tryd.ntmps47
  go_wp2_with (first | (go_at_call 42; refine (rclosed_ok _ _ h0).mono ?_; rintro e w' ⟨rfl, hw⟩; obtain rfl := hw.symm) | (go_at_call 43; refine (take_ok H.out _ _ hn).mono ?_; rintro e w1 ⟨ao1, cap1, rfl, hsl1, hnn1, hsp1, hk1, hr1⟩))
  refine (clone_any ao1 n cap1 ((xs.drop at_).take n) w1 (by simp; omega) (by simp; omega) hsl1 (fun h => by obtain ⟨rfl, rfl⟩ := hnn1 h; simp)).mono ?_
  rintro e w2 ⟨ao2, cap2, rfl, hfr2, hk2⟩
  go_wp2
  go_ret
  exact ⟨ao2, cap2, rfl, hfr2.later hk1, hk1.trans hk2 (by simp), hr1.kept hk2 (by simp) (by simp)⟩

end Go.Proofs.YtjogfpogdjhglaaDoor
