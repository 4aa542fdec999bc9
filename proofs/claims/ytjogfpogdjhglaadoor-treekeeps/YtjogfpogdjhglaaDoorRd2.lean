/-
  Contracts: code.Reader, Number.
-/
import Derived.Test.YtjogfpogdjhglaaDoorRd1
import Derived.Test.YtjogfpogdjhglaaDoorShort
import Derived.Test.YtjogfpogdjhglaaDoorClone
import Derived.Deep.RegionWith
namespace Go.Proofs.YtjogfpogdjhglaaDoor
open Go.RowKit
set_option linter.unusedVariables false

set_option maxHeartbeats 800000 in
set_option maxRecDepth 100000 in
theorem rnumber_some {w : World} {b : Nat} {p : Int} {g off cap : Nat} {xs : List UInt8} {at_ : Nat} (h : Rd w b 0 p (some ⟨g, off, none⟩) cap xs at_) :
    Calls Tryd.prog 32 #[.pointer (some ⟨b, 0, none⟩)] w fun e' w' => e' = .returned (.int .i64 (Pure.num (xs.drop at_)).1) ∧ Kept [b] w w' ∧ Rd w' b (Pure.num (xs.drop at_)).2.2 (if (Pure.num (xs.drop at_)).2.2 = 0 then p else at_) (some ⟨g, off, none⟩) cap xs (at_ + (Pure.num (xs.drop at_)).2.1) := by
  have h0 := h.c0
  have h1 := h.c1
  have h2 := h.c2
  have h3 := h.c3
  have hs := h.small
  have hl := h.le
  have hlc := h.lc
  have f0 := h.f0
  have f1 := h.f1
  have f3 := h.f3
  have H := (show Hid _ from h)
  clear h
  have hsl := (H.out.sl.drop at_ cap hl hlc)
  have hf := Pure.num_facts (xs.drop at_)
  simp only [List.length_drop] at hf
  by_cases he : (Pure.num (xs.drop at_)).2.2 = 0
  · have hne : (((Pure.num (xs.drop at_)).2.2 : Int) != 0) = false := by simp [he]
    go_enter Tryd.func32, Tryd.ntmps32
    go_wp2
    go_quiet ((go_at_call 44; exact Calls.quiet_of_same (shortest_n _ _ _ (xs.drop at_) _ (by simp) (by simp; omega) (hsl.drewN _))))
    generalize (if cap = at_ then _ else _) = ao2
    go_wp2
    go_ret
    refine ⟨rfl, kept_moved _ _ _ _, ?_⟩
    have := (H.out.drewN nq).moved (at_ + (Pure.num (xs.drop at_)).2.1) (by omega)
    simpa using this
  · have hne : (((Pure.num (xs.drop at_)).2.2 : Int) != 0) = true := by simp [he]
    go_enter Tryd.func32, Tryd.ntmps32
    go_wp2
    go_quiet ((go_at_call 44; exact Calls.quiet_of_same (shortest_n _ _ _ (xs.drop at_) _ (by simp) (by simp; omega) (hsl.drewN _))))
    generalize (if cap = at_ then _ else _) = ao2
    go_wp2
    go_region_with (go_at_call 28; refine (refuse_ok _ p _ _ _ (by simpa using h0) (by simpa using h1) (by simpa using f0) (by simpa using f1)).mono ?_; rintro e w' ⟨rfl, rfl⟩)
    go_wp2
    go_ret
    have z : (Pure.num (xs.drop at_)).1 = 0 ∧ (Pure.num (xs.drop at_)).2.1 = 0 := by omega
    refine ⟨ret_int (by omega), kept_refused _ _ _ _ _, ?_⟩
    have := (H.out.drewN (nq + 1)).refused (Pure.num (xs.drop at_)).2.2 at_
    rw [z.2, Nat.add_zero]
    exact this

set_option maxHeartbeats 800000 in
set_option maxRecDepth 100000 in
theorem rnumber_none {w : World} {b : Nat} {p : Int} (h : Rd w b 0 p none 0 [] 0) :
    Calls Tryd.prog 32 #[.pointer (some ⟨b, 0, none⟩)] w fun e' w' => e' = .returned (.int .i64 0) ∧ Kept [b] w w' ∧ Rd w' b 10 0 none 0 [] 0 := by
  have h0 := h.c0
  have h1 := h.c1
  have h2 := h.c2
  have h3 := h.c3
  have f0 := h.f0
  have f1 := h.f1
  have f3 := h.f3
  have H := (show Hid _ from h)
  clear h
  simp only [List.length_nil] at h2
  go_enter Tryd.func32, Tryd.ntmps32
  go_wp2
  go_quiet ((go_at_call 44; exact Calls.quiet_of_same (shortest_n _ _ _ [] _ rfl (by simp) (Sl.nil _ _))))
  go_wp2
  go_region_with (go_at_call 28; refine (refuse_ok _ p _ _ _ (by simpa using h0) (by simpa using h1) (by simpa using f0) (by simpa using f1)).mono ?_; rintro e w' ⟨rfl, rfl⟩)
  go_wp2
  go_ret
  refine ⟨rfl, kept_refused _ _ _ _ _, ?_⟩
  exact (H.out.drewN (nq + 1)).refused 10 0

/-- Reader.Number where nothing went wrong yet. -/
theorem rnumber_ok {w : World} {b : Nat} {p : Int} {ao : Option Addr} {cap : Nat} {xs : List UInt8} {at_ : Nat} (h : Rd w b 0 p ao cap xs at_) :
    Calls Tryd.prog 32 #[.pointer (some ⟨b, 0, none⟩)] w fun e' w' => e' = .returned (.int .i64 (Pure.num (xs.drop at_)).1) ∧ Kept [b] w w' ∧ Rd w' b (Pure.num (xs.drop at_)).2.2 (if (Pure.num (xs.drop at_)).2.2 = 0 then p else at_) ao cap xs (at_ + (Pure.num (xs.drop at_)).2.1) := by
  cases ao with
  | none =>
    obtain ⟨rfl, rfl⟩ := h.nil rfl
    obtain rfl : at_ = 0 := by have := h.le; simpa using this
    exact rnumber_none h
  | some a =>
    obtain ⟨g, off, spot⟩ := a
    obtain rfl : spot = none := h.spot _ rfl
    exact rnumber_some h

set_option maxHeartbeats 400000 in
theorem rnumber_bad {w : World} {b : Nat} {e : Int} (h0 : w.cell? ⟨b, 0, none⟩ = some (.int .i64 e)) (he : (e != 0) = true) :
    Calls Tryd.prog 32 #[.pointer (some ⟨b, 0, none⟩)] w fun e' w' => e' = .returned (.int .i64 0) ∧ w' = w := by
  go_enter Tryd.func32, Tryd.ntmps32
  go_wp2
  go_ret
  exact ⟨rfl, rfl⟩

set_option maxHeartbeats 400000 in
theorem rnumber_nil (w : World) :
    Calls Tryd.prog 32 #[.pointer none] w fun e' w' => e' = .returned (.int .i64 0) ∧ w' = w := by
  go_enter Tryd.func32, Tryd.ntmps32
  go_wp2
  go_ret
  exact ⟨rfl, rfl⟩

end Go.Proofs.YtjogfpogdjhglaaDoor
