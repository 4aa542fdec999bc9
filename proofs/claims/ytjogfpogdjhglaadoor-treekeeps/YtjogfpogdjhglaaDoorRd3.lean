/-
  Contracts: code.Reader, take.
-/
import Derived.Test.YtjogfpogdjhglaaDoorRd2
namespace Go.Proofs.YtjogfpogdjhglaaDoor
open Go.RowKit
set_option linter.unusedVariables false

theorem ret_slice {a : Option Addr} {n m c : Nat} (h : n = m) : Ending.returned (.slice a n c) = .returned (.slice a m c) := by rw [h]
theorem kept_refused0 (w : World) (b : Nat) (u v : Value) : Kept [b] w ((w.setCell ⟨b, 0, none⟩ u).setCell ⟨b, 1, none⟩ v) := ((Kept.refl [b] w).setCell (by simp) _).setCell (by simp) _

set_option maxHeartbeats 800000 in
set_option maxRecDepth 100000 in
theorem take_short {w : World} {b : Nat} {p : Int} {ao : Option Addr} {cap : Nat} {xs : List UInt8} {at_ : Nat} (h : Rd w b 0 p ao cap xs at_) (n began : Int) (hn : (xs.length - at_ : Nat) < n) :
    Calls Tryd.prog 43 #[.pointer (some ⟨b, 0, none⟩), .int .i64 n, .int .i64 began] w fun e' w' => e' = .returned (.slice none 0 0) ∧ Kept [b] w w' ∧ Rd w' b 10 began ao cap xs at_ := by
  have h0 := h.c0
  have h1 := h.c1
  have f0 := h.f0
  have f1 := h.f1
  have H := (show Hid _ from h)
  clear h
  go_enter Tryd.func43, Tryd.ntmps43
  go_wp2_with (first | (go_at_call 35; refine (left_ok H.out).mono ?_; rintro e w' ⟨rfl, nq, rfl⟩) | (go_at_call 28; refine (refuse_ok _ p _ _ _ (by simpa using h0) (by simpa using h1) (by simpa using f0) (by simpa using f1)).mono ?_; rintro e w' ⟨rfl, rfl⟩))
  go_ret
  exact ⟨rfl, kept_refused _ _ _ _ _, (H.out.drewN _).refused 10 began⟩

set_option maxHeartbeats 800000 in
set_option maxRecDepth 100000 in
theorem take_some {w : World} {b : Nat} {p : Int} {g off cap : Nat} {xs : List UInt8} {at_ : Nat} (h : Rd w b 0 p (some ⟨g, off, none⟩) cap xs at_) (n : Nat) (began : Int) (hn : n ≤ xs.length - at_) :
    Calls Tryd.prog 43 #[.pointer (some ⟨b, 0, none⟩), .int .i64 n, .int .i64 began] w fun e' w' => ∃ ao' cap', e' = .returned (.slice ao' n cap') ∧ Sl w' ao' ((xs.drop at_).take n) ∧ (ao' = none → n = 0 ∧ cap' = 0) ∧ (∀ a, ao' = some a → a.spot = none) ∧ Kept [b] w w' ∧ Rd w' b 0 p (some ⟨g, off, none⟩) cap xs (at_ + n) := by
  have h0 := h.c0
  have h2 := h.c2
  have h3 := h.c3
  have hs := h.small
  have hl := h.le
  have hlc := h.lc
  have f3 := h.f3
  have hsl := (h.sl.drop at_ cap hl hlc).take n
  have hsp : ∃ a, (if cap = at_ then some (⟨g, off, none⟩ : Addr) else some ⟨g, off + at_, none⟩) = some a ∧ a.spot = none ∧ a.block = g := by
    by_cases hc : cap = at_
    · rw [if_pos hc]; exact ⟨_, rfl, rfl, rfl⟩
    · rw [if_neg hc]; exact ⟨_, rfl, rfl, rfl⟩
  have hap := h.apart _ rfl
  have H := (show Hid _ from h)
  clear h
  go_enter Tryd.func43, Tryd.ntmps43
  go_wp2_with (go_at_call 35; refine (left_ok H.out).mono ?_; rintro e w' ⟨rfl, nq0, rfl⟩)
  go_quiet (fail)
  generalize (if cap = at_ then some (⟨g, off, none⟩ : Addr) else some ⟨g, off + at_, none⟩) = ao2 at hsl hsp ⊢
  obtain ⟨a2, rfl, hsp1, hsp2⟩ := hsp
  go_wp2
  go_ret
  refine ⟨some a2, cap - at_, ret_slice (by omega), ?_, by simp, by rintro a ⟨⟩; exact hsp1, kept_moved _ _ _ _, ?_⟩
  · exact hsl.kept (kept_moved _ _ _ _) (by rintro _ a ⟨⟩; simp [hsp2]; exact hap)
  · have := (H.out.drewN (nq0 + nq)).moved (at_ + n) (by omega)
    simpa using this

set_option maxHeartbeats 800000 in
set_option maxRecDepth 100000 in
theorem take_none {w : World} {b : Nat} {p : Int} (h : Rd w b 0 p none 0 [] 0) (began : Int) :
    Calls Tryd.prog 43 #[.pointer (some ⟨b, 0, none⟩), .int .i64 0, .int .i64 began] w fun e' w' => e' = .returned (.slice none 0 0) ∧ Kept [b] w w' ∧ Rd w' b 0 p none 0 [] 0 := by
  have h0 := h.c0
  have h2 := h.c2
  have h3 := h.c3
  have f3 := h.f3
  have H := (show Hid _ from h)
  clear h
  simp only [List.length_nil] at h2
  go_enter Tryd.func43, Tryd.ntmps43
  go_wp2_with (go_at_call 35; refine (left_ok H.out).mono ?_; rintro e w' ⟨rfl, nq0, rfl⟩)
  go_quiet (fail)
  go_wp2
  go_ret
  refine ⟨rfl, kept_moved _ _ _ _, ?_⟩
  exact (H.out.drewN (nq0 + nq)).moved 0 (by simp)

/-- Reader.take of bytes that are left. -/
theorem take_ok {w : World} {b : Nat} {p : Int} {ao : Option Addr} {cap : Nat} {xs : List UInt8} {at_ : Nat} (h : Rd w b 0 p ao cap xs at_) (n : Nat) (began : Int) (hn : n ≤ xs.length - at_) :
    Calls Tryd.prog 43 #[.pointer (some ⟨b, 0, none⟩), .int .i64 n, .int .i64 began] w fun e' w' => ∃ ao' cap', e' = .returned (.slice ao' n cap') ∧ Sl w' ao' ((xs.drop at_).take n) ∧ (ao' = none → n = 0 ∧ cap' = 0) ∧ (∀ a, ao' = some a → a.spot = none) ∧ Kept [b] w w' ∧ Rd w' b 0 p ao cap xs (at_ + n) := by
  cases ao with
  | none =>
    obtain ⟨rfl, rfl⟩ := h.nil rfl
    obtain rfl : at_ = 0 := by have := h.le; simpa using this
    obtain rfl : n = 0 := by simpa using hn
    refine (take_none h began).mono fun e w' ⟨he, hk, hr⟩ => ?_
    exact ⟨none, 0, he, Sl.nil _ _, fun _ => ⟨rfl, rfl⟩, by simp, hk, hr⟩
  | some a =>
    obtain ⟨g, off, spot⟩ := a
    obtain rfl : spot = none := h.spot _ rfl
    exact take_some h n began hn

end Go.Proofs.YtjogfpogdjhglaaDoor
