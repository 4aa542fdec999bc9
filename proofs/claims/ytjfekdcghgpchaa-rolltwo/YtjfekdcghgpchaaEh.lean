/-
  Contracts: roll.New; a zero Roll.
-/
import Derived.Test.YtjfekdcghgpchaaEg
namespace Go.Proofs.Ytjfekdcghgpchaa
open Go.RowKit
set_option linter.unusedVariables false
set_option linter.unusedSimpArgs false

theorem own_open {w : World} {base : Nat} {e : TypeId} {v : Value} {n : Nat} {xs : List UInt8} (h : w.ownsRow base e 1 v n (bys xs)) (hv : v ≠ .slice none 0 0) :
    ∃ g cap, v = .slice (some ⟨g, 0, none⟩) n cap ∧ base ≤ g ∧ g < w.heap.size ∧ n ≤ cap ∧ (∀ i, i < xs.length → w.cell? ⟨g, i, none⟩ = some (.int .u8 (xs.getD i 0).toNat)) ∧ ∀ i, w.frozen? ⟨g, i, none⟩ = false := by
  obtain ⟨g, cap, rfl, hb, hlt, hn, hs⟩ := own_sl h hv
  refine ⟨g, cap, rfl, hb, hlt, hn, fun i hi => ?_, fun i => ?_⟩
  · obtain ⟨b, off, e1, e2⟩ := hs i hi
    cases e1
    rwa [Nat.zero_add] at e2
  · rcases h.2 with ⟨h1, _⟩ | ⟨g', cap', cur, h1, _, hg, _⟩
    · cases h1
    · cases h1
      exact frozen_of_row _ _ _ _ _ hg

theorem Try.zeroRoll (W : World) : (zeroValue 49).run Try.prog W = .ok (.agg #[.slice none 0 0, .int .i64 0, .int .u16 0, .int .u16 0]) W := by kernel_rfl

set_option maxHeartbeats 1000000 in
set_option maxRecDepth 100000 in
theorem new_bad (ao : Option Addr) (n cap : Nat) (w : World) (hn : n < 1 ∨ 4096 < n) :
    Calls Try.prog 23 #[.slice ao n cap] w fun e w' => e = .returned (.tuple #[.pointer none, .int .i64 1]) ∧ w' = w := by
  rcases hn with hn | hn
  · obtain rfl : n = 0 := by omega
    go_enter Try.func23, Try.ntmps23
    go_wp2
    go_ret2
    exact ⟨rfl, rfl⟩
  · go_enter Try.func23, Try.ntmps23
    go_wp2
    go_ret2
    exact ⟨rfl, rfl⟩

set_option maxHeartbeats 1000000 in
set_option maxRecDepth 100000 in
theorem new_ok (ao : Option Addr) (n cap : Nat) (xs : List UInt8) (w : World) (hx : xs.length = n) (h1 : 1 ≤ n) (h2 : n ≤ 4096) (h : Sl w ao xs) :
    Calls Try.prog 23 #[.slice ao n cap] w fun e w' => ∃ p g, e = .returned (.tuple #[.pointer (some ⟨p, 0, none⟩), .int .i64 0]) ∧ Ro w' p g xs ∧ w.heap.size ≤ p ∧ w.heap.size ≤ g ∧ Kept [] w w' := by
  have HX : Hid (xs.length = n) := hx
  have HS : Hid (Sl w ao xs) := h
  have hnn : ao = none → xs = [] ∧ cap = 0 := fun e => by
    obtain ⟨b, off, e', _⟩ := h 0 (by omega)
    rw [e] at e'; cases e'
  have ha := Rol.pa_lt xs
  have hb := Rol.pb_lt xs
  clear hx h
  go_enter Try.func23, Try.ntmps23
  go_wp2_with (first | (go_at_call 28; refine (clone_own ao n cap xs _ HX.out (by rw [HX.out]; omega) HS.out hnn).mono ?_; rintro e w1 ⟨ao1, cap1, rfl, how1, hk1⟩; have HW1 : Hid (w1.ownsRow w.heap.size 5 1 (.slice ao1 n cap1) n (bys xs)) := how1; clear how1; have HS1 : Hid (Sl w1 ao xs) := HS.out.kept hk1 (by simp)) | (go_at_call 21; refine (partsOf_n ao n cap xs _ HX.out (by omega) HS1.out).mono ?_; rintro e w2 ⟨rfl, hk2⟩))
  go_ret2
  have hne : (Value.slice ao1 n cap1) ≠ .slice none 0 0 := by intro e; cases e; omega
  obtain ⟨g, cp, e1, hg1, hg2, hg3, hc, hfz⟩ := own_open HW1.out hne
  cases e1
  have hk : Kept [] w2 (w2.alloc (.cells #[.slice (some ⟨g, 0, none⟩) n cap1, .int .i64 0, .int .u16 (Rol.pa xs), .int .u16 (Rol.pb xs)] 49)) := (Kept.refl _ _).alloc _
  have hk3 := hk2.trans hk (by simp)
  refine ⟨w2.heap.size, g, rfl, ⟨cap1, 0, xs, ?_, wnd_zero xs⟩, Nat.le_trans hk1.size hk2.size, hg1, hk1.trans hk3 (by simp)⟩
  have hgl : g < w2.heap.size := Nat.lt_of_lt_of_le hg2 hk2.size
  refine ⟨by rw [HX.out]; simp, by simp, by simp [wnd_zero], by simp [wnd_zero], fun i => by simp, fun i hi => hk3.cellOf (hc i hi) (by simp), fun i => (hk3.frozen (p := ⟨g, i, none⟩) hg2 (by simp)).trans (hfz i), by omega, by rw [HX.out]; omega, by rw [HX.out]; omega, by rw [HX.out]; omega⟩

/-- A zero Roll at block p. -/
structure Rz (w : World) (p : Nat) : Prop where
  c0 : w.cell? ⟨p, 0, none⟩ = some (.slice none 0 0)
  c2 : w.cell? ⟨p, 2, none⟩ = some (.int .u16 0)
  c3 : w.cell? ⟨p, 3, none⟩ = some (.int .u16 0)

theorem Rz.kept {l : List Nat} {w w' : World} {p : Nat} (h : Rz w p) (hk : Kept l w w') (hp : p ∉ l) : Rz w' p :=
  ⟨hk.cellOf h.c0 hp, hk.cellOf h.c2 hp, hk.cellOf h.c3 hp⟩

set_option maxHeartbeats 1000000 in
set_option maxRecDepth 100000 in
theorem rollSum_zero {w : World} {p : Nat} (h : Rz w p) :
    Calls Try.prog 15 #[.pointer (some ⟨p, 0, none⟩)] w fun e w' => e = .returned (.int .i64 0) ∧ Kept [] w w' := by
  have c2 := h.c2
  have c3 := h.c3
  clear h
  go_enter Try.func15, Try.ntmps15
  go_wp2_with (go_at_call 22; refine (psum_any 0 0 _ (by omega) (by omega)).mono ?_; rintro e w2 ⟨rfl, hk2⟩)
  go_ret
  exact ⟨rfl, hk2⟩

set_option maxHeartbeats 1000000 in
set_option maxRecDepth 100000 in
theorem rollPush_zero {w : World} {p : Nat} (h : Rz w p) (c : Int) :
    Calls Try.prog 16 #[.pointer (some ⟨p, 0, none⟩), .int .u8 c] w fun e w' => e = .returned (.int .u8 0) ∧ w' = w := by
  have c0 := h.c0
  clear h
  go_enter Try.func16, Try.ntmps16
  go_wp2
  go_ret
  exact ⟨rfl, rfl⟩

end Go.Proofs.Ytjfekdcghgpchaa
