/-
  Contracts: code.Reader, the small ones.
-/
import Derived.Test.YtjogfpogdjhglaaDoorProg
import Derived.Test.YtjogfpogdjhglaaDoorMem
import Derived.Deep.QuietTactic
import Derived.BigQuiet
namespace Go.Proofs.YtjogfpogdjhglaaDoor
open Go.RowKit
set_option linter.unusedVariables false

theorem ret_int {k : IntKind} {a b : Int} (h : a = b) : Ending.returned (.int k a) = .returned (.int k b) := by rw [h]

/-- A Reader lies at the head of block b: its error and place, its data, where it stands. -/
structure Rd (w : World) (b : Nat) (e p : Int) (ao : Option Addr) (cap : Nat) (xs : List UInt8) (at_ : Nat) : Prop where
  c0 : w.cell? ⟨b, 0, none⟩ = some (.int .i64 e)
  c1 : w.cell? ⟨b, 1, none⟩ = some (.int .i64 p)
  c2 : w.cell? ⟨b, 2, none⟩ = some (.slice ao xs.length cap)
  c3 : w.cell? ⟨b, 3, none⟩ = some (.int .i64 at_)
  f0 : w.frozen? ⟨b, 0, none⟩ = false
  f1 : w.frozen? ⟨b, 1, none⟩ = false
  f3 : w.frozen? ⟨b, 3, none⟩ = false
  le : at_ ≤ xs.length
  lc : xs.length ≤ cap
  small : xs.length ≤ 140737488355328
  sl : Sl w ao xs
  nil : ao = none → xs = [] ∧ cap = 0
  spot : ∀ a, ao = some a → a.spot = none
  apart : ∀ a, ao = some a → a.block ≠ b

theorem Rd.kept {l : List Nat} {w w' : World} {b : Nat} {e p : Int} {ao : Option Addr} {cap : Nat} {xs : List UInt8} {at_ : Nat} (h : Rd w b e p ao cap xs at_) (hk : Kept l w w') (hn : b ∉ l) (hs : xs ≠ [] → ∀ a, ao = some a → a.block ∉ l) : Rd w' b e p ao cap xs at_ := by
  have hb := World.block_lt_of_cell? _ _ h.c0
  exact ⟨hk.cellOf h.c0 hn, hk.cellOf h.c1 hn, hk.cellOf h.c2 hn, hk.cellOf h.c3 hn, (hk.frozen (p := ⟨b, 0, none⟩) hb hn).trans h.f0, (hk.frozen (p := ⟨b, 1, none⟩) hb hn).trans h.f1, (hk.frozen (p := ⟨b, 3, none⟩) hb hn).trans h.f3, h.le, h.lc, h.small, h.sl.kept hk hs, h.nil, h.spot, h.apart⟩

theorem Rd.lt {w : World} {b : Nat} {e p : Int} {ao : Option Addr} {cap : Nat} {xs : List UInt8} {at_ : Nat} (h : Rd w b e p ao cap xs at_) : b < w.heap.size := World.block_lt_of_cell? _ _ h.c0

theorem Rd.drewN {w : World} {b : Nat} {e p : Int} {ao : Option Addr} {cap : Nat} {xs : List UInt8} {at_ : Nat} (h : Rd w b e p ao cap xs at_) (n : Nat) : Rd (w.drewN n) b e p ao cap xs at_ :=
  h.kept ((Kept.refl [] w).drewN n) (by simp) (by simp)

/-- It stands elsewhere. -/
theorem Rd.moved {w : World} {b : Nat} {e p : Int} {ao : Option Addr} {cap : Nat} {xs : List UInt8} {at_ : Nat} (h : Rd w b e p ao cap xs at_) (n : Nat) (hn : n ≤ xs.length) :
    Rd (w.setCell ⟨b, 3, none⟩ (.int .i64 n)) b e p ao cap xs n := by
  refine ⟨?_, ?_, ?_, ?_, ?_, ?_, ?_, hn, h.lc, h.small, ?_, h.nil, h.spot, h.apart⟩
  · rw [World.cell?_setCell_other _ _ _ _ (by simp)]; exact h.c0
  · rw [World.cell?_setCell_other _ _ _ _ (by simp)]; exact h.c1
  · rw [World.cell?_setCell_other _ _ _ _ (by simp)]; exact h.c2
  · exact World.cell?_setCell_same _ _ _ h.c3
  · rw [World.frozen?_setCell]; exact h.f0
  · rw [World.frozen?_setCell]; exact h.f1
  · rw [World.frozen?_setCell]; exact h.f3
  · exact h.sl.kept ((Kept.refl [b] w).setCell (by simp) _) (fun _ a ha => by simpa using h.apart a ha)

/-- It is spoilt. -/
theorem Rd.refused {w : World} {b : Nat} {e p : Int} {ao : Option Addr} {cap : Nat} {xs : List UInt8} {at_ : Nat} (h : Rd w b e p ao cap xs at_) (e' p' : Int) :
    Rd ((w.setCell ⟨b, 0, none⟩ (.int .i64 e')).setCell ⟨b, 1, none⟩ (.int .i64 p')) b e' p' ao cap xs at_ := by
  refine ⟨?_, ?_, ?_, ?_, ?_, ?_, ?_, h.le, h.lc, h.small, ?_, h.nil, h.spot, h.apart⟩
  · rw [World.cell?_setCell_other _ _ _ _ (by simp)]; exact World.cell?_setCell_same _ _ _ h.c0
  · refine World.cell?_setCell_same _ _ _ (u := .int .i64 p) ?_
    rw [World.cell?_setCell_other _ _ _ _ (by simp)]; exact h.c1
  · rw [World.cell?_setCell_other _ _ _ _ (by simp), World.cell?_setCell_other _ _ _ _ (by simp)]; exact h.c2
  · rw [World.cell?_setCell_other _ _ _ _ (by simp), World.cell?_setCell_other _ _ _ _ (by simp)]; exact h.c3
  · rw [World.frozen?_setCell, World.frozen?_setCell]; exact h.f0
  · rw [World.frozen?_setCell, World.frozen?_setCell]; exact h.f1
  · rw [World.frozen?_setCell, World.frozen?_setCell]; exact h.f3
  · exact h.sl.kept (((Kept.refl [b] w).setCell (by simp) _).setCell (by simp) _) (fun _ a ha => by simpa using h.apart a ha)

theorem kept_moved (w : World) (b n : Nat) (v : Value) : Kept [b] w ((w.drewN n).setCell ⟨b, 3, none⟩ v) := ((Kept.refl [b] w).drewN n).setCell (by simp) _
theorem kept_refused (w : World) (b n : Nat) (u v : Value) : Kept [b] w (((w.drewN n).setCell ⟨b, 0, none⟩ u).setCell ⟨b, 1, none⟩ v) := (((Kept.refl [b] w).drewN n).setCell (by simp) _).setCell (by simp) _

set_option maxHeartbeats 400000 in
theorem left_nil (w : World) :
    Calls Tryd.prog 35 #[.pointer none] w fun e' w' => e' = .returned (.int .i64 0) ∧ w' = w := by
  go_enter Tryd.func35, Tryd.ntmps35
  go_wp2
  go_ret
  exact ⟨rfl, rfl⟩

set_option maxHeartbeats 400000 in
theorem left_bad {w : World} {b : Nat} {e p : Int} {ao : Option Addr} {cap : Nat} {xs : List UInt8} {at_ : Nat} (h : Rd w b e p ao cap xs at_) (he : e ≠ 0) :
    Calls Tryd.prog 35 #[.pointer (some ⟨b, 0, none⟩)] w fun e' w' => e' = .returned (.int .i64 0) ∧ w' = w := by
  have h0 := h.c0
  have hne : (e != 0) = true := by simpa using he
  clear h
  go_enter Tryd.func35, Tryd.ntmps35
  go_wp2
  go_ret
  exact ⟨rfl, rfl⟩

set_option maxHeartbeats 400000 in
theorem left_ok {w : World} {b : Nat} {p : Int} {ao : Option Addr} {cap : Nat} {xs : List UInt8} {at_ : Nat} (h : Rd w b 0 p ao cap xs at_) :
    Calls Tryd.prog 35 #[.pointer (some ⟨b, 0, none⟩)] w fun e' w' => e' = .returned (.int .i64 (xs.length - at_ : Nat)) ∧ ∃ n, w' = w.drewN n := by
  have h0 := h.c0
  have h2 := h.c2
  have h3 := h.c3
  have hs := h.small
  have hl := h.le
  have hlc := h.lc
  clear h
  go_enter Tryd.func35, Tryd.ntmps35
  go_wp2
  go_quiet (fail)
  go_wp2
  go_ret
  exact ⟨ret_int (by omega), _, rfl⟩

set_option maxHeartbeats 400000 in
theorem err_nil (w : World) :
    Calls Tryd.prog 45 #[.pointer none] w fun e' w' => e' = .returned (.tuple #[.int .i64 0, .int .i64 0]) ∧ w' = w := by
  go_enter Tryd.func45, Tryd.ntmps45
  go_wp2
  go_ret2
  exact ⟨rfl, rfl⟩

set_option maxHeartbeats 400000 in
theorem err_any {w : World} {b : Nat} {e p : Int} {ao : Option Addr} {cap : Nat} {xs : List UInt8} {at_ : Nat} (h : Rd w b e p ao cap xs at_) :
    Calls Tryd.prog 45 #[.pointer (some ⟨b, 0, none⟩)] w fun e' w' => e' = .returned (.tuple #[.int .i64 e, .int .i64 p]) ∧ ∃ n, w' = w.drewN n := by
  have h0 := h.c0
  have h1 := h.c1
  clear h
  go_enter Tryd.func45, Tryd.ntmps45
  go_wp2
  go_quiet (fail)
  go_wp2
  go_ret2
  exact ⟨rfl, _, rfl⟩

set_option maxHeartbeats 400000 in
/-- first.refuse where nothing went wrong yet. -/
theorem refuse_ok (b : Nat) (p e' p' : Int) (w : World) (h0 : w.cell? ⟨b, 0, none⟩ = some (.int .i64 0)) (h1 : w.cell? ⟨b, 1, none⟩ = some (.int .i64 p)) (f0 : w.frozen? ⟨b, 0, none⟩ = false) (f1 : w.frozen? ⟨b, 1, none⟩ = false) :
    Calls Tryd.prog 28 #[.pointer (some ⟨b, 0, none⟩), .int .i64 e', .int .i64 p'] w fun r w' => r = .returned (.tuple #[]) ∧ w' = (w.setCell ⟨b, 0, none⟩ (.int .i64 e')).setCell ⟨b, 1, none⟩ (.int .i64 p') := by
  go_enter Tryd.func28, Tryd.ntmps28
  go_wp2
  go_end0
  exact ⟨rfl, rfl⟩

set_option maxHeartbeats 400000 in
theorem rclosed_ok (b : Nat) (w : World) (h0 : w.cell? ⟨b, 0, none⟩ = some (.int .i64 0)) :
    Calls Tryd.prog 42 #[.pointer (some ⟨b, 0, none⟩)] w fun e w' => e = .returned (.bool false) ∧ w' = w := by
  go_enter Tryd.func42, Tryd.ntmps42
  go_wp2
  go_ret
  exact ⟨rfl, rfl⟩

set_option maxHeartbeats 400000 in
theorem spoilt_any (b : Nat) (e0 : Int) (w : World) (h : w.cell? ⟨b, 0, none⟩ = some (.int .i64 e0)) :
    Calls Tryd.prog 41 #[.pointer (some ⟨b, 0, none⟩)] w fun e w' => e = .returned (.bool (e0 != 0)) ∧ w' = w := by
  go_enter Tryd.func41, Tryd.ntmps41
  go_wp2
  go_ret
  exact ⟨rfl, rfl⟩

end Go.Proofs.YtjogfpogdjhglaaDoor
