import Derived.Test.YtmklodligplbaaaGreatL18um
import Derived.Test.YtmklodligplbaaaGreatDr2m
open Go.RowKit
set_option linter.unusedVariables false
set_option linter.unusedSimpArgs false
set_option maxRecDepth 100000
set_option maxHeartbeats 51200000
namespace Go.Proofs.YtmklodligplbaaaGreat
open Dlt
theorem cut_both {w : World} {ao : Option Addr} {L cap : Nat} {xs : List UInt8} (hx : InB8 w ao L cap xs) (l h m : Nat) (hm : l + m = h) (h2 : h <= L) :
  ∃ ao' c', (∀ W, (Instr.slice 22 (.slice ao L cap) (some (.int .i64 l)) (some (.int .i64 h)) none).run Tryz.prog W = .ok (.slice ao' m c') W) ∧ InB8 w ao' m c' ((xs.drop l).take m) := by
 have hle := hx.le
 have hml : ((xs.drop l).take m).length = m := by rw [List.length_take, List.length_drop, hx.len]; omega
 have hz : ∀ W, (sizeOf (Tryz.prog.elem 22)).run Tryz.prog W = .ok 1 W := fun W => by kernel_rfl
 have hr := fun W => run_slice_lh (P := Tryz.prog) W 22 ao L cap (by kernel_rfl) .i64 .i64 l h (by omega) (by omega) (by omega)
 by_cases h0 : ao = none
 ·obtain ⟨hn1, hn2⟩ := hx.nil h0
  subst h0
  have hL := hx.len
  rw [hn1] at hL hml ⊢
  simp at hL hml
  obtain rfl : m = 0 := by omega
  refine ⟨none, 0, fun W => ?_, inB8_nil w⟩
  rw [hr W, hz W]
  simp [sliced]
  omega
 ·by_cases hc : cap = l
  ·obtain rfl : m = 0 := by omega
   refine ⟨ao, 0, fun W => ?_, ⟨hml, by omega, by omega, fun i hi => by rw [hml] at hi; omega, fun e => absurd e h0⟩⟩
   rw [hr W, hz W]
   simp [sliced, hc]
   omega
  ·cases ao with
   | none => exact absurd rfl h0
   | some a =>
    refine ⟨some (a.add l), cap - l, fun W => ?_, ⟨hml, by omega, by have := hx.max; omega, ?_, fun e => by cases e⟩⟩
    ·rw [hr W, hz W]
     simp [sliced, hc]
     omega
    ·by_cases hne : xs = []
     ·subst hne; simp; exact Sl.nil _ _
     ·obtain ⟨b, off, e, _, _⟩ := hx.sl.open hne
      injection e with e
      subst e
      rw [Addr.add_mid]
      have := hx.sl
      exact this.cut l m (by rw [hx.len]; omega)
end Go.Proofs.YtmklodligplbaaaGreat
