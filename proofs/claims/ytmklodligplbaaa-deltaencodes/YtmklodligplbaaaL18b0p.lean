/-
  freightref18.sized; a block that is added to a list. (Written by tools/l18b.py.)
-/
import Derived.Test.YtmklodligplbaaaL18ap
namespace Go.Proofs.Ytmklodligplbaaa
open Go.RowKit
open Dlt
set_option linter.unusedVariables false
set_option linter.unusedSimpArgs false

theorem Try.builtW1a (f : Nat → UInt8) (x : Int) (W : World) : (Instr.buildSlice 27 1 #[(0, .agg (.int .i64 x :: bys ((List.range 32).map f)).toArray)]).run Try.prog W = .ok (.slice (some ⟨W.heap.size, 0, none⟩) 1 1) (W.alloc (.cells (.int .i64 x :: bys ((List.range 32).map f)).toArray 45)) := by kernel_rfl
theorem Try.builtW1 (e : Wk) (W : World) : (Instr.buildSlice 27 1 #[(0, .agg e.cells.toArray)]).run Try.prog W = .ok (.slice (some ⟨W.heap.size, 0, none⟩) 1 1) (W.alloc (.cells e.cells.toArray 45)) := by
  have h := Try.builtW1a (fun i => e.id.getD i 0) e.sum W
  rw [range32 e.hid] at h
  exact h
/-- append(list, block). -/
theorem OwnW.add {w : World} {base : Nat} {v : Value} {L : List Wk} (h : OwnW w base v L) (hb : base ≤ w.heap.size) (N : Nat) (e : Wk) (hN : w.rangeAt N 0 e.cells) (hl : L.length ≤ 1000000) :
    ∃ v' w', (Builtin.append_ #[27, 27] 27 #[v, .slice (some ⟨N, 0, none⟩) 1 1]).run Try.prog w = .ok v' w' ∧ OwnW w' base v' (L ++ [e]) ∧ Kept v.ownBlock.toList w w' := by
  obtain ⟨i0, hi, hz0, hz1, hz2⟩ := info_parts Try.infoWeak
  obtain ⟨v', w', hrun, h4, h5, _, _⟩ := run_append_own_at (P := Try.prog) w base 27 27 45 i0 (.agg zeroK) 33 40 Try.underlying27 hi hz0 hz1 hz2 rfl (by decide) v _ _ h ⟨N, 0, none⟩ 1 1 e.cells (by rw [e.len]) (fun j u hv => by
      rw [Addr.add_mid]; exact hN j u hv) (wk_one e) (by unfold maxLen; omega) (by omega) hb
  refine ⟨v', w', hrun, ?_, (Kept.refl _ w).grown h5 (fun g hg _ => by rw [hg]; simp)⟩
  unfold OwnW
  rw [List.length_append, wrows_app, show wrows [e] = e.cells by simp [wrows]]
  exact h4

theorem wp_buildSl9 {o : Oper} {a : Act} {w : World} {K : Act → World → Prop} {Q : Exit → Act → World → Prop} (t : TypeId) (n : Nat) (parts : Array (Nat × Operand)) (ho : o.op = .buildSlice t n parts) (vals : Array (Nat × Value)) (hv : (parts.map fun (i, x) => (i, a.eval x)) = vals) {v : Value} {w' : World} (hrun : (Instr.buildSlice t n vals).run Try.prog w = .ok v w') (h : K (a.put o.dst v) w') : o.wp Try.prog a w K Q := by
  unfold Oper.wp execOp
  simp only [ho, hv, Sem.run_bind, hrun, Result.andThen_ok]
  exact h
set_option maxHeartbeats 1600000 in
theorem rsized_ok (x z : Int) (w : World) :
    Calls Try.prog 26 #[.int .i64 x, .int .i64 z] w fun e w' => e = .returned (.bool (isW x && isZ z)) ∧ w' = w := by
  have HR : Hid ((isW x && isZ z) = (decide (1 ≤ x) && decide (x ≤ 32) && decide (16 ≤ z) && decide (z ≤ 4096))) := by
    show _ = _
    rw [Bool.eq_iff_iff]
    simp only [Bool.and_eq_true, decide_eq_true_eq, isW, isZ, Dlt.within_iff]
    omega
  by_cases h1 : 1 ≤ x <;> by_cases h2 : x ≤ 32 <;> by_cases h3 : 16 ≤ z <;> by_cases h4 : z ≤ 4096 <;>
    (go_enter Try.func26, Try.ntmps26; go_wp2; go_ret; exact ⟨by rw [HR.out]; simp [h1, h2, h3, h4], rfl⟩)


end Go.Proofs.Ytmklodligplbaaa
