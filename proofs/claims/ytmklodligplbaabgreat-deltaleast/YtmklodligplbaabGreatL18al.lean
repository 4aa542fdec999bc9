import Derived.Test.YtmklodligplbaabGreatD9vl
import Derived.Laws.OwnMore
import Derived.Laws.AppendOwnNone
import Derived.Maps.AppendAt
namespace Go.Proofs.YtmklodligplbaabGreat
section
open Go.RowKit
open Dlt
set_option linter.unusedVariables false
set_option linter.unusedSimpArgs false
theorem wpList_app_run {ops : Array Oper} {rest : List Oper} {o : Oper} {a : Act} {w : World} {Q : Exit → Act → World → Prop} (hg : o.guard = none) (s x : Operand) (t t2 : TypeId) (ho : o.op = .call { callee := .builtin .append, args := #[s, x], argTypes := #[t, t2] }) (vs vx : Value) (hs : a.eval s = vs) (hx : a.eval x = vx) (v' : Value) (w' : World)
  (hrun : (Builtin.append_ #[t, t2] o.type #[vs, vx]).run Tryz.prog w = .ok v' w') (hK : wpList Tryz.prog ops Q rest (a.put o.dst v') w') : wpList Tryz.prog ops Q (o :: rest) a w :=
 wpList_appendRunL hg s x t t2 ho vs vx hs hx hrun hK
theorem Tryz.cutBy (W : World) (ao : Option Addr) (L cap m : Nat) (hm : m ≤ cap) :
  (Instr.slice 27 (.slice ao L cap) none (some (.int .i64 m)) none).run Tryz.prog W = .ok (.slice ao m cap) W := by
 have hz : (sizeOf (Tryz.prog.elem 27)).run Tryz.prog W = .ok 1 W := by kernel_rfl
 have h := run_slice_h (P := Tryz.prog) W 27 ao L cap (by kernel_rfl) .i64 m (by omega) (by omega)
 rw [h, hz]
 cases ao <;> simp [sliced, Addr.add]
end

section
open Go.RowKit
open Dlt
set_option linter.unusedVariables false
set_option linter.unusedSimpArgs false
theorem OwnW.add {w : World} {base : Nat} {v : Value} {L : List Wk} (h : OwnW w base v L) (hb : base ≤ w.heap.size) (N : Nat) (e : Wk) (hN : w.rangeAt N 0 e.cells) (hl : L.length ≤ 1000000) :
  ∃ v' w', (Builtin.append_ #[24, 24] 24 #[v, .slice (some ⟨N, 0, none⟩) 1 1]).run Tryz.prog w = .ok v' w' ∧ OwnW w' base v' (L ++ [e]) ∧ Kept v.ownBlock.toList w w' := by
 obtain ⟨i0, hi, hz0, hz1, hz2⟩ := info_parts Tryz.infoWeak
 obtain ⟨v', w', hrun, h4, h5, _, _⟩ := run_append_own_at (P := Tryz.prog) w base 24 24 62 i0 (.agg zeroK) 33 40 Tryz.underlying24 hi hz0 hz1 hz2 rfl (by decide) v _ _ h ⟨N, 0, none⟩ 1 1 e.cells (by rw [e.len]) (fun j u hv => by
   rw [Addr.add_mid]; exact hN j u hv) (wk_one e) (by unfold maxLen; omega) (by omega) hb
 refine ⟨v', w', hrun, ?_, (Kept.refl _ w).grown h5 (fun g hg _ => by rw [hg]; simp)⟩
 unfold OwnW
 rw [List.length_append, wrows_app, show wrows [e] = e.cells by simp [wrows]]
 exact h4
set_option maxHeartbeats 1600000 in
theorem rsized_ok (x z : Int) (w : World) :
  Calls Tryz.prog 35 #[.int .i64 x, .int .i64 z] w fun e w' => e = .returned (.bool (isW x && isZ z)) ∧ w' = w := by
 have HR : Hid ((isW x && isZ z) = (decide (1 ≤ x) && decide (x ≤ 32) && decide (16 ≤ z) && decide (z ≤ 4096))) := by
  show _ = _
  rw [Bool.eq_iff_iff]
  simp only [Bool.and_eq_true, decide_eq_true_eq, isW, isZ, Dlt.within_iff]
  omega
 by_cases h1 : 1 ≤ x <;> by_cases h2 : x ≤ 32 <;> by_cases h3 : 16 ≤ z <;> by_cases h4 : z ≤ 4096 <;>
  (go_enter Tryz.func35, Tryz.ntmps35; go_wp2; go_ret; exact ⟨by rw [HR.out]; simp [h1, h2, h3, h4], rfl⟩)
end

end Go.Proofs.YtmklodligplbaabGreat
