/-
  A few results, and what the calls make of them.
-/
import Derived.Test.YtmhnjhnnaciokaaZt
namespace Go.Proofs.Ytmhnjhnnaciokaa
open Go.RowKit Go.Sort
set_option linter.unusedVariables false
set_option linter.unusedSimpArgs false

def aA : List UInt8 := 1 :: List.replicate 31 0
def rA : Res := ⟨aA, List.replicate 32 0, 7, rfl, rfl, rfl⟩
def rB : Res := ⟨aA, List.replicate 32 0, 256, rfl, rfl, rfl⟩
def rC : Res := ⟨aA, List.replicate 32 0, 9, rfl, rfl, rfl⟩
theorem vA : Tb.valid [rA] = true := by decide
theorem vB : Tb.valid [rA, rB] = false := by decide
theorem vC : Tb.valid [rC] = true := by decide
theorem eA : Tb.encd [rA] = 1 :: (aA ++ List.replicate 32 0 ++ [7]) := by unfold Tb.encd; rw [vA]; rfl
theorem eB : Tb.encd [rA, rB] = [] := by unfold Tb.encd; rw [vB]; rfl
theorem cmpAA : Lib.compareBytes aA aA = 0 := cmp_self aA
theorem wE : Tb.withE [rA] rC = 0 := by decide
theorem wL : Tb.withL [rA] rC = [rC] := by
  unfold Tb.withL
  rw [wE]
  decide
theorem jF : Tb.join [rA] [rC] 3 = ([], [aA], 150) := by
  have hcf : Tb.cf rA rC = 0 := cmpAA
  have hne : ¬ rA = rC := by decide
  have hu : Tb.uni (Tb.setl 3) (Tb.sete 3) [rA] [rC] ([], [], 0) = ([], [aA], 150) := by
    rw [Tb.uni_eq _ _ _ _ _ _ _ hcf, Tb.uni_left]
    simp [Tb.both, hne, Tb.sete]
    rfl
  unfold Tb.join
  rw [if_neg (by omega), if_neg (by rw [vA, vC]; simp), hu]
  rfl
theorem jN : Tb.join [rB] [rA] 4 = ([], [], 1) := by
  unfold Tb.join
  rw [if_pos (by omega)]
theorem fill130 : Instr.fill (fun i => some (i * 65, 65)) ((Array.range (2 * 65)).map ((Value.agg zeroR).cells[· % (Value.agg zeroR).cells.size]!)) [(0, .agg rA.cells.toArray), (1, .agg rB.cells.toArray)] = some (rA.cells ++ rB.cells).toArray := by kernel_rfl
theorem wpList_build2 {ops : Array Oper} {rest : List Oper} {o : Oper} {a : Act} {w : World} {Q : Exit → Act → World → Prop} (hg : o.guard = none) (x y : Operand) (ho : o.op = .buildSlice 22 2 #[(0, x), (1, y)]) (hx : a.eval x = .agg rA.cells.toArray) (hy : a.eval y = .agg rB.cells.toArray)
    (h : wpList Try.prog ops Q rest (a.put o.dst (.slice (some ⟨w.heap.size, 0, none⟩) 2 2)) (w.alloc (.cells (rA.cells ++ rB.cells).toArray 26))) : wpList Try.prog ops Q (o :: rest) a w := by
  obtain ⟨i0, hi, hz0, hz1, hz2⟩ := info_parts Try.infoRes
  refine wpList_buildSlice hg 22 26 2 #[(0, x), (1, y)] ho (rA.cells ++ rB.cells).toArray i0 (.agg zeroR) Try.underlying22 hi hz0 (by rw [hz1]; decide) (by rw [hz1]; decide) ?_ h
  rw [hz1]
  have : (#[(0, x), (1, y)].map fun (i, x) => (i, a.eval x)).toList = [(0, .agg rA.cells.toArray), (1, .agg rB.cells.toArray)] := by simp [hx, hy]
  rw [this]
  exact fill130
theorem two_ress {w : World} {g : Nat} {t : TypeId} {f : Nat × Nat} (h : w.heap[g]? = some (.cells (rA.cells ++ rB.cells).toArray t f)) : Ress w (some ⟨g, 0, none⟩) [rA, rB] := by
  have hl : rA.cells.length = 65 := rA.len
  intro i hi
  refine ⟨g, 0, rfl, fun j v hv => ?_⟩
  rw [cell_of_row _ _ _ _ _ _ h, List.getElem?_toArray]
  rcases i with _ | _ | i
  · have hj := (List.getElem?_eq_some_iff.1 hv).1
    rw [Res.len] at hj
    rw [List.getElem?_append_left (by omega)]
    rw [show 0 + 0 * 65 + j = j by omega]
    exact hv
  · rw [List.getElem?_append_right (by omega), hl]
    rw [show 0 + (0 + 1) * 65 + j - 65 = j by omega]
    exact hv
  · simp at hi; omega
theorem Try.buildC (W : World) : (Instr.build 26 #[(0, .agg (bys aA).toArray), (2, .int .i64 9)]).run Try.prog W = .ok (.agg rC.cells.toArray) W := by kernel_rfl
end Go.Proofs.Ytmhnjhnnaciokaa
