/-
  append of a row, nil or not: its run.
-/
import Derived.Test.YthfbpbibpgblaaaPh2
import Derived.Laws.AppendOwnNone
namespace Go.Proofs.Ythfbpbibpgblaaa
open Go.RowKit
set_option linter.unusedVariables false
set_option linter.unusedSimpArgs false

theorem run_append_row (w : World) (base g k cap : Nat) (xs : List UInt8)
    (hown : w.ownsRow base 5 1 (.slice (some ⟨g, 0, none⟩) k cap) k (bys xs)) (da : Option Addr) (m dc : Nat) (ds : List UInt8) (hsl : Sl w da ds) (hm : ds.length = m) (hnl : da = none → ds = [] ∧ dc = 0) (b1 : k + m ≤ 140737488351232) (hbase : base ≤ w.heap.size) :
    ∃ g' c' w', (Builtin.append_ #[31, 31] 31 #[.slice (some ⟨g, 0, none⟩) k cap, .slice da m dc]).run Try.prog w = .ok (.slice (some ⟨g', 0, none⟩) (k + m) c') w' ∧ w'.ownsRow base 5 1 (.slice (some ⟨g', 0, none⟩) (k + m) c') (k + m) (bys (xs ++ ds)) ∧ w.grownBy w' (some g) := by
  obtain ⟨i0, hi, hz0, hz1, hz2⟩ := info_parts Try.infoByte
  cases da with
  | none =>
    obtain ⟨rfl, rfl⟩ := hnl rfl
    subst hm
    have hkc : k ≤ cap := by
      rcases hown.2 with ⟨hv, _⟩ | ⟨g', c', cur, hv, _, _, hn, _⟩
      · cases hv
      · cases hv; exact hn
    refine ⟨g, cap, w, ?_, by simpa using hown, World.grownBy.refl w _⟩
    have hk' : ¬ cap < k := by omega
    simp [Builtin.append_, run_underlying Try.underlying31, sizeOf, typeInfo, hi, Builtin.lenOf, hkc, Builtin.firstCells, storeCells]
  | some ad =>
    obtain ⟨v', w', hrun, h1, h2, h3⟩ := run_append_own (P := Try.prog) w base 31 31 5 i0 (.int .u8 0) 1 1 Try.underlying31 hi hz0 hz1 hz2 rfl (by decide) _ k (bys xs) hown ad m dc (bys ds) (by rw [bys_length, hm, Nat.mul_one]) (src_of hsl) (bys_oneCell _) (by unfold maxLen; omega) (by omega) hbase
    rw [← bys_append] at h1
    obtain ⟨g', c', hv, _⟩ := own_sl h1 (fun e => by have := (h3.1 e).1; cases this)
    subst hv
    exact ⟨g', c', w', hrun, h1, h2⟩

/-- append, its run known. -/
theorem wp_append_run {P : Program} {o : Oper} {a : Act} {w : World} {K : Act → World → Prop} {Q : Exit → Act → World → Prop} (s x : Operand) (t : TypeId) (ho : o.op = .call { callee := .builtin .append, args := #[s, x], argTypes := #[t, t] }) (vs vx : Value) (hs : a.eval s = vs) (hx : a.eval x = vx) (v' : Value) (w' : World)
    (hrun : (Builtin.append_ #[t, t] o.type #[vs, vx]).run P w = .ok v' w') (hK : K (a.put o.dst v') w') : o.wp P a w K Q := by
  unfold Oper.wp execOp
  simp only [ho, resolve, invoke, builtin, Sem.run_bind, Sem.run_pure, Result.andThen_ok, List.map_toArray, List.map_cons, List.map_nil, hs, hx, hrun]
  exact hK

end Go.Proofs.Ythfbpbibpgblaaa
