/-
  Contract: freightlaw8.kept.
-/
import Derived.Test.YtdeneflgldagpaaZz
namespace Go.Proofs.Ytdeneflgldagpaa
open Go.RowKit Go.Sort
set_option linter.unusedVariables false
set_option linter.unusedSimpArgs false

theorem wpList_buildRun {ops : Array Oper} {rest : List Oper} {o : Oper} {a : Act} {w : World} {Q : Exit → Act → World → Prop} (hgd : o.guard = none) (t : TypeId) (parts : Array (Nat × Operand)) (ho : o.op = .build t parts) (vals : Array (Nat × Value)) (hv : (parts.map fun (i, x) => (i, a.eval x)) = vals) (v : Value) (hrun : (Instr.build t vals).run Try.prog w = .ok v w)
    (h : wpList Try.prog ops Q rest (a.put o.dst v) w) : wpList Try.prog ops Q (o :: rest) a w :=
  wpList_plain hgd fun _ hK => by
    unfold Oper.wp execOp
    simp only [ho, hv, Sem.run_bind, hrun, Result.andThen_ok]
    exact hK _ _ h

set_option maxHeartbeats 1600000 in
set_option maxRecDepth 100000 in
theorem kept_ok (g n bc : Nat) (bo : Option Addr) (L : List Res) (w : World) (hn : L.length = n) (hW : Ress w (some ⟨g, 0, none⟩) (L ++ marks)) (hL : Ress w bo L) (hm : n ≤ 4611686018427387800) :
    Calls Try.prog 15 #[.slice (some ⟨g, 0, none⟩) (n + 3) (n + 3), .slice bo n bc] w fun r w' => r = .returned (.bool true) ∧ Kept [] w w' := by
  have HN := hide hn
  have HW := hide hW
  have HL := hide hL
  clear hn hW hL
  have hbm : ∀ W, (Instr.build 39 #[(2, .int .i64 (-77))]).run Try.prog W = .ok (.agg mark.cells.toArray) W := fun W => by kernel_rfl
  have heq : ∀ W, (Op.equalIn 10000 39 (.agg mark.cells.toArray) (.agg mark.cells.toArray)).run Try.prog W = .ok true W := fun W => by rw [Try.eqlRes]; simp
  have i1 : (Try.prog.info? 39).map (·.size) = some mark.cells.length := by kernel_rfl
  go_enter Try.func15, Try.ntmps15
  go_wp2
  go_loopw [5] (fun x wr => ∃ k : Nat, n ≤ k ∧ k ≤ n + 3 ∧ x = .int .i64 k ∧ Hid (Kept [] w wr)) (fun x wr => n + 3 - (intOf x).toNat)
  case atStart => exact ⟨n, Nat.le_refl _, by omega, rfl, Kept.refl _ _⟩
  case round =>
    obtain ⟨k, hk1, hk, rfl, HK⟩ := hrel
    by_cases hlt : k < n + 3
    · obtain ⟨_, _, e, hr⟩ := (HW.out.kept HK.out (by simp)) k (by simp only [List.length_append, marks, List.length_cons, List.length_nil, HN.out]; omega)
      cases e
      have hge : (L ++ marks).getD k res0 = mark := by
        simp only [List.getD]
        rw [List.getElem?_append_right (by rw [HN.out]; omega), HN.out]
        have : k - n = 0 ∨ k - n = 1 ∨ k - n = 2 := by omega
        rcases this with h | h | h <;> rw [h] <;> rfl
      rw [hge, Nat.zero_add] at hr
      clear hge
      have hbw := hbm wr
      clear hbm
      go_wp2_with (first | refine wpList_load_mid rfl 39 (.tmp 16) rfl g (k * 65) rfl mark.cells _ hr Try.underlying39 rfl i1 ?_ | refine wpList_buildRun rfl 39 #[(2, .const (.int .i64 (-77)))] rfl #[(2, .int .i64 (-77))] (by simp [Act.eval]) (.agg mark.cells.toArray) hbw ?_)
      go_roundw
      case rel => exact ⟨k + 1, by omega, by omega, by go_num, HK.out⟩
      case measure => simp [intOf]; omega
    · have hcut := fun W => Try.cutHi W (some ⟨g, 0, none⟩) (n + 3) (n + 3) n (by omega)
      have hlk := like_ok (some ⟨g, 0, none⟩) bo n (n + 3) n bc L L wr HN.out HN.out (by have := (HW.out.kept HK.out (by simp)).take n; rwa [List.take_append_of_le_length (by rw [HN.out]; exact Nat.le_refl _), List.take_of_length_le (by rw [HN.out]; exact Nat.le_refl _)] at this) (HL.out.kept HK.out (by simp)) (by omega)
      simp only [decide_true] at hlk
      go_wp2_with (go_at_call 20; refine hlk.mono ?_; rintro r w2 ⟨rfl, hk2⟩; have HK2 := hide hk2; clear hk2 hlk)
      go_ret
      exact ⟨rfl, HK.out.trans HK2.out (by simp)⟩
end Go.Proofs.Ytdeneflgldagpaa
