/-
  Contract: press.places.add.
-/
import Derived.Test.YtdnbpklnkmgmkaaVe
namespace Go.Proofs.Ytdnbpklnkmgmkaa
open Go.RowKit
set_option linter.unusedVariables false
set_option linter.unusedSimpArgs false

section
variable {ops : Array Oper} {rest : List Oper} {o : Oper} {a : Act} {Q : Exit → Act → World → Prop} {P : Program}
theorem wpList_mapEntry (w : World) (hgd : o.guard = none) (m x : Operand) (t : TypeId) (ho : o.op = .mapEntry t m x) (vm vx : Value) (hm : a.eval m = vm) (hx : a.eval x = vx) (v : Value) (w' : World)
    (hrun : (Instr.mapEntry t vm vx).run P w = .ok v w') (hK : wpList P ops Q rest (a.put o.dst v) w') : wpList P ops Q (o :: rest) a w := by
  refine wpList_plain hgd fun K' hK' => ?_
  unfold Oper.wp
  simp [execOp, ho, hm, hx, hrun, Result.andThen]
  exact hK' _ _ hK
theorem wpList_entryStore (w : World) (hgd : o.guard = none) (m s x : Operand) (t : TypeId) (ho : o.op = .entryStore t m s x) (vm vs vx : Value) (hm : a.eval m = vm) (hs : a.eval s = vs) (hx : a.eval x = vx) (w' : World)
    (hrun : (Instr.entryStore t vm vs vx).run P w = .ok () w') (hK : wpList P ops Q rest (a.put o.dst undef) w') : wpList P ops Q (o :: rest) a w := by
  refine wpList_plain hgd fun K' hK' => ?_
  unfold Oper.wp
  simp [execOp, ho, hm, hs, hx, hrun, Result.andThen]
  exact hK' _ _ hK
theorem wpList_appRun (w : World) (hgd : o.guard = none) (s x : Operand) (t : TypeId) (ho : o.op = .call { callee := .builtin .append, args := #[s, x], argTypes := #[t, t] }) (vs vx : Value) (hs : a.eval s = vs) (hx : a.eval x = vx) (v' : Value) (w' : World)
    (hrun : (Builtin.append_ #[t, t] o.type #[vs, vx]).run P w = .ok v' w') (hK : wpList P ops Q rest (a.put o.dst v') w') : wpList P ops Q (o :: rest) a w := by
  refine wpList_plain hgd fun K' hK' => ?_
  exact wp_append_run s x t ho vs vx hs hx v' w' hrun (hK' _ _ hK)
theorem wpList_lookRun (w : World) (hgd : o.guard = none) (m x : Operand) (t : TypeId) (ho : o.op = .lookup t m x false) (vm vx : Value) (hm : a.eval m = vm) (hx : a.eval x = vx) (v : Value)
    (hrun : (Instr.lookup t vm vx false).run P w = .ok v w) (hK : wpList P ops Q rest (a.put o.dst v) w) : wpList P ops Q (o :: rest) a w := by
  refine wpList_plain hgd fun K' hK' => ?_
  unfold Oper.wp
  simp [execOp, ho, hm, hx, hrun, Result.andThen]
  exact hK' _ _ hK
end

theorem Pm.few {w : World} {M : Nat} {data : List UInt8} {at_ : Nat} {es : Array MapEntry} {clock : Nat} (h : Pm w M data at_ es clock) (hf : data.length < at_ + 3) : Pm w M data (at_ + 1) es clock :=
  ⟨h.row, h.stamped, fun x hx => by obtain ⟨a, b, c, e, ho⟩ := h.vals x hx; exact ⟨a, b, c, e, by rw [Prs.pls_far _ _ _ _ _ hf]; exact ho⟩, h.apart, fun a b c hne => h.full a b c (by rw [← Prs.pls_far _ _ _ _ _ hf]; exact hne)⟩

set_option maxHeartbeats 2000000 in
set_option maxRecDepth 100000 in
theorem add_ok {w : World} {M : Nat} {data : List UInt8} {at_ : Nat} {es : Array MapEntry} {clock : Nat} (h : Pm w M data at_ es clock) (pb po N pc : Nat) (hN : data.length = N) (hmax : N ≤ 4096) (hat : at_ ≤ N) (hc : ∀ i, i < data.length → w.cell? ⟨pb, po + i, none⟩ = some (.int .u8 (data.getD i 0).toNat)) :
    Calls Try.prog 47 #[.map (some M), .slice (some ⟨pb, po, none⟩) N pc, .int .i64 at_] w fun e w' => e = .returned (.tuple #[]) ∧ (∃ es' clock', Pm w' M data (at_ + 1) es' clock') ∧ Ch 3 M w w' ∧ Below M w w' := by
  by_cases hf : N < at_ + 3
  · have hq : ((N : Int) - (at_ : Int)) < 3 := by omega
    have HP := hide (h.few (by omega))
    clear h hc
    go_enter Try.func47, Try.ntmps47
    go_wp2
    first | refine bodyPost_end (results_none rfl _ _ _) rfl ?_ | refine bodyPost_ret (results_none rfl _ _ _) rfl ?_
    exact ⟨rfl, ⟨_, _, HP.out⟩, Ch.refl _ _ _, Below.refl _ _⟩
  · have hq : ¬ (((N : Int) - (at_ : Int)) < 3) := by omega
    have HT : Hid (Calls Try.prog 49 #[.slice (some ⟨pb, po, none⟩) N pc, .int .i64 at_] w fun e w' => e = .returned (k3 (data.getD at_ 0) (data.getD (at_ + 1) 0) (data.getD (at_ + 2) 0)) ∧ Kept [] w w') := three_ok pb po N pc at_ data w hN (by omega) hmax hc
    have HP : Hid (Pm w M data at_ es clock ∧ at_ + 3 ≤ data.length ∧ data.length ≤ 4096) := ⟨h, by omega, by omega⟩
    obtain ⟨a0, ha⟩ : ∃ a0, data.getD at_ 0 = a0 := ⟨_, rfl⟩
    obtain ⟨b0, hb⟩ : ∃ b0, data.getD (at_ + 1) 0 = b0 := ⟨_, rfl⟩
    obtain ⟨c0, hcc⟩ : ∃ c0, data.getD (at_ + 2) 0 = c0 := ⟨_, rfl⟩
    have HK : Hid (data.getD at_ 0 = a0 ∧ data.getD (at_ + 1) 0 = b0 ∧ data.getD (at_ + 2) 0 = c0) := ⟨ha, hb, hcc⟩
    rw [ha, hb, hcc] at HT
    unfold k3 at HT
    clear h hc ha hb hcc hf
    go_enter Try.func47, Try.ntmps47
    go_wp2_with (first
      | (go_at_call 49; refine HT.out.mono ?_; rintro e w1 ⟨rfl, hk1⟩; have hk2 := hk1.alloc (.cells #[.int .u8 a0.toNat, .int .u8 b0.toNat, .int .u8 c0.toNat] 100); obtain ⟨bo, nn, bc, st, w2, v', w3, w4, r1, r2, r3, hPm, hCh, hB⟩ := (HP.out.1.kept hk2).adds HP.out.2.1 HP.out.2.2 a0 b0 c0 HK.out.1 HK.out.2.1 HK.out.2.2; rw [show (w1.alloc (.cells #[.int .u8 a0.toNat, .int .u8 b0.toNat, .int .u8 c0.toNat] 100)).heap.size = w1.heap.size + 1 by simp] at r2; have HF : Hid ((∃ es' clock', Pm w4 M data (at_ + 1) es' clock') ∧ Ch 3 M w w4 ∧ Below M w w4) := ⟨hPm, (Ch.of hk2).trans hCh, (hk2.below (Nat.le_of_lt HP.out.1.lt) (by simp)).trans hB⟩; have R1 := hide r1; have R2 := hide r2; have R3 := hide r3; clear hPm hCh hB hk1 hk2 HT HP HK r1 r2 r3)
      | (refine wpList_mapEntry _ rfl _ _ _ rfl _ _ rfl rfl _ _ R1.out ?_)
      | (at_builtin; refine wpList_appRun _ rfl _ _ 98 rfl _ _ rfl rfl _ _ R2.out ?_)
      | (refine wpList_entryStore _ rfl _ _ _ _ rfl _ _ _ rfl rfl rfl _ R3.out ?_)
      | go_in)
    first | refine bodyPost_end (results_none rfl _ _ _) rfl ?_ | refine bodyPost_ret (results_none rfl _ _ _) rfl ?_
    exact ⟨rfl, HF.out⟩

end Go.Proofs.Ytdnbpklnkmgmkaa
