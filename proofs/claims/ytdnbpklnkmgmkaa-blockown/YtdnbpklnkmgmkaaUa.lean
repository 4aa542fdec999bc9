/-
  Chapter 4: common ground: append of one byte, cuts.
-/
import Derived.Test.YtdnbpklnkmgmkaaProg
import Derived.Test.YtdnbpklnkmgmkaaMem
import Derived.Test.YtdnbpklnkmgmkaaOl
import Derived.Deep.QuietTactic
import Derived.BigQuiet
import Derived.StillTailTactics
import Derived.Maps.AppendAt
namespace Go.Proofs.Ytdnbpklnkmgmkaa
open Go.RowKit
set_option linter.unusedVariables false
set_option linter.unusedSimpArgs false

theorem Try.infoByte : (Try.prog.info? 5).map (fun i => (i.zero, i.size, i.bytes)) = some (some (.int .u8 0), 1, 1) := by kernel_rfl
theorem Try.follows : Try.prog.follows .mixedOrders = true := by kernel_rfl
theorem Try.cutFrom (W : World) (g off L cap m : Nat) (hm : m ≤ L) :
    (Instr.slice 23 (.slice (some ⟨g, off, none⟩) L cap) (some (.int .i64 m)) none none).run Try.prog W = .ok (.slice (if cap = m then some ⟨g, off, none⟩ else some ⟨g, off + m, none⟩) (L - m) (cap - m)) W := by
  have hz : (sizeOf (Try.prog.elem 23)).run Try.prog W = .ok 1 W := by kernel_rfl
  have h := run_slice_l (P := Try.prog) W 23 (some ⟨g, off, none⟩) L cap (by kernel_rfl) .i64 m (by omega) (by omega)
  rw [h, hz]
  by_cases hc : cap = m <;> simp [sliced, Addr.add_mid, hc]
theorem Try.cutTo (W : World) (ao : Option Addr) (L cap m : Nat) (hm : m ≤ cap) :
    (Instr.slice 23 (.slice ao L cap) none (some (.int .i64 m)) none).run Try.prog W = .ok (.slice ao m cap) W := by
  have hz : (sizeOf (Try.prog.elem 23)).run Try.prog W = .ok 1 W := by kernel_rfl
  have h := run_slice_h (P := Try.prog) W 23 ao L cap (by kernel_rfl) .i64 m (by omega) (by omega)
  rw [h, hz]
  cases ao <;> simp [sliced, Addr.add]

/-- append, its run known. -/
theorem wp_append_run {P : Program} {o : Oper} {a : Act} {w : World} {K : Act → World → Prop} {Q : Exit → Act → World → Prop} (s x : Operand) (t : TypeId) (ho : o.op = .call { callee := .builtin .append, args := #[s, x], argTypes := #[t, t] }) (vs vx : Value) (hs : a.eval s = vs) (hx : a.eval x = vx) (v' : Value) (w' : World)
    (hrun : (Builtin.append_ #[t, t] o.type #[vs, vx]).run P w = .ok v' w') (hK : K (a.put o.dst v') w') : o.wp P a w K Q := by
  unfold Oper.wp execOp
  simp only [ho, resolve, invoke, builtin, Sem.run_bind, Sem.run_pure, Result.andThen_ok, List.map_toArray, List.map_cons, List.map_nil, hs, hx, hrun]
  exact hK

/-- append(b, ys...), ys in a row of their own. -/
theorem run_append1 (w : World) (base : Nat) (bo : Option Addr) (bc : Nat) (out : List UInt8) (ys : List UInt8) (yb m : Nat) (hown : w.ownsRow base 5 1 (.slice bo out.length bc) out.length (bys out)) (hy : Sl w (some ⟨yb, 0, none⟩) ys) (hm : ys.length = m) (hm0 : 0 < m) (hl : out.length + m ≤ 140737488355328) (hb : base ≤ w.heap.size) :
    ∃ g c w', (Builtin.append_ #[23, 23] 23 #[.slice bo out.length bc, .slice (some ⟨yb, 0, none⟩) m m]).run Try.prog w = .ok (.slice (some ⟨g, 0, none⟩) (out ++ ys).length c) w' ∧ w'.ownsRow base 5 1 (.slice (some ⟨g, 0, none⟩) (out ++ ys).length c) (out ++ ys).length (bys (out ++ ys)) ∧ w.grownBy w' (Value.slice bo out.length bc).ownBlock := by
  obtain ⟨i0, hi, hz0, hz1, hz2⟩ := info_parts Try.infoByte
  obtain ⟨v', w', hrun, h1, h2, h3, h4⟩ := run_append_own_at (P := Try.prog) w base 23 23 5 i0 (.int .u8 0) 1 1 Try.underlying23 hi hz0 hz1 hz2 rfl (by decide) _ out.length (bys out) hown ⟨yb, 0, none⟩ m m (bys ys) (by rw [bys_length, hm]; omega)
    (Sl.cells (fun i hi => by obtain ⟨b', off', e', hc⟩ := hy i hi; cases e'; exact hc)) (bys_oneCell _) (by unfold maxLen; omega) (by omega) hb
  rw [← bys_append] at h1
  obtain ⟨g, c, hv, _⟩ := own_sl h1 (fun e => by have := (h3.1 e).2; omega)
  subst hv
  rw [show out.length + m = (out ++ ys).length by simp [hm]] at hrun h1
  exact ⟨g, c, w', hrun, h1, h2⟩

/-- A row of the call's own is a slice. -/
theorem own_shape {w : World} {base : Nat} {e : TypeId} {s : Nat} {v : Value} {n : Nat} {xs : List Value} (h : w.ownsRow base e s v n xs) : ∃ bo bc, v = .slice bo n bc ∧ n ≤ bc := by
  rcases h.2 with ⟨rfl, rfl⟩ | ⟨g, cap, cur, rfl, _, _, hn, _⟩
  · exact ⟨none, 0, rfl, Nat.le_refl _⟩
  · exact ⟨_, _, rfl, hn⟩
theorem own_slc {w : World} {base : Nat} {bo : Option Addr} {n bc : Nat} {xs : List UInt8} (h : w.ownsRow base 5 1 (.slice bo n bc) n (bys xs)) : Sl w bo xs ∧ n ≤ bc ∧ (bo = none → xs = [] ∧ bc = 0) ∧ (∀ a, bo = some a → base ≤ a.block ∧ a.block < w.heap.size ∧ a.spot = none) := by
  rcases h.2 with ⟨e, e2⟩ | ⟨g, cap, cur, e, hb, hg, hn, _, hs, ht⟩
  · injection e with e1 _ e3
    subst e1 e3
    have : xs = [] := List.eq_nil_of_length_eq_zero (by have := h.1; rw [bys_length, e2] at this; simpa using this)
    subst this
    exact ⟨Sl.nil _ _, by omega, fun _ => ⟨rfl, rfl⟩, by simp⟩
  · obtain ⟨g', cap', e', h1, h2, h3, h4⟩ := own_sl h (by rw [e]; simp)
    injection e' with e1 _ e3
    subst e1 e3
    exact ⟨h4, h3, by simp, fun a ha => by cases ha; exact ⟨h1, h2, rfl⟩⟩
theorem own_block {w : World} {base : Nat} {e : TypeId} {s : Nat} {v : Value} {n : Nat} {xs : List Value} (h : w.ownsRow base e s v n xs) (g : Nat) (hg : v.ownBlock = some g) : base ≤ g ∧ g < w.heap.size := h.lt g hg

/-- A grown world, below a block. -/
theorem Kept.belowOf {l : List Nat} {w w' : World} {B : Nat} (h : Kept l w w') (hB : B ≤ w.heap.size) (hl : ∀ i, i ∈ l → B ≤ i) : Below B w w' := h.below hB hl

end Go.Proofs.Ytdnbpklnkmgmkaa
