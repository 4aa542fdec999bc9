/-
  Chapter 4: a row of the call's own, a byte behind it. Contract: freightref4.Unpack.
-/
import Derived.Test.YtdnbpklnkmgmkaaUf
import Derived.OwnWalk
namespace Go.Proofs.Ytdnbpklnkmgmkaa
open Go.RowKit
set_option linter.unusedVariables false
set_option linter.unusedSimpArgs false

/-- A row of a call's own. -/
def Ow (w0 w : World) (v : Value) (out : List UInt8) : Prop := w.ownsRow w0.heap.size 5 1 v out.length (bys out) ∧ Below w0.heap.size w0 w
theorem Ow.nil (w : World) : Ow w w (.slice none 0 0) [] := ⟨World.ownsRow_nil _ _ _ _, Below.refl _ _⟩
theorem Ow.drewN {w0 w : World} {v : Value} {out : List UInt8} (h : Ow w0 w v out) (n : Nat) : Ow w0 (w.drewN n) v out :=
  ⟨h.1.kept (row := none) ⟨rfl, rfl, rfl, Nat.le_refl _, fun _ _ _ => rfl⟩ (by cases v.ownBlock <;> simp), h.2.trans (((Kept.refl [] w).drewN n).below h.2.size (by simp))⟩
theorem Ow.ans {w0 w : World} {bo : Option Addr} {bc : Nat} {out : List UInt8} (h : Ow w0 w (.slice bo out.length bc) out) (e : Nat) : Ans w0 (out, e) (.returned (.tuple #[.slice bo out.length bc, .int .i64 e])) w := ⟨bo, bc, rfl, h.1, h.2⟩
theorem ans_none {w0 w : World} (e : Nat) (hB : Below w0.heap.size w0 w) : Ans w0 ([], e) (.returned (.tuple #[.slice none 0 0, .int .i64 e])) w := ⟨none, 0, rfl, World.ownsRow_nil _ _ _ _, hB⟩

/-- append(out, b), at the operation. -/
theorem wpList_app1 {ops : Array Oper} {rest : List Oper} {o : Oper} {a : Act} {Q : Exit → Act → World → Prop} (w w0 : World) (hgd : o.guard = none) (s x : Operand)
    (ho : o.op = .call { callee := .builtin .append, args := #[s, x], argTypes := #[23, 23] }) (hty : o.type = 23) (bo : Option Addr) (bc : Nat) (out : List UInt8) (b : UInt8)
    (hs : a.eval s = .slice bo out.length bc) (hx : a.eval x = .slice (some ⟨w.heap.size, 0, none⟩) 1 1) (hO : Ow w0 w (.slice bo out.length bc) out) (hl : out.length + 1 ≤ 140737488355328)
    (hK : ∀ g c w', Ow w0 w' (.slice (some ⟨g, 0, none⟩) (out.length + 1) c) (out ++ [b]) → w.grownBy w' (Value.slice bo out.length bc).ownBlock → wpList Try.prog ops Q rest (a.put o.dst (.slice (some ⟨g, 0, none⟩) (out.length + 1) c)) w') :
    wpList Try.prog ops Q (o :: rest) a (w.alloc (.cells #[.int .u8 b.toNat] 5)) := by
  refine wpList_plain hgd fun K' hK' => ?_
  have hk : Kept [] w (w.alloc (.cells #[.int .u8 b.toNat] 5)) := (Kept.refl [] w).alloc _
  have y2 : Sl (w.alloc (.cells #[.int .u8 b.toNat] 5)) (some ⟨w.heap.size, 0, none⟩) [b] := Sl.of (fun i hi => by
    obtain rfl : i = 0 := by simpa using hi
    rw [World.cell?_alloc_new]; rfl)
  have hg0 := World.grownBy_alloc w (.cells #[.int .u8 b.toNat] 5) (Value.slice bo out.length bc).ownBlock
  obtain ⟨g, c, w3, hrun, hown3, hg3⟩ := run_append1 _ w0.heap.size bo bc out [b] w.heap.size 1 (hO.1.alloc _) y2 rfl (by decide) hl (by have := hO.2.size; have := hk.size; omega)
  have hl1 : (out ++ [b]).length = out.length + 1 := by simp
  rw [hl1] at hrun hown3
  refine wp_append_run s x 23 ho _ _ hs hx _ _ (by rw [hty]; exact hrun) (hK' _ _ (hK g c w3 ⟨by rw [hl1]; exact hown3, ?_⟩ (hg0.trans hg3)))
  exact hO.2.grown (hg0.trans hg3) hO.2.size (fun j hj => (hO.1.lt j hj).1)

end Go.Proofs.Ytdnbpklnkmgmkaa
