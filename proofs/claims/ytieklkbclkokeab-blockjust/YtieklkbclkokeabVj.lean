/-
  Contract: freightref4.Pack. (Written by tools/vj.py.)
-/
import Derived.Test.YtieklkbclkokeabVi
namespace Go.Proofs.Ytieklkbclkokeab
open Go.RowKit
set_option linter.unusedVariables false
set_option linter.unusedSimpArgs false

namespace Prs
/-- The groups so far and the one that is being filled, also while it has no item. -/
def outF (pre : List UInt8) (cur : List Item) : List UInt8 := pre ++ UInt8.ofNat (flagOf cur) :: flat cur
theorem outF_of {pre : List UInt8} {cur : List Item} (h : cur ≠ []) : outF pre cur = outOf pre cur := by simp [outF, outOf, h]
theorem outF_lit (pre : List UInt8) (cur : List Item) (x : UInt8) : outF pre cur ++ [x] = outF pre (cur ++ [.lit x]) := by
  have : flagOf (cur ++ [.lit x]) = flagOf cur := by rw [flagOf_append]; simp [bitOf]
  simp [outF, this, flat_append, flat, bodyOf]
theorem outF_mat (pre : List UInt8) (cur : List Item) (d l : Nat) (h8 : cur.length < 8) (y : UInt8) (hy : y.toNat = flagOf cur + 2 ^ cur.length) : (outF pre cur ++ [UInt8.ofNat (code d l / 256), UInt8.ofNat (code d l % 256)]).set pre.length y = outF pre (cur ++ [.mat d l]) := by
  have e : flagOf (cur ++ [.mat d l]) = flagOf cur + 2 ^ cur.length := by rw [flagOf_append]; simp [bitOf]
  have hy2 : y = UInt8.ofNat (flagOf (cur ++ [.mat d l])) := by
    apply UInt8.toNat_inj.1
    rw [UInt8.toNat_ofNat', e, ← hy, Nat.mod_eq_of_lt (UInt8.toNat_lt y)]
  rw [show outF pre cur ++ [UInt8.ofNat (code d l / 256), UInt8.ofNat (code d l % 256)] = pre ++ UInt8.ofNat (flagOf cur) :: (flat cur ++ [UInt8.ofNat (code d l / 256), UInt8.ofNat (code d l % 256)]) by simp [outF], set_mid, hy2]
  simp [outF, flat_append, flat, bodyOf]
theorem flag_small {cur : List Item} (h8 : cur.length < 8) : flagOf cur + 2 ^ cur.length < 256 := by
  have h1 := flagOf_lt cur
  have h2 : 2 ^ (cur.length + 1) ≤ 2 ^ 8 := Nat.pow_le_pow_right (by decide) (by omega)
  rw [Nat.pow_succ] at h2
  omega
end Prs

theorem Ow.put {w0 w : World} {g n c f : Nat} {out : List UInt8} {x : UInt8} (h : Ow w0 w (.slice (some ⟨g, 0, none⟩) n c) out) (hn : out.length = n) (hf : f < n) :
    Ow w0 (w.setCell ⟨g, f, none⟩ (.int .u8 x.toNat)) (.slice (some ⟨g, 0, none⟩) n c) (out.set f x) ∧ w.cell? ⟨g, f, none⟩ = some (.int .u8 (out.getD f 0).toNat) ∧ w.frozen? ⟨g, f, none⟩ = false := by
  subst hn
  have h1 := h.1.stored f (.int .u8 x.toNat)
  rw [bys_set] at h1
  have hb := (h.1.lt g rfl).1
  refine ⟨⟨by rw [List.length_set]; exact h1.1, h.2.grown h1.2 h.2.size (fun j hj => by cases hj; exact hb)⟩, ?_, h.1.frozenAt f⟩
  rw [h.1.cellAt f (by omega), bys_at hf]

/-- append(out, b, c), at the operation. -/
theorem wpList_app2 {ops : Array Oper} {rest : List Oper} {o : Oper} {a : Act} {Q : Exit → Act → World → Prop} (w w0 : World) (hgd : o.guard = none) (s x : Operand)
    (ho : o.op = .call { callee := .builtin .append, args := #[s, x], argTypes := #[27, 27] }) (hty : o.type = 27) (bo : Option Addr) (bc : Nat) (out : List UInt8) (b c : UInt8)
    (hs : a.eval s = .slice bo out.length bc) (hx : a.eval x = .slice (some ⟨w.heap.size, 0, none⟩) 2 2) (hO : Ow w0 w (.slice bo out.length bc) out) (hl : out.length + 2 ≤ 140737488355328)
    (hK : ∀ g c' w', Ow w0 w' (.slice (some ⟨g, 0, none⟩) (out.length + 2) c') (out ++ [b, c]) → wpList Try.prog ops Q rest (a.put o.dst (.slice (some ⟨g, 0, none⟩) (out.length + 2) c')) w') :
    wpList Try.prog ops Q (o :: rest) a (w.alloc (.cells #[.int .u8 b.toNat, .int .u8 c.toNat] 5)) := by
  have hg0 := World.grownBy_alloc w (.cells #[.int .u8 b.toNat, .int .u8 c.toNat] 5) (Value.slice bo out.length bc).ownBlock
  refine wpList_appS _ w0.heap.size hgd s x ho hty bo bc out [b, c] w.heap.size 2 hs hx (hO.1.alloc _) (sl_new2 w b c) rfl (by decide) hl (by have := hO.2.size; have := hg0.size; omega) (fun g c' w' h1 h2 => ?_)
  have hl1 : (out ++ [b, c]).length = out.length + 2 := by simp
  rw [hl1] at h1 ⊢
  exact hK g c' w' ⟨by rw [hl1]; exact h1, hO.2.grown (hg0.trans h2) hO.2.size (fun j hj => (hO.1.lt j hj).1)⟩

/-- Where an item begins: this group has room for it. -/
structure Rb (w wr : World) (data R : List UInt8) (t : Nat) (bo : Option Addr) (bc : Nat) (pre : List UInt8) (cur : List Prs.Item) : Prop where
  ow : Ow w wr (.slice bo (Prs.outF pre cur).length bc) (Prs.outF pre cur)
  lt : cur.length < 8
  enc : ∀ fuel i l, Prs.itemAt data t = (i, l) → data.length - (t + l) ≤ fuel → Prs.encs (Prs.items data fuel (t + l)) pre (cur ++ [i]) = R
  len : (Prs.outF pre cur).length ≤ 2 * t + 1
/-- Between the items. -/
structure Ra (w wr : World) (data R : List UInt8) (t : Nat) (bo : Option Addr) (bc : Nat) (pre : List UInt8) (cur : List Prs.Item) (fl bit : Nat) : Prop where
  ow : Ow w wr (.slice bo (Prs.outOf pre cur).length bc) (Prs.outOf pre cur)
  le : cur.length ≤ 8
  bit : (cur = [] ∧ pre = [] ∧ bit = 8) ∨ (cur ≠ [] ∧ bit = cur.length ∧ fl = pre.length)
  enc : ∀ fuel, data.length - t ≤ fuel → Prs.encs (Prs.items data fuel t) pre cur = R
  len : (Prs.outOf pre cur).length ≤ 2 * t

theorem enc_next {data R : List UInt8} {t : Nat} {pre : List UInt8} {cur : List Prs.Item} (ht : t < data.length) (h : ∀ fuel, data.length - t ≤ fuel → Prs.encs (Prs.items data fuel t) pre cur = R) (fuel : Nat) (i : Prs.Item) (l : Nat) (hi : Prs.itemAt data t = (i, l)) (hf : data.length - (t + l) ≤ fuel) : Prs.encs (Prs.items data fuel (t + l)) (Prs.nxt pre cur i).1 (Prs.nxt pre cur i).2 = R := by
  obtain ⟨e1, e2, e3⟩ := Prs.item_made data t ht
  rw [hi] at e1 e2 e3
  simp only at e2 e3
  have := h (fuel + data.length + 1) (by omega)
  obtain ⟨g, hg', e⟩ := Prs.items_cons data (fuel + data.length + 1) t ht (by omega)
  rw [hi] at e hg'
  rw [e, Prs.encs_nxt] at this
  rw [Prs.items_fuel data fuel g _ e3 hf hg']
  exact this

/-- A new group. -/
theorem Ra.fresh {w wr w' : World} {data R : List UInt8} {t : Nat} {bo : Option Addr} {bc : Nat} {pre : List UInt8} {cur : List Prs.Item} {fl g c : Nat} (h : Ra w wr data R t bo bc pre cur fl 8) (ht : t < data.length) (hO : Ow w w' (.slice (some ⟨g, 0, none⟩) ((Prs.outOf pre cur).length + 1) c) (Prs.outOf pre cur ++ [0])) :
    Rb w w' data R t (some ⟨g, 0, none⟩) c (Prs.outOf pre cur) [] := by
  have e : Prs.outF (Prs.outOf pre cur) [] = Prs.outOf pre cur ++ [0] := by simp [Prs.outF, Prs.flagOf, Prs.flat]
  refine ⟨by rw [e, show (Prs.outOf pre cur ++ ([0] : List UInt8)).length = (Prs.outOf pre cur).length + 1 by simp]; exact hO, by simp, fun fuel i l hi hf => ?_, by rw [e]; simp; exact h.len⟩
  have hn := enc_next ht h.enc fuel i l hi hf
  have : Prs.nxt pre cur i = (Prs.outOf pre cur, [i]) := by
    unfold Prs.nxt
    rcases h.bit with ⟨h1, h2, _⟩ | ⟨_, h2, _⟩
    · subst h1; subst h2; simp [Prs.outOf]
    · rw [if_pos h2.symm]
  rw [this] at hn
  exact hn
/-- The same group. -/
theorem Ra.go {w wr : World} {data R : List UInt8} {t : Nat} {bo : Option Addr} {bc : Nat} {pre : List UInt8} {cur : List Prs.Item} {fl bit : Nat} (h : Ra w wr data R t bo bc pre cur fl bit) (hb : bit ≠ 8) (ht : t < data.length) : Rb w wr data R t bo bc pre cur ∧ bit = cur.length ∧ fl = pre.length := by
  rcases h.bit with ⟨_, _, h2⟩ | ⟨h1, h2, h3⟩
  · exact absurd h2 hb
  · have h8 : cur.length ≠ 8 := by omega
    have hle := h.le
    refine ⟨⟨by rw [Prs.outF_of h1]; exact h.ow, by omega, fun fuel i l hi hf => ?_, by rw [Prs.outF_of h1]; have := h.len; omega⟩, h2, h3⟩
    have hn := enc_next ht h.enc fuel i l hi hf
    rw [show Prs.nxt pre cur i = (pre, cur ++ [i]) by unfold Prs.nxt; rw [if_neg h8]] at hn
    exact hn
theorem Ow.kept {w0 w w' : World} {v : Value} {out : List UInt8} (h : Ow w0 w v out) (hk : Kept [] w w') : Ow w0 w' v out :=
  ⟨h.1.kept (row := none) ⟨hk.os, hk.tape, hk.output, hk.size, fun i hi _ => hk.block i hi (by simp)⟩ (by cases v.ownBlock <;> simp), h.2.trans (hk.below h.2.size (by simp))⟩
theorem Rb.kept {w wr w' : World} {data R : List UInt8} {t : Nat} {bo : Option Addr} {bc : Nat} {pre : List UInt8} {cur : List Prs.Item} (h : Rb w wr data R t bo bc pre cur) (hk : Kept [] wr w') : Rb w w' data R t bo bc pre cur := ⟨h.ow.kept hk, h.lt, h.enc, h.len⟩
theorem Rb.done {w w' wr : World} {data R : List UInt8} {t : Nat} {bo : Option Addr} {bc : Nat} {pre : List UInt8} {cur : List Prs.Item} {bo' : Option Addr} {bc' : Nat} (h : Rb w wr data R t bo bc pre cur) (i : Prs.Item) (l : Nat) (hi : Prs.itemAt data t = (i, l)) (hO : Ow w w' (.slice bo' (Prs.outF pre (cur ++ [i])).length bc') (Prs.outF pre (cur ++ [i]))) (hl : (Prs.outF pre (cur ++ [i])).length ≤ 2 * (t + l)) :
    Ra w w' data R (t + l) bo' bc' pre (cur ++ [i]) pre.length (cur.length + 1) := by
  have e : Prs.outF pre (cur ++ [i]) = Prs.outOf pre (cur ++ [i]) := Prs.outF_of (by simp)
  exact ⟨by rw [← e]; exact hO, by have := h.lt; simp; omega, .inr ⟨by simp, by simp, rfl⟩, fun fuel hf => h.enc fuel i l hi hf, by rw [← e]; exact hl⟩

end Go.Proofs.Ytieklkbclkokeab
