/-
  Rows in turns: what stays. append([]byte{}, packed...).
-/
import Derived.Test.YtcgkjdchkpnldaaXb
namespace Go.Proofs.Ytcgkjdchkpnldaa
open Go.RowKit
set_option linter.unusedVariables false
set_option linter.unusedSimpArgs false

/-- A row whose block, if it has one, was made between lo and hi. -/
structure Rw (W : World) (bo : Option Addr) (r : List UInt8) (lo hi : Nat) : Prop where
  sl : Sl W bo r
  le : lo ≤ hi
  size : hi ≤ W.heap.size
  at_ : ∀ a, bo = some a → lo ≤ a.block ∧ a.block < hi
theorem Rw.of {W W' : World} {bo : Option Addr} {bc : Nat} {r : List UInt8} (ho : W'.ownsRow W.heap.size 5 1 (.slice bo r.length bc) r.length (bys r)) (hb : Below W.heap.size W W') : Rw W' bo r W.heap.size W'.heap.size := by
  obtain ⟨h1, _, _, h4⟩ := own_slc ho
  exact ⟨h1, hb.size, Nat.le_refl _, fun a ha => ⟨(h4 a ha).1, (h4 a ha).2.1⟩⟩
theorem Rw.on {W W' : World} {bo : Option Addr} {r : List UInt8} {lo hi : Nat} (h : Rw W bo r lo hi) (hb : Below W.heap.size W W') : Rw W' bo r lo hi :=
  ⟨h.sl.later hb, h.le, Nat.le_trans h.size hb.size, h.at_⟩
theorem Rw.set {W : World} {bo : Option Addr} {r : List UInt8} {lo hi : Nat} (h : Rw W bo r lo hi) {p : Addr} (hp : p.block < lo ∨ hi ≤ p.block) (u : Value) : Rw (W.setCell p u) bo r lo hi := by
  have hk : Kept [p.block] W (W.setCell p u) := (Kept.refl [p.block] W).setCell (by simp) u
  exact ⟨h.sl.kept hk (fun _ a ha => by have := h.at_ a ha; simp; omega), h.le, by simpa using h.size, h.at_⟩

theorem Below.drewN {B : Nat} {w W : World} (h : Below B w W) (n : Nat) : Below B w (W.drewN n) := ⟨h.os, h.tape, h.output, h.size, h.block⟩
theorem below_drewN (W : World) (n : Nat) : Below W.heap.size W (W.drewN n) := Below.drewN (Below.refl _ W) n

/-- A given row with its room, and two answers. -/
structure Pu (w W : World) (g : Nat) (ds : List UInt8) (bo2 bo3 : Option Addr) (r : List UInt8) (a b c : Nat) : Prop where
  room : Room W g ds
  ge : w.heap.size ≤ g
  lt : g < a
  r2 : Rw W bo2 r a b
  r3 : Rw W bo3 r b c
  below : Below w.heap.size w W
theorem Pu.on {w W W' : World} {g : Nat} {ds : List UInt8} {bo2 bo3 : Option Addr} {r : List UInt8} {a b c : Nat} (h : Pu w W g ds bo2 bo3 r a b c) (hb : Below W.heap.size W W') : Pu w W' g ds bo2 bo3 r a b c :=
  ⟨h.room.below hb h.room.lt, h.ge, h.lt, h.r2.on hb, h.r3.on hb, h.below.trans (Below.less hb h.below.size)⟩
theorem Pu.drewN {w W : World} {g : Nat} {ds : List UInt8} {bo2 bo3 : Option Addr} {r : List UInt8} {a b c : Nat} (h : Pu w W g ds bo2 bo3 r a b c) (n : Nat) : Pu w (W.drewN n) g ds bo2 bo3 r a b c := h.on (below_drewN W n)
/-- A block that was made behind them is written. -/
theorem Pu.set {w W : World} {g : Nat} {ds : List UInt8} {bo2 bo3 : Option Addr} {r : List UInt8} {a b c : Nat} (h : Pu w W g ds bo2 bo3 r a b c) {p : Addr} (hp : c ≤ p.block) (u : Value) : Pu w (W.setCell p u) g ds bo2 bo3 r a b c := by
  have h1 := h.r2.le
  have h2 := h.r3.le
  have h3 := h.lt
  have h4 := h.ge
  have hk : Kept [p.block] W (W.setCell p u) := (Kept.refl [p.block] W).setCell (by simp) u
  exact ⟨h.room.kept hk (by simp; omega), h.ge, h.lt, h.r2.set (.inr (by omega)) u, h.r3.set (.inr (by omega)) u, h.below.trans (hk.below h.below.size (by simp; omega))⟩
/-- The given row is written. -/
theorem Pu.put {w W : World} {g : Nat} {ds : List UInt8} {bo2 bo3 : Option Addr} {r : List UInt8} {a b c : Nat} (h : Pu w W g ds bo2 bo3 r a b c) (i : Nat) (hi : i < ds.length) (x : UInt8) : Pu w (W.setCell ⟨g, i, none⟩ (.int .u8 x.toNat)) g (ds.set i x) bo2 bo3 r a b c := by
  have h1 := h.r2.le
  have h3 := h.lt
  have h4 := h.ge
  have hk : Kept [g] W (W.setCell ⟨g, i, none⟩ (.int .u8 x.toNat)) := (Kept.refl [g] W).setCell (by simp) _
  refine ⟨?_, h.ge, h.lt, h.r2.set (.inl h3) _, h.r3.set (.inl (by show g < b; omega)) _, h.below.trans (hk.below h.below.size (by simp; omega))⟩
  have := row_set h.room i x
  rw [List.set_append_left _ _ hi] at this
  exact this
theorem Pu.cell {w W : World} {g : Nat} {ds : List UInt8} {bo2 bo3 : Option Addr} {r : List UInt8} {a b c : Nat} (h : Pu w W g ds bo2 bo3 r a b c) (i : Nat) (hi : i < ds.length) : W.cell? ⟨g, i, none⟩ = some (.int .u8 (ds.getD i 0).toNat) ∧ W.frozen? ⟨g, i, none⟩ = false := by
  refine ⟨?_, frozen_of_row W g i _ _ h.room⟩
  rw [row_cell h.room i (by simp; omega), List.getD_eq_getElem?_getD, List.getD_eq_getElem?_getD, List.getElem?_append_left hi]

/-- append([]byte{}, packed...), at the operation. -/
theorem wpList_clone {ops : Array Oper} {rest : List Oper} {o : Oper} {a : Act} {Q : Exit → Act → World → Prop} (w : World) (hgd : o.guard = none) (s x : Operand)
    (ho : o.op = .call { callee := .builtin .append, args := #[s, x], argTypes := #[22, 22] }) (hty : o.type = 22) (ad : Addr) (n c : Nat) (xs : List UInt8)
    (hs : a.eval s = .slice (some ⟨w.heap.size, 0, none⟩) 0 0) (hx : a.eval x = .slice (some ad) n c) (hsl : Sl w (some ad) xs) (hn : xs.length = n) (hn0 : 0 < n) (hl : n ≤ 140737488355328)
    (hK : ∀ g c w', w'.ownsRow w.heap.size 5 1 (.slice (some ⟨g, 0, none⟩) n c) n (bys xs) → Below w.heap.size w w' → wpList Try.prog ops Q rest (a.put o.dst (.slice (some ⟨g, 0, none⟩) n c)) w') :
    wpList Try.prog ops Q (o :: rest) a (w.alloc (.cells #[] 5)) := by
  obtain ⟨i0, hi, hz0, hz1, hz2⟩ := info_parts Try.infoByte
  have hk : Kept [] w (w.alloc (.cells #[] 5)) := (Kept.refl [] w).alloc _
  have hsl2 : Sl (w.alloc (.cells #[] 5)) (some ad) xs := hsl.kept hk (by simp)
  refine wpList_plain hgd fun K' hK' => ?_
  have hsrc : ∀ j u, (bys xs)[j]? = some u → (w.alloc (.cells #[] 5)).cell? (ad.add j) = some u := by
    obtain ⟨b, off, e, _, hc⟩ := hsl2.open (by rintro rfl; simp at hn; omega)
    cases e
    exact Sl.cells hc
  obtain ⟨v', w', hrun, h1, h2, h3, h4⟩ := run_append_own_at (P := Try.prog) (w.alloc (.cells #[] 5)) w.heap.size 22 22 5 i0 (.int .u8 0) 1 1 Try.underlying22 hi hz0 hz1 hz2 rfl (by decide) (.slice (some ⟨w.heap.size, 0, none⟩) 0 0) 0 []
    (World.ownsRow_made w #[] 0 (Nat.le_refl _) (by decide) rfl) ad n c (bys xs) (by rw [bys_length, hn, Nat.mul_one]) hsrc (bys_oneCell xs) (by unfold maxLen; omega) (by omega) (by simp)
  rw [List.nil_append, Nat.zero_add] at h1
  obtain ⟨g, c', hv, _⟩ := own_sl h1 (fun e => by have := (h3.1 e).2; omega)
  subst hv
  refine wp_append_run s x 22 ho _ _ hs hx _ _ (by rw [hty]; exact hrun) (hK' _ _ (hK g c' w' h1 ?_))
  exact (hk.below (Nat.le_refl _) (by simp)).grown h2 hk.size (fun j hj => by simp only [Value.ownBlock, Option.some.injEq] at hj; omega)

end Go.Proofs.Ytcgkjdchkpnldaa
