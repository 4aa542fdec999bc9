/-
  digest.Hash: how it lies in memory.
-/
import Derived.Test.YthfbpbibpgblaaaDt3
import Derived.Laws.CopyOwn
import Derived.Deep.MidRow
namespace Go.Proofs.Ythfbpbibpgblaaa
open Go.RowKit
set_option linter.unusedVariables false
set_option linter.unusedSimpArgs false

theorem setCells_row : ∀ (vs : List Value) (w : World) (g o : Nat) (cur : List Value) (t : TypeId), w.heap[g]? = some (.cells cur.toArray t (0, 0)) → o + vs.length ≤ cur.length →
    w.setCells g o vs = w.setRow g (cur.take o ++ (vs ++ cur.drop (o + vs.length))).toArray
  | [], w, g, o, cur, t, hg, hl => by
    simp only [World.setCells, List.nil_append, List.length_nil, Nat.add_zero, List.take_append_drop]
    cases w with
    | mk heap tape drawn os output =>
      unfold World.setRow
      congr 1
      apply Array.ext
      · simp
      · intro k h1 h2
        simp only [Array.getElem_modify]
        split
        · rename_i hk
          subst hk
          have := (Array.getElem?_eq_some_iff.1 hg).2
          simp at this
          simp [this]
        · rfl
  | v :: vs, w, g, o, cur, t, hg, hl => by
    simp only [List.length_cons] at hl
    have hs : w.setCell ⟨g, o, none⟩ v = w.setRow g (cur.set o v).toArray := by
      rw [setCell_eq_setRow w g o _ t (0, 0) v hg, List.setIfInBounds_toArray]
    have hg2 : (w.setRow g (cur.set o v).toArray).heap[g]? = some (.cells (cur.set o v).toArray t (0, 0)) := setRow_heap _ _ _ _ _ _ hg
    rw [World.setCells, hs, setCells_row vs _ g (o + 1) _ t hg2 (by simp; omega), setRow_setRow]
    congr 2
    apply List.ext_getElem?
    intro i
    simp only [List.length_cons, List.getElem?_append, List.length_take, List.length_set, List.getElem?_take, List.getElem?_drop, List.getElem?_set, List.getElem?_cons, List.length_append]
    by_cases h1 : i < o
    · simp [h1, show i < o + 1 by omega, show i < min (o + 1) cur.length by omega, show i < min o cur.length by omega, show o ≠ i by omega]
    · by_cases h2 : i = o
      · subst h2
        simp [show i < min (i + 1) cur.length by omega, show ¬ i < min i cur.length by omega, show min i cur.length = i by omega, show i < cur.length by omega]
      · have e1 : min (o + 1) cur.length = o + 1 := by omega
        have e2 : min o cur.length = o := by omega
        rw [e1, e2]
        simp only [show ¬ i < o + 1 by omega, show ¬ i < o by omega, if_false]
        have e3 : i - o = (i - (o + 1)) + 1 := by omega
        by_cases h3 : i - (o + 1) < vs.length
        · simp [h3, e3, show (i - (o + 1) + 1) < vs.length + 1 by omega]
        · simp [h3, e3, show ¬ (i - (o + 1) + 1) < vs.length + 1 by omega, show o ≠ o + 1 + vs.length + (i - (o + 1) - vs.length) by omega, show o + (vs.length + 1) + (i - (o + 1) - vs.length) = o + 1 + vs.length + (i - (o + 1) - vs.length) by omega]

/-- A row whose middle is another one now. -/
theorem mid_row (A M M' Z : List Value) (h : M.length = M'.length) : (A ++ (M ++ Z)).take A.length ++ (M' ++ (A ++ (M ++ Z)).drop (A.length + M'.length)) = A ++ (M' ++ Z) := by
  rw [List.take_left' rfl, List.drop_append, List.drop_of_length_le (by omega), ← h]
  simp

/-- A Hash's cells, between others. -/
def hrow (pre post : List Value) (st : List Nat) (blk : List UInt8) (n : Nat) : List Value := pre ++ (wds st ++ (bys blk ++ (Value.int .u64 n :: post)))

/-- A Hash lies in block b, behind pre. -/
structure Hp (w : World) (b : Nat) (ty : TypeId) (pre post : List Value) (st : List Nat) (blk : List UInt8) (n : Nat) : Prop where
  row : w.heap[b]? = some (.cells (hrow pre post st blk n).toArray ty (0, 0))
  sl : st.length = 8
  bl : blk.length = 64

theorem Hp.cell {w : World} {b : Nat} {ty : TypeId} {pre post : List Value} {st : List Nat} {blk : List UInt8} {n : Nat} (h : Hp w b ty pre post st blk n) (j : Nat) : w.cell? ⟨b, j, none⟩ = (hrow pre post st blk n)[j]? := by
  rw [cell_of_row w b j _ _ _ h.row]; simp
theorem Hp.frozen {w : World} {b : Nat} {ty : TypeId} {pre post : List Value} {st : List Nat} {blk : List UInt8} {n : Nat} (h : Hp w b ty pre post st blk n) (j : Nat) : w.frozen? ⟨b, j, none⟩ = false := frozen_of_row w b j _ _ h.row
theorem Hp.taken {w : World} {b : Nat} {ty : TypeId} {pre post : List Value} {st : List Nat} {blk : List UInt8} {n : Nat} (h : Hp w b ty pre post st blk n) : w.cell? ⟨b, pre.length + 72, none⟩ = some (.int .u64 n) := by
  rw [h.cell, hrow, List.getElem?_append_right (by omega), List.getElem?_append_right (by rw [wds_len, h.sl]; omega), List.getElem?_append_right (by rw [wds_len, bys_length, h.sl, h.bl]; omega)]
  rw [wds_len, bys_length, h.sl, h.bl, show pre.length + 72 - pre.length - 8 - 64 = 0 by omega]
  rfl
theorem Hp.byte {w : World} {b : Nat} {ty : TypeId} {pre post : List Value} {st : List Nat} {blk : List UInt8} {n : Nat} (h : Hp w b ty pre post st blk n) (i : Nat) (hi : i < 64) : w.cell? ⟨b, pre.length + 8 + i, none⟩ = some (.int .u8 (blk.getD i 0).toNat) := by
  rw [h.cell, hrow, List.getElem?_append_right (by omega), List.getElem?_append_right (by rw [wds_len, h.sl]; omega), List.getElem?_append_left (by rw [wds_len, bys_length, h.sl, h.bl]; omega)]
  rw [wds_len, h.sl, show pre.length + 8 + i - pre.length - 8 = i by omega]
  exact bys_at (by rw [h.bl]; exact hi)
theorem Hp.range {w : World} {b : Nat} {ty : TypeId} {pre post : List Value} {st : List Nat} {blk : List UInt8} {n : Nat} (h : Hp w b ty pre post st blk n) : w.rangeAt b pre.length (wds st) := fun j v hv => by
  have hj := (List.getElem?_eq_some_iff.1 hv).1
  rw [h.cell, hrow, List.getElem?_append_right (by omega), Nat.add_sub_cancel_left, List.getElem?_append_left hj]
  exact hv
theorem Hp.there {w : World} {b : Nat} {ty : TypeId} {pre post : List Value} {st : List Nat} {blk : List UInt8} {n : Nat} (h : Hp w b ty pre post st blk n) : w.there b pre.length 8 := fun j hj =>
  ⟨h.range.isSome j (by rw [wds_len, h.sl]; exact hj), h.frozen _⟩
theorem Hp.lt {w : World} {b : Nat} {ty : TypeId} {pre post : List Value} {st : List Nat} {blk : List UInt8} {n : Nat} (h : Hp w b ty pre post st blk n) : b < w.heap.size := (Array.getElem?_eq_some_iff.1 h.row).1
theorem Hp.kept {l : List Nat} {w w' : World} {b : Nat} {ty : TypeId} {pre post : List Value} {st : List Nat} {blk : List UInt8} {n : Nat} (h : Hp w b ty pre post st blk n) (hk : Kept l w w') (hn : b ∉ l) : Hp w' b ty pre post st blk n :=
  ⟨by rw [hk.block b h.lt hn]; exact h.row, h.sl, h.bl⟩

theorem Hp.setState {w : World} {b : Nat} {ty : TypeId} {pre post : List Value} {st : List Nat} {blk : List UInt8} {n : Nat} (h : Hp w b ty pre post st blk n) (st' : List Nat) (hl : st'.length = 8) : Hp (w.setCells b pre.length (wds st')) b ty pre post st' blk n := by
  refine ⟨?_, hl, h.bl⟩
  rw [setCells_row _ _ _ _ _ _ h.row (by simp [hrow, wds_len, hl, h.sl]), hrow, mid_row _ _ _ _ (by rw [wds_len, wds_len, h.sl, hl])]
  exact setRow_heap _ _ _ _ _ _ h.row
theorem Hp.setN {w : World} {b : Nat} {ty : TypeId} {pre post : List Value} {st : List Nat} {blk : List UInt8} {n : Nat} (h : Hp w b ty pre post st blk n) (m : Nat) : Hp (w.setCell ⟨b, pre.length + 72, none⟩ (.int .u64 m)) b ty pre post st blk m := by
  refine ⟨?_, h.sl, h.bl⟩
  rw [heap_setCell_same _ _ _ _ _ _ h.row, List.setIfInBounds_toArray]
  congr 3
  rw [hrow, List.set_append_right _ _ (by omega), List.set_append_right _ _ (by rw [wds_len, h.sl]; omega), List.set_append_right _ _ (by rw [wds_len, bys_length, h.sl, h.bl]; omega)]
  rw [wds_len, bys_length, h.sl, h.bl, show pre.length + 72 - pre.length - 8 - 64 = 0 by omega]
  rfl
theorem Hp.copied {w : World} {b : Nat} {ty : TypeId} {pre post : List Value} {st : List Nat} {blk : List UInt8} {n : Nat} (h : Hp w b ty pre post st blk n) (s : Nat) (t : List UInt8) (hs : s + t.length ≤ 64) :
    Hp (w.setRow b ((hrow pre post st blk n).take (pre.length + 8 + s) ++ (bys t ++ (hrow pre post st blk n).drop (pre.length + 8 + s + (bys t).length))).toArray) b ty pre post st (splice blk s t) n := by
  have hl := h.bl
  have e : hrow pre post st blk n = (pre ++ (wds st ++ bys (blk.take s))) ++ (bys ((blk.drop s).take t.length) ++ (bys (blk.drop (s + t.length)) ++ (Value.int .u64 n :: post))) := by
    have : blk = blk.take s ++ ((blk.drop s).take t.length ++ blk.drop (s + t.length)) := by
      rw [← List.drop_drop, List.take_append_drop, List.take_append_drop]
    conv => lhs; rw [hrow, this]
    simp only [bys_append, List.append_assoc]
  have e1 : (pre ++ (wds st ++ bys (blk.take s))).length = pre.length + 8 + s := by
    simp [wds_len, bys_length, h.sl, hl]; omega
  refine ⟨?_, h.sl, by rw [length_splice _ _ _ (by omega)]; exact hl⟩
  rw [setRow_heap _ _ _ _ _ _ h.row]
  congr 3
  rw [e, ← e1, mid_row _ _ _ _ (by simp [bys_length, hl]; omega)]
  simp only [hrow, splice, bys_append, List.append_assoc]

end Go.Proofs.Ythfbpbibpgblaaa
