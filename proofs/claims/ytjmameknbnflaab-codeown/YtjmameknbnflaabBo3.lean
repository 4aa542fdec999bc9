/-
  The book and its rows in memory of their own: who owns a block; one step of grow.
-/
import Derived.Test.YtjmameknbnflaabBo2
namespace Go.Proofs.Ytjmameknbnflaab
open Go.RowKit
set_option linter.unusedVariables false
set_option linter.unusedSimpArgs false

def oblk (o : Option Addr) : List Nat := o.toList.map (·.block)
theorem mem_oblk {o : Option Addr} {g : Nat} : g ∈ oblk o ↔ ∃ a, o = some a ∧ a.block = g := by
  cases o with
  | none => simp [oblk]
  | some a => simp [oblk, eq_comm]
theorem ownBlock_slice {o : Option Addr} {n c g : Nat} {w : World} {base : Nat} {e : TypeId} {size : Nat} {xs : List Value} (h : w.ownsRow base e size (.slice o n c) n xs) : (Value.slice o n c).ownBlock = some g ↔ g ∈ oblk o := by
  rcases h.2 with ⟨e1, _⟩ | ⟨g', cap, cur, e1, _⟩
  · cases e1; simp [oblk, Value.ownBlock]
  · cases e1; simp [oblk, Value.ownBlock, eq_comm]

def En.fp (e : En) : List Nat := oblk e.lo ++ oblk e.go

/-- A row of the book, in memory of its own. -/
structure EnO (w : World) (base : Nat) (e : En) : Prop where
  sl : Sl w e.lo (List.replicate e.n e.mc)
  own : w.ownsRow base 5 1 (.slice e.go e.m e.gc) e.m (bys e.row)
  le : e.n ≤ e.m
  low : e.mc.toNat ≤ 199
  zero : ∀ a, e.lo = some a → a = ⟨a.block, 0, none⟩
  lt : ∀ a, e.lo = some a → base ≤ a.block ∧ a.block < w.heap.size

theorem EnO.kept {l : List Nat} {w w' : World} {base : Nat} {e : En} (h : EnO w base e) (hk : Kept l w w') (hn : ∀ g, g ∈ e.fp → g ∉ l) : EnO w' base e :=
  ⟨h.sl.kept hk (fun _ a ha => hn _ (by simp [En.fp, mem_oblk, ha])), Kept.nil_own h.own hk (fun g hg => hn g (by rw [ownBlock_slice h.own] at hg; simp [En.fp, hg])), h.le, h.low, h.zero, fun a ha => ⟨(h.lt a ha).1, Nat.lt_of_lt_of_le (h.lt a ha).2 hk.size⟩⟩
theorem EnO.fplt {w : World} {base : Nat} {e : En} (h : EnO w base e) : ∀ g, g ∈ e.fp → base ≤ g ∧ g < w.heap.size := by
  intro g hg
  simp only [En.fp, List.mem_append] at hg
  rcases hg with hg | hg
  · obtain ⟨a, ha, rfl⟩ := mem_oblk.1 hg
    exact h.lt a ha
  · exact h.own.lt g ((ownBlock_slice h.own).2 hg)
theorem EnO.toR {w : World} {base : Nat} {e : En} (h : EnO w base e) (hm : e.m ≤ 1000000000000) : EnR w e := ⟨h.sl, own_sl2 h.own, h.le, h.low, hm⟩

/-- The book and its rows, apart from one another: each block is somebody's. -/
structure BookS (w : World) (base B : Nat) (rv : Value) (es : List En) (ow : Nat → Nat) : Prop where
  bk : Bk w base B rv es
  en : ∀ i, i < es.length → EnO w base (es.getD i en0)
  oB : ow B = 5
  oR : ∀ g, rv.ownBlock = some g → ow g = 6
  oE : ∀ i, i < es.length → ∀ g, g ∈ (es.getD i en0).fp → ow g = 100 + i
  many : es.length ≤ 1000

/-- The blocks of those whom P names. -/
def blk (w : World) (base : Nat) (ow : Nat → Nat) (P : Nat → Bool) : List Nat := (List.range w.heap.size).filter (fun g => decide (base ≤ g) && P (ow g))
theorem mem_blk {w : World} {base : Nat} {ow : Nat → Nat} {P : Nat → Bool} {g : Nat} : g ∈ blk w base ow P ↔ g < w.heap.size ∧ base ≤ g ∧ P (ow g) = true := by simp [blk]
/-- The book's rows. -/
def isRow (i : Nat) : Bool := i == 6 || (decide (100 ≤ i) && decide (i < 1100))

theorem en_row_succ {e : En} (h : e.n ≤ e.m) (hl : e.mc.toNat ≤ 199) (go : Option Addr) (gc : Nat) : bys ({ e with go := go, m := e.m + 1, gc := gc } : En).row = bys e.row ++ [.int .u8 ((e.mc.toNat : Int) + 1)] := by
  have e1 : (e.mc + 1).toNat = e.mc.toNat + 1 := by rw [UInt8.toNat_add]; simp; omega
  have e2 : ({ e with go := go, m := e.m + 1, gc := gc } : En).row = e.row ++ [e.mc + 1] := by
    simp only [En.row]
    rw [show e.m + 1 - e.n = (e.m - e.n) + 1 by omega, List.replicate_succ', List.append_assoc]
  rw [e2, bys_append, ← bys_one (e.mc + 1) ((e.mc.toNat : Int) + 1) (by rw [e1]; omega)]

theorem enRow_set (es : List En) (k : Nat) (hk : k < es.length) (go : Option Addr) (m gc : Nat) : (enRow es).set (k * 3 + 1) (.slice go m gc) = enRow (es.set k { es.getD k en0 with go := go, m := m, gc := gc }) := by
  induction es generalizing k with
  | nil => simp at hk
  | cons e es ih =>
    have hc : e.cells.length = 3 := rfl
    cases k with
    | zero => rfl
    | succ k =>
      simp only [enRow, List.flatMap_cons, List.getD_cons_succ, List.set_cons_succ]
      rw [List.set_append_right _ _ (by omega), hc, show (k + 1) * 3 + 1 - 3 = k * 3 + 1 by omega]
      congr 1
      exact ih k (by simpa using hk)

/-- One cell of a row of one's own is written. -/
theorem own_setc {w : World} {base : Nat} {e : TypeId} {size g n cap k : Nat} {xs : List Value} {v : Value} (h : w.ownsRow base e size (.slice (some ⟨g, 0, none⟩) n cap) n xs) (hk : k < xs.length) :
    (w.setCell ⟨g, k, none⟩ v).ownsRow base e size (.slice (some ⟨g, 0, none⟩) n cap) n (xs.set k v) := by
  have hl := h.1
  rcases h.2 with ⟨e1, _⟩ | ⟨g', cap', cur, e1, hb, hg, hn, hm, hs, ht⟩
  · cases e1
  · cases e1
    refine ⟨by rw [List.length_set]; exact hl, .inr ⟨g, cap, cur.setIfInBounds k v, rfl, hb, ?_, hn, hm, by simpa using hs, ?_⟩⟩
    · rw [heap_setCell_same _ _ _ _ _ _ hg]
    · rw [Array.toList_setIfInBounds, List.take_set, ht]

theorem getD_set_self {es : List En} {k : Nat} {e : En} (hk : k < es.length) : (es.set k e).getD k en0 = e := by simp [List.getElem?_set_self hk]
theorem getD_set_ne {es : List En} {k i : Nat} {e : En} (h : i ≠ k) : (es.set k e).getD i en0 = es.getD i en0 := by simp [List.getElem?_set_ne (Ne.symm h)]

/-- One step of grow. -/
theorem BookS.grown {wr w2 : World} {base B rg L rc : Nat} {es : List En} {ow : Nat → Nat} {k gg cap2 : Nat} {ob : Obj} (h : BookS wr base B (.slice (some ⟨rg, 0, none⟩) L rc) es ow) (hk : k < es.length)
    (hown2 : w2.ownsRow base 5 1 (.slice (some ⟨gg, 0, none⟩) ((es.getD k en0).m + 1) cap2) ((es.getD k en0).m + 1) (bys (es.getD k en0).row ++ [.int .u8 (((es.getD k en0).mc.toNat : Int) + 1)]))
    (hgrow : (wr.alloc ob).drew.grownBy w2 (Value.slice (es.getD k en0).go (es.getD k en0).m (es.getD k en0).gc).ownBlock)
    (hat : (Value.slice (es.getD k en0).go (es.getD k en0).m (es.getD k en0).gc).ownBlock = some gg ∨ (gg = wr.heap.size + 1 ∧ (wr.alloc ob).drew.grownBy w2 none)) :
    ∃ ow', BookS (w2.setCell ⟨rg, k * 3 + 1, none⟩ (.slice (some ⟨gg, 0, none⟩) ((es.getD k en0).m + 1) cap2)) base B (.slice (some ⟨rg, 0, none⟩) L rc) (es.set k { es.getD k en0 with go := some ⟨gg, 0, none⟩, m := (es.getD k en0).m + 1, gc := cap2 }) ow' ∧ (∀ g, g < wr.heap.size → ow' g = ow g) ∧ Kept (blk wr base ow isRow) wr (w2.setCell ⟨rg, k * 3 + 1, none⟩ (.slice (some ⟨gg, 0, none⟩) ((es.getD k en0).m + 1) cap2)) := by
  have hE := h.en k hk
  have hmany := h.many
  generalize hE' : es.getD k en0 = e at *
  have hBl := h.bk.lt
  have hrg : (Value.slice (some ⟨rg, 0, none⟩) L rc).ownBlock = some rg := rfl
  have hrl := (h.bk.own.lt rg hrg).2
  have hor := h.oR rg hrg
  have hobs : ∀ g, (Value.slice e.go e.m e.gc).ownBlock = some g → ow g = 100 + k ∧ g < wr.heap.size := fun g hg => ⟨h.oE k hk g (by rw [hE']; rw [ownBlock_slice hE.own] at hg; simp [En.fp, hg]), (hE.own.lt g hg).2⟩
  have hgg : gg ≠ rg := by
    rcases hat with h1 | ⟨h1, _⟩
    · intro e
      have := (hobs gg h1).1
      rw [e, hor] at this
      omega
    · omega
  have hgB : ∀ g, (Value.slice e.go e.m e.gc).ownBlock = some g → g ≠ B := fun g hg e => by
    have := (hobs g hg).1
    rw [e, h.oB] at this
    omega
  have hk2 : Kept (Value.slice e.go e.m e.gc).ownBlock.toList wr w2 := (((Kept.refl _ wr).alloc ob).drew).grown hgrow (fun g hg _ => by simp [hg])
  have hk3 : Kept [rg] w2 (w2.setCell ⟨rg, k * 3 + 1, none⟩ (.slice (some ⟨gg, 0, none⟩) (e.m + 1) cap2)) := (Kept.refl [rg] w2).setCell (by simp) _
  have hk23 : Kept (rg :: (Value.slice e.go e.m e.gc).ownBlock.toList) wr (w2.setCell ⟨rg, k * 3 + 1, none⟩ (.slice (some ⟨gg, 0, none⟩) (e.m + 1) cap2)) := (hk2.mono (fun i hi _ => by simp at hi ⊢; exact .inr hi)).setCell (by simp) _
  have hfar : ∀ i, i < es.length → i ≠ k → ∀ g, g ∈ (es.getD i en0).fp → g ∉ rg :: (Value.slice e.go e.m e.gc).ownBlock.toList := fun i hi hik g hg hm => by
    have h1 := h.oE i hi g hg
    simp at hm
    rcases hm with h2 | h2
    · rw [h2, hor] at h1; omega
    · have := (hobs g h2).1; omega
  refine ⟨fun g => if g < wr.heap.size then ow g else 100 + k, ⟨⟨?_, ?_, ?_, ?_⟩, fun i hi => ?_, ?_, fun g hg => ?_, fun i hi g hg => ?_, by simpa using hmany⟩, fun g hg => by simp [hg], ?_⟩
  · exact hk23.cellOf h.bk.c0 (fun hm => by
      simp at hm
      rcases hm with h2 | h2
      · have := h.oB; rw [h2, hor] at this; omega
      · exact hgB B h2 rfl)
  · exact (hk23.frozen (p := ⟨B, 0, none⟩) hBl (fun hm => by
      simp at hm
      rcases hm with h2 | h2
      · have := h.oB; rw [h2, hor] at this; omega
      · exact hgB B h2 rfl)).trans h.bk.f0
  · have h1 : w2.ownsRow base 92 3 (.slice (some ⟨rg, 0, none⟩) L rc) es.length (enRow es) := Kept.nil_own h.bk.own hk2 (fun g hg hm => by
      rw [hrg] at hg
      cases hg
      have := (hobs rg (by simpa using hm)).1
      omega)
    obtain ⟨ro, rc', hsh⟩ := own_shape h1
    cases hsh
    have h2 := own_setc (k := k * 3 + 1) (v := .slice (some ⟨gg, 0, none⟩) (e.m + 1) cap2) h1 (by rw [enRow_len]; omega)
    rw [enRow_set es k hk, hE'] at h2
    rw [List.length_set]
    exact h2
  · exact h.bk.ne
  · rw [List.length_set] at hi
    by_cases hik : i = k
    · subst hik
      rw [getD_set_self hk]
      refine ⟨?_, ?_, by have := hE.le; show e.n ≤ e.m + 1; omega, hE.low, hE.zero, fun a ha => ⟨(hE.lt a ha).1, Nat.lt_of_lt_of_le (hE.lt a ha).2 hk23.size⟩⟩
      · have hown3 := Kept.nil_own hown2 hk3 (fun g hg hm => by
          have : g = gg := by simpa [Value.ownBlock, eq_comm] using hg
          simp at hm
          omega)
        cases hlo : e.lo with
        | none => exact hlo ▸ (hE.sl.kept hk23 (fun _ a ha => by rw [hlo] at ha; cases ha))
        | some a =>
          have harg : a.block ≠ rg := fun e2 => by
            have := h.oE i hk a.block (by rw [hE']; simp [En.fp, mem_oblk, hlo])
            rw [e2, hor] at this
            omega
          by_cases hag : a.block = gg
          · have ha0 := hE.zero a hlo
            rw [hag] at ha0
            rw [← en_row_succ hE.le hE.low (some ⟨gg, 0, none⟩) cap2] at hown3
            have h6 := (own_sl2 hown3).take e.n
            have h7 : (({ e with go := some ⟨gg, 0, none⟩, m := e.m + 1, gc := cap2 } : En).row).take e.n = List.replicate e.n e.mc := by
              simp only [En.row]
              rw [List.take_left' (by simp)]
            rw [h7] at h6
            rw [ha0]
            exact h6
          · have h9 : Kept [rg, gg] wr (w2.setCell ⟨rg, i * 3 + 1, none⟩ (.slice (some ⟨gg, 0, none⟩) (e.m + 1) cap2)) := by
              rcases hat with h1 | ⟨h1, h2⟩
              · exact hk23.mono (fun j hj _ => by simp [h1] at hj ⊢; exact hj)
              · exact ((((Kept.refl [rg, gg] wr).alloc ob).drew).grown h2 (by simp)).setCell (by simp) _
            have h8 : Sl (w2.setCell ⟨rg, i * 3 + 1, none⟩ (.slice (some ⟨gg, 0, none⟩) (e.m + 1) cap2)) e.lo (List.replicate e.n e.mc) := hE.sl.kept h9 (fun _ b hb => by rw [hlo] at hb; cases hb; simp; exact ⟨harg, hag⟩)
            rw [hlo] at h8
            exact h8
      · show World.ownsRow _ base _ 1 (.slice (some ⟨gg, 0, none⟩) (e.m + 1) cap2) (e.m + 1) (bys ({ e with go := some ⟨gg, 0, none⟩, m := e.m + 1, gc := cap2 } : En).row)
        rw [en_row_succ hE.le hE.low]
        exact Kept.nil_own hown2 hk3 (fun g hg hm => by
          have : g = gg := by simpa [Value.ownBlock, eq_comm] using hg
          simp at hm
          omega)
    · rw [getD_set_ne hik]
      exact (h.en i hi).kept hk23 (hfar i hi hik)
  · simp [hBl, h.oB]
  · rw [hrg] at hg
    cases hg
    simp [hrl, hor]
  · rw [List.length_set] at hi
    by_cases hik : i = k
    · subst hik
      rw [getD_set_self hk] at hg
      simp only [En.fp, List.mem_append] at hg
      rcases hg with hg | hg
      · obtain ⟨a, ha, rfl⟩ := mem_oblk.1 hg
        have h1 := (hE.lt a ha).2
        simp only [h1, if_true]
        exact h.oE i hk _ (by rw [hE']; simp [En.fp, mem_oblk, show e.lo = some a from ha])
      · have : g = gg := by simpa [oblk, eq_comm] using hg
        subst this
        split
        · rename_i hlt
          rcases hat with h1 | ⟨h1, _⟩
          · exact (hobs g h1).1
          · omega
        · rfl
    · rw [getD_set_ne hik] at hg
      have h1 := ((h.en i hi).fplt g hg).2
      simp only [h1, if_true]
      exact h.oE i hi g hg
  · refine hk23.mono (fun i hi hlt => mem_blk.2 ⟨hlt, ?_⟩)
    simp at hi
    rcases hi with h2 | h2
    · rw [h2]
      exact ⟨(h.bk.own.lt rg hrg).1, by rw [hor]; rfl⟩
    · refine ⟨(hE.own.lt i h2).1, ?_⟩
      rw [(hobs i h2).1]
      simp [isRow]
      omega

end Go.Proofs.Ytjmameknbnflaab
