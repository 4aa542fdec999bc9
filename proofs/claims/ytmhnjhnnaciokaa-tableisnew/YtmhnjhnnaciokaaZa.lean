/-
  Results in memory.
-/
import Derived.Test.YtmhnjhnnaciokaaWr1
import Derived.Great.Ranges
import Derived.Great.BuildSlice
import Derived.Deep.MidRow
import Derived.Deep.QuietTactic
import Derived.BigQuiet
import Derived.Laws.AppendOwn
namespace Go.Proofs.Ytmhnjhnnaciokaa
open Go.RowKit
set_option linter.unusedVariables false
set_option linter.unusedSimpArgs false

structure Res where
  action : List UInt8
  root : List UInt8
  code : Int
  ha : action.length = 32
  hr : root.length = 32
  hc : (Lit.int .i64 code).wf = true
theorem Res.same {a b : Res} (h1 : a.action = b.action) (h2 : a.root = b.root) (h3 : a.code = b.code) : a = b := by
  cases a; cases b; simp_all
theorem Res.iff (a b : Res) : a = b ↔ a.action = b.action ∧ a.root = b.root ∧ a.code = b.code := ⟨by rintro rfl; simp, fun h => Res.same h.1 h.2.1 h.2.2⟩
instance : DecidableEq Res := fun a b => decidable_of_iff _ (Res.iff a b).symm
def res0 : Res := ⟨List.replicate 32 0, List.replicate 32 0, 0, rfl, rfl, rfl⟩
instance : Inhabited Res := ⟨res0⟩
def Res.cells (e : Res) : List Value := bys e.action ++ (bys e.root ++ [.int .i64 e.code])
theorem Res.len (e : Res) : e.cells.length = 65 := by simp [Res.cells, bys_length, e.ha, e.hr]
theorem res_one (e : Res) : ∀ u ∈ e.cells, u.oneCell' = true := by
  intro u hu
  simp only [Res.cells, List.mem_append, List.mem_singleton] at hu
  rcases hu with h | h | h
  · exact bys_oneCell _ _ h
  · exact bys_oneCell _ _ h
  · rw [h]; rfl
theorem res_all (e : Res) : e.cells.toArray.all (·.oneCell') = true := by
  simp only [List.all_toArray, List.all_eq_true]
  exact res_one e
theorem res_size (e : Res) : e.cells.toArray.size = 65 := by simp [e.len]
theorem Res.act {e : Res} {j : Nat} (h : j < 32) : e.cells[j]? = some (.int .u8 (e.action.getD j 0).toNat) := by
  unfold Res.cells
  rw [List.getElem?_append_left (by rw [bys_length, e.ha]; exact h)]
  exact bys_at (by rw [e.ha]; exact h)
theorem Res.roo {e : Res} {j : Nat} (h : j < 32) : e.cells[32 + j]? = some (.int .u8 (e.root.getD j 0).toNat) := by
  unfold Res.cells
  rw [List.getElem?_append_right (by rw [bys_length, e.ha]; omega), bys_length, e.ha, Nat.add_sub_cancel_left, List.getElem?_append_left (by rw [bys_length, e.hr]; exact h)]
  exact bys_at (by rw [e.hr]; exact h)
theorem Res.cod (e : Res) : e.cells[64]? = some (.int .i64 e.code) := by
  unfold Res.cells
  rw [List.getElem?_append_right (by rw [bys_length, e.ha]; omega), bys_length, e.ha, List.getElem?_append_right (by rw [bys_length, e.hr]; omega), bys_length, e.hr]
  rfl
def Ress (w : World) (ao : Option Addr) (L : List Res) : Prop :=
  ∀ i, i < L.length → ∃ b off, ao = some ⟨b, off, none⟩ ∧ w.rangeAt b (off + i * 65) (L.getD i res0).cells
theorem Ress.nil (w : World) (ao : Option Addr) : Ress w ao [] := fun i hi => by simp at hi
theorem Ress.kept {l : List Nat} {w w' : World} {ao : Option Addr} {L : List Res} (h : Ress w ao L) (hk : Kept l w w') (hn : L ≠ [] → ∀ a, ao = some a → a.block ∉ l) : Ress w' ao L := by
  intro i hi
  obtain ⟨b, off, e, hc⟩ := h i hi
  exact ⟨b, off, e, fun j v hv => hk.cellOf (hc j v hv) (hn (by rintro rfl; simp at hi) ⟨b, off, none⟩ e)⟩
theorem Ress.below {w w' : World} {ao : Option Addr} {L : List Res} (h : Ress w ao L) (hb : Below w.heap.size w w') : Ress w' ao L := h.kept (Kept.of_below hb) (by simp)
theorem getD_take {α : Type} {L : List α} {k i : Nat} (h : i < k) (d : α) : (L.take k).getD i d = L.getD i d := by simp [List.getD, List.getElem?_take, h]
theorem Ress.take {w : World} {ao : Option Addr} {L : List Res} (h : Ress w ao L) (k : Nat) : Ress w ao (L.take k) := by
  intro i hi
  have hi' : i < k ∧ i < L.length := by simp at hi; omega
  rw [getD_take hi'.1]
  exact h i hi'.2
theorem Ress.open {w : World} {ao : Option Addr} {L : List Res} (h : Ress w ao L) (hn : L ≠ []) : ∃ b off, ao = some ⟨b, off, none⟩ ∧ b < w.heap.size ∧ ∀ i, i < L.length → w.rangeAt b (off + i * 65) (L.getD i res0).cells := by
  obtain ⟨b, off, e, hc⟩ := h 0 (List.length_pos_iff.2 hn)
  refine ⟨b, off, e, World.block_lt_of_cell? _ _ (hc 0 _ (Res.act (by omega))), fun i hi => ?_⟩
  obtain ⟨b', off', e', hc'⟩ := h i hi
  rw [e] at e'
  cases e'
  exact hc'
theorem Ress.make {w : World} {b off : Nat} {L : List Res} (h : ∀ i, i < L.length → w.rangeAt b (off + i * 65) (L.getD i res0).cells) : Ress w (some ⟨b, off, none⟩) L := fun i hi => ⟨b, off, rfl, h i hi⟩
theorem Ress.drop {w : World} {b off : Nat} {L : List Res} (h : Ress w (some ⟨b, off, none⟩) L) (k : Nat) : Ress w (some ⟨b, off + k * 65, none⟩) (L.drop k) := by
  intro i hi
  obtain ⟨b', off', e, hc⟩ := h (k + i) (by simp at hi; omega)
  cases e
  refine ⟨b, off + k * 65, rfl, ?_⟩
  have : (L.drop k).getD i res0 = L.getD (k + i) res0 := by simp [List.getD]
  rw [this, show off + k * 65 + i * 65 = off + (k + i) * 65 by rw [Nat.add_mul]; omega]
  exact hc

theorem hide {p : Prop} (h : p) : Hid p := h
theorem there_row {w : World} {g : Nat} {cur : Array Value} {t : TypeId} (hg : w.heap[g]? = some (.cells cur t (0, 0))) (o m : Nat) (h : o + m ≤ cur.size) : w.there g o m := fun j hj =>
  ⟨by rw [cell_of_row _ _ _ _ _ _ hg, Array.getElem?_eq_getElem (by omega)]; rfl, frozen_of_row _ _ _ _ _ hg⟩
theorem below_drewN {B : Nat} {a w : World} (h : Below B a w) (n : Nat) : Below B a (w.drewN n) := ⟨h.os, h.tape, h.output, h.size, h.block⟩
theorem heap_new (w : World) (o : Obj) : (w.alloc o).heap[w.heap.size]? = some o := by rw [(MapKept.heap_alloc w o).1]
theorem own_shape {w : World} {base : Nat} {e : TypeId} {s : Nat} {v : Value} {n : Nat} {xs : List Value} (h : w.ownsRow base e s v n xs) : ∃ bo bc, v = .slice bo n bc ∧ n ≤ bc := by
  rcases h.2 with ⟨rfl, rfl⟩ | ⟨g, cap, cur, rfl, _, _, hn, _⟩
  · exact ⟨none, 0, rfl, Nat.le_refl _⟩
  · exact ⟨_, _, rfl, hn⟩

/-- The cells of results, one behind the other. -/
def rows (L : List Res) : List Value := L.flatMap Res.cells
theorem rows_snoc (L : List Res) (e : Res) : rows (L ++ [e]) = rows L ++ e.cells := by simp [rows]
theorem rows_app (L M : List Res) : rows (L ++ M) = rows L ++ rows M := by simp [rows]
theorem rows_len (L : List Res) : (rows L).length = L.length * 65 := by
  induction L with
  | nil => rfl
  | cons e r ih =>
    have h1 := e.len
    simp only [rows, List.flatMap_cons, List.length_append, List.length_cons] at ih ⊢
    omega
theorem rows_at : ∀ {L : List Res} (i j : Nat) (v : Value), i < L.length → (L.getD i res0).cells[j]? = some v → (rows L)[i * 65 + j]? = some v := by
  intro L
  induction L with
  | nil => intro i j v hi; simp at hi
  | cons e r ih =>
    intro i j v hi hv
    have h1 := e.len
    cases i with
    | zero =>
      have hj := (List.getElem?_eq_some_iff.1 hv).1
      simp only [List.getD, List.getElem?_cons_zero, Option.getD_some] at hv hj
      simp only [rows, List.flatMap_cons, Nat.zero_mul, Nat.zero_add]
      rw [List.getElem?_append_left hj]; exact hv
    | succ i =>
      have := ih i j v (by simpa using hi) (by simpa [List.getD] using hv)
      simp only [rows, List.flatMap_cons] at this ⊢
      rw [List.getElem?_append_right (by omega), h1]
      rw [show (i + 1) * 65 + j - 65 = i * 65 + j by omega]
      exact this
/-- .. and back: a cell of the row is a cell of one of the results. -/
theorem rows_back {L : List Res} {k : Nat} {v : Value} (h : (rows L)[k]? = some v) : k / 65 < L.length ∧ (L.getD (k / 65) res0).cells[k % 65]? = some v := by
  have hk := (List.getElem?_eq_some_iff.1 h).1
  rw [rows_len] at hk
  have h1 : k / 65 < L.length := Nat.div_lt_of_lt_mul (by omega)
  refine ⟨h1, ?_⟩
  have h2 : k % 65 < (L.getD (k / 65) res0).cells.length := by rw [Res.len]; omega
  have h3 := rows_at (k / 65) (k % 65) _ h1 (List.getElem?_eq_getElem h2)
  rw [show k / 65 * 65 + k % 65 = k by omega, h] at h3
  rw [List.getElem?_eq_getElem h2, ← h3]
theorem rows_one (L : List Res) : ∀ u ∈ rows L, u.oneCell' = true := by
  intro u hu
  simp only [rows, List.mem_flatMap] at hu
  obtain ⟨e, _, h⟩ := hu
  exact res_one e u h
theorem Ress.cells {w : World} {b off : Nat} {L : List Res} (h : Ress w (some ⟨b, off, none⟩) L) {k : Nat} {v : Value} (hv : (rows L)[k]? = some v) : w.cell? ⟨b, off + k, none⟩ = some v := by
  obtain ⟨h1, h2⟩ := rows_back hv
  obtain ⟨b', off', e, hc⟩ := h _ h1
  cases e
  have := hc _ _ h2
  rwa [show off + k / 65 * 65 + k % 65 = off + k by omega] at this
theorem getD_mem {L : List Res} {i : Nat} (h : i < L.length) : L.getD i res0 ∈ L := by
  simp [List.getD, List.getElem?_eq_getElem h]
/-- Results in memory of a call's own. -/
def OwnR (w : World) (base : Nat) (v : Value) (L : List Res) : Prop := w.ownsRow base 26 65 v L.length (rows L)
theorem OwnR.ress {w : World} {base : Nat} {v : Value} {L : List Res} (h : OwnR w base v L) : ∃ ao cap, v = .slice ao L.length cap ∧ L.length ≤ cap ∧ Ress w ao L ∧ (∀ a, ao = some a → ∃ g, a = ⟨g, 0, none⟩ ∧ base ≤ g ∧ g < w.heap.size ∧ v.ownBlock = some g) ∧ cap ≤ 9223372036854775807 := by
  rcases h.2 with ⟨rfl, h0⟩ | ⟨g, cap, cur, rfl, hb, hg, hn, hc, hs, ht⟩
  · have h0' : L.length = 0 := h0
    have : L = [] := List.eq_nil_of_length_eq_zero h0'
    subst this
    exact ⟨none, 0, rfl, Nat.le_refl _, Ress.nil _ _, by simp, by omega⟩
  · refine ⟨_, cap, rfl, hn, fun i hi => ⟨g, 0, rfl, fun j u hu => ?_⟩, fun a ha => ?_, by unfold maxLen at hc; omega⟩
    · have h1 := rows_at i j u hi hu
      rw [← ht, List.getElem?_take] at h1
      rw [Nat.zero_add, cell_of_row _ _ _ _ _ _ hg]
      split at h1
      · simpa using h1
      · cases h1
    · cases ha
      exact ⟨g, rfl, hb, (Array.getElem?_eq_some_iff.1 hg).1, rfl⟩
theorem OwnR.kept {l : List Nat} {w w' : World} {base : Nat} {v : Value} {L : List Res} (h : OwnR w base v L) (hk : Kept l w w') (hn : ∀ g, v.ownBlock = some g → g ∉ l) : OwnR w' base v L := by
  refine ⟨h.1, ?_⟩
  rcases h.2 with h0 | ⟨g, cap, cur, hv, hb, hg, rest⟩
  · exact .inl h0
  · refine .inr ⟨g, cap, cur, hv, hb, ?_, rest⟩
    rw [hk.block g (Array.getElem?_eq_some_iff.1 hg).1 (hn g (by rw [hv]; rfl))]
    exact hg
def zeroR : Array Value := res0.cells.toArray
theorem Try.zeroRes (W : World) : (zeroValue 26).run Try.prog W = .ok (.agg zeroR) W := by kernel_rfl
theorem Try.infoRes : (Try.prog.info? 26).map (fun i => (i.zero, i.size, i.bytes)) = some (some (.agg zeroR), 65, 72) := by kernel_rfl
end Go.Proofs.Ytmhnjhnnaciokaa
