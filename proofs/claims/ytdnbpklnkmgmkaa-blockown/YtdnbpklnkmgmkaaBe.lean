/-
  Blocks in memory; three-index slices.
-/
import Derived.Test.YtdnbpklnkmgmkaaBd
namespace Go.Proofs.Ytdnbpklnkmgmkaa
open Go.RowKit
set_option linter.unusedVariables false
set_option linter.unusedSimpArgs false

theorem setCells_row : ∀ (vs : List Value) (w : World) (g o : Nat) (cur : List Value) (t : TypeId), w.heap[g]? = some (.cells cur.toArray t (0, 0)) → o + vs.length ≤ cur.length →
    w.setCells g o vs = w.setRow g (cur.take o ++ (vs ++ cur.drop (o + vs.length))).toArray
  | [], w, g, o, cur, t, hg, hl => by
    simp only [World.setCells, List.nil_append, List.length_nil, Nat.add_zero, List.take_append_drop]
    cases w with
    | mk heap tape drawn os output =>
      unfold World.setRow
      congr 1
      apply Array.ext
      · simp
      · intro k h1 h2
        simp only [Array.getElem_modify]
        split
        · rename_i hk
          subst hk
          have := (Array.getElem?_eq_some_iff.1 hg).2
          simp at this
          simp [this]
        · rfl
  | v :: vs, w, g, o, cur, t, hg, hl => by
    simp only [List.length_cons] at hl
    have hs : w.setCell ⟨g, o, none⟩ v = w.setRow g (cur.set o v).toArray := by
      rw [setCell_eq_setRow w g o _ t (0, 0) v hg, List.setIfInBounds_toArray]
    have hg2 : (w.setRow g (cur.set o v).toArray).heap[g]? = some (.cells (cur.set o v).toArray t (0, 0)) := setRow_heap _ _ _ _ _ _ hg
    rw [World.setCells, hs, setCells_row vs _ g (o + 1) _ t hg2 (by simp; omega), setRow_setRow]
    congr 2
    apply List.ext_getElem?
    intro i
    simp only [List.length_cons, List.getElem?_append, List.length_take, List.length_set, List.getElem?_take, List.getElem?_drop, List.getElem?_set, List.getElem?_cons, List.length_append]
    by_cases h1 : i < o
    · simp [h1, show i < o + 1 by omega, show i < min (o + 1) cur.length by omega, show i < min o cur.length by omega, show o ≠ i by omega]
    · by_cases h2 : i = o
      · subst h2
        simp [show i < min (i + 1) cur.length by omega, show ¬ i < min i cur.length by omega, show min i cur.length = i by omega, show i < cur.length by omega]
      · have e1 : min (o + 1) cur.length = o + 1 := by omega
        have e2 : min o cur.length = o := by omega
        rw [e1, e2]
        simp only [show ¬ i < o + 1 by omega, show ¬ i < o by omega, if_false]
        have e3 : i - o = (i - (o + 1)) + 1 := by omega
        by_cases h3 : i - (o + 1) < vs.length
        · simp [h3, e3, show (i - (o + 1) + 1) < vs.length + 1 by omega]
        · simp [h3, e3, show ¬ (i - (o + 1) + 1) < vs.length + 1 by omega, show o ≠ o + 1 + vs.length + (i - (o + 1) - vs.length) by omega, show o + (vs.length + 1) + (i - (o + 1) - vs.length) = o + 1 + vs.length + (i - (o + 1) - vs.length) by omega]

theorem kept_setCells {l : List Nat} {a : World} {g : Nat} (hg : g < a.heap.size → g ∈ l) : ∀ (vs : List Value) (o : Nat) (w : World), Kept l a w → Kept l a (w.setCells g o vs)
  | [], o, w, h => h
  | v :: r, o, w, h => by
    rw [World.setCells]
    exact kept_setCells hg r (o + 1) _ (h.setCell hg v)

/-- The cells of blocks, one behind the other. -/
def brows (L : List Bk) : List Value := L.flatMap Bk.cells
theorem brows_snoc (L : List Bk) (e : Bk) : brows (L ++ [e]) = brows L ++ e.cells := by simp [brows]
theorem brows_app (L M : List Bk) : brows (L ++ M) = brows L ++ brows M := by simp [brows]
theorem brows_len (L : List Bk) : (brows L).length = L.length * 4 := by
  induction L with
  | nil => rfl
  | cons e r ih =>
    simp only [brows, List.flatMap_cons, List.length_append, List.length_cons, Bk.cells, List.length_nil] at ih ⊢
    omega
theorem brows_one (L : List Bk) : ∀ u ∈ brows L, u.oneCell' = true := by
  intro u hu
  simp only [brows, List.mem_flatMap] at hu
  obtain ⟨e, _, h⟩ := hu
  simp only [Bk.cells, List.mem_cons, List.not_mem_nil, or_false] at h
  rcases h with rfl | rfl | rfl | rfl <;> rfl
theorem brows_at : ∀ {L : List Bk} (i j : Nat) (v : Value), i < L.length → (L.getD i bk0).cells[j]? = some v → (brows L)[i * 4 + j]? = some v := by
  intro L
  induction L with
  | nil => intro i j v hi; simp at hi
  | cons e r ih =>
    intro i j v hi hv
    cases i with
    | zero =>
      have hj := (List.getElem?_eq_some_iff.1 hv).1
      simp only [List.getD, List.getElem?_cons_zero, Option.getD_some] at hv hj
      simp only [brows, List.flatMap_cons, Nat.zero_mul, Nat.zero_add]
      rw [List.getElem?_append_left hj]; exact hv
    | succ i =>
      have := ih i j v (by simpa using hi) (by simpa [List.getD] using hv)
      simp only [brows, List.flatMap_cons] at this ⊢
      have h1 : e.cells.length = 4 := rfl
      rw [List.getElem?_append_right (by omega), h1]
      rw [show (i + 1) * 4 + j - 4 = i * 4 + j by omega]
      exact this
def Blks (w : World) (ao : Option Addr) (L : List Bk) : Prop :=
  ∀ i, i < L.length → ∃ b off, ao = some ⟨b, off, none⟩ ∧ w.rangeAt b (off + i * 4) (L.getD i bk0).cells
theorem Blks.nil (w : World) (ao : Option Addr) : Blks w ao [] := fun i hi => by simp at hi
theorem Blks.kept {l : List Nat} {w w' : World} {ao : Option Addr} {L : List Bk} (h : Blks w ao L) (hk : Kept l w w') (hn : L ≠ [] → ∀ a, ao = some a → a.block ∉ l) : Blks w' ao L := by
  intro i hi
  obtain ⟨b, off, e, hc⟩ := h i hi
  exact ⟨b, off, e, fun j v hv => hk.cellOf (hc j v hv) (hn (by rintro rfl; simp at hi) ⟨b, off, none⟩ e)⟩
theorem Blks.open {w : World} {ao : Option Addr} {L : List Bk} (h : Blks w ao L) (hn : L ≠ []) : ∃ b off, ao = some ⟨b, off, none⟩ ∧ b < w.heap.size ∧ ∀ i, i < L.length → w.rangeAt b (off + i * 4) (L.getD i bk0).cells := by
  obtain ⟨b, off, e, hc⟩ := h 0 (List.length_pos_iff.2 hn)
  refine ⟨b, off, e, World.block_lt_of_cell? _ _ (hc 0 _ rfl), fun i hi => ?_⟩
  obtain ⟨b', off', e', hc'⟩ := h i hi
  rw [e] at e'
  cases e'
  exact hc'
theorem Blks.of_row {w : World} {g : Nat} {L : List Bk} {cur : List Value} {t : TypeId} {fr : Nat × Nat} (h : w.heap[g]? = some (.cells cur.toArray t fr)) (hp : cur.take (L.length * 4) = brows L) : Blks w (some ⟨g, 0, none⟩) L := by
  intro i hi
  refine ⟨g, 0, rfl, fun j v hv => ?_⟩
  have h1 := brows_at i j v hi hv
  rw [← hp, List.getElem?_take] at h1
  split at h1
  · rw [Nat.zero_add, cell_of_row _ _ _ _ _ _ h, List.getElem?_toArray]; exact h1
  · cases h1

/-- Blocks of a call's own. -/
def OwnK (w : World) (base : Nat) (v : Value) (L : List Bk) : Prop := w.ownsRow base 45 4 v L.length (brows L)
theorem OwnK.nil (w : World) (base : Nat) : OwnK w base (.slice none 0 0) [] := World.ownsRow_nil _ _ _ _
theorem OwnK.shape {w : World} {base : Nat} {v : Value} {L : List Bk} (h : OwnK w base v L) : ∃ ao cap, v = .slice ao L.length cap ∧ L.length ≤ cap ∧ Blks w ao L ∧ (∀ a, ao = some a → ∃ g, a = ⟨g, 0, none⟩ ∧ base ≤ g ∧ g < w.heap.size ∧ v.ownBlock = some g) ∧ cap ≤ 9223372036854775807 ∧ (ao = none → L = [] ∧ cap = 0) := by
  rcases h.2 with ⟨rfl, h0⟩ | ⟨g, cap, cur, rfl, hb, hg, hn, hc, hs, ht⟩
  · have : L = [] := List.eq_nil_of_length_eq_zero h0
    subst this
    exact ⟨none, 0, rfl, Nat.le_refl _, Blks.nil _ _, by simp, by omega, by simp⟩
  · refine ⟨some ⟨g, 0, none⟩, cap, rfl, hn, ?_, fun a ha => ?_, hc, by simp⟩
    · exact Blks.of_row (cur := cur.toList) (by simpa using hg) ht
    · cases ha
      exact ⟨g, rfl, hb, (Array.getElem?_eq_some_iff.1 hg).1, rfl⟩
theorem OwnK.kept {l : List Nat} {w w' : World} {base : Nat} {v : Value} {L : List Bk} (h : OwnK w base v L) (hk : Kept l w w') (hn : ∀ g, v.ownBlock = some g → g ∉ l) : OwnK w' base v L := by
  refine ⟨h.1, ?_⟩
  rcases h.2 with h0 | ⟨g, cap, cur, rfl, hb, hg, hr⟩
  · exact .inl h0
  · exact .inr ⟨g, cap, cur, rfl, hb, (hk.block g (Array.getElem?_eq_some_iff.1 hg).1 (hn g rfl)).trans hg, hr⟩
theorem Try.infoBlk3 : (Try.prog.info? 45).map (fun i => (i.zero, i.size, i.bytes)) = some (some (.agg #[.int .i64 0, .int .i64 0, .int .i64 0, .int .i64 0]), 4, 32) := by kernel_rfl

theorem brows_zero : ∀ c, brows (List.replicate c bk0) = List.replicate (c * 4) (.int .i64 0)
  | 0 => rfl
  | c + 1 => by
    rw [List.replicate_succ, show brows (bk0 :: List.replicate c bk0) = bk0.cells ++ brows (List.replicate c bk0) from rfl, brows_zero c, Nat.add_mul, Nat.one_mul, Nat.add_comm, ← List.replicate_append_replicate]
    rfl
theorem made_brows (c : Nat) : madeCells (Value.agg #[.int .i64 0, .int .i64 0, .int .i64 0, .int .i64 0]).cells (c * 4) = (brows (List.replicate c bk0)).toArray := by
  rw [brows_zero]
  apply Array.ext
  · simp [size_madeCells]
  · intro i h1 h2
    have h3 : i % 4 < 4 := Nat.mod_lt _ (by omega)
    simp only [madeCells, Value.cells, Array.getElem_map, Array.getElem_range, List.getElem_toArray, List.getElem_replicate]
    show (#[Value.int .i64 0, .int .i64 0, .int .i64 0, .int .i64 0] : Array Value)[i % 4]! = _
    generalize i % 4 = q at h3
    match q, h3 with
    | 0, _ => rfl
    | 1, _ => rfl
    | 2, _ => rfl
    | 3, _ => rfl
theorem run_makeK (w : World) (c : Nat) (h : c ≤ 1000000) : (Instr.makeSlice 30 (.int .i64 c) (.int .i64 c)).run Try.prog w = .ok (.slice (some ⟨w.heap.size, 0, none⟩) c c) (w.alloc (.cells (brows (List.replicate c bk0)).toArray 45)) := by
  obtain ⟨i0, hi, hz0, hz1, hz2⟩ := info_parts Try.infoBlk3
  have hmk := run_make (P := Try.prog) w 30 45 i0 (.agg #[.int .i64 0, .int .i64 0, .int .i64 0, .int .i64 0]) Try.underlying30 hi hz0 .i64 .i64 c c (by omega) (by omega) (by rw [hz2]; omega) (by omega)
  rw [hz1] at hmk
  simp only [Int.toNat_natCast] at hmk
  rw [hmk, made_brows]

theorem Try.cut3 (W : World) (b off L cap l h : Nat) (h1 : l < h) (h2 : h ≤ L) (h3 : L ≤ cap) :
    (Instr.slice 23 (.slice (some ⟨b, off, none⟩) L cap) (some (.int .i64 l)) (some (.int .i64 h)) (some (.int .i64 h))).run Try.prog W = .ok (.slice (some ⟨b, off + l, none⟩) (h - l) (h - l)) W := by
  have hz : (sizeOf (Try.prog.elem 23)).run Try.prog W = .ok 1 W := by kernel_rfl
  have h := run_slice_lhm (P := Try.prog) W 23 (some ⟨b, off, none⟩) L cap (by kernel_rfl) .i64 .i64 .i64 l h h (by omega) (by omega) (by omega) (by omega)
  rw [h, hz]
  simp [sliced, Addr.add_mid]
  omega

end Go.Proofs.Ytdnbpklnkmgmkaa
