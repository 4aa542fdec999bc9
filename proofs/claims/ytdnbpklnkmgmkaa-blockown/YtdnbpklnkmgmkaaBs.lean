/-
  Bytes of a call's own: append, copy.
-/
import Derived.Test.YtdnbpklnkmgmkaaUa
import Derived.Laws.AppendOwnNone
import Derived.Maps.AppendAt
namespace Go.Proofs.Ytdnbpklnkmgmkaa
open Go.RowKit
set_option linter.unusedVariables false
set_option linter.unusedSimpArgs false

theorem heap_new (w : World) (o : Obj) : (w.alloc o).heap[w.heap.size]? = some o := by rw [(MapKept.heap_alloc w o).1]
theorem Try.sizeByte : (Try.prog.info? 5).map (·.size) = some 1 := by kernel_rfl
theorem kept_setRow {l : List Nat} {a w : World} (h : Kept l a w) {g : Nat} (hg : g < a.heap.size → g ∈ l) (cs : Array Value) : Kept l a (w.setRow g cs) :=
  h.trans (l2 := [g]) ⟨rfl, rfl, rfl, by simp [World.setRow], fun k _ hn => setRow_other w g k cs (by simpa using hn)⟩ (by simpa using hg)
theorem wpList_app_run {P : Program} {ops : Array Oper} {rest : List Oper} {o : Oper} {a : Act} {w : World} {Q : Exit → Act → World → Prop} (hg : o.guard = none) (s x : Operand) (t : TypeId) (ho : o.op = .call { callee := .builtin .append, args := #[s, x], argTypes := #[t, t] }) (vs vx : Value) (hs : a.eval s = vs) (hx : a.eval x = vx) (v' : Value) (w' : World)
    (hrun : (Builtin.append_ #[t, t] o.type #[vs, vx]).run P w = .ok v' w') (hK : wpList P ops Q rest (a.put o.dst v') w') : wpList P ops Q (o :: rest) a w :=
  wpList_plain hg fun K' hK' => wp_append_run s x t ho vs vx hs hx v' w' hrun (hK' _ _ hK)
theorem made_bys (m : Nat) : madeCells #[.int .u8 0] m = (bys (List.replicate m 0)).toArray := by
  apply Array.ext'
  rw [toList_madeCells_one]
  simp [bys]

def OwnB (w : World) (base : Nat) (v : Value) (xs : List UInt8) : Prop := w.ownsRow base 5 1 v xs.length (bys xs)
theorem OwnB.shape {w : World} {base : Nat} {v : Value} {xs : List UInt8} (h : OwnB w base v xs) : ∃ ao cap, v = .slice ao xs.length cap ∧ xs.length ≤ cap ∧ Sl w ao xs ∧ (∀ a, ao = some a → ∃ g, a = ⟨g, 0, none⟩ ∧ base ≤ g ∧ g < w.heap.size ∧ v.ownBlock = some g) ∧ cap ≤ 9223372036854775807 ∧ (ao = none → xs = [] ∧ cap = 0) := by
  rcases h.2 with ⟨rfl, h0⟩ | ⟨g, cap, cur, rfl, hb, hg, hn, hc, hs, ht⟩
  · have : xs = [] := List.eq_nil_of_length_eq_zero h0
    subst this
    exact ⟨none, 0, rfl, Nat.le_refl _, Sl.nil _ _, by simp, by omega, fun _ => ⟨rfl, rfl⟩⟩
  · refine ⟨_, cap, rfl, hn, fun i hi => ⟨g, 0, rfl, ?_⟩, fun a ha => ?_, by unfold maxLen at hc; omega, by simp⟩
    · rw [Nat.zero_add, cell_of_row _ _ _ _ _ _ hg]
      have h1 := bys_at hi
      rw [← ht, List.getElem?_take] at h1
      split at h1
      · simpa using h1
      · cases h1
    · cases ha
      exact ⟨g, rfl, hb, (Array.getElem?_eq_some_iff.1 hg).1, rfl⟩
theorem OwnB.kept {l : List Nat} {w w' : World} {base : Nat} {v : Value} {xs : List UInt8} (h : OwnB w base v xs) (hk : Kept l w w') (hn : ∀ g, v.ownBlock = some g → g ∉ l) : OwnB w' base v xs := by
  refine ⟨h.1, ?_⟩
  rcases h.2 with h0 | ⟨g, cap, cur, hv, hb, hg, rest⟩
  · exact .inl h0
  · refine .inr ⟨g, cap, cur, hv, hb, ?_, rest⟩
    rw [hk.block g (Array.getElem?_eq_some_iff.1 hg).1 (hn g (by rw [hv]; rfl))]
    exact hg
theorem OwnB.far {w : World} {base : Nat} {v : Value} {xs : List UInt8} (h : OwnB w base v xs) (g : Nat) (hg : v.ownBlock = some g) : base ≤ g ∧ g < w.heap.size := by
  obtain ⟨ao, cap, rfl, _, _, hb, _⟩ := h.shape
  cases ao with
  | none => simp [Value.ownBlock] at hg
  | some a =>
    obtain ⟨g', rfl, h1, h2, h3⟩ := hb a rfl
    rw [hg] at h3; cases h3; exact ⟨h1, h2⟩
/-- append(row, slice...), nil too. -/
theorem run_appSl (w : World) (base : Nat) (v : Value) (xs ys : List UInt8) (h : OwnB w base v xs) (ao : Option Addr) (n c : Nat) (hn : ys.length = n) (hs : Sl w ao ys) (h0 : ao = none → ys = [] ∧ c = 0) (hl : xs.length + n ≤ 140737488355328) (hb : base ≤ w.heap.size) :
    ∃ v' w', (Builtin.append_ #[23, 23] 23 #[v, .slice ao n c]).run Try.prog w = .ok v' w' ∧ OwnB w' base v' (xs ++ ys) ∧ Kept v.ownBlock.toList w w' := by
  subst hn
  obtain ⟨i0, hi, hz0, hz1, hz2⟩ := info_parts Try.infoByte
  cases ao with
  | none =>
    obtain ⟨rfl, rfl⟩ := h0 rfl
    refine ⟨v, w, run_append_owned_none (P := Try.prog) (w := w) base 23 23 5 i0 1 Try.underlying23 hi v xs.length (bys xs) h, by rw [List.append_nil]; exact h, Kept.refl _ _⟩
  | some ad =>
    obtain ⟨v', w', hrun, h1', h2, h3, h4⟩ := run_append_own_at (P := Try.prog) w base 23 23 5 i0 (.int .u8 0) 1 1 Try.underlying23 hi hz0 hz1 hz2 rfl (by omega) v xs.length (bys xs) h ad ys.length c (bys ys) (by rw [bys_length]; omega)
      (fun j u hj => by
        obtain ⟨hj', rfl⟩ := bys_get hj
        obtain ⟨b', off', e', hc⟩ := hs j hj'
        cases e'
        rw [Addr.add_mid]; exact hc) (bys_oneCell ys) (by unfold maxLen; omega) (by omega) hb
    refine ⟨v', w', hrun, ?_, (Kept.refl _ w).grown h2 (fun k hk _ => by simp [hk])⟩
    unfold OwnB
    rw [List.length_append, bys_append]
    exact h1'
/-- append([]byte{}, slice...). -/
theorem run_freshB (w : World) (ys : List UInt8) (ao : Option Addr) (n c : Nat) (hn : ys.length = n) (hs : Sl w ao ys) (h0 : ao = none → ys = [] ∧ c = 0) (hl : n ≤ 140737488355328) :
    ∃ v' w', (Builtin.append_ #[23, 23] 23 #[.slice (some ⟨w.heap.size, 0, none⟩) 0 0, .slice ao n c]).run Try.prog (w.alloc (.cells #[] 5)) = .ok v' w' ∧ OwnB w' w.heap.size v' ys ∧ Kept [] w w' := by
  have hown : OwnB (w.alloc (.cells #[] 5)) w.heap.size (.slice (some ⟨w.heap.size, 0, none⟩) 0 0) [] := World.ownsRow_made w #[] 0 (Nat.le_refl _) (by decide) rfl
  have hk := (Kept.refl [] w).alloc (.cells #[] 5)
  obtain ⟨v', w', h1, h2, h3⟩ := run_appSl _ w.heap.size _ [] ys hown ao n c hn (hs.kept hk (by simp)) h0 (by simpa using hl) hk.size
  rw [List.nil_append] at h2
  exact ⟨v', w', h1, h2, hk.trans h3 (fun g hg hlt => by simp [Value.ownBlock] at hg; omega)⟩
theorem bys_take (xs : List UInt8) (k : Nat) : bys (xs.take k) = (bys xs).take k := by simp [bys, List.map_take]
theorem bys_drop (xs : List UInt8) (k : Nat) : bys (xs.drop k) = (bys xs).drop k := by simp [bys, List.map_drop]
set_option maxRecDepth 100000 in
/-- copy(row[o:], xs). -/
theorem copy_at (wr : World) (g o m c : Nat) (ao : Option Addr) (n cap : Nat) (xs L : List UInt8) (hrow : wr.heap[g]? = some (.cells (bys L).toArray 5 (0, 0))) (hx : xs.length = n) (hon : o + n ≤ L.length) (hnm : n ≤ m) (hs : Sl wr ao xs) :
    ∃ w2, (Builtin.copy_ #[23, 23] 3 #[.slice (some ⟨g, o, none⟩) m c, .slice ao n cap]).run Try.prog wr = .ok (.int .i64 n) w2 ∧ w2.heap[g]? = some (.cells (bys (L.take o ++ xs ++ L.drop (o + n))).toArray 5 (0, 0)) ∧ Kept [g] wr w2 := by
  by_cases h0 : xs = []
  · subst h0
    obtain rfl : n = 0 := by simpa using hx.symm
    refine ⟨wr, run_copy_none (P := Try.prog) wr _ _ _ 5 _ _ _ _ _ _ Try.underlying23 Try.sizeByte (by simp), ?_, Kept.refl _ _⟩
    rw [hrow, List.append_nil, Nat.add_zero, List.take_append_drop]
  · obtain ⟨b, off, rfl, hb, hc⟩ := hs.open h0
    have h := run_copy_row (P := Try.prog) wr 23 23 3 5 g o m c ⟨b, off, none⟩ n cap _ 5 (bys xs) Try.underlying23 Try.sizeByte hrow (by rw [bys_length, hx]; simp only [Nat.min_def]; split <;> omega) (Sl.cells hc) (by rw [bys_length, hx]; simp [bys_length]; omega) (bys_oneCell xs)
    refine ⟨_, by rw [h, bys_length, hx]; rfl, ?_, kept_setRow (Kept.refl _ _) (by simp) _⟩
    rw [setRow_heap _ _ _ _ _ _ hrow]
    congr 2
    rw [bys_append, bys_append, bys_take, bys_drop]

end Go.Proofs.Ytdnbpklnkmgmkaa
