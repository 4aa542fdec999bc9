/-
  append of entries. Contract: tree.read.
-/
import Derived.Test.YtjogfpogdjhglaaDoorNk
import Derived.Laws.AppendOwn
namespace Go.Proofs.YtjogfpogdjhglaaDoor
open Go.RowKit
set_option linter.unusedVariables false
set_option linter.unusedSimpArgs false

/-- append of as many elements as lie in a row yb. -/
theorem run_apps {P : Program} (w : World) (t ty e : TypeId) {z : Value} {s bs : Nat} (ht : P.underlying t = some (.slice e)) (hi : (P.info? e).map (fun i => (i.zero, i.size, i.bytes)) = some (some z, s, bs)) (hzs : z.cells.size = s) (hs : 0 < s)
    (v : Value) (n : Nat) (xs : List Value) (hown : w.ownsRow 0 e s v n xs) (yb yo m c0 : Nat) (ys : List Value) (hl : ys.length = m * s) (hy : ∀ j u, ys[j]? = some u → w.cell? ⟨yb, yo + j, none⟩ = some u) (h1 : ∀ u ∈ ys, u.oneCell' = true) (hm : 0 < m) (hn : n + m ≤ maxLen) (hb : (n + m) * bs ≤ 140737488355328) :
    ∃ g c w', (Builtin.append_ #[t, t] ty #[v, .slice (some ⟨yb, yo, none⟩) m c0]).run P w = .ok (.slice (some ⟨g, 0, none⟩) (n + m) c) w' ∧ w'.ownsRow 0 e s (.slice (some ⟨g, 0, none⟩) (n + m) c) (n + m) (xs ++ ys) ∧ w.grownBy w' v.ownBlock ∧ (some g = v.ownBlock ∨ g = w.heap.size) ∧ g < w'.heap.size := by
  obtain ⟨i0, hi, hz0, hz1, hz2⟩ := info_parts hi
  obtain ⟨v', w', hrun, h1', h2, h3, h4⟩ := run_append_own_at (P := P) w 0 t ty e i0 z s bs ht hi hz0 hz1 hz2 hzs hs v n xs hown ⟨yb, yo, none⟩ m c0 ys hl
    (fun j u hj => by rw [show ((⟨yb, yo, none⟩ : Addr).add j) = ⟨yb, yo + j, none⟩ from by unfold Addr.add; by_cases h : j = 0 <;> simp [h]]; exact hy j u hj) h1 hn hb (Nat.zero_le _)
  obtain ⟨g, c, hv⟩ : ∃ g c, v' = .slice (some ⟨g, 0, none⟩) (n + m) c := by
    rcases h1'.2 with ⟨e, e2⟩ | ⟨g, cap', cur, e, _⟩
    · omega
    · exact ⟨g, cap', e⟩
  subst hv
  refine ⟨g, c, w', hrun, h1', h2, ?_, (h1'.lt g rfl).2⟩
  rcases h4 with h4 | h4
  · exact .inl h4
  · simp only [Value.ownBlock, Option.some.injEq] at h4
    exact .inr h4
/-- append, its run known. -/
theorem wp_append_run {P : Program} {o : Oper} {a : Act} {w : World} {K : Act → World → Prop} {Q : Exit → Act → World → Prop} (s x : Operand) (t t2 : TypeId) (ho : o.op = .call { callee := .builtin .append, args := #[s, x], argTypes := #[t, t2] }) (vs vx : Value) (hs : a.eval s = vs) (hx : a.eval x = vx) (v' : Value) (w' : World)
    (hrun : (Builtin.append_ #[t, t2] o.type #[vs, vx]).run P w = .ok v' w') (hK : K (a.put o.dst v') w') : o.wp P a w K Q := by
  unfold Oper.wp execOp
  simp only [ho, resolve, invoke, builtin, Sem.run_bind, Sem.run_pure, Result.andThen_ok, List.map_toArray, List.map_cons, List.map_nil, hs, hx, hrun]
  exact hK
theorem wpList_app_run {P : Program} {ops : Array Oper} {rest : List Oper} {o : Oper} {a : Act} {w : World} {Q : Exit → Act → World → Prop} (hg : o.guard = none) (s x : Operand) (t t2 : TypeId) (ho : o.op = .call { callee := .builtin .append, args := #[s, x], argTypes := #[t, t2] }) (vs vx : Value) (hs : a.eval s = vs) (hx : a.eval x = vx) (v' : Value) (w' : World)
    (hrun : (Builtin.append_ #[t, t2] o.type #[vs, vx]).run P w = .ok v' w') (hK : wpList P ops Q rest (a.put o.dst v') w') : wpList P ops Q (o :: rest) a w :=
  wpList_plain hg fun K' hK' => wp_append_run s x t t2 ho vs vx hs hx v' w' hrun (hK' _ _ hK)
theorem own_shape {w : World} {base : Nat} {e : TypeId} {s : Nat} {v : Value} {n : Nat} {xs : List Value} (h : w.ownsRow base e s v n xs) : ∃ bo bc, v = .slice bo n bc ∧ n ≤ bc := by
  rcases h.2 with ⟨rfl, rfl⟩ | ⟨g, cap, cur, rfl, _, _, hn, _⟩
  · exact ⟨none, 0, rfl, Nat.le_refl _⟩
  · exact ⟨_, _, rfl, hn⟩

/-- The cells of entries, one behind the other. -/
def rows (L : List Ent) : List Value := L.flatMap Ent.cells
theorem rows_snoc (L : List Ent) (e : Ent) : rows (L ++ [e]) = rows L ++ e.cells := by simp [rows]
theorem rows_len {L : List Ent} (h : ∀ e ∈ L, EntOk e) : (rows L).length = L.length * 34 := by
  induction L with
  | nil => rfl
  | cons e r ih =>
    have h1 := (h e (by simp)).len
    have := ih (fun x hx => h x (by simp [hx]))
    simp only [rows, List.flatMap_cons, List.length_append, List.length_cons] at this ⊢
    omega
theorem rows_at {L : List Ent} (h : ∀ e ∈ L, EntOk e) : ∀ (i j : Nat) (v : Value), i < L.length → (L.getD i ent0).cells[j]? = some v → (rows L)[i * 34 + j]? = some v := by
  induction L with
  | nil => intro i j v hi; simp at hi
  | cons e r ih =>
    intro i j v hi hv
    have h1 := (h e (by simp)).len
    cases i with
    | zero =>
      have hj := (List.getElem?_eq_some_iff.1 hv).1
      simp only [List.getD, List.getElem?_cons_zero, Option.getD_some] at hv hj
      simp only [rows, List.flatMap_cons, Nat.zero_mul, Nat.zero_add]
      rw [List.getElem?_append_left hj]; exact hv
    | succ i =>
      have := ih (fun x hx => h x (by simp [hx])) i j v (by simpa using hi) (by simpa [List.getD] using hv)
      simp only [rows, List.flatMap_cons] at this ⊢
      rw [List.getElem?_append_right (by omega), h1]
      rw [show (i + 1) * 34 + j - 34 = i * 34 + j by omega]
      exact this
theorem rows_one (L : List Ent) : ∀ u ∈ rows L, u.oneCell' = true := by
  intro u hu
  simp only [rows, List.mem_flatMap] at hu
  obtain ⟨e, _, h⟩ := hu
  exact ent_one e u h
/-- Entries in memory of a call's own. -/
def OwnE (w : World) (base : Nat) (v : Value) (L : List Ent) : Prop := w.ownsRow base 42 34 v L.length (rows L) ∧ ∀ e ∈ L, EntOk e
theorem getD_mem {L : List Ent} {i : Nat} (h : i < L.length) : L.getD i ent0 ∈ L := by
  simp [List.getD, List.getElem?_eq_getElem h]
theorem OwnE.ents {w : World} {base : Nat} {v : Value} {L : List Ent} (h : OwnE w base v L) : ∃ ao cap, v = .slice ao L.length cap ∧ L.length ≤ cap ∧ Ents w ao L ∧ (∀ a, ao = some a → ∃ g, a = ⟨g, 0, none⟩ ∧ base ≤ g ∧ g < w.heap.size ∧ v.ownBlock = some g) ∧ cap ≤ 9223372036854775807 := by
  rcases h.1.2 with ⟨rfl, h0⟩ | ⟨g, cap, cur, rfl, hb, hg, hn, hc, hs, ht⟩
  · have h0' : L.length = 0 := h0
    have : L = [] := List.eq_nil_of_length_eq_zero h0'
    subst this
    exact ⟨none, 0, rfl, Nat.le_refl _, Ents.nil _ _, by simp, by omega⟩
  · refine ⟨_, cap, rfl, hn, fun i hi => ⟨g, 0, rfl, fun j u hu => ?_, h.2 _ (getD_mem hi)⟩, fun a ha => ?_, by unfold maxLen at hc; omega⟩
    · have h1 := rows_at h.2 i j u hi hu
      rw [← ht, List.getElem?_take] at h1
      rw [Nat.zero_add, cell_of_row _ _ _ _ _ _ hg]
      split at h1
      · simpa using h1
      · cases h1
    · cases ha
      exact ⟨g, rfl, hb, (Array.getElem?_eq_some_iff.1 hg).1, rfl⟩
theorem OwnE.kept {l : List Nat} {w w' : World} {base : Nat} {v : Value} {L : List Ent} (h : OwnE w base v L) (hk : Kept l w w') (hn : ∀ g, v.ownBlock = some g → g ∉ l) : OwnE w' base v L := by
  refine ⟨⟨h.1.1, ?_⟩, h.2⟩
  rcases h.1.2 with h0 | ⟨g, cap, cur, hv, hb, hg, rest⟩
  · exact .inl h0
  · refine .inr ⟨g, cap, cur, hv, hb, ?_, rest⟩
    rw [hk.block g (Array.getElem?_eq_some_iff.1 hg).1 (hn g (by rw [hv]; rfl))]
    exact hg
theorem Tryd.infoEnt3 : (Tryd.prog.info? 42).map (fun i => (i.zero, i.size, i.bytes)) = some (some (.agg zeroE), 34, 56) := by kernel_rfl
/-- append(entries, entry): the entry lies in a new block. -/
theorem run_appE (w : World) (base : Nat) (v : Value) (L : List Ent) (e : Ent) (h : OwnE w base v L) (he : EntOk e) (hl : (L.length + 1) * 56 ≤ 140737488355328) (hb : base ≤ w.heap.size) :
    ∃ v' w', (Builtin.append_ #[22, 22] 22 #[v, .slice (some ⟨w.heap.size, 0, none⟩) 1 1]).run Tryd.prog (w.alloc (.cells e.cells.toArray 42)) = .ok v' w' ∧ OwnE w' base v' (L ++ [e]) ∧ (∀ l, (∀ g, v.ownBlock = some g → g ∈ l) → Kept l w w') ∧ (∀ g, v'.ownBlock = some g → v.ownBlock = some g ∨ w.heap.size ≤ g) := by
  obtain ⟨i0, hi, hz0, hz1, hz2⟩ := info_parts Tryd.infoEnt3
  have hnew := heap_new w (.cells e.cells.toArray 42)
  have hown : (w.alloc (.cells e.cells.toArray 42)).ownsRow base 42 34 v L.length (rows L) := (h.kept ((Kept.refl [] w).alloc _) (by simp)).1
  obtain ⟨v', w', hrun, h1', h2, h3, h4⟩ := run_append_own_at (P := Tryd.prog) (w.alloc (.cells e.cells.toArray 42)) base 22 22 42 i0 (.agg zeroE) 34 56 Tryd.underlying22 hi hz0 hz1 hz2 rfl (by omega) v L.length (rows L) hown ⟨w.heap.size, 0, none⟩ 1 1 e.cells (by rw [he.len])
    (fun j u hj => by rw [Addr.add_mid, Nat.zero_add, cell_of_row _ _ _ _ _ _ hnew]; simpa using hj) (ent_one e) (by unfold maxLen; omega) (by omega) (by simp; omega)
  refine ⟨v', w', hrun, ⟨by rw [rows_snoc, List.length_append]; exact h1', fun x hx => ?_⟩, fun l hl2 => ((Kept.refl l w).alloc _).grown h2 (fun k hk _ => hl2 k hk), fun g hg => ?_⟩
  · simp only [List.mem_append, List.mem_singleton] at hx
    rcases hx with hx | rfl
    · exact h.2 x hx
    · exact he
  · rcases h4 with h4 | h4
    · exact .inl (by rw [← h4]; exact hg)
    · rw [h4] at hg
      simp only [Option.some.injEq] at hg
      right
      have : (w.alloc (.cells e.cells.toArray 42)).heap.size = w.heap.size + 1 := by simp
      omega
theorem fill32 (nm : ByteArray) (k : Int) (f : Nat → UInt8) : Instr.fill (fun i => some (i * 34, 34)) ((Array.range (1 * 34)).map ((Value.agg zeroE).cells[· % (Value.agg zeroE).cells.size]!)) [(0, .agg (Value.string nm :: Value.int .i64 k :: bys ((List.range 32).map f)).toArray)] = some (Value.string nm :: Value.int .i64 k :: bys ((List.range 32).map f)).toArray := by kernel_rfl
theorem range32 {L : List UInt8} (h : L.length = 32) : (List.range 32).map (fun i => L.getD i 0) = L := by
  apply List.ext_getElem
  · simp [h]
  · intro i h1 h2
    simp [List.getElem?_eq_getElem h2]
theorem fillE {e : Ent} (he : EntOk e) : Instr.fill (fun i => some (i * 34, 34)) ((Array.range (1 * 34)).map ((Value.agg zeroE).cells[· % (Value.agg zeroE).cells.size]!)) [(0, .agg e.cells.toArray)] = some e.cells.toArray := by
  have := fill32 ⟨e.name.toArray⟩ e.kind (fun i => e.id.getD i 0)
  rw [range32 he.idl] at this
  exact this
theorem wpList_build1 {ops : Array Oper} {rest : List Oper} {o : Oper} {a : Act} {w : World} {Q : Exit → Act → World → Prop} (hg : o.guard = none) (x : Operand) (ho : o.op = .buildSlice 22 1 #[(0, x)]) (e : Ent) (hx : a.eval x = .agg e.cells.toArray) (he : EntOk e)
    (h : wpList Tryd.prog ops Q rest (a.put o.dst (.slice (some ⟨w.heap.size, 0, none⟩) 1 1)) (w.alloc (.cells e.cells.toArray 42))) : wpList Tryd.prog ops Q (o :: rest) a w := by
  obtain ⟨i0, hi, hz0, hz1, hz2⟩ := info_parts Tryd.infoEnt3
  refine wpList_buildSlice hg 22 42 1 #[(0, x)] ho e.cells.toArray i0 (.agg zeroE) Tryd.underlying22 hi hz0 (by rw [hz1]; decide) (by rw [hz1]; decide) ?_ h
  rw [hz1]
  have : (#[(0, x)].map fun (i, x) => (i, a.eval x)).toList = [(0, .agg e.cells.toArray)] := by simp [hx]
  rw [this]
  exact fillE he
end Go.Proofs.YtjogfpogdjhglaaDoor
