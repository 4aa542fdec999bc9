/-
  append of one element to a row of whatever type; the row's cells.
-/
import Derived.Test.YtmoaaimjgdbelaaGreatGm
import Derived.Test.YtmoaaimjgdbelaaGreatOl
import Derived.Deep.QuietTactic
import Derived.BigQuiet
import Derived.StillTailTactics
import Derived.Deep.Cut
import Derived.WalkArith
import Derived.ProofKit
namespace Go.Proofs.YtmoaaimjgdbelaaGreat
open Go.RowKit Dsk
set_option linter.unusedVariables false
set_option linter.unusedSimpArgs false

theorem Tryz.follows : Tryz.prog.follows .mixedOrders = true := by kernel_rfl
theorem add0 (b j : Nat) : ((⟨b, 0, none⟩ : Addr).add j) = ⟨b, j, none⟩ := by unfold Addr.add; by_cases h : j = 0 <;> simp [h]
/-- append of as many elements as lie in a row yb. -/
theorem run_apps {P : Program} (w : World) (t ty e : TypeId) {z : Value} {s bs : Nat} (ht : P.underlying t = some (.slice e)) (hi : (P.info? e).map (fun i => (i.zero, i.size, i.bytes)) = some (some z, s, bs)) (hzs : z.cells.size = s) (hs : 0 < s)
    (v : Value) (n : Nat) (xs : List Value) (hown : w.ownsRow 0 e s v n xs) (yb yo m c0 : Nat) (ys : List Value) (hl : ys.length = m * s) (hy : ∀ j u, ys[j]? = some u → w.cell? ⟨yb, yo + j, none⟩ = some u) (h1 : ∀ u ∈ ys, u.oneCell' = true) (hm : 0 < m) (hn : n + m ≤ maxLen) (hb : (n + m) * bs ≤ 140737488355328) :
    ∃ g c w', (Builtin.append_ #[t, t] ty #[v, .slice (some ⟨yb, yo, none⟩) m c0]).run P w = .ok (.slice (some ⟨g, 0, none⟩) (n + m) c) w' ∧ w'.ownsRow 0 e s (.slice (some ⟨g, 0, none⟩) (n + m) c) (n + m) (xs ++ ys) ∧ w.grownBy w' v.ownBlock ∧ (some g = v.ownBlock ∨ g = w.heap.size) ∧ g < w'.heap.size := by
  obtain ⟨i0, hi, hz0, hz1, hz2⟩ := info_parts hi
  obtain ⟨v', w', hrun, h1', h2, h3, h4⟩ := run_append_own_at (P := P) w 0 t ty e i0 z s bs ht hi hz0 hz1 hz2 hzs hs v n xs hown ⟨yb, yo, none⟩ m c0 ys hl
    (fun j u hj => by rw [show ((⟨yb, yo, none⟩ : Addr).add j) = ⟨yb, yo + j, none⟩ from by unfold Addr.add; by_cases h : j = 0 <;> simp [h]]; exact hy j u hj) h1 hn hb (Nat.zero_le _)
  obtain ⟨g, c, hv⟩ : ∃ g c, v' = .slice (some ⟨g, 0, none⟩) (n + m) c := by
    rcases h1'.2 with ⟨e, e2⟩ | ⟨g, cap', cur, e, _⟩
    · omega
    · exact ⟨g, cap', e⟩
  subst hv
  refine ⟨g, c, w', hrun, h1', h2, ?_, (h1'.lt g rfl).2⟩
  rcases h4 with h4 | h4
  · exact .inl h4
  · simp only [Value.ownBlock, Option.some.injEq] at h4
    exact .inr h4
/-- .. of one element that lies in a new block. -/
theorem run_app {P : Program} (w : World) (t ty e : TypeId) {z : Value} {s bs : Nat} (ht : P.underlying t = some (.slice e)) (hi : (P.info? e).map (fun i => (i.zero, i.size, i.bytes)) = some (some z, s, bs)) (hzs : z.cells.size = s) (hs : 0 < s)
    (v : Value) (n : Nat) (xs : List Value) (hown : w.ownsRow 0 e s v n xs) (ys : List Value) (hl : ys.length = s) (h1 : ∀ u ∈ ys, u.oneCell' = true) (hn : n + 1 ≤ maxLen) (hb : (n + 1) * bs ≤ 140737488355328) :
    ∃ g c w', (Builtin.append_ #[t, t] ty #[v, .slice (some ⟨w.heap.size, 0, none⟩) 1 1]).run P (w.alloc (.cells ys.toArray e)) = .ok (.slice (some ⟨g, 0, none⟩) (n + 1) c) w' ∧ w'.ownsRow 0 e s (.slice (some ⟨g, 0, none⟩) (n + 1) c) (n + 1) (xs ++ ys) ∧ (∀ F : Nat → Prop, (∀ k, v.ownBlock = some k → F k) → Keep F w w') ∧ (some g = v.ownBlock ∨ w.heap.size ≤ g) ∧ g < w'.heap.size := by
  obtain ⟨g, c, w', hrun, ho, hg, hb, hlt⟩ := run_apps (P := P) (w.alloc (.cells ys.toArray e)) t ty e ht hi hzs hs v n xs (hown.alloc _) w.heap.size 0 1 1 ys (by omega) (fun j u hj => by
    have hh : (w.alloc (.cells ys.toArray e)).heap[w.heap.size]? = some (.cells ys.toArray e (0, 0)) := (MapKept.heap_alloc w _).1
    rw [Nat.zero_add, cell_of_row _ _ j _ _ _ hh]
    simpa using hj) h1 (by omega) hn hb
  refine ⟨g, c, w', hrun, ho, fun F hF => ((Keep.refl F w).alloc _).grown hg (fun k e hk => hF k e), ?_, hlt⟩
  rcases hb with h | h
  · exact .inl h
  · exact .inr (by rw [h]; simp)

/-- append, its run known. -/
theorem wp_append_run {P : Program} {o : Oper} {a : Act} {w : World} {K : Act → World → Prop} {Q : Exit → Act → World → Prop} (s x : Operand) (t t2 : TypeId) (ho : o.op = .call { callee := .builtin .append, args := #[s, x], argTypes := #[t, t2] }) (vs vx : Value) (hs : a.eval s = vs) (hx : a.eval x = vx) (v' : Value) (w' : World)
    (hrun : (Builtin.append_ #[t, t2] o.type #[vs, vx]).run P w = .ok v' w') (hK : K (a.put o.dst v') w') : o.wp P a w K Q := by
  unfold Oper.wp execOp
  simp only [ho, resolve, invoke, builtin, Sem.run_bind, Sem.run_pure, Result.andThen_ok, List.map_toArray, List.map_cons, List.map_nil, hs, hx, hrun]
  exact hK
theorem wpList_app_run {P : Program} {ops : Array Oper} {rest : List Oper} {o : Oper} {a : Act} {w : World} {Q : Exit → Act → World → Prop} (hg : o.guard = none) (s x : Operand) (t t2 : TypeId) (ho : o.op = .call { callee := .builtin .append, args := #[s, x], argTypes := #[t, t2] }) (vs vx : Value) (hs : a.eval s = vs) (hx : a.eval x = vx) (v' : Value) (w' : World)
    (hrun : (Builtin.append_ #[t, t2] o.type #[vs, vx]).run P w = .ok v' w') (hK : wpList P ops Q rest (a.put o.dst v') w') : wpList P ops Q (o :: rest) a w :=
  wpList_plain hg fun K' hK' => wp_append_run s x t t2 ho vs vx hs hx v' w' hrun (hK' _ _ hK)
theorem own_shape {w : World} {base : Nat} {e : TypeId} {s : Nat} {v : Value} {n : Nat} {xs : List Value} (h : w.ownsRow base e s v n xs) : ∃ bo bc, v = .slice bo n bc ∧ n ≤ bc := by
  rcases h.2 with ⟨rfl, rfl⟩ | ⟨g, cap, cur, rfl, _, _, hn, _⟩
  · exact ⟨none, 0, rfl, Nat.le_refl _⟩
  · exact ⟨_, _, rfl, hn⟩
/-- The block of a row is no block of another type. -/
theorem own_ne {w : World} {base : Nat} {e T : TypeId} {s : Nat} {v : Value} {n q : Nat} {xs : List Value} {cs : Array Value} {fr : Nat × Nat} (h : w.ownsRow base e s v n xs) (hq : w.heap[q]? = some (.cells cs T fr)) (hT : T ≠ e) : v.ownBlock ≠ some q := by
  intro hv
  rcases h.2 with ⟨rfl, _⟩ | ⟨g, cap, cur, rfl, _, hg, _⟩
  · simp [Value.ownBlock] at hv
  · simp only [Value.ownBlock, Option.some.injEq] at hv
    subst hv
    rw [hg] at hq
    injection hq with hq
    injection hq with _ h2 _
    exact hT h2.symm
theorem own_nmap {w : World} {base : Nat} {e : TypeId} {s : Nat} {v : Value} {n b : Nat} {xs : List Value} (h : w.ownsRow base e s v n xs) (hb : ∃ es clock, w.heap[b]? = some (.map es clock)) : v.ownBlock ≠ some b := by
  intro hv
  obtain ⟨es, clock, hb⟩ := hb
  rcases h.2 with ⟨rfl, _⟩ | ⟨g, cap, cur, rfl, _, hg, _⟩
  · simp [Value.ownBlock] at hv
  · simp only [Value.ownBlock, Option.some.injEq] at hv
    subst hv
    rw [hg] at hb
    cases hb
theorem Mp.blk {w : World} {b : Nat} {A : Nat → Nat} {l : Nm} (h : Mp w b A l) : ∃ es clock, w.heap[b]? = some (.map es clock) := by
  obtain ⟨es, clock, hb, _⟩ := h
  exact ⟨es, clock, hb⟩
theorem Mp.lt {w : World} {b : Nat} {A : Nat → Nat} {l : Nm} (h : Mp w b A l) : b < w.heap.size := World.ownsMap.lt h
theorem map_ne {w : World} {b q : Nat} {A : Nat → Nat} {l : Nm} {o : Obj} (h : Mp w b A l) (hq : w.heap[q]? = some o) (ho : ∀ es clock, o ≠ .map es clock) : b ≠ q := by
  rintro rfl
  obtain ⟨es, clock, hb⟩ := h.blk
  rw [hb] at hq
  injection hq with hq
  exact ho _ _ hq.symm
end Go.Proofs.YtmoaaimjgdbelaaGreat
