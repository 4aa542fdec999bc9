/-
  DiskWhole: the names that are shown, as the statement holds them. (Written by tools/hwb.py.)
-/
import Derived.Test.YtllfkfncgalpaaaHwap
import Derived.Test.YtllfkfncgalpaaaIf0p
import Derived.Test.YtllfkfncgalpaaaJcp
import Derived.ArgAppend
import Derived.Deep.Upon
namespace Go.Proofs.Ytllfkfncgalpaaa
open Go.RowKit Dsk
set_option linter.unusedVariables false
set_option linter.unusedSimpArgs false

theorem Ax.free {X : Nat → Prop} {wa w w' : World} {p : Nat} {S : Ds} {N : Nat} (h : Ax X wa w p S N) {Y F : Nat → Prop} (hk : Keep F w w') (hF : ∀ b, b < w.heap.size → F b → X b) (hY : ∀ b, Y b → (X b ∨ w.heap.size ≤ b) ∧ b < w'.heap.size) : Ax Y w' w' p S N := by
  obtain ⟨A, o, h1, h2, h3, h4⟩ := h
  refine ⟨A, o, h1.keep hk (fun b hb hf => hb (h2 b (hF b (h1.lim hb) hf)).1), fun b hb => ?_, Keep.refl _ _, h4⟩
  obtain ⟨h7, h8⟩ := hY b hb
  rcases h7 with h7 | h7
  · exact ⟨(h2 b h7).1, h8⟩
  · exact ⟨Classical.byContradiction fun hn => by have := h1.lim hn; omega, h8⟩

/-- A row of a call's own: all of its block is its room, or there is no room behind it. -/
def OwnC (w : World) (e : TypeId) (s : Nat) (v : Value) (n : Nat) (xs : List Value) : Prop :=
  xs.length = n * s ∧ ((v = .slice none 0 0 ∧ n = 0) ∨ ∃ g cap cur, v = .slice (some ⟨g, 0, none⟩) n cap ∧ w.heap[g]? = some (.cells cur e (0, 0)) ∧ n ≤ cap ∧ cap ≤ maxLen ∧ (cur.size = cap * s ∨ (cap = n ∧ n * s ≤ cur.size)) ∧ cur.toList.take (n * s) = xs)
section
variable {w w' : World} {e : TypeId} {s : Nat} {v : Value} {n : Nat} {xs : List Value}
theorem OwnC.of {B : Nat} (h : w.ownsRow B e s v n xs) : OwnC w e s v n xs := by
  refine ⟨h.1, ?_⟩
  rcases h.2 with h1 | ⟨g, cap, cur, rfl, _, h3, h4, h5, h6, h7⟩
  · exact .inl h1
  · exact .inr ⟨g, cap, cur, rfl, h3, h4, h5, .inl h6, h7⟩
theorem OwnC.nil (w : World) (e : TypeId) (s : Nat) : OwnC w e s (.slice none 0 0) 0 [] := ⟨by simp, .inl ⟨rfl, rfl⟩⟩
theorem OwnC.shape (h : OwnC w e s v n xs) : ∃ bo bc, v = .slice bo n bc ∧ n ≤ bc := by
  rcases h.2 with ⟨rfl, rfl⟩ | ⟨g, cap, cur, rfl, _, hn, _⟩
  · exact ⟨none, 0, rfl, Nat.le_refl _⟩
  · exact ⟨_, _, rfl, hn⟩
theorem OwnC.lt (h : OwnC w e s v n xs) {g : Nat} (hg : v.ownBlock = some g) : g < w.heap.size := by
  rcases h.2 with ⟨rfl, _⟩ | ⟨g', cap, cur, rfl, h3, _⟩
  · simp [Value.ownBlock] at hg
  · simp only [Value.ownBlock, Option.some.injEq] at hg
    subst hg
    exact (Array.getElem?_eq_some_iff.1 h3).1
theorem OwnC.keep {F : Nat → Prop} (h : OwnC w e s v n xs) (hk : Keep F w w') (hn : ∀ g, v.ownBlock = some g → ¬ F g) : OwnC w' e s v n xs := by
  refine ⟨h.1, ?_⟩
  rcases h.2 with h1 | ⟨g, cap, cur, rfl, h3, h4⟩
  · exact .inl h1
  · exact .inr ⟨g, cap, cur, rfl, hk.heapOf h3 (hn g rfl), h4⟩
theorem OwnC.kept (h : OwnC w e s v n xs) (hk : Kept [] w w') : OwnC w' e s v n xs := h.keep (Keep.ofNone (F := fun _ => False) hk) (fun _ _ h => h)
theorem OwnC.ne {T : TypeId} {q : Nat} {cs : Array Value} {fr : Nat × Nat} (h : OwnC w e s v n xs) (hq : w.heap[q]? = some (.cells cs T fr)) (hT : T ≠ e) : v.ownBlock ≠ some q := by
  intro hv
  rcases h.2 with ⟨rfl, _⟩ | ⟨g, cap, cur, rfl, hg, _⟩
  · simp [Value.ownBlock] at hv
  · simp only [Value.ownBlock, Option.some.injEq] at hv
    subst hv
    rw [hg] at hq
    injection hq with hq
    injection hq with _ h2 _
    exact hT h2.symm
theorem OwnC.open (h : OwnC w e s v n xs) (h0 : 0 < n) : ∃ g cap, v = .slice (some ⟨g, 0, none⟩) n cap ∧ n ≤ cap ∧ g < w.heap.size ∧ (∀ j u, xs[j]? = some u → w.cell? ⟨g, j, none⟩ = some u) ∧ (∀ j, w.frozen? ⟨g, j, none⟩ = false) := by
  rcases h.2 with ⟨_, rfl⟩ | ⟨g, cap, cur, rfl, hg, hn, _, hs, hx⟩
  · omega
  · refine ⟨g, cap, rfl, hn, (Array.getElem?_eq_some_iff.1 hg).1, fun j u hj => ?_, fun j => frozen_of_row _ _ _ _ _ hg⟩
    rw [cell_of_row _ _ _ _ _ _ hg]
    rw [← hx, List.getElem?_take] at hj
    split at hj
    · simpa using hj
    · cases hj
theorem OwnC.app {P : Program} (t ty : TypeId) {z : Value} {bs : Nat} (ht : P.underlying t = some (.slice e)) (hi : (P.info? e).map (fun i => (i.zero, i.size, i.bytes)) = some (some z, s, bs)) (hzs : z.cells.size = s) (hs : 0 < s)
    (hown : OwnC w e s v n xs) (ys : List Value) (hl : ys.length = s) (h1 : ∀ u ∈ ys, u.oneCell' = true) (hn : n + 1 ≤ maxLen) (hb : (n + 1) * bs ≤ 140737488355328) :
    ∃ g c w', (Builtin.append_ #[t, t] ty #[v, .slice (some ⟨w.heap.size, 0, none⟩) 1 1]).run P (w.alloc (.cells ys.toArray e)) = .ok (.slice (some ⟨g, 0, none⟩) (n + 1) c) w' ∧ OwnC w' e s (.slice (some ⟨g, 0, none⟩) (n + 1) c) (n + 1) (xs ++ ys) ∧ (∀ F : Nat → Prop, (∀ k, v.ownBlock = some k → F k) → Keep F w w') ∧ (some g = v.ownBlock ∨ w.heap.size ≤ g) ∧ g < w'.heap.size := by
  have full : w.ownsRow 0 e s v n xs → ∃ g c w', (Builtin.append_ #[t, t] ty #[v, .slice (some ⟨w.heap.size, 0, none⟩) 1 1]).run P (w.alloc (.cells ys.toArray e)) = .ok (.slice (some ⟨g, 0, none⟩) (n + 1) c) w' ∧ OwnC w' e s (.slice (some ⟨g, 0, none⟩) (n + 1) c) (n + 1) (xs ++ ys) ∧ (∀ F : Nat → Prop, (∀ k, v.ownBlock = some k → F k) → Keep F w w') ∧ (some g = v.ownBlock ∨ w.heap.size ≤ g) ∧ g < w'.heap.size := fun h => by
    obtain ⟨g, c, w', e1, e2, e3, e4, e5⟩ := run_app (P := P) w t ty e ht hi hzs hs v n xs h ys hl h1 hn hb
    exact ⟨g, c, w', e1, OwnC.of e2, e3, e4, e5⟩
  rcases hown.2 with ⟨h2, h3⟩ | ⟨g, cap, cur, rfl, hg, hnc, hcm, hsz, hx⟩
  · exact full ⟨hown.1, .inl ⟨h2, h3⟩⟩
  · rcases hsz with hsz | ⟨rfl, hle⟩
    · exact full ⟨hown.1, .inr ⟨g, cap, cur, rfl, Nat.zero_le _, hg, hnc, hcm, hsz, hx⟩⟩
    · obtain ⟨i0, hi, hz0, hz1, hz2⟩ := info_parts hi
      have hg' : (w.alloc (.cells ys.toArray e)).heap[g]? = some (.cells cur e (0, 0)) := by rw [Below.heap_alloc w _ g (Array.getElem?_eq_some_iff.1 hg).1]; exact hg
      obtain ⟨v', w', hrun, ho, hgr⟩ := run_append_arg_grows (P := P) (w.alloc (.cells ys.toArray e)) t ty e i0 z s bs ht hi hz0 hz1 hz2 hzs hs ⟨g, 0, none⟩ cap cap xs hown.1 (fun j u hj => by
        rw [add0, cell_of_row _ _ _ _ _ _ hg']
        rw [← hx, List.getElem?_take] at hj
        split at hj
        · simpa using hj
        · cases hj) ⟨w.heap.size, 0, none⟩ 1 1 ys (by omega) (fun j u hj => by
        have hh : (w.alloc (.cells ys.toArray e)).heap[w.heap.size]? = some (.cells ys.toArray e (0, 0)) := (MapKept.heap_alloc w _).1
        rw [add0, cell_of_row _ _ j _ _ _ hh]
        simpa using hj) (by omega) hn hb
      obtain ⟨g2, c2, hv⟩ : ∃ g c, v' = .slice (some ⟨g, 0, none⟩) (cap + 1) c := by
        rcases ho.2 with ⟨e, e2⟩ | ⟨g, cap', cur, e, _⟩
        · omega
        · exact ⟨g, cap', e⟩
      subst hv
      have hlt := ho.lt g2 rfl
      refine ⟨g2, c2, w', hrun, OwnC.of ho, fun F hF => ((Keep.refl F w).alloc _).grown hgr (fun k e hk => by cases e), .inr ?_, hlt.2⟩
      have := hlt.1
      simp at this
      omega
/-- A cell of it is written. -/
theorem OwnC.set {g cap : Nat} (hown : OwnC w e s (.slice (some ⟨g, 0, none⟩) n cap) n xs) {j : Nat} (hj : j < n * s) (u : Value) : OwnC (w.setCell ⟨g, j, none⟩ u) e s (.slice (some ⟨g, 0, none⟩) n cap) n (xs.set j u) := by
  refine ⟨by rw [List.length_set]; exact hown.1, ?_⟩
  rcases hown.2 with ⟨h2, h3⟩ | ⟨g', cap', cur, h2, hg, hnc, hcm, hsz, hx⟩
  · cases h2
  · injection h2 with h2 _ h4
    injection h2 with h2
    injection h2 with h2 _ _
    subst h2
    subst h4
    refine .inr ⟨g, cap, cur.setIfInBounds j u, rfl, ?_, hnc, hcm, by simpa using hsz, ?_⟩
    · rw [heap_setCell_same _ _ _ _ _ _ hg]
    · rw [← hx]
      simp [List.take_set]
/-- append(v[:i:i], v[i+1:]...). -/
theorem OwnC.cutRun {P : Program} {g cap : Nat} (t ty : TypeId) {z : Value} {bs : Nat} (ht : P.underlying t = some (.slice e)) (hi : (P.info? e).map (fun i => (i.zero, i.size, i.bytes)) = some (some z, s, bs)) (hzs : z.cells.size = s) (hs : 0 < s)
    (hown : OwnC w e s (.slice (some ⟨g, 0, none⟩) n cap) n xs) (i : Nat) (hin : i < n) (hb : n * bs ≤ 140737488355328) (ao : Option Addr) (hao : i + 1 < cap → ao = some ⟨g, (i + 1) * s, none⟩) (hao0 : ao ≠ none) :
    ∃ vo vn vc w', (Builtin.append_ #[t, t] ty #[.slice (some ⟨g, 0, none⟩) i i, .slice ao (n - (i + 1)) (cap - (i + 1))]).run P w = .ok (.slice vo vn vc) w' ∧ OwnC w' e s (.slice vo vn vc) (n - 1) (xs.take (i * s) ++ xs.drop ((i + 1) * s)) ∧ Kept [] w w' ∧ (∀ k, (Value.slice vo vn vc).ownBlock = some k → k = g ∨ w.heap.size ≤ k) := by
  obtain ⟨i0, hi, hz0, hz1, hz2⟩ := info_parts hi
  rcases hown.2 with ⟨h2, h3⟩ | ⟨g', cap', cur, h2, hg, hnc, hcm, hsz, hx⟩
  · cases h2
  injection h2 with h2 _ h4
  injection h2 with h2
  injection h2 with h2 _ _
  subst h2
  subst h4
  have hmul : (i + 1) * s ≤ n * s := Nat.mul_le_mul_right s hin
  have hmul2 : i * s ≤ n * s := Nat.mul_le_mul_right s (by omega)
  have hmul3 : (i + 1) * s = i * s + s := Nat.succ_mul i s
  have hcs : n * s ≤ cur.size := by
    rcases hsz with hsz | hsz
    · have := Nat.mul_le_mul_right s hnc; omega
    · exact hsz.2
  have hcell : ∀ j u, xs[j]? = some u → w.cell? ⟨g, j, none⟩ = some u := fun j u hj => by
    rw [cell_of_row _ _ _ _ _ _ hg]
    rw [← hx, List.getElem?_take] at hj
    split at hj
    · simpa using hj
    · cases hj
  have hlen : (xs.take (i * s)).length = i * s := by rw [List.length_take, hown.1]; omega
  by_cases hm : n = i + 1
  · have hd : xs.drop ((i + 1) * s) = [] := List.drop_eq_nil_of_le (by rw [hown.1, hm]; exact Nat.le_refl _)
    have e0 : n - (i + 1) = 0 := by omega
    obtain ⟨ad, rfl⟩ : ∃ ad, ao = some ad := by cases ao; exact absurd rfl hao0; exact ⟨_, rfl⟩
    have hrun := run_append_nothing (P := P) w t t ty e i0 ht hi (some ⟨g, 0, none⟩) i i (Nat.le_refl _) (.slice (some ad) 0 (cap - (i + 1))) (Src.ofSlice w ht ad 0 _ [] (by simp) (by simp) (by simp))
    rw [e0]
    refine ⟨_, _, _, w, hrun, ?_, Kept.refl [] w, fun k hk => by simp only [Value.ownBlock, Option.some.injEq] at hk; exact .inl hk.symm⟩
    rw [hd, List.append_nil, show n - 1 = i by omega]
    refine ⟨hlen, .inr ⟨g, i, cur, rfl, hg, Nat.le_refl _, by omega, .inr ⟨rfl, by omega⟩, ?_⟩⟩
    rw [← hx, List.take_take, Nat.min_eq_left hmul2]
  · have hao' := hao (by omega)
    subst hao'
    have hdl : (xs.drop ((i + 1) * s)).length = (n - (i + 1)) * s := by rw [List.length_drop, hown.1, Nat.sub_mul]
    obtain ⟨v', w', hrun, ho, hgr⟩ := run_append_arg_grows (P := P) w t ty e i0 z s bs ht hi hz0 hz1 hz2 hzs hs ⟨g, 0, none⟩ i i (xs.take (i * s)) hlen (fun j u hj => by
      rw [add0]
      refine hcell j u ?_
      rw [List.getElem?_take] at hj
      split at hj
      · exact hj
      · cases hj) ⟨g, (i + 1) * s, none⟩ (n - (i + 1)) (cap - (i + 1)) (xs.drop ((i + 1) * s)) hdl (fun j u hj => by
      rw [Addr.add_mid]
      refine hcell _ u ?_
      rw [List.getElem?_drop] at hj
      exact hj) (by omega) (by omega) (by
        have : i + (n - (i + 1)) ≤ n := by omega
        exact Nat.le_trans (Nat.mul_le_mul_right bs this) hb)
    rw [show i + (n - (i + 1)) = n - 1 by omega] at ho
    obtain ⟨g2, c2, hv⟩ : ∃ g c, v' = .slice (some ⟨g, 0, none⟩) (n - 1) c := by
      rcases ho.2 with ⟨e, e2⟩ | ⟨g, cap', cur, e, _⟩
      · omega
      · exact ⟨g, cap', e⟩
    subst hv
    refine ⟨_, _, _, w', hrun, OwnC.of ho, (Kept.refl _ _).grown hgr (by simp), fun k hk => .inr (ho.lt k hk).1⟩
end

theorem Try.infoHeld : (Try.prog.info? 45).map (fun i => (i.zero, i.size, i.bytes)) = some (some (.agg #[.string ⟨#[]⟩, .int .i64 0]), 2, 24) := by kernel_rfl
def encHd (x : By × Nat) : List Value := [encStr x.1, .int .i64 x.2]
structure Rws (w : World) (q : Nat) (v : Value) (H : Nm) (t : Nat) : Prop where
  cell : w.heap[q]? = some (.cells #[v, .int .i64 t] 31 (0, 0))
  row : OwnC w 45 2 v H.length (H.flatMap encHd)
theorem hd_get (D : Nm) (i : Nat) (s : By × Nat) (h : D[i]? = some s) : (D.flatMap encHd)[i * 2]? = some (encStr s.1) ∧ (D.flatMap encHd)[i * 2 + 1]? = some (.int .i64 s.2) := by
  induction D generalizing i with
  | nil => simp at h
  | cons x r ih =>
    cases i with
    | zero =>
      simp only [List.getElem?_cons_zero, Option.some.injEq] at h
      subst h
      exact ⟨rfl, rfl⟩
    | succ i =>
      have := ih i (by simpa using h)
      rw [show (i + 1) * 2 = i * 2 + 2 by omega]
      exact this
theorem hd_take (D : Nm) (i : Nat) : (D.flatMap encHd).take (i * 2) = (D.take i).flatMap encHd := by
  induction D generalizing i with
  | nil => simp
  | cons x r ih =>
    cases i with
    | zero => simp
    | succ i =>
      rw [show (i + 1) * 2 = i * 2 + 2 by omega]
      simp only [List.flatMap_cons, List.take_succ_cons]
      rw [← ih i]
      simp [encHd]
theorem hd_drop (D : Nm) (i : Nat) : (D.flatMap encHd).drop (i * 2) = (D.drop i).flatMap encHd := by
  induction D generalizing i with
  | nil => simp
  | cons x r ih =>
    cases i with
    | zero => simp
    | succ i =>
      rw [show (i + 1) * 2 = i * 2 + 2 by omega]
      simp only [List.flatMap_cons, List.drop_succ_cons]
      rw [← ih i]
      simp [encHd]
theorem hd_set (D : Nm) (i u : Nat) (x : By × Nat) (h : D[i]? = some x) : (D.flatMap encHd).set (i * 2 + 1) (.int .i64 u) = (D.set i (x.1, u)).flatMap encHd := by
  induction D generalizing i with
  | nil => simp at h
  | cons y r ih =>
    cases i with
    | zero =>
      simp only [List.getElem?_cons_zero, Option.some.injEq] at h
      subst h
      rfl
    | succ i =>
      rw [show (i + 1) * 2 + 1 = (i * 2 + 1) + 2 by omega]
      simp only [List.flatMap_cons, List.set_cons_succ]
      rw [← ih i (by simpa using h)]
      simp [encHd]
theorem Rws.kept {w w' : World} {q : Nat} {v : Value} {H : Nm} {t : Nat} (h : Rws w q v H t) (hk : Kept [] w w') : Rws w' q v H t := ⟨by rw [hk.block q (Array.getElem?_eq_some_iff.1 h.cell).1 (by simp)]; exact h.cell, h.row.kept hk⟩
theorem Rws.qlt {w : World} {q : Nat} {v : Value} {H : Nm} {t : Nat} (h : Rws w q v H t) : q < w.heap.size := (Array.getElem?_eq_some_iff.1 h.cell).1
theorem Rws.ne {w : World} {q : Nat} {v : Value} {H : Nm} {t : Nat} (h : Rws w q v H t) : v.ownBlock ≠ some q := h.row.ne h.cell (by decide)

theorem nodup_ix {α : Type} {l : List α} (h : l.Nodup) {i j : Nat} {x : α} (hj : l[j]? = some x) (hi : l[i]? = some x) : j = i := by
  induction l generalizing i j with
  | nil => simp at hi
  | cons y r ih =>
    simp only [List.nodup_cons] at h
    cases i with
    | zero =>
      cases j with
      | zero => rfl
      | succ j =>
        simp only [List.getElem?_cons_zero, Option.some.injEq, List.getElem?_cons_succ] at hi hj
        subst hi
        exact absurd (List.mem_of_getElem? hj) h.1
    | succ i =>
      cases j with
      | zero =>
        simp only [List.getElem?_cons_zero, Option.some.injEq, List.getElem?_cons_succ] at hi hj
        subst hj
        exact absurd (List.mem_of_getElem? hi) h.1
      | succ j =>
        simp only [List.getElem?_cons_succ] at hi hj
        rw [ih h.2 hj hi]
theorem del_at {H : Nm} (hn : (H.map (·.1)).Nodup) {i : Nat} {x : By × Nat} (h : H[i]? = some x) : H.take i ++ H.drop (i + 1) = H.del x.1 := by
  induction H generalizing i with
  | nil => simp at h
  | cons y r ih =>
    simp only [List.map_cons, List.nodup_cons, List.mem_map, not_exists, not_and] at hn
    cases i with
    | zero =>
      simp only [List.getElem?_cons_zero, Option.some.injEq] at h
      subst h
      have : Nm.del r y.1 = r := Nm.del_none (fun p hp e => hn.1 p hp e)
      simp only [List.take_zero, List.nil_append, Nat.zero_add, List.drop_succ_cons, List.drop_zero]
      show r = List.filter _ (y :: r)
      rw [List.filter_cons_of_neg (by simp)]
      exact this.symm
    | succ i =>
      have h' : r[i]? = some x := by simpa using h
      have hne : y.1 ≠ x.1 := fun e => hn.1 x (List.mem_of_getElem? h') e.symm
      simp only [List.take_succ_cons, List.drop_succ_cons, List.cons_append]
      rw [ih hn.2 h']
      show _ = List.filter _ (y :: r)
      rw [List.filter_cons_of_pos (by simpa using hne)]
      rfl
theorem bump_at {H : Nm} (hn : (H.map (·.1)).Nodup) {i : Nat} {x : By × Nat} (h : H[i]? = some x) (f : Nat → Nat) : H.set i (x.1, f x.2) = H.bump x.1 f := by
  induction H generalizing i with
  | nil => simp at h
  | cons y r ih =>
    simp only [List.map_cons, List.nodup_cons, List.mem_map, not_exists, not_and] at hn
    cases i with
    | zero =>
      simp only [List.getElem?_cons_zero, Option.some.injEq] at h
      subst h
      have : Nm.bump r y.1 f = r := by
        simp only [Nm.bump]
        conv => rhs; rw [← List.map_id r]
        apply List.map_congr_left
        intro p hp
        rw [if_neg (fun e => hn.1 p hp e)]
        rfl
      simp only [List.set_cons_zero]
      show _ = List.map _ (y :: r)
      rw [List.map_cons, if_pos rfl]
      congr 1
      exact this.symm
    | succ i =>
      have h' : r[i]? = some x := by simpa using h
      have hne : y.1 ≠ x.1 := fun e => hn.1 x (List.mem_of_getElem? h') e.symm
      simp only [List.set_cons_succ]
      rw [ih hn.2 h']
      show _ = List.map _ (y :: r)
      rw [List.map_cons, if_neg hne]
      rfl

set_option maxHeartbeats 2000000 in
set_option maxRecDepth 100000 in
/-- The place of a name. -/
theorem at_yes {w : World} {q : Nat} {v : Value} {H : Nm} {t : Nat} (h : Rws w q v H t) (hn : (H.map (·.1)).Nodup) (hl : H.length ≤ 1000000) {i : Nat} {x : By × Nat} (hi : H[i]? = some x) :
    Calls Try.prog 38 #[.pointer (some ⟨q, 0, none⟩), encStr x.1] w fun e w' => e = .returned (.int .i64 i) ∧ w' = w := by
  have hlt := (List.getElem?_eq_some_iff.1 hi).1
  obtain ⟨g, cap, rfl, hnc, _, hc, _⟩ := h.row.open (by omega)
  have k0 : w.cell? ⟨q, 0, none⟩ = some (.slice (some ⟨g, 0, none⟩) H.length cap) := by rw [cell_of_row _ _ _ _ _ _ h.cell]; rfl
  have HC : Hid (∀ j y, H[j]? = some y → w.cell? ⟨g, j * 2, none⟩ = some (encStr y.1)) := hide (fun j y hj => hc _ _ (hd_get H j y hj).1)
  have HN : Hid (∀ j y, H[j]? = some y → y.1 = x.1 → j = i) := hide (fun j y hj e => by
    have h1 : (H.map (·.1))[j]? = some x.1 := by simp [hj, e]
    have h2 : (H.map (·.1))[i]? = some x.1 := by simp [hi]
    exact nodup_ix hn h1 h2)
  have HG : Hid (∀ j, j < H.length → ∃ y, H[j]? = some y) := hide (fun j hj => ⟨_, List.getElem?_eq_getElem hj⟩)
  have HI := hide hi
  generalize H.length = n at *
  clear h hc hn hi
  go_enter Try.func38, Try.ntmps38
  go_upto_region 2 with (fail)
  go_loopw [5] (fun y wr => ∃ k : Nat, k ≤ i ∧ y = .int .i64 k ∧ wr = w) (fun y wr => n - (intOf y).toNat)
  case atStart => exact ⟨0, Nat.zero_le _, rfl, rfl⟩
  case round =>
    obtain ⟨k, hk, rfl, hww⟩ := hrel
    obtain rfl := hww.symm
    have hkn : k < n := by omega
    obtain ⟨y, hy⟩ := HG.out k hkn
    have hcell := HC.out k y hy
    by_cases hki : k = i
    · have hyx : y = x := by have h1 := HI.out; rw [← hki, hy] at h1; injection h1
      subst hyx
      subst hki
      have hneb : (y.1 == y.1) = true := by simp
      clear hy
      go_wp2
      go_ret
      exact ⟨rfl, rfl⟩
    · have hne : ¬ (y.1 = x.1) := fun e => hki (HN.out k y hy e)
      have hneb : (y.1 == x.1) = false := by simpa using hne
      clear hne hy
      go_wp2
      go_roundw
      case rel => exact ⟨k + 1, by omega, by go_num, trivial⟩
      case measure => simp [intOf]; omega
set_option maxHeartbeats 2000000 in
set_option maxRecDepth 100000 in
theorem at_no {w : World} {q : Nat} {v : Value} {H : Nm} {t : Nat} (h : Rws w q v H t) (hl : H.length ≤ 1000000) {nm : By} (hi : ∀ x ∈ H, x.1 ≠ nm) :
    Calls Try.prog 38 #[.pointer (some ⟨q, 0, none⟩), encStr nm] w fun e w' => e = .returned (.int .i64 (-1)) ∧ w' = w := by
  obtain ⟨bo, bc, hv, _⟩ := h.row.shape
  have k0 : w.cell? ⟨q, 0, none⟩ = some (.slice bo H.length bc) := by rw [cell_of_row _ _ _ _ _ _ h.cell, hv]; rfl
  have HC : Hid (∀ j, j < H.length → ∃ g y, bo = some ⟨g, 0, none⟩ ∧ w.cell? ⟨g, j * 2, none⟩ = some (encStr y) ∧ y ≠ nm) := hide (fun j hj => by
    obtain ⟨g, cap, hv2, hnc, _, hc, _⟩ := h.row.open (by omega)
    rw [hv] at hv2
    injection hv2 with hv2 _ _
    have hy := List.getElem?_eq_getElem hj
    exact ⟨g, H[j].1, hv2, hc _ _ (hd_get H j _ hy).1, hi _ (List.getElem_mem hj)⟩)
  generalize H.length = n at *
  clear h hv hi
  go_enter Try.func38, Try.ntmps38
  go_upto_region 2 with (fail)
  go_loopw [5] (fun y wr => ∃ k : Nat, k ≤ n ∧ y = .int .i64 k ∧ wr = w) (fun y wr => n - (intOf y).toNat)
  case atStart => exact ⟨0, Nat.zero_le _, rfl, rfl⟩
  case round =>
    obtain ⟨k, hk, rfl, hww⟩ := hrel
    obtain rfl := hww.symm
    by_cases hkn : k < n
    · obtain ⟨g, y, rfl, hcell, hne⟩ := HC.out k hkn
      have hneb : (y == nm) = false := by simpa using hne
      clear hne HC
      go_wp2
      go_roundw
      case rel => exact ⟨k + 1, by omega, by go_num, trivial⟩
      case measure => simp [intOf]; omega
    · go_wp2
      go_ret
      exact ⟨rfl, rfl⟩

/-- What a call on these rows may have turned, and where they lie behind it. -/
structure RwsTo (w w' : World) (q : Nat) (v v' : Value) : Prop where
  keep : Keep (fun b => b = q ∨ v.ownBlock = some b) w w'
  new : ∀ g, v'.ownBlock = some g → v.ownBlock = some g ∨ w.heap.size ≤ g
theorem RwsTo.refl (w : World) (q : Nat) (v : Value) : RwsTo w w q v v := ⟨Keep.refl _ _, fun _ h => .inl h⟩
theorem RwsTo.trans {w w1 w2 : World} {q : Nat} {v v1 v2 : Value} (h : RwsTo w w1 q v v1) (h2 : RwsTo w1 w2 q v1 v2) : RwsTo w w2 q v v2 := by
  refine ⟨h.keep.trans h2.keep (fun b hb hlt => ?_), fun g hg => ?_⟩
  · rcases hb with hb | hb
    · exact .inl hb
    · rcases h.new b hb with h3 | h3
      · exact .inr h3
      · omega
  · rcases h2.new g hg with h3 | h3
    · exact h.new g h3
    · exact .inr (Nat.le_trans h.keep.size h3)
theorem RwsTo.kept {w w1 w2 : World} {q : Nat} {v v1 : Value} (h : RwsTo w w1 q v v1) (hk : Kept [] w1 w2) : RwsTo w w2 q v v1 := ⟨h.keep.kept hk, h.new⟩

set_option maxRecDepth 100000 in
theorem Try.cutHd (W : World) (g L cap i : Nat) (hi : i ≤ cap) : (Instr.slice 29 (.slice (some ⟨g, 0, none⟩) L cap) none (some (.int .i64 i)) (some (.int .i64 i))).run Try.prog W = .ok (.slice (some ⟨g, 0, none⟩) i i) W := by
  have hz : (sizeOf (Try.prog.elem 29)).run Try.prog W = .ok 2 W := by kernel_rfl
  have h := run_slice_hm (P := Try.prog) W 29 (some ⟨g, 0, none⟩) L cap (by kernel_rfl) .i64 .i64 i i (by omega) (by omega) (by omega)
  rw [h, hz]
  simp [sliced, add0]

set_option maxRecDepth 100000 in
theorem Try.cutHd2 (W : World) (g L cap m : Nat) (hm : m ≤ L) : (Instr.slice 29 (.slice (some ⟨g, 0, none⟩) L cap) (some (.int .i64 m)) none none).run Try.prog W = .ok (.slice (if cap = m then some ⟨g, 0, none⟩ else some ⟨g, m * 2, none⟩) (L - m) (cap - m)) W := by
  have hz : (sizeOf (Try.prog.elem 29)).run Try.prog W = .ok 2 W := by kernel_rfl
  have h := run_slice_l (P := Try.prog) W 29 (some ⟨g, 0, none⟩) L cap (by kernel_rfl) .i64 m (by omega) (by omega)
  rw [h, hz]
  by_cases hc : cap = m
  · simp [sliced, hc]
  · simp [sliced, hc, add0]

set_option maxHeartbeats 4000000 in
set_option maxRecDepth 100000 in
theorem gone_ok {w : World} {q : Nat} {v : Value} {H : Nm} {t : Nat} (h : Rws w q v H t) (hn : (H.map (·.1)).Nodup) (hl : H.length ≤ 1000000) (nm : By) :
    Calls Try.prog 39 #[.pointer (some ⟨q, 0, none⟩), encStr nm] w fun e w' => e = .returned (.tuple #[]) ∧ ∃ v', Rws w' q v' (H.del nm) t ∧ RwsTo w w' q v v' := by
  by_cases hin : ∃ (i : Nat) (x : By × Nat), H[i]? = some x ∧ x.1 = nm
  · obtain ⟨i, x, hi, rfl⟩ := hin
    have hat := at_yes h hn hl hi
    have hlt := (List.getElem?_eq_some_iff.1 hi).1
    obtain ⟨g, cap, rfl, hnc, _, _, _⟩ := h.row.open (by omega)
    have k0 : w.cell? ⟨q, 0, none⟩ = some (.slice (some ⟨g, 0, none⟩) H.length cap) := by rw [cell_of_row _ _ _ _ _ _ h.cell]; rfl
    have hql := h.qlt
    have HD := hide (del_at hn hi)
    have HR := hide h
    have HDL : Hid (H.length - 1 = (H.del x.1).length) := hide (by rw [← del_at hn hi, List.length_append, List.length_take, List.length_drop]; omega)
    obtain ⟨ao2, hao2⟩ : ∃ ao2, (if cap = i + 1 then some (⟨g, 0, none⟩ : Addr) else some ⟨g, (i + 1) * 2, none⟩) = ao2 := ⟨_, rfl⟩
    have hc1 := fun W => Try.cutHd W g H.length cap i (by omega)
    have hc2 := fun W => Try.cutHd2 W g H.length cap (i + 1) (by omega)
    rw [hao2] at hc2
    have hgo : ∀ v0, Kept [] w v0 → ∃ vo vn vc w', (Builtin.append_ #[29, 29] 29 #[.slice (some ⟨g, 0, none⟩) i i, .slice ao2 (H.length - (i + 1)) (cap - (i + 1))]).run Try.prog v0 = .ok (.slice vo vn vc) w' ∧ OwnC w' 45 2 (.slice vo vn vc) (H.length - 1) ((H.flatMap encHd).take (i * 2) ++ (H.flatMap encHd).drop ((i + 1) * 2)) ∧ Kept [] v0 w' ∧ (∀ k, (Value.slice vo vn vc).ownBlock = some k → k = g ∨ v0.heap.size ≤ k) := fun v0 hk =>
      OwnC.cutRun (P := Try.prog) 29 29 Try.underlying29 Try.infoHeld rfl (by omega) (h.row.kept hk) i hlt (by omega) ao2 (fun hlt2 => by rw [← hao2, if_neg (by omega)]) (by rw [← hao2]; split <;> simp)
    obtain ⟨m, hm⟩ : ∃ m, i + 1 = m := ⟨_, rfl⟩
    rw [hm] at hc2
    simp only [hm] at hgo
    have hc3 : Hid ((i : Int) + 1 = (m : Int)) := hide (by omega)
    have hc3w : Hid (IntKind.i64.wrap (m : Int) = (m : Int)) := hide (by rw [IntKind.wrap_i64]; omega)
    have HM := hide hm
    clear h hn hi hao2 hm
    generalize H.length = n at *
    go_enter Try.func39, Try.ntmps39
    go_upto_region 2 with (go_at_call 38; refine hat.mono ?_; rintro e w' ⟨rfl, hww⟩; obtain rfl := hww.symm; clear hat)
    refine wp_region_late (fun w' => Kept [] w w') (fun i => i == 15 || i == 18) (by kernel_rfl) ?_
    have h0 : Kept [] w w.drew := (Kept.refl [] w).drew
    generalize World.drew w = v0 at h0 ⊢
    refine wpAnyL_free (i := 0) (v := .pointer (some ⟨q, 0, none⟩)) rfl (by kernel_rfl) (by kernel_rfl) (by kernel_rfl) (fun _ _ _ h => h) (Or.inl ⟨by rfl, fun w _ => by go_simp⟩) ?_
    try simp only [List.getElem_toArray, List.getElem_cons_zero, List.getElem_cons_succ, Act.put, List.setIfInBounds_toArray, List.set_cons_zero, List.set_cons_succ]
    refine wpAnyL_free (i := 1) (v := .pointer (some ⟨q, 0, none⟩)) rfl (by kernel_rfl) (by kernel_rfl) (by kernel_rfl) (fun _ _ _ h => h) (Or.inl ⟨by rfl, fun w _ => by go_simp⟩) ?_
    try simp only [List.getElem_toArray, List.getElem_cons_zero, List.getElem_cons_succ, Act.put, List.setIfInBounds_toArray, List.set_cons_zero, List.set_cons_succ]
    refine wpAnyL_free (i := 2) (v := .pointer (some ⟨q, 0, none⟩)) rfl (by kernel_rfl) (by kernel_rfl) (by kernel_rfl) (fun _ _ _ h => h) (Or.inl ⟨by rfl, fun w _ => by go_simp⟩) ?_
    try simp only [List.getElem_toArray, List.getElem_cons_zero, List.getElem_cons_succ, Act.put, List.setIfInBounds_toArray, List.set_cons_zero, List.set_cons_succ]
    refine wpAnyL_free (i := 3) (v := .pointer (some ⟨q, 0, none⟩)) rfl (by kernel_rfl) (by kernel_rfl) (by kernel_rfl) (fun _ _ _ h => h) (Or.inl ⟨by rfl, fun w _ => by go_simp⟩) ?_
    try simp only [List.getElem_toArray, List.getElem_cons_zero, List.getElem_cons_succ, Act.put, List.setIfInBounds_toArray, List.set_cons_zero, List.set_cons_succ]
    refine wpAnyL_take (i := 4) (v := (.slice (some ⟨g, 0, none⟩) n cap)) rfl (by kernel_rfl) (by kernel_rfl) (by kernel_rfl) (by kernel_rfl) (by kernel_rfl) (fun _ _ _ h => h) (Or.inl ⟨by rfl, fun w hSw => by have c := Kept.cellOf hSw k0 (by simp); go_simp⟩) h0 ?_
    try simp only [List.getElem_toArray, List.getElem_cons_zero, List.getElem_cons_succ, Act.put, List.setIfInBounds_toArray, List.set_cons_zero, List.set_cons_succ]
    refine wpAnyL_free (i := 5) (v := .int .i64 i) rfl (by kernel_rfl) (by kernel_rfl) (by kernel_rfl) (fun _ _ _ h => h) (Or.inl ⟨by rfl, fun w _ => by go_simp⟩) ?_
    try simp only [List.getElem_toArray, List.getElem_cons_zero, List.getElem_cons_succ, Act.put, List.setIfInBounds_toArray, List.set_cons_zero, List.set_cons_succ]
    refine wpAnyL_free (i := 6) (v := .int .i64 i) rfl (by kernel_rfl) (by kernel_rfl) (by kernel_rfl) (fun _ _ _ h => h) (Or.inl ⟨by rfl, fun w _ => by go_simp⟩) ?_
    try simp only [List.getElem_toArray, List.getElem_cons_zero, List.getElem_cons_succ, Act.put, List.setIfInBounds_toArray, List.set_cons_zero, List.set_cons_succ]
    refine wpAnyL_free (i := 7) (v := (.slice (some ⟨g, 0, none⟩) i i)) rfl (by kernel_rfl) (by kernel_rfl) (by kernel_rfl) (fun _ _ _ h => h) (Or.inl ⟨by rfl, fun w _ => by have c0 := hc1 w; go_simp⟩) ?_
    try simp only [List.getElem_toArray, List.getElem_cons_zero, List.getElem_cons_succ, Act.put, List.setIfInBounds_toArray, List.set_cons_zero, List.set_cons_succ]
    refine wpAnyL_free (i := 8) (v := .pointer (some ⟨q, 0, none⟩)) rfl (by kernel_rfl) (by kernel_rfl) (by kernel_rfl) (fun _ _ _ h => h) (Or.inl ⟨by rfl, fun w _ => by go_simp⟩) ?_
    try simp only [List.getElem_toArray, List.getElem_cons_zero, List.getElem_cons_succ, Act.put, List.setIfInBounds_toArray, List.set_cons_zero, List.set_cons_succ]
    refine wpAnyL_free (i := 9) (v := .pointer (some ⟨q, 0, none⟩)) rfl (by kernel_rfl) (by kernel_rfl) (by kernel_rfl) (fun _ _ _ h => h) (Or.inl ⟨by rfl, fun w _ => by go_simp⟩) ?_
    try simp only [List.getElem_toArray, List.getElem_cons_zero, List.getElem_cons_succ, Act.put, List.setIfInBounds_toArray, List.set_cons_zero, List.set_cons_succ]
    refine wpAnyL_free (i := 10) (v := .pointer (some ⟨q, 0, none⟩)) rfl (by kernel_rfl) (by kernel_rfl) (by kernel_rfl) (fun _ _ _ h => h) (Or.inl ⟨by rfl, fun w _ => by go_simp⟩) ?_
    try simp only [List.getElem_toArray, List.getElem_cons_zero, List.getElem_cons_succ, Act.put, List.setIfInBounds_toArray, List.set_cons_zero, List.set_cons_succ]
    refine wpAnyL_take (i := 11) (v := (.slice (some ⟨g, 0, none⟩) n cap)) rfl (by kernel_rfl) (by kernel_rfl) (by kernel_rfl) (by kernel_rfl) (by kernel_rfl) (fun _ _ _ h => h) (Or.inl ⟨by rfl, fun w hSw => by have c := Kept.cellOf hSw k0 (by simp); go_simp⟩) h0 ?_
    try simp only [List.getElem_toArray, List.getElem_cons_zero, List.getElem_cons_succ, Act.put, List.setIfInBounds_toArray, List.set_cons_zero, List.set_cons_succ]
    refine wpAnyL_free (i := 12) (v := .int .i64 i) rfl (by kernel_rfl) (by kernel_rfl) (by kernel_rfl) (fun _ _ _ h => h) (Or.inl ⟨by rfl, fun w _ => by go_simp⟩) ?_
    try simp only [List.getElem_toArray, List.getElem_cons_zero, List.getElem_cons_succ, Act.put, List.setIfInBounds_toArray, List.set_cons_zero, List.set_cons_succ]
    refine wpAnyL_free (i := 13) (v := .int .i64 (m : Nat)) rfl (by kernel_rfl) (by kernel_rfl) (by kernel_rfl) (fun _ _ _ h => h) (Or.inl ⟨by rfl, fun w _ => by have c0 := hc3.out; have c1 := hc3w.out; go_simp⟩) ?_
    try simp only [List.getElem_toArray, List.getElem_cons_zero, List.getElem_cons_succ, Act.put, List.setIfInBounds_toArray, List.set_cons_zero, List.set_cons_succ]
    refine wpAnyL_free (i := 14) (v := (.slice ao2 (n - m) (cap - m))) rfl (by kernel_rfl) (by kernel_rfl) (by kernel_rfl) (fun _ _ _ h => h) (Or.inl ⟨by rfl, fun w _ => by have c0 := hc2 w; go_simp⟩) ?_
    try simp only [List.getElem_toArray, List.getElem_cons_zero, List.getElem_cons_succ, Act.put, List.setIfInBounds_toArray, List.set_cons_zero, List.set_cons_succ]
    obtain ⟨vo, vn, vc, w2, hrun, n1, n2, n3⟩ := hgo v0 h0
    have kq : w2.heap[q]? = some (.cells #[.slice (some ⟨g, 0, none⟩) n cap, .int .i64 t] 31 (0, 0)) := by rw [(h0.trans n2 (by simp)).block q hql (by simp)]; exact HR.out.cell
    have k2 : w2.cell? ⟨q, 0, none⟩ = some (.slice (some ⟨g, 0, none⟩) n cap) := by rw [cell_of_row _ _ _ _ _ _ kq]; rfl
    have f2 : w2.frozen? ⟨q, 0, none⟩ = false := frozen_of_row _ _ _ _ _ kq
    have HCC := hide (And.intro n1 (And.intro (h0.trans n2 (by simp)) (And.intro n3 kq)))
    clear n1 n2 n3 kq hgo
    refine wpAnyL_one (i := 15) (by kernel_rfl) rfl (fun K' hK => ?_)
    rw [if_pos (by rfl)]
    refine wp_append_run (.tmp 17) (.tmp 24) 29 29 rfl (.slice (some ⟨g, 0, none⟩) i i) (.slice ao2 (n - m) (cap - m)) rfl rfl (.slice vo vn vc) w2 hrun ?_
    refine hK.out _ _ (fun _ h => by cases h) ?_
    clear hK K' hrun
    try simp only [List.getElem_toArray, List.getElem_cons_zero, List.getElem_cons_succ, Act.put, List.setIfInBounds_toArray, List.set_cons_zero, List.set_cons_succ]
    refine wpAnyL_free (i := 16) (v := .pointer (some ⟨q, 0, none⟩)) rfl (by kernel_rfl) (by kernel_rfl) (by kernel_rfl) (fun _ _ _ h => h) (Or.inl ⟨by rfl, fun w _ => by go_simp⟩) ?_
    try simp only [List.getElem_toArray, List.getElem_cons_zero, List.getElem_cons_succ, Act.put, List.setIfInBounds_toArray, List.set_cons_zero, List.set_cons_succ]
    refine wpAnyL_free (i := 17) (v := .pointer (some ⟨q, 0, none⟩)) rfl (by kernel_rfl) (by kernel_rfl) (by kernel_rfl) (fun _ _ _ h => h) (Or.inl ⟨by rfl, fun w _ => by go_simp⟩) ?_
    try simp only [List.getElem_toArray, List.getElem_cons_zero, List.getElem_cons_succ, Act.put, List.setIfInBounds_toArray, List.set_cons_zero, List.set_cons_succ]
    refine wpAnyL_one (i := 18) (by kernel_rfl) rfl (fun K' hK => ?_)
    rw [if_pos (by rfl)]
    go_simp
    refine hK.out _ _ (fun _ h => by cases h) ?_
    clear hK K'
    try simp only [List.getElem_toArray, List.getElem_cons_zero, List.getElem_cons_succ, Act.put, List.setIfInBounds_toArray, List.set_cons_zero, List.set_cons_succ]
    refine wpAnyL_done (by kernel_rfl) ?_ _
    go_end0
    refine ⟨rfl, .slice vo vn vc, ⟨?_, ?_⟩, ⟨?_, fun k hk => ?_⟩⟩
    · rw [heap_setCell_same _ _ _ _ _ _ HCC.out.2.2.2]
      rfl
    · have h1 := HCC.out.1
      rw [← HM.out, hd_take, hd_drop, ← List.flatMap_append, HD.out, HDL.out] at h1
      refine h1.keep (F := fun b => b = q) ((Keep.refl (fun b => b = q) _).setCell (p := ⟨q, 0, none⟩) (fun _ => rfl) _) (fun g2 hg2 e => ?_)
      subst e
      exact h1.ne HCC.out.2.2.2 (by decide) hg2
    · exact (Keep.ofNone HCC.out.2.1).setCell (fun _ => .inl rfl) _
    · rcases HCC.out.2.2.1 k hk with h3 | h3
      · exact .inl (by rw [h3]; rfl)
      · exact .inr (Nat.le_trans h0.size h3)
  · have hno : ∀ x ∈ H, x.1 ≠ nm := fun x hx e => hin (by
      obtain ⟨i, hi⟩ := List.mem_iff_getElem?.1 hx
      exact ⟨i, x, hi, e⟩)
    have hat := at_no h hl hno
    have HE : Hid (H.del nm = H) := hide (Nm.del_none hno)
    have HR := hide h
    clear h hno hin hn
    go_enter Try.func39, Try.ntmps39
    go_wp2_with (go_at_call 38; refine hat.mono ?_; rintro e w' ⟨rfl, hww⟩; obtain rfl := hww.symm; clear hat)
    go_end0
    exact ⟨rfl, v, by rw [HE.out]; exact HR.out, RwsTo.refl _ _ _⟩
end Go.Proofs.Ytllfkfncgalpaaa
