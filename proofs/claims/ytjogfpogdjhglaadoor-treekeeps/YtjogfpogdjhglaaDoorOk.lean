/-
  Rows of their own of any element type, side by side: what a write or an append to one of them leaves of the others. (Yb's, for elements of any size.)
-/
import Derived.Test.YtjogfpogdjhglaaDoorNm
import Derived.Laws.OwnMore
import Derived.Maps.AppendAt
namespace Go.Proofs.YtjogfpogdjhglaaDoor
open Go.RowKit
set_option linter.unusedVariables false
set_option linter.unusedSimpArgs false

structure Rw where
  o : Option Addr
  c : Nat
  n : Nat
  vs : List Value
def rw0 : Rw := ⟨none, 0, 0, []⟩
instance : Inhabited Rw := ⟨rw0⟩
def Rw.val (r : Rw) : Value := .slice r.o r.n r.c
def Rw.At (e : TypeId) (s B : Nat) (w : World) (r : Rw) : Prop := w.ownsRow B e s r.val r.n r.vs
def Rw.blk (r : Rw) : Option Nat := r.val.ownBlock
/-- Not the same block. -/
def Off (a b : Option Nat) : Prop := ∀ k, a = some k → b ≠ some k
theorem Off.symm {a b : Option Nat} (h : Off a b) : Off b a := fun k hb ha => h k ha hb
theorem Off.none (a : Option Nat) : Off a none := fun k _ h => by simp at h
section
variable {e : TypeId} {s B : Nat} {w w' : World}
theorem own_keep {v : Value} {n : Nat} {xs : List Value} {row : Option Nat} (h : w.ownsRow B e s v n xs) (hg : w.grownBy w' row) (hne : Off v.ownBlock row) : w'.ownsRow B e s v n xs := by
  refine h.kept hg ?_
  rcases hb : v.ownBlock with _ | k
  · exact .inl rfl
  · exact .inr (fun e => hne k hb e.symm)
theorem Rw.At.keep {r : Rw} {row : Option Nat} (h : r.At e s B w) (hg : w.grownBy w' row) (hne : Off r.blk row) : r.At e s B w' := own_keep h hg hne
theorem Rw.At.blk_lt {r : Rw} (h : r.At e s B w) {k : Nat} (hk : r.blk = some k) : k < w.heap.size := (World.ownsRow.lt h k hk).2
theorem Rw.At.new {r : Rw} (h : r.At e s B w) {k : Nat} (hk : w.heap.size ≤ k) : Off r.blk (some k) := fun j hj e => by
  have := h.blk_lt hj
  cases e
  omega
/-- Two rows of two types lie in two blocks. -/
theorem own_types {B' s' : Nat} {e' : TypeId} {v v' : Value} {n n' : Nat} {xs xs' : List Value} (h : w.ownsRow B e s v n xs) (h' : w.ownsRow B' e' s' v' n' xs') (he : e ≠ e') : Off v.ownBlock v'.ownBlock := by
  intro k hk hk'
  rcases h.2 with ⟨rfl, _⟩ | ⟨g, cap, cur, rfl, _, hg, _⟩
  · simp [Value.ownBlock] at hk
  rcases h'.2 with ⟨rfl, _⟩ | ⟨g', cap', cur', rfl, _, hg', _⟩
  · simp [Value.ownBlock] at hk'
  simp only [Value.ownBlock, Option.some.injEq] at hk hk'
  subst hk
  subst hk'
  rw [hg] at hg'
  injection hg' with hg'
  injection hg' with _ e2 _
  exact he e2
/-- A shorter row in the front of a longer one's block. -/
theorem own_front {v v' : Value} {n N : Nat} {xs XS : List Value} (h : w.ownsRow B e s v n xs) (hL : w.ownsRow B e s v' N XS) (hL' : w'.ownsRow B e s v' N XS) (hb : v.ownBlock = v'.ownBlock) (hn : n ≤ N) : w'.ownsRow B e s v n xs := by
  rcases h.2 with ⟨rfl, h0⟩ | ⟨g, cap, cur, rfl, hbg, hg, hnc, hcm, hcs, htake⟩
  · exact ⟨h.1, .inl ⟨rfl, h0⟩⟩
  rcases hL.2 with ⟨rfl, _⟩ | ⟨g1, cap1, cur1, rfl, _, hg1, hnc1, _, hcs1, htake1⟩
  · simp [Value.ownBlock] at hb
  simp only [Value.ownBlock, Option.some.injEq] at hb
  subst hb
  rcases hL'.2 with ⟨e2, _⟩ | ⟨g2, cap2, cur2, e2, _, hg2, hnc2, _, hcs2, htake2⟩
  · simp at e2
  simp only [Value.slice.injEq, Option.some.injEq, Addr.mk.injEq, and_true, true_and] at e2
  obtain ⟨rfl, rfl⟩ := e2
  rw [hg] at hg1
  injection hg1 with hg1
  injection hg1 with hg1 _ _
  subst hg1
  have hns : n * s ≤ N * s := Nat.mul_le_mul_right s hn
  refine ⟨h.1, .inr ⟨g, cap, cur2, rfl, hbg, hg2, hnc, hcm, by omega, ?_⟩⟩
  rw [← htake]
  have h1 := congrArg (List.take (n * s)) htake1
  have h2 := congrArg (List.take (n * s)) htake2
  rw [List.take_take, Nat.min_eq_left hns] at h1 h2
  rw [h1, h2]
/-- append of m elements: the row that was appended to stands too. -/
theorem run_append_both {P : Program} (t ty : TypeId) (z : Value) (bs : Nat) (ht : P.underlying t = some (.slice e)) (hinf : (P.info? e).map (fun i => (i.zero, i.size, i.bytes)) = some (some z, s, bs)) (hzs : z.cells.size = s) (hs : 0 < s)
    (r : Rw) (m : Nat) (ys : List Value) (yb c0 : Nat) (hown : r.At e s B w) (hyl : ys.length = m * s) (hm : 0 < m) (hy : ∀ j u, ys[j]? = some u → w.cell? ⟨yb, j, none⟩ = some u) (h1y : ∀ u ∈ ys, u.oneCell' = true) (hl : (r.n + m) * bs ≤ 140737488355328) (hl2 : r.n + m ≤ 140737488355328) (hb : B ≤ w.heap.size) :
    ∃ g c w', (Builtin.append_ #[t, t] ty #[r.val, .slice (some ⟨yb, 0, none⟩) m c0]).run P w = .ok (.slice (some ⟨g, 0, none⟩) (r.n + m) c) w' ∧ (Rw.mk (some ⟨g, 0, none⟩) c (r.n + m) (r.vs ++ ys)).At e s B w' ∧ r.At e s B w' ∧ w.grownBy w' r.blk ∧ (some g = r.blk ∨ g = w.heap.size) := by
  obtain ⟨i0, hi, hz0, hz1, hz2⟩ := info_parts hinf
  have hcl : ∀ j u, ys[j]? = some u → w.cell? ((⟨yb, 0, none⟩ : Addr).add j) = some u := fun j u hj => by rw [Addr.add_mid, Nat.zero_add]; exact hy j u hj
  obtain ⟨v', w', hrun, h1, h2, h3, h4⟩ := run_append_own_at (P := P) w B t ty e i0 z s bs ht hi hz0 hz1 hz2 hzs hs _ r.n r.vs hown ⟨yb, 0, none⟩ m c0 ys hyl hcl h1y (by unfold maxLen; omega) hl hb
  obtain ⟨g, c, hv⟩ : ∃ g c, v' = .slice (some ⟨g, 0, none⟩) (r.n + m) c := by
    rcases h1.2 with ⟨e, e2⟩ | ⟨g, cap', cur, e, _⟩
    · omega
    · exact ⟨g, cap', e⟩
  have hstay : w'.ownsRow B e s r.val r.n r.vs := by
    rcases hown.2 with ⟨e, e2⟩ | ⟨q, cap, cur, he, hbg, hg, hnc, hcm, hcs, htake⟩
    · exact ⟨hown.1, .inl ⟨e, e2⟩⟩
    · by_cases hroom : r.n + m ≤ cap
      · have hmul := Nat.mul_le_mul_right s hroom
        rw [Nat.add_mul] at hmul
        have hr := run_append_room (P := P) w t ty e i0 ht hi q r.n cap cur hg ⟨yb, 0, none⟩ m c0 ys (by rw [hyl, hz1]) hcl h1y hroom (by rw [hz1, hyl]; omega)
        rw [he, hr] at hrun
        injection hrun with _ hw
        subst hw
        refine ⟨hown.1, .inr ⟨q, cap, _, he, hbg, setRow_heap w q cur _ _ _ hg, hnc, hcm, ?_, ?_⟩⟩
        · simp only [List.size_toArray, List.length_append, List.length_take, List.length_drop, Array.length_toList, hyl, hz1]
          omega
        · rw [hz1, ← htake]
          simp only [List.append_assoc]
          rw [List.take_append_of_le_length (by simp; omega), List.take_take, Nat.min_self]
      · have hr := run_append_grow (P := P) w t ty e i0 z ht hi hz0 ⟨q, 0, none⟩ r.n cap r.vs (by rw [hown.1, hz1]) (hown.cells (g := q) (by rw [he]; rfl)) ⟨yb, 0, none⟩ m c0 ys (by rw [hyl, hz1]) hcl (by omega) (by omega) (growslice_fits (by unfold maxLen at *; omega) (by rw [hz2]; omega))
        rw [he, hr] at hrun
        injection hrun with _ hw
        subst hw
        exact ⟨hown.1, .inr ⟨q, cap, cur, he, hbg, ((World.grownBy_alloc w.drew _ none).block q (Array.getElem?_eq_some_iff.1 hg).1 (by simp)).trans hg, hnc, hcm, hcs, htake⟩⟩
  subst hv
  refine ⟨g, c, w', hrun, h1, hstay, h2, ?_⟩
  rcases h4 with h4 | h4
  · exact .inl h4
  · simp only [Value.ownBlock, Option.some.injEq] at h4
    exact .inr h4
end

def upr (f : Nat → Rw) (i : Nat) (a : Rw) : Nat → Rw := fun j => if j = i then a else f j
theorem upr_same (f : Nat → Rw) (i : Nat) (a : Rw) : upr f i a i = a := by simp [upr]
theorem upr_other (f : Nat → Rw) (i j : Nat) (a : Rw) (h : j ≠ i) : upr f i a j = f j := by simp [upr, h]
theorem upr_val (f : Nat → Rw) (i : Nat) (a : Rw) (h : a.val = (f i).val) (j : Nat) : (upr f i a j).val = (f j).val := by
  by_cases e : j = i
  · subst e; rw [upr_same, h]
  · rw [upr_other _ _ _ _ e]

structure Fam (e : TypeId) (s B : Nat) (w : World) (m : Nat) (h : Nat → Rw) : Prop where
  own : ∀ i, i < m → (h i).At e s B w
  apart : ∀ i j, i < m → j < m → i ≠ j → Off (h i).blk (h j).blk
section
variable {e : TypeId} {s B : Nat} {w w' : World} {m : Nat} {h : Nat → Rw}
theorem Fam.grow {row : Option Nat} (F : Fam e s B w m h) (hg : w.grownBy w' row) (hr : ∀ i, i < m → Off (h i).blk row) : Fam e s B w' m h :=
  ⟨fun i hi => (F.own i hi).keep hg (hr i hi), F.apart⟩
/-- One row more, in a block of its own. -/
theorem Fam.more (F : Fam e s B w m h) {r : Rw} (hr : r.At e s B w) (hn : ∀ i, i < m → Off (h i).blk r.blk) : Fam e s B w (m + 1) (upr h m r) := by
  refine ⟨fun i hi => ?_, fun i j hi hj hne => ?_⟩
  · by_cases e : i = m
    · subst e; rw [upr_same]; exact hr
    · rw [upr_other _ _ _ _ e]; exact F.own i (by omega)
  · by_cases e : i = m
    · subst e
      rw [upr_same, upr_other _ _ _ _ (by omega)]
      exact (hn j (by omega)).symm
    · rw [upr_other _ _ _ _ e]
      by_cases e' : j = m
      · subst e'; rw [upr_same]; exact hn i (by omega)
      · rw [upr_other _ _ _ _ e']; exact F.apart i j (by omega) (by omega) hne
/-- One row is another one now, its place the same. -/
theorem Fam.turn (F : Fam e s B w m h) {i : Nat} (hi : i < m) {vs : List Value} (hn : (Rw.mk (h i).o (h i).c (h i).n vs).At e s B w') (hg : w.grownBy w' (h i).blk) : Fam e s B w' m (upr h i ⟨(h i).o, (h i).c, (h i).n, vs⟩) := by
  have hv : (Rw.mk (h i).o (h i).c (h i).n vs).val = (h i).val := rfl
  have hb2 : ∀ j, (upr h i ⟨(h i).o, (h i).c, (h i).n, vs⟩ j).blk = (h j).blk := fun j => by unfold Rw.blk; rw [upr_val h i _ hv]
  refine ⟨fun j hj => ?_, fun a b ha hb hab => by rw [hb2, hb2]; exact F.apart a b ha hb hab⟩
  by_cases e : j = i
  · subst e
    rw [upr_same]
    exact hn
  · rw [upr_other _ _ _ _ e]
    exact (F.own j hj).keep hg (F.apart j i hj hi e)
end
/-- One cell of a row is written. -/
theorem Rw.At.set {e : TypeId} {s B : Nat} {w : World} {r : Rw} (h : r.At e s B w) {g k : Nat} (ho : r.o = some ⟨g, 0, none⟩) (v : Value) : (Rw.mk r.o r.c r.n (r.vs.set k v)).At e s B (w.setCell ⟨g, k, none⟩ v) ∧ w.grownBy (w.setCell ⟨g, k, none⟩ v) r.blk := by
  unfold Rw.At Rw.val at h
  rw [ho] at h
  obtain ⟨h1, h2⟩ := h.stored k v
  have hbi : r.blk = some g := by unfold Rw.blk Rw.val; rw [ho]; rfl
  rw [hbi]
  refine ⟨?_, h2⟩
  unfold Rw.At Rw.val
  rw [ho]
  exact h1

/-- Rows, and longer ones that went out of the first c of them. -/
structure Lx (e : TypeId) (s B : Nat) (w : World) (m : Nat) (h : Nat → Rw) (c : Nat) (lf : Nat → Rw) : Prop where
  fam : Fam e s B w m h
  own : ∀ j, j < c → (lf j).At e s B w
  far : ∀ j j', j < c → j' < m → j ≠ j' → Off (lf j).blk (h j').blk
  far2 : ∀ j j', j < c → j' < c → j ≠ j' → Off (lf j).blk (lf j').blk
  len : ∀ j, j < c → (h j).n ≤ (lf j).n
section
variable {e : TypeId} {s B : Nat} {w w' : World} {m c : Nat} {h lf : Nat → Rw}
theorem Lx.grow {row : Option Nat} (L : Lx e s B w m h c lf) (hg : w.grownBy w' row) (hr : ∀ i, i < m → Off (h i).blk row) (hr2 : ∀ i, i < c → Off (lf i).blk row) : Lx e s B w' m h c lf :=
  ⟨L.fam.grow hg hr, fun j hj => (L.own j hj).keep hg (hr2 j hj), L.far, L.far2, L.len⟩
theorem Lx.start {i : Nat} (L : Lx e s B w m h i lf) (hi : i < m) : Lx e s B w m h (i + 1) (upr lf i (h i)) := by
  have hU : ∀ j, j < i → upr lf i (h i) j = lf j := fun j hj => upr_other _ _ _ _ (by omega)
  refine ⟨L.fam, fun j hj => ?_, fun j j' hj hj' hne => ?_, fun j j' hj hj' hne => ?_, fun j hj => ?_⟩
  · by_cases e : j = i
    · subst e; rw [upr_same]; exact L.fam.own j hi
    · rw [hU j (by omega)]; exact L.own j (by omega)
  · by_cases e : j = i
    · subst e; rw [upr_same]; exact L.fam.apart j j' hi hj' hne
    · rw [hU j (by omega)]; exact L.far j j' (by omega) hj' hne
  · by_cases e : j = i
    · subst e
      rw [upr_same, hU j' (by omega)]
      exact (L.far j' j (by omega) hi (by omega)).symm
    · rw [hU j (by omega)]
      by_cases e' : j' = i
      · subst e'; rw [upr_same]; exact L.far j j' (by omega) hi (by omega)
      · rw [hU j' (by omega)]; exact L.far2 j j' (by omega) (by omega) hne
  · by_cases e : j = i
    · subst e; rw [upr_same]; exact Nat.le_refl _
    · rw [hU j (by omega)]; exact L.len j (by omega)
/-- The last of the longer ones goes on. -/
theorem Lx.app {i : Nat} {r : Rw} (L : Lx e s B w m h (i + 1) lf) (hi : i < m) (hn : r.At e s B w') (hs : (lf i).At e s B w') (hg : w.grownBy w' (lf i).blk) (hb : r.blk = (lf i).blk ∨ ∀ k, r.blk = some k → w.heap.size ≤ k) (hl : (lf i).n ≤ r.n) : Lx e s B w' m h (i + 1) (upr lf i r) := by
  have hU : ∀ j, j ≠ i → upr lf i r j = lf j := fun j hj => upr_other _ _ _ _ hj
  have hOf : ∀ {x : Rw}, x.At e s B w → Off (lf i).blk x.blk → Off r.blk x.blk := fun {x} hx ho => by
    rcases hb with hb | hb
    · rw [hb]; exact ho
    · intro k h1 h2
      have := hx.blk_lt h2
      have := hb k h1
      omega
  refine ⟨⟨fun j hj => ?_, L.fam.apart⟩, fun j hj => ?_, fun j j' hj hj' hne => ?_, fun j j' hj hj' hne => ?_, fun j hj => ?_⟩
  · by_cases e : j = i
    · subst e
      by_cases hbb : (h j).blk = (lf j).blk
      · exact own_front (L.fam.own j hj) (L.own j (by omega)) hs hbb (L.len j (by omega))
      · exact (L.fam.own j hj).keep hg (fun k h1 h2 => hbb (by rw [h1, h2]))
    · exact (L.fam.own j hj).keep hg (L.far i j (by omega) hj (by omega)).symm
  · by_cases e : j = i
    · subst e; rw [upr_same]; exact hn
    · rw [hU j e]; exact (L.own j hj).keep hg (L.far2 j i hj (by omega) e)
  · by_cases e : j = i
    · subst e; rw [upr_same]; exact hOf (L.fam.own j' hj') (L.far j j' (by omega) hj' hne)
    · rw [hU j e]; exact L.far j j' hj hj' hne
  · by_cases e : j = i
    · subst e
      rw [upr_same, hU j' (by omega)]
      exact hOf (L.own j' hj') (L.far2 j j' (by omega) hj' hne)
    · rw [hU j e]
      by_cases e' : j' = i
      · subst e'
        rw [upr_same]
        exact (hOf (L.own j hj) (L.far2 j' j (by omega) hj (by omega))).symm
      · rw [hU j' e']; exact L.far2 j j' hj hj' hne
  · by_cases e : j = i
    · subst e; rw [upr_same]; exact Nat.le_trans (L.len j hj) hl
    · rw [hU j e]; exact L.len j hj
end
/-- The rows' values in their order. -/
def vals (m : Nat) (f : Nat → Rw) : List Value := (List.range m).map (fun i => (f i).val)
theorem vals_len (m : Nat) (f : Nat → Rw) : (vals m f).length = m := by simp [vals]
theorem vals_at (m : Nat) (f : Nat → Rw) (i : Nat) (hi : i < m) : (vals m f)[i]? = some (f i).val := by simp [vals, hi]
theorem vals_succ (m : Nat) (f : Nat → Rw) : vals (m + 1) f = vals m f ++ [(f m).val] := by simp [vals, List.range_succ]
theorem vals_congr {m : Nat} {f g : Nat → Rw} (h : ∀ i, i < m → (f i).val = (g i).val) : vals m f = vals m g := by
  unfold vals
  exact List.map_congr_left (fun i hi => h i (by simpa using hi))
theorem vals_one (m : Nat) (f : Nat → Rw) : ∀ u ∈ vals m f, u.oneCell' = true := by
  intro u hu
  unfold vals at hu
  obtain ⟨i, _, rfl⟩ := List.mem_map.1 hu
  rfl
end Go.Proofs.YtjogfpogdjhglaaDoor
