/-
  Rows of their own side by side, and longer ones that went out of them. (Written by tools/t9t.py.)
-/
import Derived.Test.YtmhnjhnnaciokaaZl
import Derived.Laws.OwnMore
import Derived.Maps.AppendAt
namespace Go.Proofs.Ytmhnjhnnaciokaa
open Go.RowKit Go.Sort
set_option linter.unusedVariables false
set_option linter.unusedSimpArgs false

structure Rw where
  o : Option Addr
  c : Nat
  n : Nat
  vs : List Value
def rw0 : Rw := ⟨none, 0, 0, []⟩
instance : Inhabited Rw := ⟨rw0⟩
def Rw.val (r : Rw) : Value := .slice r.o r.n r.c
def Rw.At (e : TypeId) (s B : Nat) (w : World) (r : Rw) : Prop := w.ownsRow B e s r.val r.n r.vs
def Rw.blk (r : Rw) : Option Nat := r.val.ownBlock
/-- Not the same block. -/
def Off (a b : Option Nat) : Prop := ∀ k, a = some k → b ≠ some k
theorem Off.symm {a b : Option Nat} (h : Off a b) : Off b a := fun k hb ha => h k ha hb
theorem Off.none (a : Option Nat) : Off a none := fun k _ h => by simp at h
section
variable {e : TypeId} {s B : Nat} {w w' : World}
theorem own_keep {v : Value} {n : Nat} {xs : List Value} {row : Option Nat} (h : w.ownsRow B e s v n xs) (hg : w.grownBy w' row) (hne : Off v.ownBlock row) : w'.ownsRow B e s v n xs := by
  refine h.kept hg ?_
  rcases hb : v.ownBlock with _ | k
  · exact .inl rfl
  · exact .inr (fun e => hne k hb e.symm)
theorem Rw.At.keep {r : Rw} {row : Option Nat} (h : r.At e s B w) (hg : w.grownBy w' row) (hne : Off r.blk row) : r.At e s B w' := own_keep h hg hne
theorem Rw.At.blk_lt {r : Rw} (h : r.At e s B w) {k : Nat} (hk : r.blk = some k) : k < w.heap.size := (World.ownsRow.lt h k hk).2
theorem Rw.At.new {r : Rw} (h : r.At e s B w) {k : Nat} (hk : w.heap.size ≤ k) : Off r.blk (some k) := fun j hj e => by
  have := h.blk_lt hj
  cases e
  omega
/-- Two rows of two types lie in two blocks. -/
theorem own_types {B' s' : Nat} {e' : TypeId} {v v' : Value} {n n' : Nat} {xs xs' : List Value} (h : w.ownsRow B e s v n xs) (h' : w.ownsRow B' e' s' v' n' xs') (he : e ≠ e') : Off v.ownBlock v'.ownBlock := by
  intro k hk hk'
  rcases h.2 with ⟨rfl, _⟩ | ⟨g, cap, cur, rfl, _, hg, _⟩
  · simp [Value.ownBlock] at hk
  rcases h'.2 with ⟨rfl, _⟩ | ⟨g', cap', cur', rfl, _, hg', _⟩
  · simp [Value.ownBlock] at hk'
  simp only [Value.ownBlock, Option.some.injEq] at hk hk'
  subst hk
  subst hk'
  rw [hg] at hg'
  injection hg' with hg'
  injection hg' with _ e2 _
  exact he e2
/-- A shorter row in the front of a longer one's block. -/
theorem own_front {v v' : Value} {n N : Nat} {xs XS : List Value} (h : w.ownsRow B e s v n xs) (hL : w.ownsRow B e s v' N XS) (hL' : w'.ownsRow B e s v' N XS) (hb : v.ownBlock = v'.ownBlock) (hn : n ≤ N) : w'.ownsRow B e s v n xs := by
  rcases h.2 with ⟨rfl, h0⟩ | ⟨g, cap, cur, rfl, hbg, hg, hnc, hcm, hcs, htake⟩
  · exact ⟨h.1, .inl ⟨rfl, h0⟩⟩
  rcases hL.2 with ⟨rfl, _⟩ | ⟨g1, cap1, cur1, rfl, _, hg1, hnc1, _, hcs1, htake1⟩
  · simp [Value.ownBlock] at hb
  simp only [Value.ownBlock, Option.some.injEq] at hb
  subst hb
  rcases hL'.2 with ⟨e2, _⟩ | ⟨g2, cap2, cur2, e2, _, hg2, hnc2, _, hcs2, htake2⟩
  · simp at e2
  simp only [Value.slice.injEq, Option.some.injEq, Addr.mk.injEq, and_true, true_and] at e2
  obtain ⟨rfl, rfl⟩ := e2
  rw [hg] at hg1
  injection hg1 with hg1
  injection hg1 with hg1 _ _
  subst hg1
  have hns : n * s ≤ N * s := Nat.mul_le_mul_right s hn
  refine ⟨h.1, .inr ⟨g, cap, cur2, rfl, hbg, hg2, hnc, hcm, by omega, ?_⟩⟩
  rw [← htake]
  have h1 := congrArg (List.take (n * s)) htake1
  have h2 := congrArg (List.take (n * s)) htake2
  rw [List.take_take, Nat.min_eq_left hns] at h1 h2
  rw [h1, h2]
/-- append of m elements: the row that was appended to stands too. -/
theorem run_append_both {P : Program} (t ty : TypeId) (z : Value) (bs : Nat) (ht : P.underlying t = some (.slice e)) (hinf : (P.info? e).map (fun i => (i.zero, i.size, i.bytes)) = some (some z, s, bs)) (hzs : z.cells.size = s) (hs : 0 < s)
    (r : Rw) (m : Nat) (ys : List Value) (yb c0 : Nat) (hown : r.At e s B w) (hyl : ys.length = m * s) (hm : 0 < m) (hy : ∀ j u, ys[j]? = some u → w.cell? ⟨yb, j, none⟩ = some u) (h1y : ∀ u ∈ ys, u.oneCell' = true) (hl : (r.n + m) * bs ≤ 140737488355328) (hl2 : r.n + m ≤ 140737488355328) (hb : B ≤ w.heap.size) :
    ∃ g c w', (Builtin.append_ #[t, t] ty #[r.val, .slice (some ⟨yb, 0, none⟩) m c0]).run P w = .ok (.slice (some ⟨g, 0, none⟩) (r.n + m) c) w' ∧ (Rw.mk (some ⟨g, 0, none⟩) c (r.n + m) (r.vs ++ ys)).At e s B w' ∧ r.At e s B w' ∧ w.grownBy w' r.blk ∧ (some g = r.blk ∨ g = w.heap.size) := by
  obtain ⟨i0, hi, hz0, hz1, hz2⟩ := info_parts hinf
  have hcl : ∀ j u, ys[j]? = some u → w.cell? ((⟨yb, 0, none⟩ : Addr).add j) = some u := fun j u hj => by rw [Addr.add_mid, Nat.zero_add]; exact hy j u hj
  obtain ⟨v', w', hrun, h1, h2, h3, h4⟩ := run_append_own_at (P := P) w B t ty e i0 z s bs ht hi hz0 hz1 hz2 hzs hs _ r.n r.vs hown ⟨yb, 0, none⟩ m c0 ys hyl hcl h1y (by unfold maxLen; omega) hl hb
  obtain ⟨g, c, hv⟩ : ∃ g c, v' = .slice (some ⟨g, 0, none⟩) (r.n + m) c := by
    rcases h1.2 with ⟨e, e2⟩ | ⟨g, cap', cur, e, _⟩
    · omega
    · exact ⟨g, cap', e⟩
  have hstay : w'.ownsRow B e s r.val r.n r.vs := by
    rcases hown.2 with ⟨e, e2⟩ | ⟨q, cap, cur, he, hbg, hg, hnc, hcm, hcs, htake⟩
    · exact ⟨hown.1, .inl ⟨e, e2⟩⟩
    · by_cases hroom : r.n + m ≤ cap
      · have hmul := Nat.mul_le_mul_right s hroom
        rw [Nat.add_mul] at hmul
        have hr := run_append_room (P := P) w t ty e i0 ht hi q r.n cap cur hg ⟨yb, 0, none⟩ m c0 ys (by rw [hyl, hz1]) hcl h1y hroom (by rw [hz1, hyl]; omega)
        rw [he, hr] at hrun
        injection hrun with _ hw
        subst hw
        refine ⟨hown.1, .inr ⟨q, cap, _, he, hbg, setRow_heap w q cur _ _ _ hg, hnc, hcm, ?_, ?_⟩⟩
        · simp only [List.size_toArray, List.length_append, List.length_take, List.length_drop, Array.length_toList, hyl, hz1]
          omega
        · rw [hz1, ← htake]
          simp only [List.append_assoc]
          rw [List.take_append_of_le_length (by simp; omega), List.take_take, Nat.min_self]
      · have hr := run_append_grow (P := P) w t ty e i0 z ht hi hz0 ⟨q, 0, none⟩ r.n cap r.vs (by rw [hown.1, hz1]) (hown.cells (g := q) (by rw [he]; rfl)) ⟨yb, 0, none⟩ m c0 ys (by rw [hyl, hz1]) hcl (by omega) (by omega) (growslice_fits (by unfold maxLen at *; omega) (by rw [hz2]; omega))
        rw [he, hr] at hrun
        injection hrun with _ hw
        subst hw
        exact ⟨hown.1, .inr ⟨q, cap, cur, he, hbg, ((World.grownBy_alloc w.drew _ none).block q (Array.getElem?_eq_some_iff.1 hg).1 (by simp)).trans hg, hnc, hcm, hcs, htake⟩⟩
  subst hv
  refine ⟨g, c, w', hrun, h1, hstay, h2, ?_⟩
  rcases h4 with h4 | h4
  · exact .inl h4
  · simp only [Value.ownBlock, Option.some.injEq] at h4
    exact .inr h4
end

def upr (f : Nat → Rw) (i : Nat) (a : Rw) : Nat → Rw := fun j => if j = i then a else f j
theorem upr_same (f : Nat → Rw) (i : Nat) (a : Rw) : upr f i a i = a := by simp [upr]
theorem upr_other (f : Nat → Rw) (i j : Nat) (a : Rw) (h : j ≠ i) : upr f i a j = f j := by simp [upr, h]
theorem upr_val (f : Nat → Rw) (i : Nat) (a : Rw) (h : a.val = (f i).val) (j : Nat) : (upr f i a j).val = (f j).val := by
  by_cases e : j = i
  · subst e; rw [upr_same, h]
  · rw [upr_other _ _ _ _ e]

structure Fam (e : TypeId) (s B : Nat) (w : World) (m : Nat) (h : Nat → Rw) : Prop where
  own : ∀ i, i < m → (h i).At e s B w
  apart : ∀ i j, i < m → j < m → i ≠ j → Off (h i).blk (h j).blk
section
variable {e : TypeId} {s B : Nat} {w w' : World} {m : Nat} {h : Nat → Rw}
theorem Fam.grow {row : Option Nat} (F : Fam e s B w m h) (hg : w.grownBy w' row) (hr : ∀ i, i < m → Off (h i).blk row) : Fam e s B w' m h :=
  ⟨fun i hi => (F.own i hi).keep hg (hr i hi), F.apart⟩
/-- One row more, in a block of its own. -/
theorem Fam.more (F : Fam e s B w m h) {r : Rw} (hr : r.At e s B w) (hn : ∀ i, i < m → Off (h i).blk r.blk) : Fam e s B w (m + 1) (upr h m r) := by
  refine ⟨fun i hi => ?_, fun i j hi hj hne => ?_⟩
  · by_cases e : i = m
    · subst e; rw [upr_same]; exact hr
    · rw [upr_other _ _ _ _ e]; exact F.own i (by omega)
  · by_cases e : i = m
    · subst e
      rw [upr_same, upr_other _ _ _ _ (by omega)]
      exact (hn j (by omega)).symm
    · rw [upr_other _ _ _ _ e]
      by_cases e' : j = m
      · subst e'; rw [upr_same]; exact hn i (by omega)
      · rw [upr_other _ _ _ _ e']; exact F.apart i j (by omega) (by omega) hne
/-- One row is another one now, its place the same. -/
theorem Fam.turn (F : Fam e s B w m h) {i : Nat} (hi : i < m) {vs : List Value} (hn : (Rw.mk (h i).o (h i).c (h i).n vs).At e s B w') (hg : w.grownBy w' (h i).blk) : Fam e s B w' m (upr h i ⟨(h i).o, (h i).c, (h i).n, vs⟩) := by
  have hv : (Rw.mk (h i).o (h i).c (h i).n vs).val = (h i).val := rfl
  have hb2 : ∀ j, (upr h i ⟨(h i).o, (h i).c, (h i).n, vs⟩ j).blk = (h j).blk := fun j => by unfold Rw.blk; rw [upr_val h i _ hv]
  refine ⟨fun j hj => ?_, fun a b ha hb hab => by rw [hb2, hb2]; exact F.apart a b ha hb hab⟩
  by_cases e : j = i
  · subst e
    rw [upr_same]
    exact hn
  · rw [upr_other _ _ _ _ e]
    exact (F.own j hj).keep hg (F.apart j i hj hi e)
end
/-- One cell of a row is written. -/
theorem Rw.At.set {e : TypeId} {s B : Nat} {w : World} {r : Rw} (h : r.At e s B w) {g k : Nat} (ho : r.o = some ⟨g, 0, none⟩) (v : Value) : (Rw.mk r.o r.c r.n (r.vs.set k v)).At e s B (w.setCell ⟨g, k, none⟩ v) ∧ w.grownBy (w.setCell ⟨g, k, none⟩ v) r.blk := by
  unfold Rw.At Rw.val at h
  rw [ho] at h
  obtain ⟨h1, h2⟩ := h.stored k v
  have hbi : r.blk = some g := by unfold Rw.blk Rw.val; rw [ho]; rfl
  rw [hbi]
  refine ⟨?_, h2⟩
  unfold Rw.At Rw.val
  rw [ho]
  exact h1

/-- Rows, and longer ones that went out of the first c of them. -/
structure Lx (e : TypeId) (s B : Nat) (w : World) (m : Nat) (h : Nat → Rw) (c : Nat) (lf : Nat → Rw) : Prop where
  fam : Fam e s B w m h
  own : ∀ j, j < c → (lf j).At e s B w
  far : ∀ j j', j < c → j' < m → j ≠ j' → Off (lf j).blk (h j').blk
  far2 : ∀ j j', j < c → j' < c → j ≠ j' → Off (lf j).blk (lf j').blk
  len : ∀ j, j < c → (h j).n ≤ (lf j).n
section
variable {e : TypeId} {s B : Nat} {w w' : World} {m c : Nat} {h lf : Nat → Rw}
theorem Lx.grow {row : Option Nat} (L : Lx e s B w m h c lf) (hg : w.grownBy w' row) (hr : ∀ i, i < m → Off (h i).blk row) (hr2 : ∀ i, i < c → Off (lf i).blk row) : Lx e s B w' m h c lf :=
  ⟨L.fam.grow hg hr, fun j hj => (L.own j hj).keep hg (hr2 j hj), L.far, L.far2, L.len⟩
theorem Lx.start {i : Nat} (L : Lx e s B w m h i lf) (hi : i < m) : Lx e s B w m h (i + 1) (upr lf i (h i)) := by
  have hU : ∀ j, j < i → upr lf i (h i) j = lf j := fun j hj => upr_other _ _ _ _ (by omega)
  refine ⟨L.fam, fun j hj => ?_, fun j j' hj hj' hne => ?_, fun j j' hj hj' hne => ?_, fun j hj => ?_⟩
  · by_cases e : j = i
    · subst e; rw [upr_same]; exact L.fam.own j hi
    · rw [hU j (by omega)]; exact L.own j (by omega)
  · by_cases e : j = i
    · subst e; rw [upr_same]; exact L.fam.apart j j' hi hj' hne
    · rw [hU j (by omega)]; exact L.far j j' (by omega) hj' hne
  · by_cases e : j = i
    · subst e
      rw [upr_same, hU j' (by omega)]
      exact (L.far j' j (by omega) hi (by omega)).symm
    · rw [hU j (by omega)]
      by_cases e' : j' = i
      · subst e'; rw [upr_same]; exact L.far j j' (by omega) hi (by omega)
      · rw [hU j' (by omega)]; exact L.far2 j j' (by omega) (by omega) hne
  · by_cases e : j = i
    · subst e; rw [upr_same]; exact Nat.le_refl _
    · rw [hU j (by omega)]; exact L.len j (by omega)
/-- The last of the longer ones goes on. -/
theorem Lx.app {i : Nat} {r : Rw} (L : Lx e s B w m h (i + 1) lf) (hi : i < m) (hn : r.At e s B w') (hs : (lf i).At e s B w') (hg : w.grownBy w' (lf i).blk) (hb : r.blk = (lf i).blk ∨ ∀ k, r.blk = some k → w.heap.size ≤ k) (hl : (lf i).n ≤ r.n) : Lx e s B w' m h (i + 1) (upr lf i r) := by
  have hU : ∀ j, j ≠ i → upr lf i r j = lf j := fun j hj => upr_other _ _ _ _ hj
  have hOf : ∀ {x : Rw}, x.At e s B w → Off (lf i).blk x.blk → Off r.blk x.blk := fun {x} hx ho => by
    rcases hb with hb | hb
    · rw [hb]; exact ho
    · intro k h1 h2
      have := hx.blk_lt h2
      have := hb k h1
      omega
  refine ⟨⟨fun j hj => ?_, L.fam.apart⟩, fun j hj => ?_, fun j j' hj hj' hne => ?_, fun j j' hj hj' hne => ?_, fun j hj => ?_⟩
  · by_cases e : j = i
    · subst e
      by_cases hbb : (h j).blk = (lf j).blk
      · exact own_front (L.fam.own j hj) (L.own j (by omega)) hs hbb (L.len j (by omega))
      · exact (L.fam.own j hj).keep hg (fun k h1 h2 => hbb (by rw [h1, h2]))
    · exact (L.fam.own j hj).keep hg (L.far i j (by omega) hj (by omega)).symm
  · by_cases e : j = i
    · subst e; rw [upr_same]; exact hn
    · rw [hU j e]; exact (L.own j hj).keep hg (L.far2 j i hj (by omega) e)
  · by_cases e : j = i
    · subst e; rw [upr_same]; exact hOf (L.fam.own j' hj') (L.far j j' (by omega) hj' hne)
    · rw [hU j e]; exact L.far j j' hj hj' hne
  · by_cases e : j = i
    · subst e
      rw [upr_same, hU j' (by omega)]
      exact hOf (L.own j' hj') (L.far2 j j' (by omega) hj' hne)
    · rw [hU j e]
      by_cases e' : j' = i
      · subst e'
        rw [upr_same]
        exact (hOf (L.own j hj) (L.far2 j' j (by omega) hj (by omega))).symm
      · rw [hU j' e']; exact L.far2 j j' hj hj' hne
  · by_cases e : j = i
    · subst e; rw [upr_same]; exact Nat.le_trans (L.len j hj) hl
    · rw [hU j e]; exact L.len j hj
end
/-- The rows' values in their order. -/
def vals (m : Nat) (f : Nat → Rw) : List Value := (List.range m).map (fun i => (f i).val)
theorem vals_len (m : Nat) (f : Nat → Rw) : (vals m f).length = m := by simp [vals]
theorem vals_at (m : Nat) (f : Nat → Rw) (i : Nat) (hi : i < m) : (vals m f)[i]? = some (f i).val := by simp [vals, hi]
theorem vals_succ (m : Nat) (f : Nat → Rw) : vals (m + 1) f = vals m f ++ [(f m).val] := by simp [vals, List.range_succ]
theorem vals_congr {m : Nat} {f g : Nat → Rw} (h : ∀ i, i < m → (f i).val = (g i).val) : vals m f = vals m g := by
  unfold vals
  exact List.map_congr_left (fun i hi => h i (by simpa using hi))
theorem vals_one (m : Nat) (f : Nat → Rw) : ∀ u ∈ vals m f, u.oneCell' = true := by
  intro u hu
  unfold vals at hu
  obtain ⟨i, _, rfl⟩ := List.mem_map.1 hu
  rfl

theorem kept_grown {l : List Nat} {w w' : World} {row : Option Nat} (h : Kept l w w') (hl : ∀ g ∈ l, row = some g) : w.grownBy w' row :=
  ⟨h.os, h.tape, h.output, h.size, fun k hk hne => h.block k hk (fun hm => hne (hl k hm).symm)⟩
theorem grown_kept {w w' : World} {row : Option Nat} (h : w.grownBy w' row) : Kept row.toList w w' := (Kept.refl _ w).grown h (fun k hk _ => by simp [hk])
theorem grown_trans {w w' w'' : World} {row : Option Nat} (h : w.grownBy w' row) (h' : w'.grownBy w'' row) : w.grownBy w'' row :=
  ⟨h'.os.trans h.os, h'.tape.trans h.tape, h'.output.trans h.output, Nat.le_trans h.size h'.size, fun k hk hne => by rw [h'.block k (Nat.lt_of_lt_of_le hk h.size) hne, h.block k hk hne]⟩
/-- k times ys behind a row's cells. -/
def ext (vs : List Value) (k : Nat) (ys : List Value) : List Value := vs ++ (List.replicate k ys).flatten
theorem ext_zero (vs ys : List Value) : ext vs 0 ys = vs := by simp [ext]
theorem ext_succ (vs ys : List Value) (k : Nat) : ext vs k ys ++ ys = ext vs (k + 1) ys := by
  simp [ext, List.replicate_succ']

/-- The first i of the longer rows have N times ys behind the row that they went out of; the one that is being made k times. -/
def Cd (h lf : Nat → Rw) (N : Nat) (ys : Nat → List Value) (i : Nat) : Prop := ∀ j, j < i → (lf j).n = (h j).n + N ∧ (lf j).vs = ext (h j).vs N (ys j)
def Cu (h lf : Nat → Rw) (ys : Nat → List Value) (i k : Nat) : Prop := (lf i).n = (h i).n + k ∧ (lf i).vs = ext (h i).vs k (ys i)
theorem Cd.start (h lf : Nat → Rw) (N : Nat) (ys : Nat → List Value) : Cd h lf N ys 0 := fun j hj => absurd hj (by omega)
theorem Cd.lay {h lf : Nat → Rw} {N : Nat} {ys : Nat → List Value} {i : Nat} (hd : Cd h lf N ys i) (r : Rw) : Cd h (upr lf i r) N ys i := fun j hj => by
  rw [upr_other _ _ _ _ (by omega)]; exact hd j hj
theorem Cu.start (h lf : Nat → Rw) (ys : Nat → List Value) (i : Nat) : Cu h (upr lf i (h i)) ys i 0 := by
  unfold Cu; rw [upr_same, ext_zero]; exact ⟨rfl, rfl⟩
theorem Cu.step {h lf : Nat → Rw} {ys : Nat → List Value} {i k : Nat} (hu : Cu h lf ys i k) {r : Rw} (hn : r.n = (lf i).n + 1) (hv : r.vs = (lf i).vs ++ ys i) : Cu h (upr lf i r) ys i (k + 1) := by
  unfold Cu; rw [upr_same, hn, hv, hu.1, hu.2, ext_succ]; exact ⟨by omega, rfl⟩
theorem Cd.next {h lf : Nat → Rw} {N : Nat} {ys : Nat → List Value} {i : Nat} (hd : Cd h lf N ys i) (hu : Cu h lf ys i N) : Cd h lf N ys (i + 1) := fun j hj => by
  by_cases e : j = i
  · subst e; exact hu
  · exact hd j (by omega)

structure Gx (e te : TypeId) (s B : Nat) (wr : World) (m : Nat) (h : Nat → Rw) (rR : Rw) (c : Nat) (lf : Nat → Rw) (cc : Nat) (rG : Rw) : Prop where
  ne : e ≠ te
  lx : Lx e s B wr m h c lf
  oR : rR.At te 1 B wr
  nR : rR.n = m
  vR : rR.vs = vals m h
  oG : rG.At te 1 B wr
  nG : rG.n = cc
  vG : rG.vs = vals cc lf
  le : cc ≤ c
  apart : Off rR.blk rG.blk
section
variable {e te : TypeId} {s B : Nat} {w wr wr' : World} {m c cc : Nat} {h lf : Nat → Rw} {rR rG : Rw}
theorem Gx.grow {row : Option Nat} (G : Gx e te s B wr m h rR c lf cc rG) (hg : wr.grownBy wr' row) (h1 : ∀ i, i < m → Off (h i).blk row) (h2 : ∀ i, i < c → Off (lf i).blk row) (h3 : Off rR.blk row) (h4 : Off rG.blk row) : Gx e te s B wr' m h rR c lf cc rG :=
  ⟨G.ne, G.lx.grow hg h1 h2, G.oR.keep hg h3, G.nR, G.vR, G.oG.keep hg h4, G.nG, G.vG, G.le, G.apart⟩
theorem Gx.kept (G : Gx e te s B wr m h rR c lf cc rG) (hk : Kept [] wr wr') : Gx e te s B wr' m h rR c lf cc rG :=
  G.grow (kept_grown (row := none) hk (by simp)) (fun _ _ => Off.none _) (fun _ _ => Off.none _) (Off.none _) (Off.none _)
/-- Something of another type is turned. -/
theorem Gx.other {e' : TypeId} {s' B' n' : Nat} {v' : Value} {xs' : List Value} (G : Gx e te s B wr m h rR c lf cc rG) (ho : wr.ownsRow B' e' s' v' n' xs') (n1 : e ≠ e') (n2 : te ≠ e') (hg : wr.grownBy wr' v'.ownBlock) : Gx e te s B wr' m h rR c lf cc rG :=
  G.grow hg (fun i hi => own_types (G.lx.fam.own i hi) ho n1) (fun i hi => own_types (G.lx.own i hi) ho n1) (own_types G.oR ho n2) (own_types G.oG ho n2)
theorem Gx.start (G : Gx e te s B wr m h rR cc lf cc rG) (hc : cc < m) : Gx e te s B wr m h rR (cc + 1) (upr lf cc (h cc)) cc rG :=
  ⟨G.ne, G.lx.start hc, G.oR, G.nR, G.vR, G.oG, G.nG, by rw [G.vG]; exact vals_congr (fun i hi => by rw [upr_other _ _ _ _ (by omega)]), by omega, G.apart⟩
/-- One element is put behind the longer row that is being made. -/
theorem Gx.app {P : Program} (t : TypeId) (z : Value) (bs : Nat) (ht : P.underlying t = some (.slice e)) (hinf : (P.info? e).map (fun i => (i.zero, i.size, i.bytes)) = some (some z, s, bs)) (hzs : z.cells.size = s) (hs : 0 < s)
    (G : Gx e te s B wr m h rR (cc + 1) lf cc rG) (hc : cc < m) (ys : List Value) (hyl : ys.length = s) (h1y : ∀ u ∈ ys, u.oneCell' = true) (hl : ((lf cc).n + 1) * bs ≤ 140737488355328) (hl2 : (lf cc).n + 1 ≤ 140737488355328) (hb : B ≤ wr.heap.size) :
    ∃ r w', (Builtin.append_ #[t, t] t #[(lf cc).val, .slice (some ⟨wr.heap.size, 0, none⟩) 1 1]).run P (wr.alloc (.cells ys.toArray e)) = .ok r.val w' ∧ Gx e te s B w' m h rR (cc + 1) (upr lf cc r) cc rG ∧ r.n = (lf cc).n + 1 ∧ r.vs = (lf cc).vs ++ ys ∧ (lf cc).At e s B wr ∧ wr.grownBy w' (lf cc).blk := by
  have kN : Kept [] wr (wr.alloc (.cells ys.toArray e)) := (Kept.refl [] wr).alloc _
  have hnew := heap_new wr (.cells ys.toArray e)
  have G1 := G.kept kN
  have hown := G1.lx.own cc (by omega)
  have hsz : wr.heap.size ≤ (wr.alloc (.cells ys.toArray e)).heap.size := kN.size
  obtain ⟨g, c', w', hrun, hn, hst, hg, hbk⟩ := run_append_both (P := P) t t z bs ht hinf hzs hs (lf cc) 1 ys wr.heap.size 1 hown (by omega) (by decide) (fun j u hj => by rw [cell_of_row _ _ _ _ _ _ hnew]; simpa using hj) h1y hl hl2 (by omega)
  have L := G1.lx.app (r := ⟨some ⟨g, 0, none⟩, c', (lf cc).n + 1, (lf cc).vs ++ ys⟩) hc hn hst hg (by
    rcases hbk with hbk | hbk
    · exact .inl hbk
    · right; intro k hk; cases hk; exact Nat.le_of_eq hbk.symm) (by show _ ≤ (lf cc).n + 1; omega)
  refine ⟨⟨some ⟨g, 0, none⟩, c', (lf cc).n + 1, (lf cc).vs ++ ys⟩, w', hrun, ⟨G.ne, L, G1.oR.keep hg (own_types G1.oR hown (Ne.symm G.ne)), G.nR, G.vR, G1.oG.keep hg (own_types G1.oG hown (Ne.symm G.ne)), G.nG, ?_, by omega, G.apart⟩, rfl, rfl, G.lx.own cc (by omega), ?_⟩
  · rw [G.vG]; exact vals_congr (fun i hi => by rw [upr_other _ _ _ _ (by omega)])
  · exact grown_trans (kept_grown kN (by simp)) hg
/-- The longer row is put behind those that are held. -/
theorem Gx.push {P : Program} (t : TypeId) (ht : P.underlying t = some (.slice te)) (hinf : (P.info? te).map (fun i => (i.zero, i.size, i.bytes)) = some (some (.slice none 0 0), 1, 24))
    (G : Gx e te s B wr m h rR (cc + 1) lf cc rG) (hc : cc < 1000000) (hb : B ≤ wr.heap.size) :
    ∃ r w', (Builtin.append_ #[t, t] t #[rG.val, .slice (some ⟨wr.heap.size, 0, none⟩) 1 1]).run P (wr.alloc (.cells #[(lf cc).val] te)) = .ok r.val w' ∧ Gx e te s B w' m h rR (cc + 1) lf (cc + 1) r ∧ rG.At te 1 B wr ∧ wr.grownBy w' rG.blk := by
  have kN : Kept [] wr (wr.alloc (.cells #[(lf cc).val] te)) := (Kept.refl [] wr).alloc _
  have hnew := heap_new wr (.cells #[(lf cc).val] te)
  have G1 := G.kept kN
  have hsz : wr.heap.size ≤ (wr.alloc (.cells #[(lf cc).val] te)).heap.size := kN.size
  have hnG := G.nG
  obtain ⟨g, c', w', hrun, hn, hst, hg, hbk⟩ := run_append_both (P := P) t t (.slice none 0 0) 24 ht hinf rfl (by decide) rG 1 [(lf cc).val] wr.heap.size 1 G1.oG (by simp) (by decide) (fun j u hj => by rw [cell_of_row _ _ _ _ _ _ hnew]; simpa using hj) (by simp [Rw.val, Value.oneCell']) (by omega) (by omega) (by omega)
  have hU : vals (cc + 1) lf = vals cc lf ++ [(lf cc).val] := vals_succ cc lf
  refine ⟨⟨some ⟨g, 0, none⟩, c', rG.n + 1, rG.vs ++ [(lf cc).val]⟩, w', hrun, ⟨G.ne, G1.lx.grow hg (fun i hi => own_types (G1.lx.fam.own i hi) G1.oG G.ne) (fun i hi => own_types (G1.lx.own i hi) G1.oG G.ne), G1.oR.keep hg G.apart, G.nR, G.vR, hn, by show rG.n + 1 = _; rw [hnG], by show rG.vs ++ _ = _; rw [hU, G.vG], by omega, ?_⟩, G.oG, ?_⟩
  · rcases hbk with hbk | hbk
    · show Off rR.blk (some g); rw [hbk]; exact G.apart
    · show Off rR.blk (some g); rw [hbk]; exact G1.oR.new (Nat.le_refl _)
  · exact grown_trans (kept_grown kN (by simp)) hg
/-- One row holds something else now. -/
theorem Gx.turn (G : Gx e te s B wr m h rR 0 lf 0 rG) {i : Nat} (hi : i < m) {vs : List Value} (hn : (Rw.mk (h i).o (h i).c (h i).n vs).At e s B wr') (hg : wr.grownBy wr' (h i).blk) : Gx e te s B wr' m (upr h i ⟨(h i).o, (h i).c, (h i).n, vs⟩) rR 0 lf 0 rG := by
  have hat := G.lx.fam.own i hi
  refine ⟨G.ne, ⟨G.lx.fam.turn hi hn hg, fun j hj => absurd hj (by omega), fun j j' hj => absurd hj (by omega), fun j j' hj => absurd hj (by omega), fun j hj => absurd hj (by omega)⟩, G.oR.keep hg (own_types G.oR hat (Ne.symm G.ne)), G.nR, ?_, G.oG.keep hg (own_types G.oG hat (Ne.symm G.ne)), G.nG, G.vG, G.le, G.apart⟩
  rw [G.vR]
  exact (vals_congr (fun j _ => upr_val h i ⟨(h i).o, (h i).c, (h i).n, vs⟩ rfl j)).symm
/-- Rows in a row that was made, nothing longer yet. -/
theorem Gx.begin (hne : e ≠ te) (F : Fam e s B wr m h) {rR : Rw} (hR : rR.At te 1 B wr) (nR : rR.n = m) (vR : rR.vs = vals m h) : Gx e te s B wr m h rR 0 h 0 rw0 :=
  ⟨hne, ⟨F, fun j hj => absurd hj (by omega), fun j j' hj => absurd hj (by omega), fun j j' hj => absurd hj (by omega), fun j hj => absurd hj (by omega)⟩, hR, nR, vR, World.ownsRow_nil _ _ _ _, rfl, rfl, Nat.le_refl _, Off.none _⟩
/-- Row i's value stands in its cell. -/
theorem rw_cell {B' : Nat} {r : Rw} {n : Nat} {f : Nat → Rw} (hr : r.At te 1 B' wr) (hn : r.n = n) (hv : r.vs = vals n f) {i : Nat} (hi : i < n) : ∃ g, r.o = some ⟨g, 0, none⟩ ∧ wr.cell? ⟨g, i, none⟩ = some (f i).val := by
  rcases hr.2 with ⟨_, h0⟩ | ⟨g, cap, cur, hv', _, hg, _, _, _, ht⟩
  · omega
  · unfold Rw.val at hv'
    injection hv' with e1 _ _
    refine ⟨g, e1, ?_⟩
    rw [cell_of_row _ _ _ _ _ _ hg]
    have h1 := vals_at n f i hi
    rw [← hv, ← ht, List.getElem?_take] at h1
    split at h1
    · simpa using h1
    · cases h1
end

structure Grew (e : TypeId) (s B : Nat) (w w' : World) (r r' : Rw) (k : Nat) (ys : List Value) : Prop where
  old : r.At e s B w'
  new : r'.At e s B w'
  grown : w.grownBy w' r.blk
  blk : r'.blk = r.blk ∨ ∀ j, r'.blk = some j → w.heap.size ≤ j
  n : r'.n = r.n + k
  vs : r'.vs = ext r.vs k ys
section
variable {e te : TypeId} {s B : Nat} {w w' w'' wr : World} {r r' : Rw} {k : Nat} {ys : List Value}
theorem grown_refl (w : World) (row : Option Nat) : w.grownBy w row := ⟨rfl, rfl, rfl, Nat.le_refl _, fun _ _ _ => rfl⟩
theorem Grew.start (h : r.At e s B w) (ys : List Value) : Grew e s B w w r r 0 ys :=
  ⟨h, h, grown_refl _ _, .inl rfl, by omega, (ext_zero _ _).symm⟩
theorem Grew.kept (G : Grew e s B w w' r r' k ys) (hk : Kept [] w' w'') : Grew e s B w w'' r r' k ys :=
  ⟨G.old.keep (kept_grown (row := none) hk (by simp)) (Off.none _), G.new.keep (kept_grown (row := none) hk (by simp)) (Off.none _), grown_trans G.grown (kept_grown hk (by simp)), G.blk, G.n, G.vs⟩
/-- One element more. -/
theorem Grew.app {P : Program} (t : TypeId) (z : Value) (bs : Nat) (ht : P.underlying t = some (.slice e)) (hinf : (P.info? e).map (fun i => (i.zero, i.size, i.bytes)) = some (some z, s, bs)) (hzs : z.cells.size = s) (hs : 0 < s)
    (G : Grew e s B w w' r r' k ys) (hor : r.At e s B w) (hyl : ys.length = s) (h1y : ∀ u ∈ ys, u.oneCell' = true) (hl : (r.n + k + 1) * bs ≤ 140737488355328) (hl2 : r.n + k + 1 ≤ 140737488355328) (hb : B ≤ w.heap.size) :
    ∃ r2 w2, (Builtin.append_ #[t, t] t #[r'.val, .slice (some ⟨w'.heap.size, 0, none⟩) 1 1]).run P (w'.alloc (.cells ys.toArray e)) = .ok r2.val w2 ∧ Grew e s B w w2 r r2 (k + 1) ys := by
  have kN : Kept [] w' (w'.alloc (.cells ys.toArray e)) := (Kept.refl [] w').alloc _
  have hnew := heap_new w' (.cells ys.toArray e)
  have G1 := G.kept kN
  have hsz : w'.heap.size ≤ (w'.alloc (.cells ys.toArray e)).heap.size := kN.size
  have hs0 := G.grown.size
  have hs1 := G1.grown.size
  have hn := G.n
  obtain ⟨g, c', w2, hrun, hnw, hst, hg, hbk⟩ := run_append_both (P := P) t t z bs ht hinf hzs hs r' 1 ys w'.heap.size 1 G1.new (by omega) (by decide) (fun j u hj => by rw [cell_of_row _ _ _ _ _ _ hnew]; simpa using hj) h1y (by rw [hn]; exact hl) (by omega) (by omega)
  refine ⟨⟨some ⟨g, 0, none⟩, c', r'.n + 1, r'.vs ++ ys⟩, w2, hrun, ⟨?_, hnw, ?_, ?_, by show r'.n + 1 = _; omega, by show r'.vs ++ ys = _; rw [G.vs, ext_succ]⟩⟩
  · rcases G.blk with hb' | hb'
    · exact own_front G1.old G1.new hst hb'.symm (by omega)
    · refine G1.old.keep hg (fun j h1 h2 => ?_)
      have := hor.blk_lt h1
      have := hb' j h2
      omega
  · refine ⟨hg.os.trans G1.grown.os, hg.tape.trans G1.grown.tape, hg.output.trans G1.grown.output, Nat.le_trans hs1 hg.size, fun j hj hne => ?_⟩
    rw [hg.block j (Nat.lt_of_lt_of_le hj hs1) ?_, G1.grown.block j hj hne]
    rcases G.blk with hb' | hb'
    · rw [hb']; exact hne
    · intro h
      have := hb' j h.symm
      omega
  · rcases hbk with hbk | hbk
    · rcases G.blk with hb' | hb'
      · left; show some g = _; rw [hbk]; exact hb'
      · right; intro j hj; exact hb' j (by rw [← hbk]; exact hj)
    · right; intro j hj
      cases hj
      exact Nat.le_trans hs1 (Nat.le_of_eq hbk.symm)
variable {m cc : Nat} {h lf : Nat → Rw} {rR rG : Rw}
/-- The longer row cc went out of row cc. -/
theorem Gx.grew (G : Gx e te s B w m h rR cc lf cc rG) (hc : cc < m) (hr : Grew e s B w w' (h cc) r' k ys) : Gx e te s B w' m h rR (cc + 1) (upr lf cc r') cc rG ∧ (h cc).At e s B w := by
  have G1 := G.start hc
  have hat := G.lx.fam.own cc hc
  have L := G1.lx.app (r := r') hc hr.new (by rw [upr_same]; exact hr.old) (by rw [upr_same]; exact hr.grown) (by rw [upr_same]; exact hr.blk) (by rw [upr_same]; have := hr.n; omega)
  have e1 : upr (upr lf cc (h cc)) cc r' = upr lf cc r' := by
    funext j
    by_cases ej : j = cc
    · subst ej; rw [upr_same, upr_same]
    · rw [upr_other _ _ _ _ ej, upr_other _ _ _ _ ej, upr_other _ _ _ _ ej]
  rw [e1] at L
  exact ⟨⟨G.ne, L, G.oR.keep hr.grown (own_types G.oR hat (Ne.symm G.ne)), G.nR, G.vR, G.oG.keep hr.grown (own_types G.oG hat (Ne.symm G.ne)), G.nG, by rw [G.vG]; exact vals_congr (fun i hi => by rw [upr_other _ _ _ _ (by omega)]), by omega, G.apart⟩, hat⟩
theorem Cd.grew {N : Nat} {yf : Nat → List Value} (hd : Cd h lf N yf cc) (hr : Grew e s B w w' (h cc) r' N (yf cc)) : Cd h (upr lf cc r') N yf (cc + 1) :=
  (hd.lay r').next (by unfold Cu; rw [upr_same]; exact ⟨hr.n, hr.vs⟩)
/-- What a call answers is a row more. -/
theorem Fam.call (F : Fam e s B w m h) (hk : Kept [] w w') (hr : r.At e s w.heap.size w') (hB : B ≤ w.heap.size) : Fam e s B w' (m + 1) (upr h m r) := by
  have hg := kept_grown (row := none) hk (by simp)
  refine (F.grow hg (fun _ _ => Off.none _)).more (own_base hr hB) (fun i hi k h1 h2 => ?_)
  have := (F.own i hi).blk_lt h1
  have := (World.ownsRow.lt hr k h2).1
  omega
theorem Fam.kept (F : Fam e s B w m h) (hk : Kept [] w w') : Fam e s B w' m h := F.grow (kept_grown (row := none) hk (by simp)) (fun _ _ => Off.none _)
theorem Fam.perm (F : Fam e s B w m h) (σ : Nat → Nat) (h1 : ∀ i, i < m → σ i < m) (h2 : ∀ i j, i < m → j < m → i ≠ j → σ i ≠ σ j) : Fam e s B w m (fun i => h (σ i)) :=
  ⟨fun i hi => F.own _ (h1 i hi), fun i j hi hj hne => F.apart _ _ (h1 i hi) (h1 j hj) (h2 i j hi hj hne)⟩
end
end Go.Proofs.Ytmhnjhnnaciokaa
