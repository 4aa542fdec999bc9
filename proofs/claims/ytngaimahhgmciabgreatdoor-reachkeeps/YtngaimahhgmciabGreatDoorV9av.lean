import Derived.Test.YtngaimahhgmciabGreatDoorQpev
import Derived.Laws.OwnMore
import Derived.Laws.AppendOwnNone
import Derived.Maps.AppendAt
import Derived.Below
namespace Go.Proofs.YtngaimahhgmciabGreatDoor
section
open Go.RowKit
set_option linter.unusedVariables false
set_option linter.unusedSimpArgs false

structure Rw where
  o : Option Addr
  c : Nat
  n : Nat
  vs : List Value
def rw0 : Rw := ⟨none, 0, 0, []⟩
instance : Inhabited Rw := ⟨rw0⟩
def Rw.val (r : Rw) : Value := .slice r.o r.n r.c
def Rw.At (e : TypeId) (s B : Nat) (w : World) (r : Rw) : Prop := w.ownsRow B e s r.val r.n r.vs
def Rw.blk (r : Rw) : Option Nat := r.val.ownBlock
/-- Not the same block. -/
def Off (a b : Option Nat) : Prop := ∀ k, a = some k → b ≠ some k
theorem Off.symm {a b : Option Nat} (h : Off a b) : Off b a := fun k hb ha => h k ha hb
theorem Off.none (a : Option Nat) : Off a none := fun k _ h => by simp at h
section
variable {e : TypeId} {s B : Nat} {w w' : World}
theorem own_keep {v : Value} {n : Nat} {xs : List Value} {row : Option Nat} (h : w.ownsRow B e s v n xs) (hg : w.grownBy w' row) (hne : Off v.ownBlock row) : w'.ownsRow B e s v n xs := by
  refine h.kept hg ?_
  rcases hb : v.ownBlock with _ | k
  · exact .inl rfl
  · exact .inr (fun e => hne k hb e.symm)
theorem Rw.At.keep {r : Rw} {row : Option Nat} (h : r.At e s B w) (hg : w.grownBy w' row) (hne : Off r.blk row) : r.At e s B w' := own_keep h hg hne
theorem Rw.At.blk_lt {r : Rw} (h : r.At e s B w) {k : Nat} (hk : r.blk = some k) : k < w.heap.size := (World.ownsRow.lt h k hk).2
theorem Rw.At.new {r : Rw} (h : r.At e s B w) {k : Nat} (hk : w.heap.size ≤ k) : Off r.blk (some k) := fun j hj e => by
  have := h.blk_lt hj
  cases e
  omega
/-- Two rows of two types lie in two blocks. -/
theorem own_types {B' s' : Nat} {e' : TypeId} {v v' : Value} {n n' : Nat} {xs xs' : List Value} (h : w.ownsRow B e s v n xs) (h' : w.ownsRow B' e' s' v' n' xs') (he : e ≠ e') : Off v.ownBlock v'.ownBlock := by
  intro k hk hk'
  rcases h.2 with ⟨rfl, _⟩ | ⟨g, cap, cur, rfl, _, hg, _⟩
  · simp [Value.ownBlock] at hk
  rcases h'.2 with ⟨rfl, _⟩ | ⟨g', cap', cur', rfl, _, hg', _⟩
  · simp [Value.ownBlock] at hk'
  simp only [Value.ownBlock, Option.some.injEq] at hk hk'
  subst hk
  subst hk'
  rw [hg] at hg'
  injection hg' with hg'
  injection hg' with _ e2 _
  exact he e2
/-- A shorter row in the front of a longer one's block. -/
theorem own_front {v v' : Value} {n N : Nat} {xs XS : List Value} (h : w.ownsRow B e s v n xs) (hL : w.ownsRow B e s v' N XS) (hL' : w'.ownsRow B e s v' N XS) (hb : v.ownBlock = v'.ownBlock) (hn : n ≤ N) : w'.ownsRow B e s v n xs := by
  rcases h.2 with ⟨rfl, h0⟩ | ⟨g, cap, cur, rfl, hbg, hg, hnc, hcm, hcs, htake⟩
  · exact ⟨h.1, .inl ⟨rfl, h0⟩⟩
  rcases hL.2 with ⟨rfl, _⟩ | ⟨g1, cap1, cur1, rfl, _, hg1, hnc1, _, hcs1, htake1⟩
  · simp [Value.ownBlock] at hb
  simp only [Value.ownBlock, Option.some.injEq] at hb
  subst hb
  rcases hL'.2 with ⟨e2, _⟩ | ⟨g2, cap2, cur2, e2, _, hg2, hnc2, _, hcs2, htake2⟩
  · simp at e2
  simp only [Value.slice.injEq, Option.some.injEq, Addr.mk.injEq, and_true, true_and] at e2
  obtain ⟨rfl, rfl⟩ := e2
  rw [hg] at hg1
  injection hg1 with hg1
  injection hg1 with hg1 _ _
  subst hg1
  have hns : n * s ≤ N * s := Nat.mul_le_mul_right s hn
  refine ⟨h.1, .inr ⟨g, cap, cur2, rfl, hbg, hg2, hnc, hcm, by omega, ?_⟩⟩
  rw [← htake]
  have h1 := congrArg (List.take (n * s)) htake1
  have h2 := congrArg (List.take (n * s)) htake2
  rw [List.take_take, Nat.min_eq_left hns] at h1 h2
  rw [h1, h2]
/-- append of m elements: the row that was appended to stands too. -/
theorem run_append_both {P : Program} (t ty : TypeId) (z : Value) (bs : Nat) (ht : P.underlying t = some (.slice e)) (hinf : (P.info? e).map (fun i => (i.zero, i.size, i.bytes)) = some (some z, s, bs)) (hzs : z.cells.size = s) (hs : 0 < s)
    (r : Rw) (m : Nat) (ys : List Value) (yb c0 : Nat) (hown : r.At e s B w) (hyl : ys.length = m * s) (hm : 0 < m) (hy : ∀ j u, ys[j]? = some u → w.cell? ⟨yb, j, none⟩ = some u) (h1y : ∀ u ∈ ys, u.oneCell' = true) (hl : (r.n + m) * bs ≤ 140737488355328) (hl2 : r.n + m ≤ 140737488355328) (hb : B ≤ w.heap.size) :
    ∃ g c w', (Builtin.append_ #[t, t] ty #[r.val, .slice (some ⟨yb, 0, none⟩) m c0]).run P w = .ok (.slice (some ⟨g, 0, none⟩) (r.n + m) c) w' ∧ (Rw.mk (some ⟨g, 0, none⟩) c (r.n + m) (r.vs ++ ys)).At e s B w' ∧ r.At e s B w' ∧ w.grownBy w' r.blk ∧ (some g = r.blk ∨ g = w.heap.size) := by
  obtain ⟨i0, hi, hz0, hz1, hz2⟩ := info_parts hinf
  have hcl : ∀ j u, ys[j]? = some u → w.cell? ((⟨yb, 0, none⟩ : Addr).add j) = some u := fun j u hj => by rw [Addr.add_mid, Nat.zero_add]; exact hy j u hj
  obtain ⟨v', w', hrun, h1, h2, h3, h4⟩ := run_append_own_at (P := P) w B t ty e i0 z s bs ht hi hz0 hz1 hz2 hzs hs _ r.n r.vs hown ⟨yb, 0, none⟩ m c0 ys hyl hcl h1y (by unfold maxLen; omega) hl hb
  obtain ⟨g, c, hv⟩ : ∃ g c, v' = .slice (some ⟨g, 0, none⟩) (r.n + m) c := by
    rcases h1.2 with ⟨e, e2⟩ | ⟨g, cap', cur, e, _⟩
    · omega
    · exact ⟨g, cap', e⟩
  have hstay : w'.ownsRow B e s r.val r.n r.vs := by
    rcases hown.2 with ⟨e, e2⟩ | ⟨q, cap, cur, he, hbg, hg, hnc, hcm, hcs, htake⟩
    · exact ⟨hown.1, .inl ⟨e, e2⟩⟩
    · by_cases hroom : r.n + m ≤ cap
      · have hmul := Nat.mul_le_mul_right s hroom
        rw [Nat.add_mul] at hmul
        have hr := run_append_room (P := P) w t ty e i0 ht hi q r.n cap cur hg ⟨yb, 0, none⟩ m c0 ys (by rw [hyl, hz1]) hcl h1y hroom (by rw [hz1, hyl]; omega)
        rw [he, hr] at hrun
        injection hrun with _ hw
        subst hw
        refine ⟨hown.1, .inr ⟨q, cap, _, he, hbg, setRow_heap w q cur _ _ _ hg, hnc, hcm, ?_, ?_⟩⟩
        · simp only [List.size_toArray, List.length_append, List.length_take, List.length_drop, Array.length_toList, hyl, hz1]
          omega
        · rw [hz1, ← htake]
          simp only [List.append_assoc]
          rw [List.take_append_of_le_length (by simp; omega), List.take_take, Nat.min_self]
      · have hr := run_append_grow (P := P) w t ty e i0 z ht hi hz0 ⟨q, 0, none⟩ r.n cap r.vs (by rw [hown.1, hz1]) (hown.cells (g := q) (by rw [he]; rfl)) ⟨yb, 0, none⟩ m c0 ys (by rw [hyl, hz1]) hcl (by omega) (by omega) (growslice_fits (by unfold maxLen at *; omega) (by rw [hz2]; omega))
        rw [he, hr] at hrun
        injection hrun with _ hw
        subst hw
        exact ⟨hown.1, .inr ⟨q, cap, cur, he, hbg, ((World.grownBy_alloc w.drew _ none).block q (Array.getElem?_eq_some_iff.1 hg).1 (by simp)).trans hg, hnc, hcm, hcs, htake⟩⟩
  subst hv
  refine ⟨g, c, w', hrun, h1, hstay, h2, ?_⟩
  rcases h4 with h4 | h4
  · exact .inl h4
  · simp only [Value.ownBlock, Option.some.injEq] at h4
    exact .inr h4
end

def upr (f : Nat → Rw) (i : Nat) (a : Rw) : Nat → Rw := fun j => if j = i then a else f j
theorem upr_same (f : Nat → Rw) (i : Nat) (a : Rw) : upr f i a i = a := by simp [upr]
theorem upr_other (f : Nat → Rw) (i j : Nat) (a : Rw) (h : j ≠ i) : upr f i a j = f j := by simp [upr, h]
theorem upr_val (f : Nat → Rw) (i : Nat) (a : Rw) (h : a.val = (f i).val) (j : Nat) : (upr f i a j).val = (f j).val := by
  by_cases e : j = i
  · subst e; rw [upr_same, h]
  · rw [upr_other _ _ _ _ e]

structure Fam (e : TypeId) (s B : Nat) (w : World) (m : Nat) (h : Nat → Rw) : Prop where
  own : ∀ i, i < m → (h i).At e s B w
  apart : ∀ i j, i < m → j < m → i ≠ j → Off (h i).blk (h j).blk
section
variable {e : TypeId} {s B : Nat} {w w' : World} {m : Nat} {h : Nat → Rw}
theorem Fam.grow {row : Option Nat} (F : Fam e s B w m h) (hg : w.grownBy w' row) (hr : ∀ i, i < m → Off (h i).blk row) : Fam e s B w' m h :=
  ⟨fun i hi => (F.own i hi).keep hg (hr i hi), F.apart⟩
/-- One row more, in a block of its own. -/
theorem Fam.more (F : Fam e s B w m h) {r : Rw} (hr : r.At e s B w) (hn : ∀ i, i < m → Off (h i).blk r.blk) : Fam e s B w (m + 1) (upr h m r) := by
  refine ⟨fun i hi => ?_, fun i j hi hj hne => ?_⟩
  · by_cases e : i = m
    · subst e; rw [upr_same]; exact hr
    · rw [upr_other _ _ _ _ e]; exact F.own i (by omega)
  · by_cases e : i = m
    · subst e
      rw [upr_same, upr_other _ _ _ _ (by omega)]
      exact (hn j (by omega)).symm
    · rw [upr_other _ _ _ _ e]
      by_cases e' : j = m
      · subst e'; rw [upr_same]; exact hn i (by omega)
      · rw [upr_other _ _ _ _ e']; exact F.apart i j (by omega) (by omega) hne
/-- One row is another one now, its place the same. -/
theorem Fam.turn (F : Fam e s B w m h) {i : Nat} (hi : i < m) {vs : List Value} (hn : (Rw.mk (h i).o (h i).c (h i).n vs).At e s B w') (hg : w.grownBy w' (h i).blk) : Fam e s B w' m (upr h i ⟨(h i).o, (h i).c, (h i).n, vs⟩) := by
  have hv : (Rw.mk (h i).o (h i).c (h i).n vs).val = (h i).val := rfl
  have hb2 : ∀ j, (upr h i ⟨(h i).o, (h i).c, (h i).n, vs⟩ j).blk = (h j).blk := fun j => by unfold Rw.blk; rw [upr_val h i _ hv]
  refine ⟨fun j hj => ?_, fun a b ha hb hab => by rw [hb2, hb2]; exact F.apart a b ha hb hab⟩
  by_cases e : j = i
  · subst e
    rw [upr_same]
    exact hn
  · rw [upr_other _ _ _ _ e]
    exact (F.own j hj).keep hg (F.apart j i hj hi e)
end
/-- One cell of a row is written. -/
theorem Rw.At.set {e : TypeId} {s B : Nat} {w : World} {r : Rw} (h : r.At e s B w) {g k : Nat} (ho : r.o = some ⟨g, 0, none⟩) (v : Value) : (Rw.mk r.o r.c r.n (r.vs.set k v)).At e s B (w.setCell ⟨g, k, none⟩ v) ∧ w.grownBy (w.setCell ⟨g, k, none⟩ v) r.blk := by
  unfold Rw.At Rw.val at h
  rw [ho] at h
  obtain ⟨h1, h2⟩ := h.stored k v
  have hbi : r.blk = some g := by unfold Rw.blk Rw.val; rw [ho]; rfl
  rw [hbi]
  refine ⟨?_, h2⟩
  unfold Rw.At Rw.val
  rw [ho]
  exact h1

/-- Rows, and longer ones that went out of the first c of them. -/
structure Lx (e : TypeId) (s B : Nat) (w : World) (m : Nat) (h : Nat → Rw) (c : Nat) (lf : Nat → Rw) : Prop where
  fam : Fam e s B w m h
  own : ∀ j, j < c → (lf j).At e s B w
  far : ∀ j j', j < c → j' < m → j ≠ j' → Off (lf j).blk (h j').blk
  far2 : ∀ j j', j < c → j' < c → j ≠ j' → Off (lf j).blk (lf j').blk
  len : ∀ j, j < c → (h j).n ≤ (lf j).n
section
variable {e : TypeId} {s B : Nat} {w w' : World} {m c : Nat} {h lf : Nat → Rw}
theorem Lx.grow {row : Option Nat} (L : Lx e s B w m h c lf) (hg : w.grownBy w' row) (hr : ∀ i, i < m → Off (h i).blk row) (hr2 : ∀ i, i < c → Off (lf i).blk row) : Lx e s B w' m h c lf :=
  ⟨L.fam.grow hg hr, fun j hj => (L.own j hj).keep hg (hr2 j hj), L.far, L.far2, L.len⟩
theorem Lx.start {i : Nat} (L : Lx e s B w m h i lf) (hi : i < m) : Lx e s B w m h (i + 1) (upr lf i (h i)) := by
  have hU : ∀ j, j < i → upr lf i (h i) j = lf j := fun j hj => upr_other _ _ _ _ (by omega)
  refine ⟨L.fam, fun j hj => ?_, fun j j' hj hj' hne => ?_, fun j j' hj hj' hne => ?_, fun j hj => ?_⟩
  · by_cases e : j = i
    · subst e; rw [upr_same]; exact L.fam.own j hi
    · rw [hU j (by omega)]; exact L.own j (by omega)
  · by_cases e : j = i
    · subst e; rw [upr_same]; exact L.fam.apart j j' hi hj' hne
    · rw [hU j (by omega)]; exact L.far j j' (by omega) hj' hne
  · by_cases e : j = i
    · subst e
      rw [upr_same, hU j' (by omega)]
      exact (L.far j' j (by omega) hi (by omega)).symm
    · rw [hU j (by omega)]
      by_cases e' : j' = i
      · subst e'; rw [upr_same]; exact L.far j j' (by omega) hi (by omega)
      · rw [hU j' (by omega)]; exact L.far2 j j' (by omega) (by omega) hne
  · by_cases e : j = i
    · subst e; rw [upr_same]; exact Nat.le_refl _
    · rw [hU j (by omega)]; exact L.len j (by omega)
/-- The last of the longer ones goes on. -/
theorem Lx.app {i : Nat} {r : Rw} (L : Lx e s B w m h (i + 1) lf) (hi : i < m) (hn : r.At e s B w') (hs : (lf i).At e s B w') (hg : w.grownBy w' (lf i).blk) (hb : r.blk = (lf i).blk ∨ ∀ k, r.blk = some k → w.heap.size ≤ k) (hl : (lf i).n ≤ r.n) : Lx e s B w' m h (i + 1) (upr lf i r) := by
  have hU : ∀ j, j ≠ i → upr lf i r j = lf j := fun j hj => upr_other _ _ _ _ hj
  have hOf : ∀ {x : Rw}, x.At e s B w → Off (lf i).blk x.blk → Off r.blk x.blk := fun {x} hx ho => by
    rcases hb with hb | hb
    · rw [hb]; exact ho
    · intro k h1 h2
      have := hx.blk_lt h2
      have := hb k h1
      omega
  refine ⟨⟨fun j hj => ?_, L.fam.apart⟩, fun j hj => ?_, fun j j' hj hj' hne => ?_, fun j j' hj hj' hne => ?_, fun j hj => ?_⟩
  · by_cases e : j = i
    · subst e
      by_cases hbb : (h j).blk = (lf j).blk
      · exact own_front (L.fam.own j hj) (L.own j (by omega)) hs hbb (L.len j (by omega))
      · exact (L.fam.own j hj).keep hg (fun k h1 h2 => hbb (by rw [h1, h2]))
    · exact (L.fam.own j hj).keep hg (L.far i j (by omega) hj (by omega)).symm
  · by_cases e : j = i
    · subst e; rw [upr_same]; exact hn
    · rw [hU j e]; exact (L.own j hj).keep hg (L.far2 j i hj (by omega) e)
  · by_cases e : j = i
    · subst e; rw [upr_same]; exact hOf (L.fam.own j' hj') (L.far j j' (by omega) hj' hne)
    · rw [hU j e]; exact L.far j j' hj hj' hne
  · by_cases e : j = i
    · subst e
      rw [upr_same, hU j' (by omega)]
      exact hOf (L.own j' hj') (L.far2 j j' (by omega) hj' hne)
    · rw [hU j e]
      by_cases e' : j' = i
      · subst e'
        rw [upr_same]
        exact (hOf (L.own j hj) (L.far2 j' j (by omega) hj (by omega))).symm
      · rw [hU j' e']; exact L.far2 j j' hj hj' hne
  · by_cases e : j = i
    · subst e; rw [upr_same]; exact Nat.le_trans (L.len j hj) hl
    · rw [hU j e]; exact L.len j hj
end
/-- The rows' values in their order. -/
def vals (m : Nat) (f : Nat → Rw) : List Value := (List.range m).map (fun i => (f i).val)
theorem vals_len (m : Nat) (f : Nat → Rw) : (vals m f).length = m := by simp [vals]
theorem vals_at (m : Nat) (f : Nat → Rw) (i : Nat) (hi : i < m) : (vals m f)[i]? = some (f i).val := by simp [vals, hi]
theorem vals_succ (m : Nat) (f : Nat → Rw) : vals (m + 1) f = vals m f ++ [(f m).val] := by simp [vals, List.range_succ]
theorem vals_congr {m : Nat} {f g : Nat → Rw} (h : ∀ i, i < m → (f i).val = (g i).val) : vals m f = vals m g := by
  unfold vals
  exact List.map_congr_left (fun i hi => h i (by simpa using hi))
theorem vals_one (m : Nat) (f : Nat → Rw) : ∀ u ∈ vals m f, u.oneCell' = true := by
  intro u hu
  unfold vals at hu
  obtain ⟨i, _, rfl⟩ := List.mem_map.1 hu
  rfl

theorem kept_grown {l : List Nat} {w w' : World} {row : Option Nat} (h : Kept l w w') (hl : ∀ g ∈ l, row = some g) : w.grownBy w' row :=
  ⟨h.os, h.tape, h.output, h.size, fun k hk hne => h.block k hk (fun hm => hne (hl k hm).symm)⟩
theorem grown_kept {w w' : World} {row : Option Nat} (h : w.grownBy w' row) : Kept row.toList w w' := (Kept.refl _ w).grown h (fun k hk _ => by simp [hk])
theorem grown_trans {w w' w'' : World} {row : Option Nat} (h : w.grownBy w' row) (h' : w'.grownBy w'' row) : w.grownBy w'' row :=
  ⟨h'.os.trans h.os, h'.tape.trans h.tape, h'.output.trans h.output, Nat.le_trans h.size h'.size, fun k hk hne => by rw [h'.block k (Nat.lt_of_lt_of_le hk h.size) hne, h.block k hk hne]⟩
/-- k times ys behind a row's cells. -/
def ext (vs : List Value) (k : Nat) (ys : List Value) : List Value := vs ++ (List.replicate k ys).flatten
theorem ext_zero (vs ys : List Value) : ext vs 0 ys = vs := by simp [ext]
theorem ext_succ (vs ys : List Value) (k : Nat) : ext vs k ys ++ ys = ext vs (k + 1) ys := by
  simp [ext, List.replicate_succ']

/-- The first i of the longer rows have N times ys behind the row that they went out of; the one that is being made k times. -/
def Cd (h lf : Nat → Rw) (N : Nat) (ys : Nat → List Value) (i : Nat) : Prop := ∀ j, j < i → (lf j).n = (h j).n + N ∧ (lf j).vs = ext (h j).vs N (ys j)
def Cu (h lf : Nat → Rw) (ys : Nat → List Value) (i k : Nat) : Prop := (lf i).n = (h i).n + k ∧ (lf i).vs = ext (h i).vs k (ys i)
theorem Cd.start (h lf : Nat → Rw) (N : Nat) (ys : Nat → List Value) : Cd h lf N ys 0 := fun j hj => absurd hj (by omega)
theorem Cd.lay {h lf : Nat → Rw} {N : Nat} {ys : Nat → List Value} {i : Nat} (hd : Cd h lf N ys i) (r : Rw) : Cd h (upr lf i r) N ys i := fun j hj => by
  rw [upr_other _ _ _ _ (by omega)]; exact hd j hj
theorem Cu.start (h lf : Nat → Rw) (ys : Nat → List Value) (i : Nat) : Cu h (upr lf i (h i)) ys i 0 := by
  unfold Cu; rw [upr_same, ext_zero]; exact ⟨rfl, rfl⟩
theorem Cu.step {h lf : Nat → Rw} {ys : Nat → List Value} {i k : Nat} (hu : Cu h lf ys i k) {r : Rw} (hn : r.n = (lf i).n + 1) (hv : r.vs = (lf i).vs ++ ys i) : Cu h (upr lf i r) ys i (k + 1) := by
  unfold Cu; rw [upr_same, hn, hv, hu.1, hu.2, ext_succ]; exact ⟨by omega, rfl⟩
theorem Cd.next {h lf : Nat → Rw} {N : Nat} {ys : Nat → List Value} {i : Nat} (hd : Cd h lf N ys i) (hu : Cu h lf ys i N) : Cd h lf N ys (i + 1) := fun j hj => by
  by_cases e : j = i
  · subst e; exact hu
  · exact hd j (by omega)

structure Gx (e te : TypeId) (s B : Nat) (wr : World) (m : Nat) (h : Nat → Rw) (rR : Rw) (c : Nat) (lf : Nat → Rw) (cc : Nat) (rG : Rw) : Prop where
  ne : e ≠ te
  lx : Lx e s B wr m h c lf
  oR : rR.At te 1 B wr
  nR : rR.n = m
  vR : rR.vs = vals m h
  oG : rG.At te 1 B wr
  nG : rG.n = cc
  vG : rG.vs = vals cc lf
  le : cc ≤ c
  apart : Off rR.blk rG.blk
section
variable {e te : TypeId} {s B : Nat} {w wr wr' : World} {m c cc : Nat} {h lf : Nat → Rw} {rR rG : Rw}
theorem Gx.grow {row : Option Nat} (G : Gx e te s B wr m h rR c lf cc rG) (hg : wr.grownBy wr' row) (h1 : ∀ i, i < m → Off (h i).blk row) (h2 : ∀ i, i < c → Off (lf i).blk row) (h3 : Off rR.blk row) (h4 : Off rG.blk row) : Gx e te s B wr' m h rR c lf cc rG :=
  ⟨G.ne, G.lx.grow hg h1 h2, G.oR.keep hg h3, G.nR, G.vR, G.oG.keep hg h4, G.nG, G.vG, G.le, G.apart⟩
theorem Gx.kept (G : Gx e te s B wr m h rR c lf cc rG) (hk : Kept [] wr wr') : Gx e te s B wr' m h rR c lf cc rG :=
  G.grow (kept_grown (row := none) hk (by simp)) (fun _ _ => Off.none _) (fun _ _ => Off.none _) (Off.none _) (Off.none _)
/-- Something of another type is turned. -/
theorem Gx.other {e' : TypeId} {s' B' n' : Nat} {v' : Value} {xs' : List Value} (G : Gx e te s B wr m h rR c lf cc rG) (ho : wr.ownsRow B' e' s' v' n' xs') (n1 : e ≠ e') (n2 : te ≠ e') (hg : wr.grownBy wr' v'.ownBlock) : Gx e te s B wr' m h rR c lf cc rG :=
  G.grow hg (fun i hi => own_types (G.lx.fam.own i hi) ho n1) (fun i hi => own_types (G.lx.own i hi) ho n1) (own_types G.oR ho n2) (own_types G.oG ho n2)
theorem Gx.start (G : Gx e te s B wr m h rR cc lf cc rG) (hc : cc < m) : Gx e te s B wr m h rR (cc + 1) (upr lf cc (h cc)) cc rG :=
  ⟨G.ne, G.lx.start hc, G.oR, G.nR, G.vR, G.oG, G.nG, by rw [G.vG]; exact vals_congr (fun i hi => by rw [upr_other _ _ _ _ (by omega)]), by omega, G.apart⟩
/-- One element is put behind the longer row that is being made. -/
theorem Gx.app {P : Program} (t : TypeId) (z : Value) (bs : Nat) (ht : P.underlying t = some (.slice e)) (hinf : (P.info? e).map (fun i => (i.zero, i.size, i.bytes)) = some (some z, s, bs)) (hzs : z.cells.size = s) (hs : 0 < s)
    (G : Gx e te s B wr m h rR (cc + 1) lf cc rG) (hc : cc < m) (ys : List Value) (hyl : ys.length = s) (h1y : ∀ u ∈ ys, u.oneCell' = true) (hl : ((lf cc).n + 1) * bs ≤ 140737488355328) (hl2 : (lf cc).n + 1 ≤ 140737488355328) (hb : B ≤ wr.heap.size) :
    ∃ r w', (Builtin.append_ #[t, t] t #[(lf cc).val, .slice (some ⟨wr.heap.size, 0, none⟩) 1 1]).run P (wr.alloc (.cells ys.toArray e)) = .ok r.val w' ∧ Gx e te s B w' m h rR (cc + 1) (upr lf cc r) cc rG ∧ r.n = (lf cc).n + 1 ∧ r.vs = (lf cc).vs ++ ys ∧ (lf cc).At e s B wr ∧ wr.grownBy w' (lf cc).blk := by
  have kN : Kept [] wr (wr.alloc (.cells ys.toArray e)) := (Kept.refl [] wr).alloc _
  have hnew := heap_new wr (.cells ys.toArray e)
  have G1 := G.kept kN
  have hown := G1.lx.own cc (by omega)
  have hsz : wr.heap.size ≤ (wr.alloc (.cells ys.toArray e)).heap.size := kN.size
  obtain ⟨g, c', w', hrun, hn, hst, hg, hbk⟩ := run_append_both (P := P) t t z bs ht hinf hzs hs (lf cc) 1 ys wr.heap.size 1 hown (by omega) (by decide) (fun j u hj => by rw [cell_of_row _ _ _ _ _ _ hnew]; simpa using hj) h1y hl hl2 (by omega)
  have L := G1.lx.app (r := ⟨some ⟨g, 0, none⟩, c', (lf cc).n + 1, (lf cc).vs ++ ys⟩) hc hn hst hg (by
    rcases hbk with hbk | hbk
    · exact .inl hbk
    · right; intro k hk; cases hk; exact Nat.le_of_eq hbk.symm) (by show _ ≤ (lf cc).n + 1; omega)
  refine ⟨⟨some ⟨g, 0, none⟩, c', (lf cc).n + 1, (lf cc).vs ++ ys⟩, w', hrun, ⟨G.ne, L, G1.oR.keep hg (own_types G1.oR hown (Ne.symm G.ne)), G.nR, G.vR, G1.oG.keep hg (own_types G1.oG hown (Ne.symm G.ne)), G.nG, ?_, by omega, G.apart⟩, rfl, rfl, G.lx.own cc (by omega), ?_⟩
  · rw [G.vG]; exact vals_congr (fun i hi => by rw [upr_other _ _ _ _ (by omega)])
  · exact grown_trans (kept_grown kN (by simp)) hg
/-- The longer row is put behind those that are held. -/
theorem Gx.push {P : Program} (t : TypeId) (ht : P.underlying t = some (.slice te)) (hinf : (P.info? te).map (fun i => (i.zero, i.size, i.bytes)) = some (some (.slice none 0 0), 1, 24))
    (G : Gx e te s B wr m h rR (cc + 1) lf cc rG) (hc : cc < 1000000) (hb : B ≤ wr.heap.size) :
    ∃ r w', (Builtin.append_ #[t, t] t #[rG.val, .slice (some ⟨wr.heap.size, 0, none⟩) 1 1]).run P (wr.alloc (.cells #[(lf cc).val] te)) = .ok r.val w' ∧ Gx e te s B w' m h rR (cc + 1) lf (cc + 1) r ∧ rG.At te 1 B wr ∧ wr.grownBy w' rG.blk := by
  have kN : Kept [] wr (wr.alloc (.cells #[(lf cc).val] te)) := (Kept.refl [] wr).alloc _
  have hnew := heap_new wr (.cells #[(lf cc).val] te)
  have G1 := G.kept kN
  have hsz : wr.heap.size ≤ (wr.alloc (.cells #[(lf cc).val] te)).heap.size := kN.size
  have hnG := G.nG
  obtain ⟨g, c', w', hrun, hn, hst, hg, hbk⟩ := run_append_both (P := P) t t (.slice none 0 0) 24 ht hinf rfl (by decide) rG 1 [(lf cc).val] wr.heap.size 1 G1.oG (by simp) (by decide) (fun j u hj => by rw [cell_of_row _ _ _ _ _ _ hnew]; simpa using hj) (by simp [Rw.val, Value.oneCell']) (by omega) (by omega) (by omega)
  have hU : vals (cc + 1) lf = vals cc lf ++ [(lf cc).val] := vals_succ cc lf
  refine ⟨⟨some ⟨g, 0, none⟩, c', rG.n + 1, rG.vs ++ [(lf cc).val]⟩, w', hrun, ⟨G.ne, G1.lx.grow hg (fun i hi => own_types (G1.lx.fam.own i hi) G1.oG G.ne) (fun i hi => own_types (G1.lx.own i hi) G1.oG G.ne), G1.oR.keep hg G.apart, G.nR, G.vR, hn, by show rG.n + 1 = _; rw [hnG], by show rG.vs ++ _ = _; rw [hU, G.vG], by omega, ?_⟩, G.oG, ?_⟩
  · rcases hbk with hbk | hbk
    · show Off rR.blk (some g); rw [hbk]; exact G.apart
    · show Off rR.blk (some g); rw [hbk]; exact G1.oR.new (Nat.le_refl _)
  · exact grown_trans (kept_grown kN (by simp)) hg
/-- One row holds something else now. -/
theorem Gx.turn (G : Gx e te s B wr m h rR 0 lf 0 rG) {i : Nat} (hi : i < m) {vs : List Value} (hn : (Rw.mk (h i).o (h i).c (h i).n vs).At e s B wr') (hg : wr.grownBy wr' (h i).blk) : Gx e te s B wr' m (upr h i ⟨(h i).o, (h i).c, (h i).n, vs⟩) rR 0 lf 0 rG := by
  have hat := G.lx.fam.own i hi
  refine ⟨G.ne, ⟨G.lx.fam.turn hi hn hg, fun j hj => absurd hj (by omega), fun j j' hj => absurd hj (by omega), fun j j' hj => absurd hj (by omega), fun j hj => absurd hj (by omega)⟩, G.oR.keep hg (own_types G.oR hat (Ne.symm G.ne)), G.nR, ?_, G.oG.keep hg (own_types G.oG hat (Ne.symm G.ne)), G.nG, G.vG, G.le, G.apart⟩
  rw [G.vR]
  exact (vals_congr (fun j _ => upr_val h i ⟨(h i).o, (h i).c, (h i).n, vs⟩ rfl j)).symm
/-- Rows in a row that was made, nothing longer yet. -/
theorem Gx.begin (hne : e ≠ te) (F : Fam e s B wr m h) {rR : Rw} (hR : rR.At te 1 B wr) (nR : rR.n = m) (vR : rR.vs = vals m h) : Gx e te s B wr m h rR 0 h 0 rw0 :=
  ⟨hne, ⟨F, fun j hj => absurd hj (by omega), fun j j' hj => absurd hj (by omega), fun j j' hj => absurd hj (by omega), fun j hj => absurd hj (by omega)⟩, hR, nR, vR, World.ownsRow_nil _ _ _ _, rfl, rfl, Nat.le_refl _, Off.none _⟩
/-- Row i's value stands in its cell. -/
theorem rw_cell {B' : Nat} {r : Rw} {n : Nat} {f : Nat → Rw} (hr : r.At te 1 B' wr) (hn : r.n = n) (hv : r.vs = vals n f) {i : Nat} (hi : i < n) : ∃ g, r.o = some ⟨g, 0, none⟩ ∧ wr.cell? ⟨g, i, none⟩ = some (f i).val := by
  rcases hr.2 with ⟨_, h0⟩ | ⟨g, cap, cur, hv', _, hg, _, _, _, ht⟩
  · omega
  · unfold Rw.val at hv'
    injection hv' with e1 _ _
    refine ⟨g, e1, ?_⟩
    rw [cell_of_row _ _ _ _ _ _ hg]
    have h1 := vals_at n f i hi
    rw [← hv, ← ht, List.getElem?_take] at h1
    split at h1
    · simpa using h1
    · cases h1
end
end

section
open Go.RowKit
set_option linter.unusedVariables false
set_option linter.unusedSimpArgs false

def setAll : List Value → Nat → List Value → List Value
  | l, _, [] => l
  | l, o, v :: r => setAll (l.set o v) (o + 1) r
theorem setAll_eq : ∀ (vs l : List Value) (o : Nat), o + vs.length ≤ l.length → setAll l o vs = l.take o ++ vs ++ l.drop (o + vs.length)
  | [], l, o, h => by simp [setAll]
  | v :: r, l, o, h => by
    simp only [List.length_cons] at h
    have ho : o < l.length := by omega
    rw [setAll, setAll_eq r (l.set o v) (o + 1) (by simp; omega)]
    have e1 : (l.set o v).take (o + 1) = l.take o ++ [v] := by
      rw [List.take_set, List.take_succ_eq_append_getElem ho, List.set_append_right _ _ (by simp; omega)]
      simp [Nat.min_eq_left (Nat.le_of_lt ho)]
    have e2 : (l.set o v).drop (o + 1 + r.length) = l.drop (o + (r.length + 1)) := by
      rw [List.drop_set, if_pos (by omega), show o + 1 + r.length = o + (r.length + 1) by omega]
    rw [e1, e2]
    simp
/-- Cells of a row are written, one behind the other. -/
theorem Rw.At.sets {e : TypeId} {s B g : Nat} : ∀ (vs : List Value) (o : Nat) (w : World) (r : Rw), r.At e s B w → r.o = some ⟨g, 0, none⟩ → (Rw.mk r.o r.c r.n (setAll r.vs o vs)).At e s B (w.setCells g o vs) ∧ w.grownBy (w.setCells g o vs) (some g)
  | [], o, w, r, h, ho => ⟨h, ⟨rfl, rfl, rfl, Nat.le_refl _, fun _ _ _ => rfl⟩⟩
  | v :: t, o, w, r, h, ho => by
    obtain ⟨h1, h2⟩ := h.set (k := o) ho v
    have hb : r.blk = some g := by unfold Rw.blk Rw.val; rw [ho]; rfl
    rw [hb] at h2
    obtain ⟨h3, h4⟩ := Rw.At.sets t (o + 1) (w.setCell ⟨g, o, none⟩ v) _ h1 ho
    rw [World.setCells, setAll]
    refine ⟨h3, ⟨h4.os.trans h2.os, h4.tape.trans h2.tape, h4.output.trans h2.output, Nat.le_trans h2.size h4.size, fun k hk hne => ?_⟩⟩
    rw [h4.block k (Nat.lt_of_lt_of_le hk h2.size) hne, h2.block k hk hne]
/-- An id. -/
structure Ix where
  b : List UInt8
  h : b.length = 32
def Ix.cells (x : Ix) : List Value := bys x.b
def ix0 : Ix := ⟨List.replicate 32 0, rfl⟩
theorem Ix.len (x : Ix) : x.cells.length = 32 := by unfold Ix.cells; rw [bys_length, x.h]
theorem ix_one (e : Ix) : ∀ u ∈ e.cells, u.oneCell' = true := fun u hu => by
  unfold Ix.cells bys at hu
  obtain ⟨x, _, rfl⟩ := List.mem_map.1 hu
  rfl
theorem ix_all (e : Ix) : e.cells.toArray.all (·.oneCell') = true := Array.all_eq_true_iff_forall_mem.2 (fun v hv => ix_one e v (by simpa using hv))
theorem ix_size (e : Ix) : e.cells.toArray.size = 32 := by rw [List.size_toArray, e.len]
def irows (L : List Ix) : List Value := L.flatMap Ix.cells
theorem irows_app (L M : List Ix) : irows (L ++ M) = irows L ++ irows M := by simp [irows]
theorem irows_len (L : List Ix) : (irows L).length = L.length * 32 := by
  induction L with
  | nil => rfl
  | cons a r ih =>
    have := a.len
    simp only [irows, List.flatMap_cons, List.length_append, List.length_cons] at ih ⊢
    omega
theorem irows_id (L : List Ix) : irows L = idrows (L.map (·.b)) := by
  unfold irows idrows
  rw [List.flatMap_map]
  rfl
/-- Ids as such. -/
def ixs (L : List (List UInt8)) : List Ix := L.map (fun q => if h : q.length = 32 then ⟨q, h⟩ else ix0)
theorem ixs_len (L : List (List UInt8)) : (ixs L).length = L.length := by unfold ixs; rw [List.length_map]
theorem ixs_back {L : List (List UInt8)} (h : ∀ q ∈ L, q.length = 32) : (ixs L).map (·.b) = L := by
  unfold ixs
  rw [List.map_map]
  conv => rhs; rw [← List.map_id L]
  refine List.map_congr_left (fun q hq => ?_)
  simp [h q hq]
theorem irows_cons (x : Ix) (L : List Ix) : irows (x :: L) = x.cells ++ irows L := by simp [irows]
theorem irows_take : ∀ (L : List Ix) (k : Nat), (irows L).take (k * 32) = irows (L.take k)
  | [], k => by simp [irows]
  | x :: L, 0 => by simp [irows]
  | x :: L, k + 1 => by
    rw [irows_cons, List.take_succ_cons, irows_cons, List.take_append, x.len, List.take_of_length_le (by rw [x.len]; omega), show (k + 1) * 32 - 32 = k * 32 by omega, irows_take L k]
theorem irows_drop : ∀ (L : List Ix) (k : Nat), (irows L).drop (k * 32) = irows (L.drop k)
  | [], k => by simp [irows]
  | x :: L, 0 => by simp [irows]
  | x :: L, k + 1 => by
    rw [irows_cons, List.drop_succ_cons, List.drop_append, x.len, List.drop_eq_nil_of_le (by rw [x.len]; omega), List.nil_append, show (k + 1) * 32 - 32 = k * 32 by omega, irows_drop L k]
theorem irows_put {L : List Ix} {k : Nat} (hk : k < L.length) (e : Ix) : setAll (irows L) (k * 32) e.cells = irows (L.set k e) := by
  rw [setAll_eq _ _ _ (by rw [irows_len, e.len]; omega), irows_take, e.len, show k * 32 + 32 = (k + 1) * 32 by omega, irows_drop, List.set_eq_take_append_cons_drop, if_pos hk, irows_app, irows_cons, List.append_assoc]
/-- The id that is written into place k of list i; the one that is put behind it. -/
def wro (i k : Nat) : Ix := ⟨UInt8.ofNat i :: UInt8.ofNat k :: 9 :: List.replicate 29 0, rfl⟩
def wpu (i : Nat) : Ix := ⟨200 :: UInt8.ofNat i :: List.replicate 30 0, rfl⟩
/-- Bytes, entries of their own as rows. -/
def rwB (ao : Option Addr) (c : Nat) (xs : List UInt8) : Rw := ⟨ao, c, xs.length, bys xs⟩
def rwW (ao : Option Addr) (c : Nat) (L : List Ix) : Rw := ⟨ao, c, L.length, irows L⟩
theorem rwB_at {w : World} {base : Nat} {ao : Option Addr} {c : Nat} {xs : List UInt8} (h : OwnB w base (.slice ao xs.length c) xs) : (rwB ao c xs).At 5 1 base w := h
theorem rwW_at {w : World} {base : Nat} {ao : Option Addr} {n c : Nat} {L : List (List UInt8)} (h : OwnI w base (.slice ao n c) L) (hn : L.length = n) : (Rw.mk ao c n (irows (ixs L))).At 36 32 base w := by
  unfold Rw.At Rw.val
  rw [irows_id, ixs_back h.2, ← hn]
  have := h.1
  rw [← hn] at this
  exact this
theorem Rw.At.base {e : TypeId} {s B B' : Nat} {w : World} {r : Rw} (h : r.At e s B w) (hB : B' ≤ B) : r.At e s B' w := own_base h hB
theorem Rw.At.ge {e : TypeId} {s B : Nat} {w : World} {r : Rw} (h : r.At e s B w) {k : Nat} (hk : r.blk = some k) : B ≤ k := (World.ownsRow.lt h k hk).1
/-- What was there lies apart from what is new. -/
theorem off_new {e e' : TypeId} {s s' B B' : Nat} {w w' : World} {r r' : Rw} (h : r.At e s B w) (h' : r'.At e' s' B' w') (hB : w.heap.size ≤ B') : Off r.blk r'.blk := fun k h1 h2 => by
  have := h.blk_lt h1
  have := h'.ge h2
  omega

/-- Rows of bytes and lists of entries, each in a block of its own, and the two rows that hold them. -/
structure Tk (w wr : World) (mb ml : Nat) (fb fl : Nat → Rw) (vR vL : Value) : Prop where
  bel : Below w.heap.size w wr
  bf : Fam 5 1 w.heap.size wr mb fb
  lf : Fam 36 32 w.heap.size wr ml fl
  oR : wr.ownsRow w.heap.size 33 1 vR mb (vals mb fb)
  oL : wr.ownsRow w.heap.size 28 1 vL ml (vals ml fl)
section
variable {w wr wr' : World} {mb ml : Nat} {fb fl : Nat → Rw} {vR vL : Value}
theorem Tk.start (w : World) (fb fl : Nat → Rw) : Tk w w 0 0 fb fl (.slice none 0 0) (.slice none 0 0) :=
  ⟨Below.refl _ _, ⟨fun i hi => absurd hi (by omega), fun i j hi => absurd hi (by omega)⟩, ⟨fun i hi => absurd hi (by omega), fun i j hi => absurd hi (by omega)⟩, World.ownsRow_nil _ _ _ _, World.ownsRow_nil _ _ _ _⟩
theorem Tk.kept (h : Tk w wr mb ml fb fl vR vL) (hk : Kept [] wr wr') : Tk w wr' mb ml fb fl vR vL := by
  have hg : wr.grownBy wr' none := kept_grown (row := none) hk (by simp)
  exact ⟨h.bel.trans (hk.below h.bel.size (by simp)), h.bf.grow hg (fun _ _ => Off.none _), h.lf.grow hg (fun _ _ => Off.none _), own_keep h.oR hg (Off.none _), own_keep h.oL hg (Off.none _)⟩
/-- Two rows of bytes more. -/
theorem Tk.addB (h : Tk w wr mb ml fb fl vR vL) {r1 r2 : Rw} (h1 : r1.At 5 1 w.heap.size wr) (h2 : r2.At 5 1 w.heap.size wr) (o1 : ∀ i, i < mb → Off (fb i).blk r1.blk) (o2 : ∀ i, i < mb → Off (fb i).blk r2.blk) (o12 : Off r1.blk r2.blk)
    {vR' : Value} (hn : wr'.ownsRow w.heap.size 33 1 vR' (mb + 2) (vals mb fb ++ [r1.val, r2.val])) (hg : wr.grownBy wr' vR.ownBlock) : Tk w wr' (mb + 2) ml (upr (upr fb mb r1) (mb + 1) r2) fl vR' vL := by
  have f1 : Fam 5 1 w.heap.size wr (mb + 2) (upr (upr fb mb r1) (mb + 1) r2) := by
    refine (h.bf.more h1 o1).more h2 (fun i hi => ?_)
    by_cases e : i = mb
    · subst e; rw [upr_same]; exact o12
    · rw [upr_other _ _ _ _ e]; exact o2 i (by omega)
  have hbel : Below w.heap.size w wr' := by
    have hk : Kept vR.ownBlock.toList wr wr' := (Kept.refl _ wr).grown hg (fun k hk _ => by simp [hk])
    exact h.bel.trans (hk.below h.bel.size (fun g hg' => (World.ownsRow.lt h.oR g (by simpa using hg')).1))
  have hv : vals (mb + 2) (upr (upr fb mb r1) (mb + 1) r2) = vals mb fb ++ [r1.val, r2.val] := by
    rw [vals_succ, vals_succ, upr_same, upr_other _ _ _ _ (show mb ≠ mb + 1 by omega), upr_same]
    rw [vals_congr (f := upr (upr fb mb r1) (mb + 1) r2) (g := fb) (fun i hi => by rw [upr_other _ _ _ _ (by omega), upr_other _ _ _ _ (by omega)])]
    simp
  refine ⟨hbel, f1.grow hg (fun i hi => own_types (f1.own i hi) h.oR (by decide)), h.lf.grow hg (fun i hi => own_types (h.lf.own i hi) h.oR (by decide)), by rw [hv]; exact hn, own_keep h.oL hg (own_types h.oL h.oR (by decide))⟩
/-- Two lists of entries more. -/
theorem Tk.addL (h : Tk w wr mb ml fb fl vR vL) {r1 r2 : Rw} (h1 : r1.At 36 32 w.heap.size wr) (h2 : r2.At 36 32 w.heap.size wr) (o1 : ∀ i, i < ml → Off (fl i).blk r1.blk) (o2 : ∀ i, i < ml → Off (fl i).blk r2.blk) (o12 : Off r1.blk r2.blk)
    {vL' : Value} (hn : wr'.ownsRow w.heap.size 28 1 vL' (ml + 2) (vals ml fl ++ [r1.val, r2.val])) (hg : wr.grownBy wr' vL.ownBlock) : Tk w wr' mb (ml + 2) fb (upr (upr fl ml r1) (ml + 1) r2) vR vL' := by
  have f1 : Fam 36 32 w.heap.size wr (ml + 2) (upr (upr fl ml r1) (ml + 1) r2) := by
    refine (h.lf.more h1 o1).more h2 (fun i hi => ?_)
    by_cases e : i = ml
    · subst e; rw [upr_same]; exact o12
    · rw [upr_other _ _ _ _ e]; exact o2 i (by omega)
  have hbel : Below w.heap.size w wr' := by
    have hk : Kept vL.ownBlock.toList wr wr' := (Kept.refl _ wr).grown hg (fun k hk _ => by simp [hk])
    exact h.bel.trans (hk.below h.bel.size (fun g hg' => (World.ownsRow.lt h.oL g (by simpa using hg')).1))
  have hv : vals (ml + 2) (upr (upr fl ml r1) (ml + 1) r2) = vals ml fl ++ [r1.val, r2.val] := by
    rw [vals_succ, vals_succ, upr_same, upr_other _ _ _ _ (show ml ≠ ml + 1 by omega), upr_same]
    rw [vals_congr (f := upr (upr fl ml r1) (ml + 1) r2) (g := fl) (fun i hi => by rw [upr_other _ _ _ _ (by omega), upr_other _ _ _ _ (by omega)])]
    simp
  refine ⟨hbel, h.bf.grow hg (fun i hi => own_types (h.bf.own i hi) h.oL (by decide)), f1.grow hg (fun i hi => own_types (f1.own i hi) h.oL (by decide)), own_keep h.oR hg (own_types h.oR h.oL (by decide)), by rw [hv]; exact hn⟩
/-- Row i's value stands in its cell. -/
theorem Tk.cellB (h : Tk w wr mb ml fb fl vR vL) {i : Nat} (hi : i < mb) : ∃ g c, vR = .slice (some ⟨g, 0, none⟩) mb c ∧ wr.cell? ⟨g, i, none⟩ = some (fb i).val := by
  rcases h.oR.2 with ⟨_, h0⟩ | ⟨g, cap, cur, hv, _, hg, _, _, _, ht⟩
  · omega
  · refine ⟨g, cap, hv, ?_⟩
    rw [cell_of_row _ _ _ _ _ _ hg]
    have h1 := vals_at mb fb i hi
    rw [← ht, List.getElem?_take] at h1
    split at h1
    · simpa using h1
    · cases h1
theorem Tk.cellL (h : Tk w wr mb ml fb fl vR vL) {i : Nat} (hi : i < ml) : ∃ g c, vL = .slice (some ⟨g, 0, none⟩) ml c ∧ wr.cell? ⟨g, i, none⟩ = some (fl i).val := by
  rcases h.oL.2 with ⟨_, h0⟩ | ⟨g, cap, cur, hv, _, hg, _, _, _, ht⟩
  · omega
  · refine ⟨g, cap, hv, ?_⟩
    rw [cell_of_row _ _ _ _ _ _ hg]
    have h1 := vals_at ml fl i hi
    rw [← ht, List.getElem?_take] at h1
    split at h1
    · simpa using h1
    · cases h1
end
/-- append(rows, a, b): the two lie in a new block. -/
theorem run_append_two {P : Program} (t e : TypeId) (ht : P.underlying t = some (.slice e)) (hinf : (P.info? e).map (fun i => (i.zero, i.size, i.bytes)) = some (some (.slice none 0 0), 1, 24)) (w : World) (B : Nat) (v : Value) (n : Nat) (xs : List Value) (a b : Value) (hown : w.ownsRow B e 1 v n xs) (h1 : a.oneCell' = true) (h2 : b.oneCell' = true) (hl : n + 2 ≤ 1000000) (hb : B ≤ w.heap.size) :
    ∃ v' w', (Builtin.append_ #[t, t] t #[v, .slice (some ⟨w.heap.size, 0, none⟩) 2 2]).run P (w.alloc (.cells #[a, b] e)) = .ok v' w' ∧ w'.ownsRow B e 1 v' (n + 2) (xs ++ [a, b]) ∧ w.grownBy w' v.ownBlock := by
  obtain ⟨i0, hi, hz0, hz1, hz2⟩ := info_parts hinf
  have hnew := heap_new w (.cells #[a, b] e)
  have kN : Kept [] w (w.alloc (.cells #[a, b] e)) := (Kept.refl [] w).alloc _
  have hown' : (w.alloc (.cells #[a, b] e)).ownsRow B e 1 v n xs := own_keep hown (kept_grown (row := none) kN (by simp)) (Off.none _)
  obtain ⟨v', w', hrun, h1', hg, _, _⟩ := run_append_own_at (P := P) (w.alloc (.cells #[a, b] e)) B t t e i0 (.slice none 0 0) 1 24 ht hi hz0 hz1 hz2 rfl (by decide) v n xs hown' ⟨w.heap.size, 0, none⟩ 2 2 [a, b] rfl
    (fun j u hj => by rw [Addr.add_mid, Nat.zero_add, cell_of_row _ _ _ _ _ _ hnew]; simpa using hj) (by simp [h1, h2]) (by unfold maxLen; omega) (by omega) (by simp; omega)
  refine ⟨v', w', hrun, h1', ?_⟩
  exact kept_grown (l := v.ownBlock.toList) ((kN.mono (by simp)).grown hg (fun k hk _ => by simp [hk])) (by simp)
section
variable {w wr wr' : World} {mb ml : Nat} {fb fl : Nat → Rw} {vR vL : Value}
/-- One row of bytes holds something else now. -/
theorem Tk.turnB (h : Tk w wr mb ml fb fl vR vL) {i : Nat} (hi : i < mb) {vs : List Value} (hn : (Rw.mk (fb i).o (fb i).c (fb i).n vs).At 5 1 w.heap.size wr') (hg : wr.grownBy wr' (fb i).blk) : Tk w wr' mb ml (upr fb i ⟨(fb i).o, (fb i).c, (fb i).n, vs⟩) fl vR vL := by
  have hat := h.bf.own i hi
  have hk : Kept (fb i).blk.toList wr wr' := (Kept.refl _ wr).grown hg (fun k hk _ => by simp [hk])
  refine ⟨h.bel.trans (hk.below h.bel.size (fun g hg' => hat.ge (by simpa using hg'))), h.bf.turn hi hn hg, h.lf.grow hg (fun j hj => own_types (h.lf.own j hj) hat (by decide)), ?_, own_keep h.oL hg (own_types h.oL hat (by decide))⟩
  rw [vals_congr (fun j _ => upr_val fb i ⟨(fb i).o, (fb i).c, (fb i).n, vs⟩ rfl j)]
  exact own_keep h.oR hg (own_types h.oR hat (by decide))
/-- One list holds something else now. -/
theorem Tk.turnL (h : Tk w wr mb ml fb fl vR vL) {i : Nat} (hi : i < ml) {vs : List Value} (hn : (Rw.mk (fl i).o (fl i).c (fl i).n vs).At 36 32 w.heap.size wr') (hg : wr.grownBy wr' (fl i).blk) : Tk w wr' mb ml fb (upr fl i ⟨(fl i).o, (fl i).c, (fl i).n, vs⟩) vR vL := by
  have hat := h.lf.own i hi
  have hk : Kept (fl i).blk.toList wr wr' := (Kept.refl _ wr).grown hg (fun k hk _ => by simp [hk])
  refine ⟨h.bel.trans (hk.below h.bel.size (fun g hg' => hat.ge (by simpa using hg'))), h.bf.grow hg (fun j hj => own_types (h.bf.own j hj) hat (by decide)), h.lf.turn hi hn hg, own_keep h.oR hg (own_types h.oR hat (by decide)), ?_⟩
  rw [vals_congr (fun j _ => upr_val fl i ⟨(fl i).o, (fl i).c, (fl i).n, vs⟩ rfl j)]
  exact own_keep h.oL hg (own_types h.oL hat (by decide))
end
theorem kept_cells {l : List Nat} {g : Nat} (hg : g ∈ l) : ∀ (vs : List Value) (o : Nat) (w0 w : World), Kept l w0 w → Kept l w0 (w.setCells g o vs)
  | [], _, _, _, h => h
  | v :: r, o, w0, w, h => kept_cells hg r (o + 1) w0 _ (h.setCell (fun _ => hg) v)
/-- What is written: into the rows ahead of i, and kb bytes of row i; into the lists ahead of j, and kl places of list j. -/
structure Tm (w wr : World) (m q : Nat) (fb fl : Nat → Rw) (vR vL : Value) (i kb j kl : Nat) : Prop where
  tk : Tk w wr m q fb fl vR vL
  b : ∀ a, a < m → ∃ xs : List UInt8, (fb a).n = xs.length ∧ (fb a).vs = bys xs ∧ xs.length ≤ 140737488355200 ∧ ∀ k, k < xs.length → (a < i ∨ (a = i ∧ k < kb)) → (xs.getD k 0).toNat = a
  l : ∀ a, a < q → ∃ L : List Ix, (fl a).n = L.length ∧ (fl a).vs = irows L ∧ L.length ≤ 2199023255551 ∧ ∀ k, k < L.length → (a < j ∨ (a = j ∧ k < kl)) → L.getD k ix0 = wro a k
section
variable {w wr wr' : World} {m q : Nat} {fb fl : Nat → Rw} {vR vL : Value} {i kb j kl : Nat}
theorem Tm.kept (h : Tm w wr m q fb fl vR vL i kb j kl) (hk : Kept [] wr wr') : Tm w wr' m q fb fl vR vL i kb j kl := ⟨h.tk.kept hk, h.b, h.l⟩
/-- A byte is written. -/
theorem Tm.setB (h : Tm w wr m q fb fl vR vL i kb j kl) (hm : m ≤ 100) (hi : i < m) {g : Nat} (ho : (fb i).o = some ⟨g, 0, none⟩) : ∃ fb', Tm w (wr.setCell ⟨g, kb, none⟩ (.int .u8 i)) m q fb' fl vR vL i (kb + 1) j kl ∧ (fb' i).o = (fb i).o ∧ (fb' i).n = (fb i).n ∧ (fb' i).c = (fb i).c := by
  obtain ⟨h1, h2⟩ := (h.tk.bf.own i hi).set (k := kb) ho (.int .u8 i)
  refine ⟨_, ⟨h.tk.turnB hi h1 h2, fun a ha => ?_, h.l⟩, by rw [upr_same], by rw [upr_same], by rw [upr_same]⟩
  obtain ⟨xs, q1, q2, q3, q4⟩ := h.b a ha
  by_cases e : a = i
  · subst e
    have hx : (UInt8.ofNat a).toNat = a := by simp [UInt8.toNat_ofNat', Nat.mod_eq_of_lt (show a < 256 by omega)]
    refine ⟨xs.set kb (UInt8.ofNat a), by rw [upr_same]; simpa using q1, ?_, by simpa using q3, fun k hk hc => ?_⟩
    · rw [upr_same]
      show (fb a).vs.set kb (.int .u8 a) = _
      rw [q2]
      simp [bys, List.map_set, hx]
    · rw [List.length_set] at hk
      by_cases e2 : k = kb
      · subst e2
        simp [List.getD, hk]
        omega
      · have := q4 k hk (by omega)
        rw [← this]
        simp [List.getD, List.getElem?_set, Ne.symm e2]
  · rw [upr_other _ _ _ _ e]
    exact ⟨xs, q1, q2, q3, fun k hk hc => q4 k hk (by omega)⟩
/-- A block is written. -/
theorem Tm.setL (h : Tm w wr m q fb fl vR vL i kb j kl) (hj : j < q) {g : Nat} (ho : (fl j).o = some ⟨g, 0, none⟩) (hk : kl < (fl j).n) : ∃ fl', Tm w (wr.setCells g (kl * 32) (wro j kl).cells) m q fb fl' vR vL i kb j (kl + 1) ∧ (fl' j).o = (fl j).o ∧ (fl' j).n = (fl j).n ∧ (fl' j).c = (fl j).c := by
  obtain ⟨ew, hew⟩ : ∃ ew, wro j kl = ew := ⟨_, rfl⟩
  rw [hew]
  obtain ⟨h1, h2⟩ := Rw.At.sets ew.cells (kl * 32) wr (fl j) (h.tk.lf.own j hj) ho
  have hb : (fl j).blk = some g := by unfold Rw.blk Rw.val; rw [ho]; rfl
  rw [← hb] at h2
  refine ⟨_, ⟨h.tk.turnL hj h1 h2, h.b, fun a ha => ?_⟩, by rw [upr_same], by rw [upr_same], by rw [upr_same]⟩
  obtain ⟨L, q1, q2, q3, q4⟩ := h.l a ha
  by_cases e : a = j
  · subst e
    refine ⟨L.set kl ew, by rw [upr_same]; simpa using q1, ?_, by simpa using q3, fun k hk2 hc => ?_⟩
    · rw [upr_same]
      dsimp only
      rw [q2, irows_put (by omega)]
    · rw [List.length_set] at hk2
      by_cases e2 : k = kl
      · subst e2
        rw [hew]
        simp [List.getD, hk2]
      · have := q4 k hk2 (by omega)
        rw [← this]
        simp [List.getD, List.getElem?_set, Ne.symm e2]
  · rw [upr_other _ _ _ _ e]
    exact ⟨L, q1, q2, q3, fun k hk hc => q4 k hk (by omega)⟩
theorem Tm.nextB (h : Tm w wr m q fb fl vR vL i kb j kl) (hb : (fb i).n ≤ kb) : Tm w wr m q fb fl vR vL (i + 1) 0 j kl := by
  refine ⟨h.tk, fun a ha => ?_, h.l⟩
  obtain ⟨xs, q1, q2, q3, q4⟩ := h.b a ha
  refine ⟨xs, q1, q2, q3, fun k hk hc => q4 k hk ?_⟩
  by_cases e : a = i
  · subst e; right; omega
  · left; omega
theorem Tm.nextL (h : Tm w wr m q fb fl vR vL i kb j kl) (hl : (fl j).n ≤ kl) : Tm w wr m q fb fl vR vL i kb (j + 1) 0 := by
  refine ⟨h.tk, h.b, fun a ha => ?_⟩
  obtain ⟨L, q1, q2, q3, q4⟩ := h.l a ha
  refine ⟨L, q1, q2, q3, fun k hk hc => q4 k hk ?_⟩
  by_cases e : a = j
  · subst e; right; omega
  · left; omega
theorem Tm.nB (h : Tm w wr m q fb fl vR vL i kb j kl) {a : Nat} (ha : a < m) : (fb a).n ≤ 140737488355200 := by
  obtain ⟨xs, q1, _, q3, _⟩ := h.b a ha
  omega
theorem Tm.nL (h : Tm w wr m q fb fl vR vL i kb j kl) {a : Nat} (ha : a < q) : (fl a).n ≤ 2199023255551 := by
  obtain ⟨xs, q1, _, q3, _⟩ := h.l a ha
  omega
end

theorem Tryz.infoRow : (Tryz.prog.info? 33).map (fun i => (i.zero, i.size, i.bytes)) = some (some (.slice none 0 0), 1, 24) := by kernel_rfl
theorem Tryz.infoList : (Tryz.prog.info? 28).map (fun i => (i.zero, i.size, i.bytes)) = some (some (.slice none 0 0), 1, 24) := by kernel_rfl
theorem Tryz.infoByteQ : (Tryz.prog.info? 5).map (fun i => (i.zero, i.size, i.bytes)) = some (some (.int .u8 0), 1, 1) := by kernel_rfl
theorem rw_sl {B : Nat} {w : World} {r : Rw} {xs : List UInt8} (h : r.At 5 1 B w) (hn : r.n = xs.length) (hv : r.vs = bys xs) : Sl w r.o xs := by
  have h2 : OwnB w B (.slice r.o xs.length r.c) xs := by
    unfold Rw.At Rw.val at h
    rw [hn, hv] at h
    exact h
  obtain ⟨ao, cap, hv, _, hs, _⟩ := h2.shape
  cases hv
  exact hs
theorem rw_wks {B : Nat} {w : World} {r : Rw} {L : List Ix} (h : r.At 36 32 B w) (hn : r.n = L.length) (hv : r.vs = irows L) : Ids w r.o (L.map (·.b)) := by
  have h2 : OwnI w B (.slice r.o r.n r.c) (L.map (·.b)) := by
    unfold Rw.At Rw.val at h
    rw [hn, hv, irows_id] at h
    refine ⟨?_, fun q hq => ?_⟩
    · rw [List.length_map, hn]
      exact h
    · obtain ⟨x, _, rfl⟩ := List.mem_map.1 hq
      exact x.h
  exact h2.ids.1
/-- What is put behind row i, list i. -/
def yb (i : Nat) : List Value := [.int .u8 (100 + (i : Int))]
def yl (i : Nat) : List Value := (wpu i).cells
structure Tg (w wr : World) (m q : Nat) (fb fl : Nat → Rw) (rR rL : Rw) (cb : Nat) (lb : Nat → Rw) (ccb : Nat) (rG : Rw) (cl : Nat) (ll : Nat → Rw) (ccl : Nat) (rH : Rw) : Prop where
  bel : Below w.heap.size w wr
  gb : Gx 5 33 1 w.heap.size wr m fb rR cb lb ccb rG
  gl : Gx 36 28 32 w.heap.size wr q fl rL cl ll ccl rH
section
variable {w wr wr' : World} {m q : Nat} {fb fl lb ll : Nat → Rw} {rR rL rG rH : Rw} {cb cl ccb ccl i j : Nat}
theorem below_grown {row : Option Nat} (h : Below w.heap.size w wr) (hg : wr.grownBy wr' row) (hr : ∀ k, row = some k → w.heap.size ≤ k) : Below w.heap.size w wr' :=
  h.trans ((grown_kept hg).below h.size (fun g hg' => hr g (by simpa using hg')))
theorem Tg.kept (T : Tg w wr m q fb fl rR rL cb lb ccb rG cl ll ccl rH) (hk : Kept [] wr wr') : Tg w wr' m q fb fl rR rL cb lb ccb rG cl ll ccl rH :=
  ⟨T.bel.trans (hk.below T.bel.size (by simp)), T.gb.kept hk, T.gl.kept hk⟩
theorem Tg.begin {oR oL : Option Addr} {cR cL : Nat} (h : Tk w wr m q fb fl (.slice oR m cR) (.slice oL q cL)) :
    Tg w wr m q fb fl ⟨oR, cR, m, vals m fb⟩ ⟨oL, cL, q, vals q fl⟩ 0 fb 0 rw0 0 fl 0 rw0 :=
  ⟨h.bel, Gx.begin (by decide) h.bf h.oR rfl rfl, Gx.begin (by decide) h.lf h.oL rfl rfl⟩
theorem Tg.startB (T : Tg w wr m q fb fl rR rL i lb i rG cl ll ccl rH) (hi : i < m) : Tg w wr m q fb fl rR rL (i + 1) (upr lb i (fb i)) i rG cl ll ccl rH := ⟨T.bel, T.gb.start hi, T.gl⟩
theorem Tg.startL (T : Tg w wr m q fb fl rR rL cb lb ccb rG j ll j rH) (hj : j < q) : Tg w wr m q fb fl rR rL cb lb ccb rG (j + 1) (upr ll j (fl j)) j rH := ⟨T.bel, T.gb, T.gl.start hj⟩
theorem Tg.appB (T : Tg w wr m q fb fl rR rL (i + 1) lb i rG cl ll ccl rH) (hi : i < m) (hl : (lb i).n ≤ 140737488355300) :
    ∃ r w', (Builtin.append_ #[33, 33] 33 #[(lb i).val, .slice (some ⟨wr.heap.size, 0, none⟩) 1 1]).run Tryz.prog (wr.alloc (.cells #[.int .u8 (100 + (i : Int))] 5)) = .ok r.val w' ∧ Tg w w' m q fb fl rR rL (i + 1) (upr lb i r) i rG cl ll ccl rH ∧ r.n = (lb i).n + 1 ∧ r.vs = (lb i).vs ++ yb i := by
  obtain ⟨r, w', hrun, G, h1, h2, h3, h4⟩ := T.gb.app 33 (.int .u8 0) 1 Tryz.underlying33 Tryz.infoByteQ rfl (by decide) hi (yb i) rfl (by simp [yb, Value.oneCell']) (by omega) (by omega) T.bel.size
  exact ⟨r, w', hrun, ⟨below_grown T.bel h4 (fun k hk => (World.ownsRow.lt h3 k hk).1), G, T.gl.other h3 (by decide) (by decide) h4⟩, h1, h2⟩
theorem Tg.appL (T : Tg w wr m q fb fl rR rL cb lb ccb rG (j + 1) ll j rH) (hj : j < q) (hl : (ll j).n ≤ 2199023255651) :
    ∃ r w', (Builtin.append_ #[28, 28] 28 #[(ll j).val, .slice (some ⟨wr.heap.size, 0, none⟩) 1 1]).run Tryz.prog (wr.alloc (.cells (wpu j).cells.toArray 36)) = .ok r.val w' ∧ Tg w w' m q fb fl rR rL cb lb ccb rG (j + 1) (upr ll j r) j rH ∧ r.n = (ll j).n + 1 ∧ r.vs = (ll j).vs ++ yl j := by
  obtain ⟨r, w', hrun, G, h1, h2, h3, h4⟩ := T.gl.app 28 (.agg zeroI) 32 Tryz.underlying28 Tryz.infoIdx rfl (by decide) hj (yl j) (wpu j).len (ix_one _) (by omega) (by omega) T.bel.size
  exact ⟨r, w', hrun, ⟨below_grown T.bel h4 (fun k hk => (World.ownsRow.lt h3 k hk).1), T.gb.other h3 (by decide) (by decide) h4, G⟩, h1, h2⟩
theorem Tg.pushB (T : Tg w wr m q fb fl rR rL (i + 1) lb i rG cl ll ccl rH) (hi : i < 100) :
    ∃ r w', (Builtin.append_ #[64, 64] 64 #[rG.val, .slice (some ⟨wr.heap.size, 0, none⟩) 1 1]).run Tryz.prog (wr.alloc (.cells #[(lb i).val] 33)) = .ok r.val w' ∧ Tg w w' m q fb fl rR rL (i + 1) lb (i + 1) r cl ll ccl rH := by
  obtain ⟨r, w', hrun, G, h3, h4⟩ := T.gb.push 64 Tryz.underlying64 Tryz.infoRow (by omega) T.bel.size
  exact ⟨r, w', hrun, ⟨below_grown T.bel h4 (fun k hk => (World.ownsRow.lt h3 k hk).1), G, T.gl.other h3 (by decide) (by decide) h4⟩⟩
theorem Tg.pushL (T : Tg w wr m q fb fl rR rL cb lb ccb rG (j + 1) ll j rH) (hj : j < 100) :
    ∃ r w', (Builtin.append_ #[63, 63] 63 #[rH.val, .slice (some ⟨wr.heap.size, 0, none⟩) 1 1]).run Tryz.prog (wr.alloc (.cells #[(ll j).val] 28)) = .ok r.val w' ∧ Tg w w' m q fb fl rR rL cb lb ccb rG (j + 1) ll (j + 1) r := by
  obtain ⟨r, w', hrun, G, h3, h4⟩ := T.gl.push 63 Tryz.underlying63 Tryz.infoList (by omega) T.bel.size
  exact ⟨r, w', hrun, ⟨below_grown T.bel h4 (fun k hk => (World.ownsRow.lt h3 k hk).1), T.gb.other h3 (by decide) (by decide) h4, G⟩⟩
theorem bys_ext (xs : List UInt8) (x : UInt8) (N : Nat) : ext (bys xs) N [.int .u8 x.toNat] = bys (xs ++ List.replicate N x) := by
  have h : bys (List.replicate N x) = (List.replicate N [Value.int .u8 x.toNat]).flatten := by
    induction N with
    | zero => rfl
    | succ n ih => rw [List.replicate_succ, List.replicate_succ, List.flatten_cons, ← ih]; simp [bys]
  unfold ext
  rw [← h]
  simp [bys]
theorem irows_ext (L : List Ix) (e : Ix) (N : Nat) : ext (irows L) N e.cells = irows (L ++ List.replicate N e) := by
  have h : irows (List.replicate N e) = (List.replicate N e.cells).flatten := by
    induction N with
    | zero => rfl
    | succ n ih => rw [List.replicate_succ, List.replicate_succ, List.flatten_cons, ← ih]; simp [irows]
  unfold ext
  rw [← h, irows_app]
/-- What the last loops read of row a, of list a. -/
theorem Tg.seeB (T : Tg w wr m q fb fl rR rL cb lb ccb rG cl ll ccl rH) (hm : m ≤ 100) (hcb : m ≤ cb) (hD : Cd fb lb 70 yb m) {a : Nat} (ha : a < m) (hb : ∃ xs : List UInt8, (fb a).n = xs.length ∧ (fb a).vs = bys xs ∧ xs.length ≤ 140737488355200 ∧ ∀ k, k < xs.length → (xs.getD k 0).toNat = a) :
    ∃ xs ys : List UInt8, xs.length = (fb a).n ∧ ys.length = (lb a).n ∧ (lb a).n = (fb a).n + 70 ∧ (fb a).n ≤ 140737488355200 ∧ Sl wr (fb a).o xs ∧ Sl wr (lb a).o ys ∧ (∀ k, k < (fb a).n → (xs.getD k 0).toNat = a) ∧ (∀ k, k < (fb a).n → (ys.getD k 0).toNat = a) ∧ (∀ k, (fb a).n ≤ k → k < (lb a).n → (ys.getD k 0).toNat = 100 + a) := by
  obtain ⟨xs, h1, h2, h3, h4⟩ := hb
  obtain ⟨d1, d2⟩ := hD a ha
  have hx : (UInt8.ofNat (100 + a)).toNat = 100 + a := by simp [UInt8.toNat_ofNat', Nat.mod_eq_of_lt (show 100 + a < 256 by omega)]
  have e1 : yb a = [.int .u8 (UInt8.ofNat (100 + a)).toNat] := by rw [hx]; simp [yb]
  rw [h2, e1, bys_ext] at d2
  have hly : (xs ++ List.replicate 70 (UInt8.ofNat (100 + a))).length = (lb a).n := by simp [d1, h1]
  refine ⟨xs, xs ++ List.replicate 70 (UInt8.ofNat (100 + a)), h1.symm, hly, d1, by omega, rw_sl (T.gb.lx.fam.own a ha) h1 h2, rw_sl (T.gb.lx.own a (by omega)) hly.symm d2, fun k hk => h4 k (by omega), fun k hk => ?_, fun k hk hk2 => ?_⟩
  · rw [← h4 k (by omega)]
    simp [List.getD, List.getElem?_append_left (show k < xs.length by omega)]
  · simp only [List.getD]
    rw [List.getElem?_append_right (by omega), List.getElem?_replicate, if_pos (by omega)]
    exact hx
theorem Tg.seeL (T : Tg w wr m q fb fl rR rL cb lb ccb rG cl ll ccl rH) (hcl : q ≤ cl) (hD : Cd fl ll 70 yl q) {a : Nat} (ha : a < q) (hb : ∃ L : List Ix, (fl a).n = L.length ∧ (fl a).vs = irows L ∧ L.length ≤ 2199023255551 ∧ ∀ k, k < L.length → L.getD k ix0 = wro a k) :
    ∃ L M : List Ix, L.length = (fl a).n ∧ M.length = (ll a).n ∧ (ll a).n = (fl a).n + 70 ∧ (fl a).n ≤ 2199023255551 ∧ Ids wr (fl a).o (L.map (·.b)) ∧ Ids wr (ll a).o (M.map (·.b)) ∧ (∀ k, k < (fl a).n → L.getD k ix0 = wro a k) ∧ (∀ k, k < (fl a).n → M.getD k ix0 = wro a k) ∧ (∀ k, (fl a).n ≤ k → k < (ll a).n → M.getD k ix0 = wpu a) := by
  obtain ⟨L, h1, h2, h3, h4⟩ := hb
  obtain ⟨d1, d2⟩ := hD a ha
  have e1 : yl a = (wpu a).cells := rfl
  rw [h2, e1, irows_ext] at d2
  have hly : (L ++ List.replicate 70 (wpu a)).length = (ll a).n := by simp [d1, h1]
  refine ⟨L, L ++ List.replicate 70 (wpu a), h1.symm, hly, d1, by omega, rw_wks (T.gl.lx.fam.own a ha) h1 h2, rw_wks (T.gl.lx.own a (by omega)) hly.symm d2, fun k hk => h4 k (by omega), fun k hk => ?_, fun k hk hk2 => ?_⟩
  · rw [← h4 k (by omega)]
    simp [List.getD, List.getElem?_append_left (show k < L.length by omega)]
  · simp only [List.getD]
    rw [List.getElem?_append_right (by omega), List.getElem?_replicate, if_pos (by omega)]
    rfl
end
end

end Go.Proofs.YtngaimahhgmciabGreatDoor
