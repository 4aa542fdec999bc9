/-
  BlockOwn: Okb, Ca, Cb together. (Written by tools/merge.py.)
-/
import Derived.Test.YtdnbpklnkmgmkaaBe
import Derived.Laws.OwnMore
import Derived.Maps.AppendAt
import Derived.Test.YtdnbpklnkmgmkaaBs
import Derived.Test.YtdnbpklnkmgmkaaOl
import Derived.Test.YtdnbpklnkmgmkaaBd
namespace Go.Proofs.Ytdnbpklnkmgmkaa
section
open Go.RowKit
set_option linter.unusedVariables false
set_option linter.unusedSimpArgs false

structure Rw where
  o : Option Addr
  c : Nat
  n : Nat
  vs : List Value
def rw0 : Rw := ⟨none, 0, 0, []⟩
instance : Inhabited Rw := ⟨rw0⟩
def Rw.val (r : Rw) : Value := .slice r.o r.n r.c
def Rw.At (e : TypeId) (s B : Nat) (w : World) (r : Rw) : Prop := w.ownsRow B e s r.val r.n r.vs
def Rw.blk (r : Rw) : Option Nat := r.val.ownBlock
/-- Not the same block. -/
def Off (a b : Option Nat) : Prop := ∀ k, a = some k → b ≠ some k
theorem Off.symm {a b : Option Nat} (h : Off a b) : Off b a := fun k hb ha => h k ha hb
theorem Off.none (a : Option Nat) : Off a none := fun k _ h => by simp at h
section
variable {e : TypeId} {s B : Nat} {w w' : World}
theorem own_keep {v : Value} {n : Nat} {xs : List Value} {row : Option Nat} (h : w.ownsRow B e s v n xs) (hg : w.grownBy w' row) (hne : Off v.ownBlock row) : w'.ownsRow B e s v n xs := by
  refine h.kept hg ?_
  rcases hb : v.ownBlock with _ | k
  · exact .inl rfl
  · exact .inr (fun e => hne k hb e.symm)
theorem Rw.At.keep {r : Rw} {row : Option Nat} (h : r.At e s B w) (hg : w.grownBy w' row) (hne : Off r.blk row) : r.At e s B w' := own_keep h hg hne
theorem Rw.At.blk_lt {r : Rw} (h : r.At e s B w) {k : Nat} (hk : r.blk = some k) : k < w.heap.size := (World.ownsRow.lt h k hk).2
theorem Rw.At.new {r : Rw} (h : r.At e s B w) {k : Nat} (hk : w.heap.size ≤ k) : Off r.blk (some k) := fun j hj e => by
  have := h.blk_lt hj
  cases e
  omega
/-- Two rows of two types lie in two blocks. -/
theorem own_types {B' s' : Nat} {e' : TypeId} {v v' : Value} {n n' : Nat} {xs xs' : List Value} (h : w.ownsRow B e s v n xs) (h' : w.ownsRow B' e' s' v' n' xs') (he : e ≠ e') : Off v.ownBlock v'.ownBlock := by
  intro k hk hk'
  rcases h.2 with ⟨rfl, _⟩ | ⟨g, cap, cur, rfl, _, hg, _⟩
  · simp [Value.ownBlock] at hk
  rcases h'.2 with ⟨rfl, _⟩ | ⟨g', cap', cur', rfl, _, hg', _⟩
  · simp [Value.ownBlock] at hk'
  simp only [Value.ownBlock, Option.some.injEq] at hk hk'
  subst hk
  subst hk'
  rw [hg] at hg'
  injection hg' with hg'
  injection hg' with _ e2 _
  exact he e2
/-- A shorter row in the front of a longer one's block. -/
theorem own_front {v v' : Value} {n N : Nat} {xs XS : List Value} (h : w.ownsRow B e s v n xs) (hL : w.ownsRow B e s v' N XS) (hL' : w'.ownsRow B e s v' N XS) (hb : v.ownBlock = v'.ownBlock) (hn : n ≤ N) : w'.ownsRow B e s v n xs := by
  rcases h.2 with ⟨rfl, h0⟩ | ⟨g, cap, cur, rfl, hbg, hg, hnc, hcm, hcs, htake⟩
  · exact ⟨h.1, .inl ⟨rfl, h0⟩⟩
  rcases hL.2 with ⟨rfl, _⟩ | ⟨g1, cap1, cur1, rfl, _, hg1, hnc1, _, hcs1, htake1⟩
  · simp [Value.ownBlock] at hb
  simp only [Value.ownBlock, Option.some.injEq] at hb
  subst hb
  rcases hL'.2 with ⟨e2, _⟩ | ⟨g2, cap2, cur2, e2, _, hg2, hnc2, _, hcs2, htake2⟩
  · simp at e2
  simp only [Value.slice.injEq, Option.some.injEq, Addr.mk.injEq, and_true, true_and] at e2
  obtain ⟨rfl, rfl⟩ := e2
  rw [hg] at hg1
  injection hg1 with hg1
  injection hg1 with hg1 _ _
  subst hg1
  have hns : n * s ≤ N * s := Nat.mul_le_mul_right s hn
  refine ⟨h.1, .inr ⟨g, cap, cur2, rfl, hbg, hg2, hnc, hcm, by omega, ?_⟩⟩
  rw [← htake]
  have h1 := congrArg (List.take (n * s)) htake1
  have h2 := congrArg (List.take (n * s)) htake2
  rw [List.take_take, Nat.min_eq_left hns] at h1 h2
  rw [h1, h2]
/-- append of m elements: the row that was appended to stands too. -/
theorem run_append_both {P : Program} (t ty : TypeId) (z : Value) (bs : Nat) (ht : P.underlying t = some (.slice e)) (hinf : (P.info? e).map (fun i => (i.zero, i.size, i.bytes)) = some (some z, s, bs)) (hzs : z.cells.size = s) (hs : 0 < s)
    (r : Rw) (m : Nat) (ys : List Value) (yb c0 : Nat) (hown : r.At e s B w) (hyl : ys.length = m * s) (hm : 0 < m) (hy : ∀ j u, ys[j]? = some u → w.cell? ⟨yb, j, none⟩ = some u) (h1y : ∀ u ∈ ys, u.oneCell' = true) (hl : (r.n + m) * bs ≤ 140737488355328) (hl2 : r.n + m ≤ 140737488355328) (hb : B ≤ w.heap.size) :
    ∃ g c w', (Builtin.append_ #[t, t] ty #[r.val, .slice (some ⟨yb, 0, none⟩) m c0]).run P w = .ok (.slice (some ⟨g, 0, none⟩) (r.n + m) c) w' ∧ (Rw.mk (some ⟨g, 0, none⟩) c (r.n + m) (r.vs ++ ys)).At e s B w' ∧ r.At e s B w' ∧ w.grownBy w' r.blk ∧ (some g = r.blk ∨ g = w.heap.size) := by
  obtain ⟨i0, hi, hz0, hz1, hz2⟩ := info_parts hinf
  have hcl : ∀ j u, ys[j]? = some u → w.cell? ((⟨yb, 0, none⟩ : Addr).add j) = some u := fun j u hj => by rw [Addr.add_mid, Nat.zero_add]; exact hy j u hj
  obtain ⟨v', w', hrun, h1, h2, h3, h4⟩ := run_append_own_at (P := P) w B t ty e i0 z s bs ht hi hz0 hz1 hz2 hzs hs _ r.n r.vs hown ⟨yb, 0, none⟩ m c0 ys hyl hcl h1y (by unfold maxLen; omega) hl hb
  obtain ⟨g, c, hv⟩ : ∃ g c, v' = .slice (some ⟨g, 0, none⟩) (r.n + m) c := by
    rcases h1.2 with ⟨e, e2⟩ | ⟨g, cap', cur, e, _⟩
    · omega
    · exact ⟨g, cap', e⟩
  have hstay : w'.ownsRow B e s r.val r.n r.vs := by
    rcases hown.2 with ⟨e, e2⟩ | ⟨q, cap, cur, he, hbg, hg, hnc, hcm, hcs, htake⟩
    · exact ⟨hown.1, .inl ⟨e, e2⟩⟩
    · by_cases hroom : r.n + m ≤ cap
      · have hmul := Nat.mul_le_mul_right s hroom
        rw [Nat.add_mul] at hmul
        have hr := run_append_room (P := P) w t ty e i0 ht hi q r.n cap cur hg ⟨yb, 0, none⟩ m c0 ys (by rw [hyl, hz1]) hcl h1y hroom (by rw [hz1, hyl]; omega)
        rw [he, hr] at hrun
        injection hrun with _ hw
        subst hw
        refine ⟨hown.1, .inr ⟨q, cap, _, he, hbg, setRow_heap w q cur _ _ _ hg, hnc, hcm, ?_, ?_⟩⟩
        · simp only [List.size_toArray, List.length_append, List.length_take, List.length_drop, Array.length_toList, hyl, hz1]
          omega
        · rw [hz1, ← htake]
          simp only [List.append_assoc]
          rw [List.take_append_of_le_length (by simp; omega), List.take_take, Nat.min_self]
      · have hr := run_append_grow (P := P) w t ty e i0 z ht hi hz0 ⟨q, 0, none⟩ r.n cap r.vs (by rw [hown.1, hz1]) (hown.cells (g := q) (by rw [he]; rfl)) ⟨yb, 0, none⟩ m c0 ys (by rw [hyl, hz1]) hcl (by omega) (by omega) (growslice_fits (by unfold maxLen at *; omega) (by rw [hz2]; omega))
        rw [he, hr] at hrun
        injection hrun with _ hw
        subst hw
        exact ⟨hown.1, .inr ⟨q, cap, cur, he, hbg, ((World.grownBy_alloc w.drew _ none).block q (Array.getElem?_eq_some_iff.1 hg).1 (by simp)).trans hg, hnc, hcm, hcs, htake⟩⟩
  subst hv
  refine ⟨g, c, w', hrun, h1, hstay, h2, ?_⟩
  rcases h4 with h4 | h4
  · exact .inl h4
  · simp only [Value.ownBlock, Option.some.injEq] at h4
    exact .inr h4
end

def upr (f : Nat → Rw) (i : Nat) (a : Rw) : Nat → Rw := fun j => if j = i then a else f j
theorem upr_same (f : Nat → Rw) (i : Nat) (a : Rw) : upr f i a i = a := by simp [upr]
theorem upr_other (f : Nat → Rw) (i j : Nat) (a : Rw) (h : j ≠ i) : upr f i a j = f j := by simp [upr, h]
theorem upr_val (f : Nat → Rw) (i : Nat) (a : Rw) (h : a.val = (f i).val) (j : Nat) : (upr f i a j).val = (f j).val := by
  by_cases e : j = i
  · subst e; rw [upr_same, h]
  · rw [upr_other _ _ _ _ e]

structure Fam (e : TypeId) (s B : Nat) (w : World) (m : Nat) (h : Nat → Rw) : Prop where
  own : ∀ i, i < m → (h i).At e s B w
  apart : ∀ i j, i < m → j < m → i ≠ j → Off (h i).blk (h j).blk
section
variable {e : TypeId} {s B : Nat} {w w' : World} {m : Nat} {h : Nat → Rw}
theorem Fam.grow {row : Option Nat} (F : Fam e s B w m h) (hg : w.grownBy w' row) (hr : ∀ i, i < m → Off (h i).blk row) : Fam e s B w' m h :=
  ⟨fun i hi => (F.own i hi).keep hg (hr i hi), F.apart⟩
/-- One row more, in a block of its own. -/
theorem Fam.more (F : Fam e s B w m h) {r : Rw} (hr : r.At e s B w) (hn : ∀ i, i < m → Off (h i).blk r.blk) : Fam e s B w (m + 1) (upr h m r) := by
  refine ⟨fun i hi => ?_, fun i j hi hj hne => ?_⟩
  · by_cases e : i = m
    · subst e; rw [upr_same]; exact hr
    · rw [upr_other _ _ _ _ e]; exact F.own i (by omega)
  · by_cases e : i = m
    · subst e
      rw [upr_same, upr_other _ _ _ _ (by omega)]
      exact (hn j (by omega)).symm
    · rw [upr_other _ _ _ _ e]
      by_cases e' : j = m
      · subst e'; rw [upr_same]; exact hn i (by omega)
      · rw [upr_other _ _ _ _ e']; exact F.apart i j (by omega) (by omega) hne
/-- One row is another one now, its place the same. -/
theorem Fam.turn (F : Fam e s B w m h) {i : Nat} (hi : i < m) {vs : List Value} (hn : (Rw.mk (h i).o (h i).c (h i).n vs).At e s B w') (hg : w.grownBy w' (h i).blk) : Fam e s B w' m (upr h i ⟨(h i).o, (h i).c, (h i).n, vs⟩) := by
  have hv : (Rw.mk (h i).o (h i).c (h i).n vs).val = (h i).val := rfl
  have hb2 : ∀ j, (upr h i ⟨(h i).o, (h i).c, (h i).n, vs⟩ j).blk = (h j).blk := fun j => by unfold Rw.blk; rw [upr_val h i _ hv]
  refine ⟨fun j hj => ?_, fun a b ha hb hab => by rw [hb2, hb2]; exact F.apart a b ha hb hab⟩
  by_cases e : j = i
  · subst e
    rw [upr_same]
    exact hn
  · rw [upr_other _ _ _ _ e]
    exact (F.own j hj).keep hg (F.apart j i hj hi e)
end
/-- One cell of a row is written. -/
theorem Rw.At.set {e : TypeId} {s B : Nat} {w : World} {r : Rw} (h : r.At e s B w) {g k : Nat} (ho : r.o = some ⟨g, 0, none⟩) (v : Value) : (Rw.mk r.o r.c r.n (r.vs.set k v)).At e s B (w.setCell ⟨g, k, none⟩ v) ∧ w.grownBy (w.setCell ⟨g, k, none⟩ v) r.blk := by
  unfold Rw.At Rw.val at h
  rw [ho] at h
  obtain ⟨h1, h2⟩ := h.stored k v
  have hbi : r.blk = some g := by unfold Rw.blk Rw.val; rw [ho]; rfl
  rw [hbi]
  refine ⟨?_, h2⟩
  unfold Rw.At Rw.val
  rw [ho]
  exact h1

/-- Rows, and longer ones that went out of the first c of them. -/
structure Lx (e : TypeId) (s B : Nat) (w : World) (m : Nat) (h : Nat → Rw) (c : Nat) (lf : Nat → Rw) : Prop where
  fam : Fam e s B w m h
  own : ∀ j, j < c → (lf j).At e s B w
  far : ∀ j j', j < c → j' < m → j ≠ j' → Off (lf j).blk (h j').blk
  far2 : ∀ j j', j < c → j' < c → j ≠ j' → Off (lf j).blk (lf j').blk
  len : ∀ j, j < c → (h j).n ≤ (lf j).n
section
variable {e : TypeId} {s B : Nat} {w w' : World} {m c : Nat} {h lf : Nat → Rw}
theorem Lx.grow {row : Option Nat} (L : Lx e s B w m h c lf) (hg : w.grownBy w' row) (hr : ∀ i, i < m → Off (h i).blk row) (hr2 : ∀ i, i < c → Off (lf i).blk row) : Lx e s B w' m h c lf :=
  ⟨L.fam.grow hg hr, fun j hj => (L.own j hj).keep hg (hr2 j hj), L.far, L.far2, L.len⟩
theorem Lx.start {i : Nat} (L : Lx e s B w m h i lf) (hi : i < m) : Lx e s B w m h (i + 1) (upr lf i (h i)) := by
  have hU : ∀ j, j < i → upr lf i (h i) j = lf j := fun j hj => upr_other _ _ _ _ (by omega)
  refine ⟨L.fam, fun j hj => ?_, fun j j' hj hj' hne => ?_, fun j j' hj hj' hne => ?_, fun j hj => ?_⟩
  · by_cases e : j = i
    · subst e; rw [upr_same]; exact L.fam.own j hi
    · rw [hU j (by omega)]; exact L.own j (by omega)
  · by_cases e : j = i
    · subst e; rw [upr_same]; exact L.fam.apart j j' hi hj' hne
    · rw [hU j (by omega)]; exact L.far j j' (by omega) hj' hne
  · by_cases e : j = i
    · subst e
      rw [upr_same, hU j' (by omega)]
      exact (L.far j' j (by omega) hi (by omega)).symm
    · rw [hU j (by omega)]
      by_cases e' : j' = i
      · subst e'; rw [upr_same]; exact L.far j j' (by omega) hi (by omega)
      · rw [hU j' (by omega)]; exact L.far2 j j' (by omega) (by omega) hne
  · by_cases e : j = i
    · subst e; rw [upr_same]; exact Nat.le_refl _
    · rw [hU j (by omega)]; exact L.len j (by omega)
/-- The last of the longer ones goes on. -/
theorem Lx.app {i : Nat} {r : Rw} (L : Lx e s B w m h (i + 1) lf) (hi : i < m) (hn : r.At e s B w') (hs : (lf i).At e s B w') (hg : w.grownBy w' (lf i).blk) (hb : r.blk = (lf i).blk ∨ ∀ k, r.blk = some k → w.heap.size ≤ k) (hl : (lf i).n ≤ r.n) : Lx e s B w' m h (i + 1) (upr lf i r) := by
  have hU : ∀ j, j ≠ i → upr lf i r j = lf j := fun j hj => upr_other _ _ _ _ hj
  have hOf : ∀ {x : Rw}, x.At e s B w → Off (lf i).blk x.blk → Off r.blk x.blk := fun {x} hx ho => by
    rcases hb with hb | hb
    · rw [hb]; exact ho
    · intro k h1 h2
      have := hx.blk_lt h2
      have := hb k h1
      omega
  refine ⟨⟨fun j hj => ?_, L.fam.apart⟩, fun j hj => ?_, fun j j' hj hj' hne => ?_, fun j j' hj hj' hne => ?_, fun j hj => ?_⟩
  · by_cases e : j = i
    · subst e
      by_cases hbb : (h j).blk = (lf j).blk
      · exact own_front (L.fam.own j hj) (L.own j (by omega)) hs hbb (L.len j (by omega))
      · exact (L.fam.own j hj).keep hg (fun k h1 h2 => hbb (by rw [h1, h2]))
    · exact (L.fam.own j hj).keep hg (L.far i j (by omega) hj (by omega)).symm
  · by_cases e : j = i
    · subst e; rw [upr_same]; exact hn
    · rw [hU j e]; exact (L.own j hj).keep hg (L.far2 j i hj (by omega) e)
  · by_cases e : j = i
    · subst e; rw [upr_same]; exact hOf (L.fam.own j' hj') (L.far j j' (by omega) hj' hne)
    · rw [hU j e]; exact L.far j j' hj hj' hne
  · by_cases e : j = i
    · subst e
      rw [upr_same, hU j' (by omega)]
      exact hOf (L.own j' hj') (L.far2 j j' (by omega) hj' hne)
    · rw [hU j e]
      by_cases e' : j' = i
      · subst e'
        rw [upr_same]
        exact (hOf (L.own j hj) (L.far2 j' j (by omega) hj (by omega))).symm
      · rw [hU j' e']; exact L.far2 j j' hj hj' hne
  · by_cases e : j = i
    · subst e; rw [upr_same]; exact Nat.le_trans (L.len j hj) hl
    · rw [hU j e]; exact L.len j hj
end
/-- The rows' values in their order. -/
def vals (m : Nat) (f : Nat → Rw) : List Value := (List.range m).map (fun i => (f i).val)
theorem vals_len (m : Nat) (f : Nat → Rw) : (vals m f).length = m := by simp [vals]
theorem vals_at (m : Nat) (f : Nat → Rw) (i : Nat) (hi : i < m) : (vals m f)[i]? = some (f i).val := by simp [vals, hi]
theorem vals_succ (m : Nat) (f : Nat → Rw) : vals (m + 1) f = vals m f ++ [(f m).val] := by simp [vals, List.range_succ]
theorem vals_congr {m : Nat} {f g : Nat → Rw} (h : ∀ i, i < m → (f i).val = (g i).val) : vals m f = vals m g := by
  unfold vals
  exact List.map_congr_left (fun i hi => h i (by simpa using hi))
theorem vals_one (m : Nat) (f : Nat → Rw) : ∀ u ∈ vals m f, u.oneCell' = true := by
  intro u hu
  unfold vals at hu
  obtain ⟨i, _, rfl⟩ := List.mem_map.1 hu
  rfl
end

section
open Go.RowKit
set_option linter.unusedVariables false
set_option linter.unusedSimpArgs false

theorem kept_grown {l : List Nat} {w w' : World} {row : Option Nat} (h : Kept l w w') (hl : ∀ g ∈ l, row = some g) : w.grownBy w' row :=
  ⟨h.os, h.tape, h.output, h.size, fun k hk hne => h.block k hk (fun hm => hne (hl k hm).symm)⟩
theorem grown_kept {w w' : World} {row : Option Nat} (h : w.grownBy w' row) : Kept row.toList w w' := (Kept.refl _ w).grown h (fun k hk _ => by simp [hk])

/-- What a step leaves: all below B, and all rows but those of some types. -/
structure Chg (T : List TypeId) (B : Nat) (w w' : World) : Prop where
  bel : Below B w w'
  rows : ∀ (e : TypeId) (s : Nat) (r : Rw), e ∉ T → r.At e s B w → r.At e s B w'
theorem Chg.refl (T : List TypeId) (B : Nat) (w : World) : Chg T B w w := ⟨Below.refl _ _, fun _ _ _ _ h => h⟩
theorem Chg.trans {T : List TypeId} {B : Nat} {w w' w'' : World} (h : Chg T B w w') (h2 : Chg T B w' w'') : Chg T B w w'' := ⟨h.bel.trans h2.bel, fun e s r he hr => h2.rows e s r he (h.rows e s r he hr)⟩
theorem Chg.mono {T T' : List TypeId} {B : Nat} {w w' : World} (h : Chg T B w w') (hT : ∀ t ∈ T, t ∈ T') : Chg T' B w w' := ⟨h.bel, fun e s r he hr => h.rows e s r (fun hm => he (hT e hm)) hr⟩
theorem Chg.kept {T : List TypeId} {B : Nat} {w w' : World} (hk : Kept [] w w') (hB : B ≤ w.heap.size) : Chg T B w w' := ⟨hk.below hB (by simp), fun e s r _ hr => hr.keep (kept_grown (row := none) hk (by simp)) (Off.none _)⟩
theorem Chg.on {T : List TypeId} {B : Nat} {w w' : World} {e : TypeId} {s n : Nat} {v : Value} {xs : List Value} (ho : w.ownsRow B e s v n xs) (hg : w.grownBy w' v.ownBlock) (he : e ∈ T) (hB : B ≤ w.heap.size) : Chg T B w w' := by
  refine ⟨(grown_kept hg).below hB (fun i hi => ?_), fun e' s' r hne hr => hr.keep hg (own_types hr ho (fun h => hne (h ▸ he)))⟩
  exact (World.ownsRow.lt ho i (by simpa using hi)).1
/-- A cell that is no row's: of a type of its own. -/
theorem Chg.cell {T : List TypeId} {B : Nat} {w : World} {g k : Nat} {cs : Array Value} {t : TypeId} {fr : Nat × Nat} (hg : w.heap[g]? = some (.cells cs t fr)) (hb : B ≤ g) (ht : t ∈ T) (v : Value) : Chg T B w (w.setCell ⟨g, k, none⟩ v) := by
  have hk : Kept [g] w (w.setCell ⟨g, k, none⟩ v) := (Kept.refl [g] w).setCell (by simp) _
  have hB : B ≤ w.heap.size := by have := (Array.getElem?_eq_some_iff.1 hg).1; omega
  refine ⟨hk.below hB (fun i hi => by simp at hi; omega), fun e s r hne hr => hr.keep (kept_grown (row := some g) hk (fun x hx => by simp at hx; rw [hx])) (fun j hj hj2 => ?_)⟩
  cases hj2
  unfold Rw.blk Rw.val at hj
  unfold Rw.At Rw.val at hr
  rcases hr.2 with ⟨e1, _⟩ | ⟨g1, c1, cur1, e1, _, hg1, _⟩
  · rw [e1] at hj; simp [Value.ownBlock] at hj
  · rw [e1] at hj
    simp only [Value.ownBlock, Option.some.injEq] at hj
    subst hj
    rw [hg] at hg1
    injection hg1 with hg1
    injection hg1 with _ e2 _
    exact hne (e2 ▸ ht)

section
variable {e : TypeId} {s B : Nat} {w w' : World} {m : Nat} {h lf : Nat → Rw}
theorem Pf.nil (h lf : Nat → Rw) : Lx e s B w 0 h 0 lf := ⟨⟨fun i hi => absurd hi (by omega), fun i j hi => absurd hi (by omega)⟩, fun i hi => absurd hi (by omega), fun i j hi => absurd hi (by omega), fun i j hi => absurd hi (by omega), fun i hi => absurd hi (by omega)⟩
theorem Pf.kept (F : Lx e s B w m h m lf) (hk : Kept [] w w') : Lx e s B w' m h m lf := F.grow (kept_grown (row := none) hk (by simp)) (fun _ _ => Off.none _) (fun _ _ => Off.none _)
theorem Pf.chg {T : List TypeId} (F : Lx e s B w m h m lf) (hc : Chg T B w w') (he : e ∉ T) : Lx e s B w' m h m lf :=
  ⟨⟨fun i hi => hc.rows e s _ he (F.fam.own i hi), F.fam.apart⟩, fun i hi => hc.rows e s _ he (F.own i hi), F.far, F.far2, F.len⟩
/-- One row more, in a block of its own. -/
theorem Pf.more (F : Lx e s B w m h m lf) {r : Rw} (hr : r.At e s B w) (hn : ∀ i, i < m → Off (h i).blk r.blk ∧ Off (lf i).blk r.blk) : Lx e s B w (m + 1) (upr h m r) (m + 1) (upr lf m r) := by
  have hU : ∀ (f : Nat → Rw) j, j < m → upr f m r j = f j := fun f j hj => upr_other _ _ _ _ (by omega)
  refine ⟨F.fam.more hr (fun i hi => (hn i hi).1), fun j hj => ?_, fun j j' hj hj' hne => ?_, fun j j' hj hj' hne => ?_, fun j hj => ?_⟩
  · by_cases e : j = m
    · subst e; rw [upr_same]; exact hr
    · rw [hU lf j (by omega)]; exact F.own j (by omega)
  · by_cases e : j = m
    · subst e
      rw [upr_same, hU h j' (by omega)]
      exact (hn j' (by omega)).1.symm
    · rw [hU lf j (by omega)]
      by_cases e' : j' = m
      · subst e'; rw [upr_same]; exact (hn j (by omega)).2
      · rw [hU h j' (by omega)]; exact F.far j j' (by omega) (by omega) hne
  · by_cases e : j = m
    · subst e
      rw [upr_same, hU lf j' (by omega)]
      exact (hn j' (by omega)).2.symm
    · rw [hU lf j (by omega)]
      by_cases e' : j' = m
      · subst e'; rw [upr_same]; exact (hn j (by omega)).2
      · rw [hU lf j' (by omega)]; exact F.far2 j j' (by omega) (by omega) hne
  · by_cases e : j = m
    · subst e; rw [upr_same, upr_same]; exact Nat.le_refl _
    · rw [hU h j (by omega), hU lf j (by omega)]; exact F.len j (by omega)
/-- What a call answers is a row more. -/
theorem Pf.call (F : Lx e s B w m h m lf) {r : Rw} (hk : Kept [] w w') (hr : r.At e s w.heap.size w') (hB : B ≤ w.heap.size) : Lx e s B w' (m + 1) (upr h m r) (m + 1) (upr lf m r) := by
  have hr2 : r.At e s B w' := by
    refine ⟨hr.1, ?_⟩
    rcases hr.2 with h1 | ⟨g, cap, cur, h1, h2, h3⟩
    · exact .inl h1
    · exact .inr ⟨g, cap, cur, h1, Nat.le_trans hB h2, h3⟩
  refine Pf.more (Pf.kept F hk) hr2 (fun i hi => ?_)
  have hn : ∀ k, r.blk = some k → w.heap.size ≤ k := fun k hk => (World.ownsRow.lt hr k hk).1
  exact ⟨fun k h1 h2 => by have := (F.fam.own i hi).blk_lt h1; have := hn k h2; omega, fun k h1 h2 => by have := (F.own i hi).blk_lt h1; have := hn k h2; omega⟩
/-- One row is another one now, its place the same. -/
theorem Pf.turn (F : Lx e s B w m h m lf) {i : Nat} (hi : i < m) (hl : lf i = h i) {vs : List Value} (hn : (Rw.mk (h i).o (h i).c (h i).n vs).At e s B w') (hg : w.grownBy w' (h i).blk) : Lx e s B w' m (upr h i ⟨(h i).o, (h i).c, (h i).n, vs⟩) m (upr lf i ⟨(h i).o, (h i).c, (h i).n, vs⟩) := by
  have hv : (Rw.mk (h i).o (h i).c (h i).n vs).val = (h i).val := rfl
  have hv2 : (Rw.mk (h i).o (h i).c (h i).n vs).val = (lf i).val := by rw [hl]; rfl
  have hb2 : ∀ j, (upr h i ⟨(h i).o, (h i).c, (h i).n, vs⟩ j).blk = (h j).blk := fun j => by unfold Rw.blk; rw [upr_val h i _ hv]
  have hb3 : ∀ j, (upr lf i ⟨(h i).o, (h i).c, (h i).n, vs⟩ j).blk = (lf j).blk := fun j => by unfold Rw.blk; rw [upr_val lf i _ hv2]
  refine ⟨F.fam.turn hi hn hg, fun j hj => ?_, fun a b ha hb hab => by rw [hb2, hb3]; exact F.far a b ha hb hab, fun a b ha hb hab => by rw [hb3, hb3]; exact F.far2 a b ha hb hab, fun j hj => ?_⟩
  · by_cases e : j = i
    · subst e
      rw [upr_same]
      exact hn
    · rw [upr_other _ _ _ _ e]
      exact (F.own j hj).keep hg (F.far j i hj hi e)
  · by_cases e : j = i
    · subst e; rw [upr_same, upr_same]; exact Nat.le_refl _
    · rw [upr_other _ _ _ _ e, upr_other _ _ _ _ e]; exact F.len j hj
/-- A longer one goes on. -/
theorem Pf.app (F : Lx e s B w m h m lf) {i : Nat} (hi : i < m) {r : Rw} (hn : r.At e s B w') (hs : (lf i).At e s B w') (hg : w.grownBy w' (lf i).blk) (hb : r.blk = (lf i).blk ∨ ∀ k, r.blk = some k → w.heap.size ≤ k) (hl : (lf i).n ≤ r.n) : Lx e s B w' m h m (upr lf i r) := by
  have hU : ∀ j, j ≠ i → upr lf i r j = lf j := fun j hj => upr_other _ _ _ _ hj
  have hOf : ∀ {x : Rw}, x.At e s B w → Off (lf i).blk x.blk → Off r.blk x.blk := fun {x} hx ho => by
    rcases hb with hb | hb
    · rw [hb]; exact ho
    · intro k h1 h2
      have := hx.blk_lt h2
      have := hb k h1
      omega
  refine ⟨⟨fun j hj => ?_, F.fam.apart⟩, fun j hj => ?_, fun j j' hj hj' hne => ?_, fun j j' hj hj' hne => ?_, fun j hj => ?_⟩
  · by_cases e : j = i
    · subst e
      by_cases hbb : (h j).blk = (lf j).blk
      · exact own_front (F.fam.own j hj) (F.own j hj) hs hbb (F.len j hj)
      · exact (F.fam.own j hj).keep hg (fun k h1 h2 => hbb (by rw [h1, h2]))
    · exact (F.fam.own j hj).keep hg (F.far i j hi hj (by omega)).symm
  · by_cases e : j = i
    · subst e; rw [upr_same]; exact hn
    · rw [hU j e]; exact (F.own j hj).keep hg (F.far2 j i hj hi e)
  · by_cases e : j = i
    · subst e; rw [upr_same]; exact hOf (F.fam.own j' hj') (F.far j j' hj hj' hne)
    · rw [hU j e]; exact F.far j j' hj hj' hne
  · by_cases e : j = i
    · subst e
      rw [upr_same, hU j' (by omega)]
      exact hOf (F.own j' hj') (F.far2 j j' hj hj' hne)
    · rw [hU j e]
      by_cases e' : j' = i
      · subst e'
        rw [upr_same]
        exact (hOf (F.own j hj) (F.far2 j' j hj' hj (by omega))).symm
      · rw [hU j' e']; exact F.far2 j j' hj hj' hne
  · by_cases e : j = i
    · subst e; rw [upr_same]; exact Nat.le_trans (F.len j hj) hl
    · rw [hU j e]; exact F.len j hj
end
end

section
open Go.RowKit
set_option linter.unusedVariables false
set_option linter.unusedSimpArgs false

def mkB (k : Nat) : Nat := 1 + 2 * (k % 100)
def mkL (k : Nat) : Nat := 1000 + 2 * k
theorem mkB_lt (k : Nat) : mkB k ≤ 199 := by unfold mkB; omega
def ent (h lf : Nat → Rw) (en : Nat → Nat) (mk : Nat → Value) (k : Nat) : List Value := [(h (en k)).val, (lf (en k)).val, mk k]
def ents (h lf : Nat → Rw) (en : Nat → Nat) (mk : Nat → Value) (E : Nat) : List Value := (List.range E).flatMap (ent h lf en mk)
theorem ents_succ (h lf : Nat → Rw) (en : Nat → Nat) (mk : Nat → Value) (E : Nat) : ents h lf en mk (E + 1) = ents h lf en mk E ++ ent h lf en mk E := by simp [ents, List.range_succ]
theorem ents_len (h lf : Nat → Rw) (en : Nat → Nat) (mk : Nat → Value) : ∀ E, (ents h lf en mk E).length = E * 3
  | 0 => rfl
  | E + 1 => by rw [ents_succ, List.length_append, ents_len h lf en mk E]; simp [ent]; omega
theorem ents_congr {h lf h' lf' : Nat → Rw} {en en' : Nat → Nat} {mk : Nat → Value} : ∀ {E : Nat}, (∀ k, k < E → ent h lf en mk k = ent h' lf' en' mk k) → ents h lf en mk E = ents h' lf' en' mk E
  | 0, _ => rfl
  | E + 1, hc => by rw [ents_succ, ents_succ, hc E (by omega), ents_congr (fun k hk => hc k (by omega))]
theorem ents_at (h lf : Nat → Rw) (en : Nat → Nat) (mk : Nat → Value) : ∀ (E k j : Nat), k < E → j < 3 → (ents h lf en mk E)[k * 3 + j]? = (ent h lf en mk k)[j]?
  | 0, k, j, hk, _ => absurd hk (by omega)
  | E + 1, k, j, hk, hj => by
    rw [ents_succ]
    have hl := ents_len h lf en mk E
    by_cases e : k = E
    · subst e
      rw [List.getElem?_append_right (by omega), hl, show k * 3 + j - k * 3 = j by omega]
    · rw [List.getElem?_append_left (by omega)]
      exact ents_at h lf en mk E k j (by omega) hj
def updN (f : Nat → Nat) (i a : Nat) : Nat → Nat := fun j => if j = i then a else f j
theorem updN_same (f : Nat → Nat) (i a : Nat) : updN f i a i = a := by simp [updN]
theorem updN_other (f : Nat → Nat) (i a j : Nat) (h : j ≠ i) : updN f i a j = f j := by simp [updN, h]
theorem upr_upr (f : Nat → Rw) (i : Nat) (a b : Rw) : upr (upr f i a) i b = upr f i b := by
  funext j
  unfold upr
  split <;> rfl
theorem upr_self {f : Nat → Rw} {i : Nat} {a : Rw} (h : f i = a) : upr f i a = f := by
  funext j
  unfold upr
  split
  · next e => rw [e, h]
  · rfl

/-- One half of a Book: rows, longer ones, and a row that tells of some of them. -/
structure Half (e te : TypeId) (s B : Nat) (w : World) (m : Nat) (h lf : Nat → Rw) (en : Nat → Nat) (E : Nat) (mk : Nat → Value) (R : Rw) : Prop where
  fam : Lx e s B w m h m lf
  row : R.At te 3 B w
  rn : R.n = E
  rv : R.vs = ents h lf en mk E
  lt : ∀ k, k < E → en k < m
  inj : ∀ k j, k < E → j < E → k ≠ j → en k ≠ en j
section
variable {e te : TypeId} {s B : Nat} {w w' : World} {m : Nat} {h lf : Nat → Rw} {en : Nat → Nat} {E : Nat} {mk : Nat → Value} {R : Rw}
theorem Half.kept (H : Half e te s B w m h lf en E mk R) (hk : Kept [] w w') : Half e te s B w' m h lf en E mk R :=
  ⟨Pf.kept H.fam hk, H.row.keep (kept_grown (row := none) hk (by simp)) (Off.none _), H.rn, H.rv, H.lt, H.inj⟩
theorem Half.chg {T : List TypeId} (H : Half e te s B w m h lf en E mk R) (hc : Chg T B w w') (he : e ∉ T) (hte : te ∉ T) : Half e te s B w' m h lf en E mk R :=
  ⟨Pf.chg H.fam hc he, hc.rows _ _ _ hte H.row, H.rn, H.rv, H.lt, H.inj⟩
/-- What a call answers is a row more. -/
theorem Half.call (H : Half e te s B w m h lf en E mk R) {r : Rw} (hk : Kept [] w w') (hr : r.At e s w.heap.size w') (hB : B ≤ w.heap.size) : Half e te s B w' (m + 1) (upr h m r) (upr lf m r) en E mk R := by
  refine ⟨Pf.call H.fam hk hr hB, H.row.keep (kept_grown (row := none) hk (by simp)) (Off.none _), H.rn, ?_, fun k hk => by have := H.lt k hk; omega, H.inj⟩
  rw [H.rv]
  refine ents_congr (fun k hk => ?_)
  have := H.lt k hk
  unfold ent
  rw [upr_other _ _ _ _ (by omega), upr_other _ _ _ _ (by omega)]
end
theorem Rw.At.notIn {e : TypeId} {s B : Nat} {w : World} {r : Rw} (hr : r.At e s B w) {K : Nat} {cs : Array Value} {t : TypeId} {fr : Nat × Nat} (hK : w.heap[K]? = some (.cells cs t fr)) (hne : e ≠ t) : r.blk ≠ some K := by
  intro hj
  unfold Rw.blk Rw.val at hj
  unfold Rw.At Rw.val at hr
  rcases hr.2 with ⟨e1, _⟩ | ⟨g1, c1, cur1, e1, _, hg1, _⟩
  · rw [e1] at hj; simp [Value.ownBlock] at hj
  · rw [e1] at hj
    simp only [Value.ownBlock, Option.some.injEq] at hj
    subst hj
    rw [hK] at hg1
    injection hg1 with hg1
    injection hg1 with _ e2 _
    exact hne e2.symm
/-- The Book itself. -/
structure Bok (w : World) (B K : Nat) (R1 R2 : Rw) : Prop where
  cell : w.heap[K]? = some (.cells #[R1.val, R2.val] 60 (0, 0))
  ge : B ≤ K
theorem Bok.kept {l : List Nat} {w w' : World} {B K : Nat} {R1 R2 : Rw} (h : Bok w B K R1 R2) (hk : Kept l w w') (hn : K ∉ l) : Bok w' B K R1 R2 := ⟨(hk.block K (Array.getElem?_eq_some_iff.1 h.cell).1 hn).trans h.cell, h.ge⟩
theorem Bok.grown {w w' : World} {B K : Nat} {R1 R2 : Rw} (h : Bok w B K R1 R2) {e : TypeId} {s B' : Nat} {r : Rw} (hr : r.At e s B' w) (he : e ≠ 60) (hg : w.grownBy w' r.blk) : Bok w' B K R1 R2 :=
  ⟨(hg.block K (Array.getElem?_eq_some_iff.1 h.cell).1 (fun e2 => hr.notIn h.cell he e2.symm)).trans h.cell, h.ge⟩
theorem Try.infoRow3 : (Try.prog.info? 74).map (·.size) = some 3 := by kernel_rfl
theorem Try.infoRowB : (Try.prog.info? 74).map (fun i => (i.zero, i.size, i.bytes)) = some (some (.agg #[.slice none 0 0, .slice none 0 0, .int .u8 0]), 3, 56) := by kernel_rfl
theorem Try.zeroRow11 (W : World) : (zeroValue 74).run Try.prog W = .ok (.agg #[.slice none 0 0, .slice none 0 0, .int .u8 0]) W := by kernel_rfl
theorem three_allB (a b : Option Addr) (n1 c1 n2 c2 : Nat) (x : Int) : (#[.slice a n1 c1, .slice b n2 c2, .int .u8 x] : Array Value).all (·.oneCell') = true := by kernel_rfl
theorem three_allL (a b : Option Addr) (n1 c1 n2 c2 : Nat) (x : Int) : (#[.slice a n1 c1, .slice b n2 c2, .int .i64 x] : Array Value).all (·.oneCell') = true := by kernel_rfl

/-- The marked row. -/
def ovB (r : Rw) (x : Nat) (k : Nat) : Rw := ⟨r.o, r.c, r.n, List.replicate k (.int .u8 (x : Nat)) ++ r.vs.drop k⟩
theorem ovB_zero (r : Rw) (x : Nat) : ovB r x 0 = r := by unfold ovB; simp
theorem ovB_set (r : Rw) (x k : Nat) (hk : k < r.vs.length) : (ovB r x k).vs.set k (.int .u8 (x : Nat)) = (ovB r x (k + 1)).vs := by
  unfold ovB
  simp only
  rw [List.set_append_right _ _ (by simp), List.length_replicate, Nat.sub_self, List.drop_eq_getElem_cons hk, List.set_cons_zero, List.replicate_succ', List.append_assoc]
  rfl
def markB (r : Rw) (x : Nat) : Rw := ⟨r.o, r.c, r.n, List.replicate r.n (.int .u8 (x : Nat))⟩
theorem ovB_full (r : Rw) (x : Nat) (h : r.vs.length = r.n) : ovB r x r.n = markB r x := by
  unfold ovB markB
  rw [List.drop_of_length_le (by omega), List.append_nil]
def mkvB (k : Nat) : Value := .int .u8 (mkB k : Nat)

/-- The loop of take. -/
structure Tk (w wr : World) (B K gX m : Nat) (h lf : Nat → Rw) (en : Nat → Nat) (E : Nat) (R1 R2 : Rw) (i x k : Nat) : Prop where
  fam : Lx 5 1 B wr m (upr h i (ovB (h i) x k)) m (upr lf i (ovB (h i) x k))
  row : R1.At 74 3 B wr
  bok : Bok wr B K R1 R2
  xr : wr.heap[gX]? = some (.cells #[(h i).val, (h i).val, .int .u8 (x : Nat)] 74 (0, 0))
  chg : Chg [5, 74, 60] B w wr
theorem Tk.step {w wr : World} {B K gX m : Nat} {h lf : Nat → Rw} {en : Nat → Nat} {E : Nat} {R1 R2 : Rw} {i x k : Nat} (T : Tk w wr B K gX m h lf en E R1 R2 i x k) (hi : i < m) (hl : lf i = h i) (hv : (h i).vs.length = (h i).n) (hk : k < (h i).n) (hB : B ≤ wr.heap.size) :
    ∃ g, (h i).o = some ⟨g, 0, none⟩ ∧ (∃ u, wr.cell? ⟨g, k, none⟩ = some u) ∧ wr.frozen? ⟨g, k, none⟩ = false ∧ Tk w (wr.setCell ⟨g, k, none⟩ (.int .u8 (x : Nat))) B K gX m h lf en E R1 R2 i x (k + 1) := by
  have hA := T.fam.fam.own i hi
  rw [upr_same] at hA
  have hA' : wr.ownsRow B 5 1 (ovB (h i) x k).val (ovB (h i) x k).n (ovB (h i) x k).vs := hA
  obtain ⟨g, hg, hgo⟩ : ∃ g, (h i).o = some ⟨g, 0, none⟩ ∧ (ovB (h i) x k).blk = some g := by
    rcases hA'.2 with ⟨e1, e2⟩ | ⟨g, cap, cur, e1, _⟩
    · have e3 : (ovB (h i) x k).n = 0 := e2
      unfold ovB at e3
      simp only at e3
      omega
    · unfold Rw.val ovB at e1
      injection e1 with e3 _ _
      exact ⟨g, e3, by unfold Rw.blk Rw.val ovB; rw [e3]; rfl⟩
  have hval : (ovB (h i) x k).val = .slice (some ⟨g, 0, none⟩) (h i).n (h i).c := by unfold Rw.val ovB; rw [hg]
  rw [hval] at hA'
  obtain ⟨hn, hgr⟩ := Rw.At.set hA (g := g) (k := k) (by unfold ovB; exact hg) (.int .u8 (x : Nat))
  rw [ovB_set (h i) x k (by omega)] at hn
  have hbk := T.bok.grown hA (by decide) hgr
  have hc := hA'.cellAt k (by simpa [ovB] using hk)
  refine ⟨g, hg, ⟨_, by rw [hc, List.getElem?_eq_getElem (by simp [ovB]; omega)]⟩, hA'.frozenAt k, ?_, ?_, hbk, ?_, ?_⟩
  · have h2 := Pf.turn T.fam hi (by rw [upr_same, upr_same]) (vs := (ovB (h i) x (k + 1)).vs) (by rw [upr_same]; exact hn) (by rw [upr_same]; exact hgr)
    rw [upr_same, upr_upr, upr_upr] at h2
    exact h2
  · exact T.row.keep hgr (own_types T.row hA (by decide))
  · have hgX := T.xr
    exact (hgr.block gX (Array.getElem?_eq_some_iff.1 hgX).1 (fun e2 => hA.notIn hgX (by decide) e2.symm)).trans hgX
  · exact T.chg.trans (Chg.on hA hgr (by simp) hB)
end

end Go.Proofs.Ytdnbpklnkmgmkaa
