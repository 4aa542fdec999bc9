/-
  Rows of bytes of their own, side by side: what a write or an append to one of them leaves of the others.
-/
import Derived.Test.YtcgkjdchkpnldabXa2
import Derived.Laws.OwnMore
import Derived.Maps.AppendAt
namespace Go.Proofs.Ytcgkjdchkpnldab
open Go.RowKit
set_option linter.unusedVariables false
set_option linter.unusedSimpArgs false

structure Rr where
  o : Option Addr
  c : Nat
  xs : List UInt8
def rr0 : Rr := ⟨none, 0, []⟩
instance : Inhabited Rr := ⟨rr0⟩
def Rr.val (r : Rr) : Value := .slice r.o r.xs.length r.c
def Rr.At (B : Nat) (w : World) (r : Rr) : Prop := w.ownsRow B 5 1 r.val r.xs.length (bys r.xs)
def Rr.blk (r : Rr) : Option Nat := r.val.ownBlock
/-- Not the same block. -/
def Off (a b : Option Nat) : Prop := ∀ k, a = some k → b ≠ some k
theorem Off.symm {a b : Option Nat} (h : Off a b) : Off b a := fun k hb ha => h k ha hb
theorem Off.none (a : Option Nat) : Off a none := fun k _ h => by simp at h
theorem own_keep {w w' : World} {B : Nat} {e : TypeId} {v : Value} {n : Nat} {xs : List Value} {row : Option Nat} (h : w.ownsRow B e 1 v n xs) (hg : w.grownBy w' row) (hne : Off v.ownBlock row) : w'.ownsRow B e 1 v n xs := by
  refine h.kept hg ?_
  rcases hb : v.ownBlock with _ | k
  · exact .inl rfl
  · exact .inr (fun e => hne k hb e.symm)
theorem Rr.At.keep {B : Nat} {w w' : World} {r : Rr} {row : Option Nat} (h : r.At B w) (hg : w.grownBy w' row) (hne : Off r.blk row) : r.At B w' := own_keep h hg hne
theorem Rr.At.blk_lt {B : Nat} {w : World} {r : Rr} (h : r.At B w) {k : Nat} (hk : r.blk = some k) : k < w.heap.size := (World.ownsRow.lt h k hk).2
theorem Rr.At.new {B : Nat} {w : World} {r : Rr} (h : r.At B w) {k : Nat} (hk : w.heap.size ≤ k) : Off r.blk (some k) := fun j hj e => by
  have := h.blk_lt hj
  cases e
  omega
theorem Rr.At.sl {B : Nat} {w : World} {r : Rr} (h : r.At B w) : Sl w r.o r.xs := (own_slc h).1
/-- Two rows of two types lie in two blocks. -/
theorem own_types {w : World} {B B' : Nat} {e e' : TypeId} {v v' : Value} {n n' : Nat} {xs xs' : List Value} (h : w.ownsRow B e 1 v n xs) (h' : w.ownsRow B' e' 1 v' n' xs') (he : e ≠ e') : Off v.ownBlock v'.ownBlock := by
  intro k hk hk'
  rcases h.2 with ⟨rfl, _⟩ | ⟨g, cap, cur, rfl, _, hg, _⟩
  · simp [Value.ownBlock] at hk
  rcases h'.2 with ⟨rfl, _⟩ | ⟨g', cap', cur', rfl, _, hg', _⟩
  · simp [Value.ownBlock] at hk'
  simp only [Value.ownBlock, Option.some.injEq] at hk hk'
  subst hk
  subst hk'
  rw [hg] at hg'
  injection hg' with hg'
  injection hg' with _ e2 _
  exact he e2
/-- A shorter row in the front of a longer one's block. -/
theorem own_front {w w' : World} {B : Nat} {e : TypeId} {v v' : Value} {n N : Nat} {xs XS : List Value} (h : w.ownsRow B e 1 v n xs) (hL : w.ownsRow B e 1 v' N XS) (hL' : w'.ownsRow B e 1 v' N XS) (hb : v.ownBlock = v'.ownBlock) (hn : n ≤ N) : w'.ownsRow B e 1 v n xs := by
  rcases h.2 with ⟨rfl, h0⟩ | ⟨g, cap, cur, rfl, hbg, hg, hnc, hcm, hcs, htake⟩
  · exact ⟨h.1, .inl ⟨rfl, h0⟩⟩
  rcases hL.2 with ⟨rfl, _⟩ | ⟨g1, cap1, cur1, rfl, _, hg1, hnc1, _, hcs1, htake1⟩
  · simp [Value.ownBlock] at hb
  simp only [Value.ownBlock, Option.some.injEq] at hb
  subst hb
  rcases hL'.2 with ⟨e2, _⟩ | ⟨g2, cap2, cur2, e2, _, hg2, hnc2, _, hcs2, htake2⟩
  · simp at e2
  simp only [Value.slice.injEq, Option.some.injEq, Addr.mk.injEq, and_true, true_and] at e2
  obtain ⟨rfl, rfl⟩ := e2
  rw [hg] at hg1
  injection hg1 with hg1
  injection hg1 with hg1 _ _
  subst hg1
  refine ⟨h.1, .inr ⟨g, cap, cur2, rfl, hbg, hg2, hnc, hcm, by omega, ?_⟩⟩
  rw [← htake]
  have h1 := congrArg (List.take (n * 1)) htake1
  have h2 := congrArg (List.take (n * 1)) htake2
  rw [List.take_take, Nat.min_eq_left (by omega)] at h1 h2
  rw [h1, h2]

/-- append of one byte: the row that was appended to stands too. -/
theorem run_append_both (w : World) (B : Nat) (r : Rr) (y : UInt8) (yb : Nat) (hown : r.At B w) (hy : Sl w (some ⟨yb, 0, none⟩) [y]) (hl : r.xs.length + 1 ≤ 140737488355328) (hb : B ≤ w.heap.size) :
    ∃ g c w', (Builtin.append_ #[22, 22] 22 #[r.val, .slice (some ⟨yb, 0, none⟩) 1 1]).run Try.prog w = .ok (.slice (some ⟨g, 0, none⟩) (r.xs.length + 1) c) w' ∧ (Rr.mk (some ⟨g, 0, none⟩) c (r.xs ++ [y])).At B w' ∧ r.At B w' ∧ w.grownBy w' r.blk ∧ (some g = r.blk ∨ g = w.heap.size) := by
  obtain ⟨i0, hi, hz0, hz1, hz2⟩ := info_parts Try.infoByte
  have hcl : ∀ j u, (bys [y])[j]? = some u → w.cell? ((⟨yb, 0, none⟩ : Addr).add j) = some u := Sl.cells (fun i hi => by obtain ⟨b', off', e', hc⟩ := hy i hi; cases e'; exact hc)
  obtain ⟨v', w', hrun, h1, h2, h3, h4⟩ := run_append_own_at (P := Try.prog) w B 22 22 5 i0 (.int .u8 0) 1 1 Try.underlying22 hi hz0 hz1 hz2 rfl (by decide) _ r.xs.length (bys r.xs) hown ⟨yb, 0, none⟩ 1 1 (bys [y]) (by simp [bys_length])
    hcl (bys_oneCell _) (by unfold maxLen; omega) (by omega) hb
  rw [← bys_append] at h1
  obtain ⟨g, c, hv, _⟩ := own_sl h1 (fun e => by have := (h3.1 e).2; omega)
  have hstay : w'.ownsRow B 5 1 r.val r.xs.length (bys r.xs) := by
    rcases hown.2 with ⟨e, e2⟩ | ⟨q, cap, cur, e, hbg, hg, hnc, hcm, hcs, htake⟩
    · exact ⟨hown.1, .inl ⟨e, e2⟩⟩
    · by_cases hroom : r.xs.length + 1 ≤ cap
      · have hr := run_append_room (P := Try.prog) w 22 22 5 i0 Try.underlying22 hi q r.xs.length cap cur hg ⟨yb, 0, none⟩ 1 1 (bys [y]) (by simp [bys_length, hz1]) hcl (bys_oneCell _) hroom (by rw [hz1, bys_length]; simp; omega)
        rw [e, hr] at hrun
        injection hrun with _ hw
        subst hw
        refine ⟨hown.1, .inr ⟨q, cap, _, e, hbg, setRow_heap w q cur _ _ _ hg, hnc, hcm, ?_, ?_⟩⟩
        · simp only [List.size_toArray, List.length_append, List.length_take, List.length_drop, Array.length_toList, bys_length, hz1]
          simp
          omega
        · rw [hz1, ← htake]
          simp only [List.append_assoc]
          rw [List.take_append_of_le_length (by simp; omega), List.take_take, Nat.min_self]
      · have hr := run_append_grow (P := Try.prog) w 22 22 5 i0 (.int .u8 0) Try.underlying22 hi hz0 ⟨q, 0, none⟩ r.xs.length cap (bys r.xs) (by simp [bys_length, hz1]) (hown.cells (g := q) (by rw [e]; rfl)) ⟨yb, 0, none⟩ 1 1 (bys [y]) (by simp [bys_length, hz1]) hcl (by omega) (by omega) (growslice_fits (by unfold maxLen at *; omega) (by rw [hz2]; omega))
        rw [e, hr] at hrun
        injection hrun with _ hw
        subst hw
        exact ⟨hown.1, .inr ⟨q, cap, cur, e, hbg, ((World.grownBy_alloc w.drew _ none).block q (Array.getElem?_eq_some_iff.1 hg).1 (by simp)).trans hg, hnc, hcm, hcs, htake⟩⟩
  subst hv
  refine ⟨g, c, w', hrun, ?_, hstay, h2, ?_⟩
  · show w'.ownsRow B 5 1 (.slice (some ⟨g, 0, none⟩) (r.xs ++ [y]).length c) (r.xs ++ [y]).length (bys (r.xs ++ [y]))
    rw [show (r.xs ++ [y]).length = r.xs.length + 1 by simp]
    exact h1
  · rcases h4 with h4 | h4
    · exact .inl h4
    · simp only [Value.ownBlock, Option.some.injEq] at h4
      exact .inr h4

def upr (f : Nat → Rr) (i : Nat) (a : Rr) : Nat → Rr := fun j => if j = i then a else f j
theorem upr_same (f : Nat → Rr) (i : Nat) (a : Rr) : upr f i a i = a := by simp [upr]
theorem upr_other (f : Nat → Rr) (i j : Nat) (a : Rr) (h : j ≠ i) : upr f i a j = f j := by simp [upr, h]
theorem upr_val (f : Nat → Rr) (i : Nat) (a : Rr) (h : a.val = (f i).val) (j : Nat) : (upr f i a j).val = (f j).val := by
  by_cases e : j = i
  · subst e; rw [upr_same, h]
  · rw [upr_other _ _ _ _ e]

structure Fam (B : Nat) (w : World) (m : Nat) (h : Nat → Rr) : Prop where
  own : ∀ i, i < m → (h i).At B w
  apart : ∀ i j, i < m → j < m → i ≠ j → Off (h i).blk (h j).blk

theorem Fam.grow {B : Nat} {w w' : World} {m : Nat} {h : Nat → Rr} {row : Option Nat} (F : Fam B w m h) (hg : w.grownBy w' row) (hr : ∀ i, i < m → Off (h i).blk row) : Fam B w' m h :=
  ⟨fun i hi => (F.own i hi).keep hg (hr i hi), F.apart⟩

/-- One cell of one row is written. -/
theorem Fam.set {B : Nat} {w : World} {m : Nat} {h : Nat → Rr} (F : Fam B w m h) {i g k : Nat} (hi : i < m) (ho : (h i).o = some ⟨g, 0, none⟩) (x : UInt8) :
    Fam B (w.setCell ⟨g, k, none⟩ (.int .u8 x.toNat)) m (upr h i ⟨(h i).o, (h i).c, (h i).xs.set k x⟩) ∧ w.grownBy (w.setCell ⟨g, k, none⟩ (.int .u8 x.toNat)) (some g) := by
  have hat := F.own i hi
  unfold Rr.At Rr.val at hat
  rw [ho] at hat
  obtain ⟨h1, h2⟩ := hat.stored k (.int .u8 x.toNat)
  rw [bys_set] at h1
  have hbi : (h i).blk = some g := by unfold Rr.blk Rr.val; rw [ho]; rfl
  have hv : (Rr.mk (h i).o (h i).c ((h i).xs.set k x)).val = (h i).val := by unfold Rr.val; simp
  have hb2 : ∀ j, (upr h i ⟨(h i).o, (h i).c, (h i).xs.set k x⟩ j).blk = (h j).blk := fun j => by unfold Rr.blk; rw [upr_val h i _ hv]
  refine ⟨⟨fun j hj => ?_, fun a b ha hb hab => by rw [hb2, hb2]; exact F.apart a b ha hb hab⟩, h2⟩
  by_cases e : j = i
  · subst e
    rw [upr_same]
    unfold Rr.At Rr.val
    simp only [List.length_set, ho]
    exact h1
  · rw [upr_other _ _ _ _ e]
    exact (F.own j hj).keep h2 (by rw [← hbi]; exact F.apart j i hj hi e)

/-- Rows, and longer ones that went out of the first c of them. -/
structure Lx (B : Nat) (w : World) (m : Nat) (h : Nat → Rr) (c : Nat) (lf : Nat → Rr) : Prop where
  fam : Fam B w m h
  own : ∀ j, j < c → (lf j).At B w
  far : ∀ j j', j < c → j' < m → j ≠ j' → Off (lf j).blk (h j').blk
  far2 : ∀ j j', j < c → j' < c → j ≠ j' → Off (lf j).blk (lf j').blk
  len : ∀ j, j < c → (h j).xs.length ≤ (lf j).xs.length

theorem Lx.grow {B : Nat} {w w' : World} {m c : Nat} {h lf : Nat → Rr} {row : Option Nat} (L : Lx B w m h c lf) (hg : w.grownBy w' row) (hr : ∀ i, i < m → Off (h i).blk row) (hr2 : ∀ i, i < c → Off (lf i).blk row) : Lx B w' m h c lf :=
  ⟨L.fam.grow hg hr, fun j hj => (L.own j hj).keep hg (hr2 j hj), L.far, L.far2, L.len⟩

theorem Lx.start {B : Nat} {w : World} {m i : Nat} {h lf : Nat → Rr} (L : Lx B w m h i lf) (hi : i < m) : Lx B w m h (i + 1) (upr lf i (h i)) := by
  have hU : ∀ j, j < i → upr lf i (h i) j = lf j := fun j hj => upr_other _ _ _ _ (by omega)
  refine ⟨L.fam, fun j hj => ?_, fun j j' hj hj' hne => ?_, fun j j' hj hj' hne => ?_, fun j hj => ?_⟩
  · by_cases e : j = i
    · subst e; rw [upr_same]; exact L.fam.own j hi
    · rw [hU j (by omega)]; exact L.own j (by omega)
  · by_cases e : j = i
    · subst e; rw [upr_same]; exact L.fam.apart j j' hi hj' hne
    · rw [hU j (by omega)]; exact L.far j j' (by omega) hj' hne
  · by_cases e : j = i
    · subst e
      rw [upr_same, hU j' (by omega)]
      exact (L.far j' j (by omega) hi (by omega)).symm
    · rw [hU j (by omega)]
      by_cases e' : j' = i
      · subst e'; rw [upr_same]; exact L.far j j' (by omega) hi (by omega)
      · rw [hU j' (by omega)]; exact L.far2 j j' (by omega) (by omega) hne
  · by_cases e : j = i
    · subst e; rw [upr_same]; exact Nat.le_refl _
    · rw [hU j (by omega)]; exact L.len j (by omega)

/-- The last of the longer ones goes on. -/
theorem Lx.app {B : Nat} {w w' : World} {m i : Nat} {h lf : Nat → Rr} {r : Rr} (L : Lx B w m h (i + 1) lf) (hi : i < m) (hn : r.At B w') (hs : (lf i).At B w') (hg : w.grownBy w' (lf i).blk) (hb : r.blk = (lf i).blk ∨ r.blk = some w.heap.size) (hl : (lf i).xs.length ≤ r.xs.length) : Lx B w' m h (i + 1) (upr lf i r) := by
  have hU : ∀ j, j ≠ i → upr lf i r j = lf j := fun j hj => upr_other _ _ _ _ hj
  have hOf : ∀ {s : Rr}, s.At B w → Off (lf i).blk s.blk → Off r.blk s.blk := fun {s} hs ho => by
    rcases hb with hb | hb
    · rw [hb]; exact ho
    · rw [hb]; exact (hs.new (Nat.le_refl _)).symm
  refine ⟨⟨fun j hj => ?_, L.fam.apart⟩, fun j hj => ?_, fun j j' hj hj' hne => ?_, fun j j' hj hj' hne => ?_, fun j hj => ?_⟩
  · by_cases e : j = i
    · subst e
      by_cases hbb : (h j).blk = (lf j).blk
      · exact own_front (L.fam.own j hj) (L.own j (by omega)) hs hbb (L.len j (by omega))
      · exact (L.fam.own j hj).keep hg (fun k h1 h2 => hbb (by rw [h1, h2]))
    · exact (L.fam.own j hj).keep hg (L.far i j (by omega) hj (by omega)).symm
  · by_cases e : j = i
    · subst e; rw [upr_same]; exact hn
    · rw [hU j e]; exact (L.own j hj).keep hg (L.far2 j i hj (by omega) e)
  · by_cases e : j = i
    · subst e; rw [upr_same]; exact hOf (L.fam.own j' hj') (L.far j j' (by omega) hj' hne)
    · rw [hU j e]; exact L.far j j' hj hj' hne
  · by_cases e : j = i
    · subst e
      rw [upr_same, hU j' (by omega)]
      exact hOf (L.own j' hj') (L.far2 j j' (by omega) hj' hne)
    · rw [hU j e]
      by_cases e' : j' = i
      · subst e'
        rw [upr_same]
        exact (hOf (L.own j hj) (L.far2 j' j (by omega) hj (by omega))).symm
      · rw [hU j' e']; exact L.far2 j j' hj hj' hne
  · by_cases e : j = i
    · subst e; rw [upr_same]; exact Nat.le_trans (L.len j hj) hl
    · rw [hU j e]; exact L.len j hj

/-- The rows' values in their order. -/
def vals (m : Nat) (f : Nat → Rr) : List Value := (List.range m).map (fun i => (f i).val)
theorem vals_len (m : Nat) (f : Nat → Rr) : (vals m f).length = m := by simp [vals]
theorem vals_at (m : Nat) (f : Nat → Rr) (i : Nat) (hi : i < m) : (vals m f)[i]? = some (f i).val := by simp [vals, hi]
theorem vals_succ (m : Nat) (f : Nat → Rr) : vals (m + 1) f = vals m f ++ [(f m).val] := by simp [vals, List.range_succ]
theorem vals_congr {m : Nat} {f g : Nat → Rr} (h : ∀ i, i < m → (f i).val = (g i).val) : vals m f = vals m g := by
  unfold vals
  exact List.map_congr_left (fun i hi => h i (by simpa using hi))
theorem vals_one (m : Nat) (f : Nat → Rr) : ∀ u ∈ vals m f, u.oneCell' = true := by
  intro u hu
  unfold vals at hu
  obtain ⟨i, _, rfl⟩ := List.mem_map.1 hu
  rfl

theorem Try.infoRow : (Try.prog.info? 22).map (fun i => (i.zero, i.size, i.bytes)) = some (some (.slice none 0 0), 1, 24) := by kernel_rfl
/-- append of rows to a row of rows. -/
theorem run_append_rows (w : World) (B : Nat) (ao : Option Addr) (n cap : Nat) (xs ys : List Value) (yb m : Nat) (hown : w.ownsRow B 22 1 (.slice ao n cap) n xs) (hy : ∀ j u, ys[j]? = some u → w.cell? ⟨yb, j, none⟩ = some u) (hm : ys.length = m) (hm0 : 0 < m) (h1 : ∀ u ∈ ys, u.oneCell' = true) (hl : n + m ≤ 1000000) (hb : B ≤ w.heap.size) :
    ∃ g c w', (Builtin.append_ #[31, 31] 31 #[.slice ao n cap, .slice (some ⟨yb, 0, none⟩) m m]).run Try.prog w = .ok (.slice (some ⟨g, 0, none⟩) (n + m) c) w' ∧ w'.ownsRow B 22 1 (.slice (some ⟨g, 0, none⟩) (n + m) c) (n + m) (xs ++ ys) ∧ w.grownBy w' (Value.slice ao n cap).ownBlock ∧ (some g = (Value.slice ao n cap).ownBlock ∨ g = w.heap.size) := by
  obtain ⟨i0, hi, hz0, hz1, hz2⟩ := info_parts Try.infoRow
  obtain ⟨v', w', hrun, h1', h2, h3, h4⟩ := run_append_own_at (P := Try.prog) w B 31 31 22 i0 (.slice none 0 0) 1 24 Try.underlying31 hi hz0 hz1 hz2 rfl (by decide) _ n xs hown ⟨yb, 0, none⟩ m m ys (by omega)
    (fun j u hj => by rw [show ((⟨yb, 0, none⟩ : Addr).add j) = ⟨yb, j, none⟩ from by unfold Addr.add; by_cases h : j = 0 <;> simp [h]]; exact hy j u hj) h1 (by unfold maxLen; omega) (by omega) hb
  obtain ⟨g, c, hv⟩ : ∃ g c, v' = .slice (some ⟨g, 0, none⟩) (n + m) c := by
    rcases h1'.2 with ⟨e, e2⟩ | ⟨g, cap', cur, e, _⟩
    · omega
    · exact ⟨g, cap', e⟩
  subst hv
  refine ⟨g, c, w', hrun, h1', h2, ?_⟩
  rcases h4 with h4 | h4
  · exact .inl h4
  · simp only [Value.ownBlock, Option.some.injEq] at h4
    exact .inr h4

end Go.Proofs.Ytcgkjdchkpnldab
