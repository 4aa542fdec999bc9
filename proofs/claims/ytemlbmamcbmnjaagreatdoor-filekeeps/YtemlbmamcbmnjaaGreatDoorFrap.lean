import Derived.Test.YtemlbmamcbmnjaaGreatDoorFqbp
import Derived.Test.YtemlbmamcbmnjaaGreatDoorLdap
import Derived.Laws.OwnMore
import Derived.Maps.AppendAt
namespace Go.Proofs.YtemlbmamcbmnjaaGreatDoor
section
open Go.RowKit
set_option linter.unusedVariables false
set_option linter.unusedSimpArgs false

theorem own_slc {w : World} {base : Nat} {bo : Option Addr} {n bc : Nat} {xs : List UInt8} (h : w.ownsRow base 5 1 (.slice bo n bc) n (bys xs)) : Sl w bo xs ∧ n ≤ bc ∧ (bo = none → xs = [] ∧ bc = 0) ∧ (∀ a, bo = some a → base ≤ a.block ∧ a.block < w.heap.size ∧ a.spot = none) := by
  rcases h.2 with ⟨e, e2⟩ | ⟨g, cap, cur, e, hb, hg, hn, _, hs, ht⟩
  · injection e with e1 _ e3
    subst e1 e3
    have : xs = [] := List.eq_nil_of_length_eq_zero (by have := h.1; rw [bys_length, e2] at this; simpa using this)
    subst this
    exact ⟨Sl.nil _ _, by omega, fun _ => ⟨rfl, rfl⟩, by simp⟩
  · obtain ⟨g', cap', e', h1, h2, h3, h4⟩ := own_sl h (by rw [e]; simp)
    injection e' with e1 _ e3
    subst e1 e3
    exact ⟨h4, h3, by simp, fun a ha => by cases ha; exact ⟨h1, h2, rfl⟩⟩
structure Rr where
  o : Option Addr
  c : Nat
  xs : List UInt8
def rr0 : Rr := ⟨none, 0, []⟩
instance : Inhabited Rr := ⟨rr0⟩
def Rr.val (r : Rr) : Value := .slice r.o r.xs.length r.c
def Rr.At (B : Nat) (w : World) (r : Rr) : Prop := w.ownsRow B 5 1 r.val r.xs.length (bys r.xs)
def Rr.blk (r : Rr) : Option Nat := r.val.ownBlock
/-- Not the same block. -/
def Off (a b : Option Nat) : Prop := ∀ k, a = some k → b ≠ some k
theorem Off.symm {a b : Option Nat} (h : Off a b) : Off b a := fun k hb ha => h k ha hb
theorem Off.none (a : Option Nat) : Off a none := fun k _ h => by simp at h
theorem own_keep {w w' : World} {B : Nat} {e : TypeId} {v : Value} {n : Nat} {xs : List Value} {row : Option Nat} (h : w.ownsRow B e 1 v n xs) (hg : w.grownBy w' row) (hne : Off v.ownBlock row) : w'.ownsRow B e 1 v n xs := by
  refine h.kept hg ?_
  rcases hb : v.ownBlock with _ | k
  · exact .inl rfl
  · exact .inr (fun e => hne k hb e.symm)
theorem Rr.At.keep {B : Nat} {w w' : World} {r : Rr} {row : Option Nat} (h : r.At B w) (hg : w.grownBy w' row) (hne : Off r.blk row) : r.At B w' := own_keep h hg hne
theorem Rr.At.blk_lt {B : Nat} {w : World} {r : Rr} (h : r.At B w) {k : Nat} (hk : r.blk = some k) : k < w.heap.size := (World.ownsRow.lt h k hk).2
theorem Rr.At.new {B : Nat} {w : World} {r : Rr} (h : r.At B w) {k : Nat} (hk : w.heap.size ≤ k) : Off r.blk (some k) := fun j hj e => by
  have := h.blk_lt hj
  cases e
  omega
theorem Rr.At.sl {B : Nat} {w : World} {r : Rr} (h : r.At B w) : Sl w r.o r.xs := (own_slc h).1
/-- Two rows of two types lie in two blocks. -/
theorem own_types {w : World} {B B' : Nat} {e e' : TypeId} {v v' : Value} {n n' : Nat} {xs xs' : List Value} (h : w.ownsRow B e 1 v n xs) (h' : w.ownsRow B' e' 1 v' n' xs') (he : e ≠ e') : Off v.ownBlock v'.ownBlock := by
  intro k hk hk'
  rcases h.2 with ⟨rfl, _⟩ | ⟨g, cap, cur, rfl, _, hg, _⟩
  · simp [Value.ownBlock] at hk
  rcases h'.2 with ⟨rfl, _⟩ | ⟨g', cap', cur', rfl, _, hg', _⟩
  · simp [Value.ownBlock] at hk'
  simp only [Value.ownBlock, Option.some.injEq] at hk hk'
  subst hk
  subst hk'
  rw [hg] at hg'
  injection hg' with hg'
  injection hg' with _ e2 _
  exact he e2
/-- A shorter row in the front of a longer one's block. -/
theorem own_front {w w' : World} {B : Nat} {e : TypeId} {v v' : Value} {n N : Nat} {xs XS : List Value} (h : w.ownsRow B e 1 v n xs) (hL : w.ownsRow B e 1 v' N XS) (hL' : w'.ownsRow B e 1 v' N XS) (hb : v.ownBlock = v'.ownBlock) (hn : n ≤ N) : w'.ownsRow B e 1 v n xs := by
  rcases h.2 with ⟨rfl, h0⟩ | ⟨g, cap, cur, rfl, hbg, hg, hnc, hcm, hcs, htake⟩
  · exact ⟨h.1, .inl ⟨rfl, h0⟩⟩
  rcases hL.2 with ⟨rfl, _⟩ | ⟨g1, cap1, cur1, rfl, _, hg1, hnc1, _, hcs1, htake1⟩
  · simp [Value.ownBlock] at hb
  simp only [Value.ownBlock, Option.some.injEq] at hb
  subst hb
  rcases hL'.2 with ⟨e2, _⟩ | ⟨g2, cap2, cur2, e2, _, hg2, hnc2, _, hcs2, htake2⟩
  · simp at e2
  simp only [Value.slice.injEq, Option.some.injEq, Addr.mk.injEq, and_true, true_and] at e2
  obtain ⟨rfl, rfl⟩ := e2
  rw [hg] at hg1
  injection hg1 with hg1
  injection hg1 with hg1 _ _
  subst hg1
  refine ⟨h.1, .inr ⟨g, cap, cur2, rfl, hbg, hg2, hnc, hcm, by omega, ?_⟩⟩
  rw [← htake]
  have h1 := congrArg (List.take (n * 1)) htake1
  have h2 := congrArg (List.take (n * 1)) htake2
  rw [List.take_take, Nat.min_eq_left (by omega)] at h1 h2
  rw [h1, h2]

/-- append of one byte: the row that was appended to stands too. -/
theorem run_append_both (w : World) (B : Nat) (r : Rr) (y : UInt8) (yb : Nat) (hown : r.At B w) (hy : Sl w (some ⟨yb, 0, none⟩) [y]) (hl : r.xs.length + 1 ≤ 140737488355328) (hb : B ≤ w.heap.size) :
    ∃ g c w', (Builtin.append_ #[28, 28] 28 #[r.val, .slice (some ⟨yb, 0, none⟩) 1 1]).run Tryz.prog w = .ok (.slice (some ⟨g, 0, none⟩) (r.xs.length + 1) c) w' ∧ (Rr.mk (some ⟨g, 0, none⟩) c (r.xs ++ [y])).At B w' ∧ r.At B w' ∧ w.grownBy w' r.blk ∧ (some g = r.blk ∨ g = w.heap.size) := by
  obtain ⟨i0, hi, hz0, hz1, hz2⟩ := info_parts Tryz.infoByte
  have hcl : ∀ j u, (bys [y])[j]? = some u → w.cell? ((⟨yb, 0, none⟩ : Addr).add j) = some u := Sl.cells (fun i hi => by obtain ⟨b', off', e', hc⟩ := hy i hi; cases e'; exact hc)
  obtain ⟨v', w', hrun, h1, h2, h3, h4⟩ := run_append_own_at (P := Tryz.prog) w B 28 28 5 i0 (.int .u8 0) 1 1 Tryz.underlying28 hi hz0 hz1 hz2 rfl (by decide) _ r.xs.length (bys r.xs) hown ⟨yb, 0, none⟩ 1 1 (bys [y]) (by simp [bys_length])
    hcl (bys_oneCell _) (by unfold maxLen; omega) (by omega) hb
  rw [← bys_append] at h1
  obtain ⟨g, c, hv, _⟩ := own_sl h1 (fun e => by have := (h3.1 e).2; omega)
  have hstay : w'.ownsRow B 5 1 r.val r.xs.length (bys r.xs) := by
    rcases hown.2 with ⟨e, e2⟩ | ⟨q, cap, cur, e, hbg, hg, hnc, hcm, hcs, htake⟩
    · exact ⟨hown.1, .inl ⟨e, e2⟩⟩
    · by_cases hroom : r.xs.length + 1 ≤ cap
      · have hr := run_append_room (P := Tryz.prog) w 28 28 5 i0 Tryz.underlying28 hi q r.xs.length cap cur hg ⟨yb, 0, none⟩ 1 1 (bys [y]) (by simp [bys_length, hz1]) hcl (bys_oneCell _) hroom (by rw [hz1, bys_length]; simp; omega)
        rw [e, hr] at hrun
        injection hrun with _ hw
        subst hw
        refine ⟨hown.1, .inr ⟨q, cap, _, e, hbg, setRow_heap w q cur _ _ _ hg, hnc, hcm, ?_, ?_⟩⟩
        · simp only [List.size_toArray, List.length_append, List.length_take, List.length_drop, Array.length_toList, bys_length, hz1]
          simp
          omega
        · rw [hz1, ← htake]
          simp only [List.append_assoc]
          rw [List.take_append_of_le_length (by simp; omega), List.take_take, Nat.min_self]
      · have hr := run_append_grow (P := Tryz.prog) w 28 28 5 i0 (.int .u8 0) Tryz.underlying28 hi hz0 ⟨q, 0, none⟩ r.xs.length cap (bys r.xs) (by simp [bys_length, hz1]) (hown.cells (g := q) (by rw [e]; rfl)) ⟨yb, 0, none⟩ 1 1 (bys [y]) (by simp [bys_length, hz1]) hcl (by omega) (by omega) (growslice_fits (by unfold maxLen at *; omega) (by rw [hz2]; omega))
        rw [e, hr] at hrun
        injection hrun with _ hw
        subst hw
        exact ⟨hown.1, .inr ⟨q, cap, cur, e, hbg, ((World.grownBy_alloc w.drew _ none).block q (Array.getElem?_eq_some_iff.1 hg).1 (by simp)).trans hg, hnc, hcm, hcs, htake⟩⟩
  subst hv
  refine ⟨g, c, w', hrun, ?_, hstay, h2, ?_⟩
  · show w'.ownsRow B 5 1 (.slice (some ⟨g, 0, none⟩) (r.xs ++ [y]).length c) (r.xs ++ [y]).length (bys (r.xs ++ [y]))
    rw [show (r.xs ++ [y]).length = r.xs.length + 1 by simp]
    exact h1
  · rcases h4 with h4 | h4
    · exact .inl h4
    · simp only [Value.ownBlock, Option.some.injEq] at h4
      exact .inr h4

def upr (f : Nat → Rr) (i : Nat) (a : Rr) : Nat → Rr := fun j => if j = i then a else f j
theorem upr_same (f : Nat → Rr) (i : Nat) (a : Rr) : upr f i a i = a := by simp [upr]
theorem upr_other (f : Nat → Rr) (i j : Nat) (a : Rr) (h : j ≠ i) : upr f i a j = f j := by simp [upr, h]
theorem upr_val (f : Nat → Rr) (i : Nat) (a : Rr) (h : a.val = (f i).val) (j : Nat) : (upr f i a j).val = (f j).val := by
  by_cases e : j = i
  · subst e; rw [upr_same, h]
  · rw [upr_other _ _ _ _ e]

structure Fam (B : Nat) (w : World) (m : Nat) (h : Nat → Rr) : Prop where
  own : ∀ i, i < m → (h i).At B w
  apart : ∀ i j, i < m → j < m → i ≠ j → Off (h i).blk (h j).blk

theorem Fam.grow {B : Nat} {w w' : World} {m : Nat} {h : Nat → Rr} {row : Option Nat} (F : Fam B w m h) (hg : w.grownBy w' row) (hr : ∀ i, i < m → Off (h i).blk row) : Fam B w' m h :=
  ⟨fun i hi => (F.own i hi).keep hg (hr i hi), F.apart⟩

/-- One cell of one row is written. -/
theorem Fam.set {B : Nat} {w : World} {m : Nat} {h : Nat → Rr} (F : Fam B w m h) {i g k : Nat} (hi : i < m) (ho : (h i).o = some ⟨g, 0, none⟩) (x : UInt8) :
    Fam B (w.setCell ⟨g, k, none⟩ (.int .u8 x.toNat)) m (upr h i ⟨(h i).o, (h i).c, (h i).xs.set k x⟩) ∧ w.grownBy (w.setCell ⟨g, k, none⟩ (.int .u8 x.toNat)) (some g) := by
  have hat := F.own i hi
  unfold Rr.At Rr.val at hat
  rw [ho] at hat
  obtain ⟨h1, h2⟩ := hat.stored k (.int .u8 x.toNat)
  rw [bys_set] at h1
  have hbi : (h i).blk = some g := by unfold Rr.blk Rr.val; rw [ho]; rfl
  have hv : (Rr.mk (h i).o (h i).c ((h i).xs.set k x)).val = (h i).val := by unfold Rr.val; simp
  have hb2 : ∀ j, (upr h i ⟨(h i).o, (h i).c, (h i).xs.set k x⟩ j).blk = (h j).blk := fun j => by unfold Rr.blk; rw [upr_val h i _ hv]
  refine ⟨⟨fun j hj => ?_, fun a b ha hb hab => by rw [hb2, hb2]; exact F.apart a b ha hb hab⟩, h2⟩
  by_cases e : j = i
  · subst e
    rw [upr_same]
    unfold Rr.At Rr.val
    simp only [List.length_set, ho]
    exact h1
  · rw [upr_other _ _ _ _ e]
    exact (F.own j hj).keep h2 (by rw [← hbi]; exact F.apart j i hj hi e)

/-- Rows, and longer ones that went out of the first c of them. -/
structure Lx (B : Nat) (w : World) (m : Nat) (h : Nat → Rr) (c : Nat) (lf : Nat → Rr) : Prop where
  fam : Fam B w m h
  own : ∀ j, j < c → (lf j).At B w
  far : ∀ j j', j < c → j' < m → j ≠ j' → Off (lf j).blk (h j').blk
  far2 : ∀ j j', j < c → j' < c → j ≠ j' → Off (lf j).blk (lf j').blk
  len : ∀ j, j < c → (h j).xs.length ≤ (lf j).xs.length

theorem Lx.grow {B : Nat} {w w' : World} {m c : Nat} {h lf : Nat → Rr} {row : Option Nat} (L : Lx B w m h c lf) (hg : w.grownBy w' row) (hr : ∀ i, i < m → Off (h i).blk row) (hr2 : ∀ i, i < c → Off (lf i).blk row) : Lx B w' m h c lf :=
  ⟨L.fam.grow hg hr, fun j hj => (L.own j hj).keep hg (hr2 j hj), L.far, L.far2, L.len⟩

theorem Lx.start {B : Nat} {w : World} {m i : Nat} {h lf : Nat → Rr} (L : Lx B w m h i lf) (hi : i < m) : Lx B w m h (i + 1) (upr lf i (h i)) := by
  have hU : ∀ j, j < i → upr lf i (h i) j = lf j := fun j hj => upr_other _ _ _ _ (by omega)
  refine ⟨L.fam, fun j hj => ?_, fun j j' hj hj' hne => ?_, fun j j' hj hj' hne => ?_, fun j hj => ?_⟩
  · by_cases e : j = i
    · subst e; rw [upr_same]; exact L.fam.own j hi
    · rw [hU j (by omega)]; exact L.own j (by omega)
  · by_cases e : j = i
    · subst e; rw [upr_same]; exact L.fam.apart j j' hi hj' hne
    · rw [hU j (by omega)]; exact L.far j j' (by omega) hj' hne
  · by_cases e : j = i
    · subst e
      rw [upr_same, hU j' (by omega)]
      exact (L.far j' j (by omega) hi (by omega)).symm
    · rw [hU j (by omega)]
      by_cases e' : j' = i
      · subst e'; rw [upr_same]; exact L.far j j' (by omega) hi (by omega)
      · rw [hU j' (by omega)]; exact L.far2 j j' (by omega) (by omega) hne
  · by_cases e : j = i
    · subst e; rw [upr_same]; exact Nat.le_refl _
    · rw [hU j (by omega)]; exact L.len j (by omega)

/-- The last of the longer ones goes on. -/
theorem Lx.app {B : Nat} {w w' : World} {m i : Nat} {h lf : Nat → Rr} {r : Rr} (L : Lx B w m h (i + 1) lf) (hi : i < m) (hn : r.At B w') (hs : (lf i).At B w') (hg : w.grownBy w' (lf i).blk) (hb : r.blk = (lf i).blk ∨ r.blk = some w.heap.size) (hl : (lf i).xs.length ≤ r.xs.length) : Lx B w' m h (i + 1) (upr lf i r) := by
  have hU : ∀ j, j ≠ i → upr lf i r j = lf j := fun j hj => upr_other _ _ _ _ hj
  have hOf : ∀ {s : Rr}, s.At B w → Off (lf i).blk s.blk → Off r.blk s.blk := fun {s} hs ho => by
    rcases hb with hb | hb
    · rw [hb]; exact ho
    · rw [hb]; exact (hs.new (Nat.le_refl _)).symm
  refine ⟨⟨fun j hj => ?_, L.fam.apart⟩, fun j hj => ?_, fun j j' hj hj' hne => ?_, fun j j' hj hj' hne => ?_, fun j hj => ?_⟩
  · by_cases e : j = i
    · subst e
      by_cases hbb : (h j).blk = (lf j).blk
      · exact own_front (L.fam.own j hj) (L.own j (by omega)) hs hbb (L.len j (by omega))
      · exact (L.fam.own j hj).keep hg (fun k h1 h2 => hbb (by rw [h1, h2]))
    · exact (L.fam.own j hj).keep hg (L.far i j (by omega) hj (by omega)).symm
  · by_cases e : j = i
    · subst e; rw [upr_same]; exact hn
    · rw [hU j e]; exact (L.own j hj).keep hg (L.far2 j i hj (by omega) e)
  · by_cases e : j = i
    · subst e; rw [upr_same]; exact hOf (L.fam.own j' hj') (L.far j j' (by omega) hj' hne)
    · rw [hU j e]; exact L.far j j' hj hj' hne
  · by_cases e : j = i
    · subst e
      rw [upr_same, hU j' (by omega)]
      exact hOf (L.own j' hj') (L.far2 j j' (by omega) hj' hne)
    · rw [hU j e]
      by_cases e' : j' = i
      · subst e'
        rw [upr_same]
        exact (hOf (L.own j hj) (L.far2 j' j (by omega) hj (by omega))).symm
      · rw [hU j' e']; exact L.far2 j j' hj hj' hne
  · by_cases e : j = i
    · subst e; rw [upr_same]; exact Nat.le_trans (L.len j hj) hl
    · rw [hU j e]; exact L.len j hj

/-- The rows' values in their order. -/
def vals (m : Nat) (f : Nat → Rr) : List Value := (List.range m).map (fun i => (f i).val)
theorem vals_len (m : Nat) (f : Nat → Rr) : (vals m f).length = m := by simp [vals]
theorem vals_at (m : Nat) (f : Nat → Rr) (i : Nat) (hi : i < m) : (vals m f)[i]? = some (f i).val := by simp [vals, hi]
theorem vals_succ (m : Nat) (f : Nat → Rr) : vals (m + 1) f = vals m f ++ [(f m).val] := by simp [vals, List.range_succ]
theorem vals_congr {m : Nat} {f g : Nat → Rr} (h : ∀ i, i < m → (f i).val = (g i).val) : vals m f = vals m g := by
  unfold vals
  exact List.map_congr_left (fun i hi => h i (by simpa using hi))
theorem vals_one (m : Nat) (f : Nat → Rr) : ∀ u ∈ vals m f, u.oneCell' = true := by
  intro u hu
  unfold vals at hu
  obtain ⟨i, _, rfl⟩ := List.mem_map.1 hu
  rfl

theorem Tryz.infoRow : (Tryz.prog.info? 28).map (fun i => (i.zero, i.size, i.bytes)) = some (some (.slice none 0 0), 1, 24) := by kernel_rfl
/-- append of rows to a row of rows. -/
theorem run_append_rows (w : World) (B : Nat) (ao : Option Addr) (n cap : Nat) (xs ys : List Value) (yb m : Nat) (hown : w.ownsRow B 28 1 (.slice ao n cap) n xs) (hy : ∀ j u, ys[j]? = some u → w.cell? ⟨yb, j, none⟩ = some u) (hm : ys.length = m) (hm0 : 0 < m) (h1 : ∀ u ∈ ys, u.oneCell' = true) (hl : n + m ≤ 1000000) (hb : B ≤ w.heap.size) :
    ∃ g c w', (Builtin.append_ #[60, 60] 60 #[.slice ao n cap, .slice (some ⟨yb, 0, none⟩) m m]).run Tryz.prog w = .ok (.slice (some ⟨g, 0, none⟩) (n + m) c) w' ∧ w'.ownsRow B 28 1 (.slice (some ⟨g, 0, none⟩) (n + m) c) (n + m) (xs ++ ys) ∧ w.grownBy w' (Value.slice ao n cap).ownBlock ∧ (some g = (Value.slice ao n cap).ownBlock ∨ g = w.heap.size) := by
  obtain ⟨i0, hi, hz0, hz1, hz2⟩ := info_parts Tryz.infoRow
  obtain ⟨v', w', hrun, h1', h2, h3, h4⟩ := run_append_own_at (P := Tryz.prog) w B 60 60 28 i0 (.slice none 0 0) 1 24 Tryz.underlying60 hi hz0 hz1 hz2 rfl (by decide) _ n xs hown ⟨yb, 0, none⟩ m m ys (by omega)
    (fun j u hj => by rw [show ((⟨yb, 0, none⟩ : Addr).add j) = ⟨yb, j, none⟩ from by unfold Addr.add; by_cases h : j = 0 <;> simp [h]]; exact hy j u hj) h1 (by unfold maxLen; omega) (by omega) hb
  obtain ⟨g, c, hv⟩ : ∃ g c, v' = .slice (some ⟨g, 0, none⟩) (n + m) c := by
    rcases h1'.2 with ⟨e, e2⟩ | ⟨g, cap', cur, e, _⟩
    · omega
    · exact ⟨g, cap', e⟩
  subst hv
  refine ⟨g, c, w', hrun, h1', h2, ?_⟩
  rcases h4 with h4 | h4
  · exact .inl h4
  · simp only [Value.ownBlock, Option.some.injEq] at h4
    exact .inr h4
end

section
open Go.RowKit Dsk
set_option linter.unusedVariables false
set_option linter.unusedSimpArgs false
theorem cloneR_ok (ao : Option Addr) (n c : Nat) (xs : By) (w : World) (hn : xs.length = n) (h : Sl w ao xs) (h0 : ao = none → n = 0 ∧ c = 0) (hm : n ≤ 1073741824) :
    Calls Tryz.prog 66 #[.slice ao n c] w fun e w' => ∃ v, e = .returned v ∧ w'.ownsRow 0 5 1 v n (bys xs) ∧ Kept [] w w' ∧ (∀ g, v.ownBlock = some g → w.heap.size ≤ g) := by
  cases ao with
  | none =>
    obtain ⟨rfl, rfl⟩ := h0 rfl
    have : xs = [] := List.eq_nil_of_length_eq_zero hn
    subst this
    refine (cloneB_nil w).mono ?_
    rintro e w' ⟨rfl, rfl⟩
    exact ⟨_, rfl, World.ownsRow_nil _ _ _ _, Kept.refl _ _, by simp [Value.ownBlock]⟩
  | some ad =>
    have hk := (Kept.refl [] w).alloc (.cells #[] 5)
    refine (cloneB_some ad c n (bys xs) w (by rw [bys_length]; omega) (bys_oneCell xs) hm (fun j u hu => ?_)).mono ?_
    · obtain ⟨hj, rfl⟩ := bys_get hu
      obtain ⟨b', off', e', hc⟩ := h j hj
      injection e' with e'
      subst e'
      rw [show ((⟨b', off', none⟩ : Addr).add j) = ⟨b', off' + j, none⟩ from by unfold Addr.add; by_cases h : j = 0 <;> simp [h]]
      exact hk.cellOf hc (by simp)
    · rintro e w' ⟨v, rfl, ho, hk⟩
      exact ⟨v, rfl, ownsRow_base_a ho (Nat.zero_le _), hk, fun g hg => (ho.lt g hg).1⟩

/-- A call that answers a row of bytes of its own, and leaves a disk. -/
def AftR (w w' : World) (p : Nat) (S' : Ds) (o : Lab) (v : Value) (xs : By) : Prop := ∃ A' o', PD w' p S' A' o' ∧ o.Ext o' w ∧ Keep o.mine w w' ∧ w'.ownsRow 0 5 1 v xs.length (bys xs) ∧ (∀ g, v.ownBlock = some g → w.heap.size ≤ g ∧ o' g = 0)

set_option maxHeartbeats 1600000 in
set_option maxRecDepth 100000 in
theorem readR_ok {w : World} {p : Nat} {S : Ds} {A : Nat → Nat} {o : Lab} {N : Nat} (h : PD w p S A o) (hB : S.Bd N) (hN : N ≤ 268435456) (nm : By) (hnl : nm.length ≤ 4611686018427387904) (a m : Int) :
    Calls Tryz.prog 75 #[.pointer (some ⟨p, 0, none⟩), encStr nm, .int .i64 a, .int .i64 m] w fun e w' => ∃ v, e = .returned (.tuple #[v, .int .i64 (S.readOk nm a m)]) ∧ AftR w w' p (S.read nm a m) o v (S.readBytes nm a m) := by
  obtain ⟨ms, mh, rv, sv, h⟩ := h
  have hfd := find_ok h nm hnl
  have HNO : Hid (∀ E : Int, E ≠ 0 → S.readOk nm a m = E → AftR w w p (S.read nm a m) o (.slice none 0 0) (S.readBytes nm a m)) := fun E hE he => by
    have e1 : S.read nm a m = S := by unfold Ds.read; rw [he, if_neg hE]
    have e2 : S.readBytes nm a m = [] := by unfold Ds.readBytes; rw [he, if_neg hE]
    rw [e1, e2]
    exact ⟨A, o, ⟨ms, mh, rv, sv, h⟩, Lab.Ext.refl _ _, Keep.refl _ _, World.ownsRow_nil _ _ _ _, by simp [Value.ownBlock]⟩
  by_cases h0 : (S.find nm).1 = 0
  · obtain ⟨hon, hnm, hmem, hlt⟩ := Ds.find_ok h.wf h0
    have hv : findV S A nm = .pointer (some ⟨A (S.find nm).2, 0, none⟩) := by unfold findV; rw [if_pos h0]
    have HC : Hid (S.readOk nm a m = if a < 0 ∨ m < 0 ∨ ((S.th (S.find nm).2).shown.length : Int) < a ∨ ((S.th (S.find nm).2).shown.length : Int) - a < m then 54 else 0) := hide (by simp [Ds.readOk, h0])
    have HD : Hid (S.readOk nm a m = 0 → S.readBytes nm a m = ((S.th (S.find nm).2).shown.drop a.toNat).take m.toNat ∧ S.read nm a m = { S with reads := S.reads ++ [⟨nm, a.toNat, m.toNat⟩] }) := fun he => by
      unfold Ds.readBytes Ds.read
      rw [he, if_pos rfl, if_pos rfl]
      exact ⟨rfl, rfl⟩
    rw [hv, h0] at hfd
    generalize (S.find nm).2 = k at hfd HC hlt HD
    obtain ⟨rv1, sv1, ht⟩ := h.th k hlt
    obtain ⟨so, sc, rfl, hsc, hscm, hs0, hs1⟩ := ht.shown.shape
    have i2 := ht.th0.c2
    have hlen := hB.len h.wf hlt
    by_cases hbad : a < 0 ∨ m < 0 ∨ ((S.th k).shown.length : Int) < a ∨ ((S.th k).shown.length : Int) - a < m
    · have he : S.readOk nm a m = 54 := by rw [HC.out, if_pos hbad]
      have H54 := hide (HNO.out 54 (by decide) he)
      have HE := hide he
      clear h hB ht h0 hv hmem hnm hon HC HD HNO he hs0 hs1
      generalize (S.th k).shown.length = L at i2 hlen hbad hsc
      by_cases b1 : a < 0
      · go_enter Tryz.func75, Tryz.ntmps75
        go_wp2_with (go_at_call 82; refine hfd.mono ?_; rintro e w' ⟨rfl, rfl⟩; clear hfd)
        go_ret2
        exact ⟨_, by rw [HE.out]; rfl, H54.out⟩
      by_cases b2 : m < 0
      · go_enter Tryz.func75, Tryz.ntmps75
        go_wp2_with (go_at_call 82; refine hfd.mono ?_; rintro e w' ⟨rfl, rfl⟩; clear hfd)
        go_ret2
        exact ⟨_, by rw [HE.out]; rfl, H54.out⟩
      by_cases b3 : (L : Int) < a
      · go_enter Tryz.func75, Tryz.ntmps75
        go_wp2_with (go_at_call 82; refine hfd.mono ?_; rintro e w' ⟨rfl, rfl⟩; clear hfd)
        go_ret2
        exact ⟨_, by rw [HE.out]; rfl, H54.out⟩
      have b4 : (L : Int) - a < m := by omega
      clear hbad
      go_enter Tryz.func75, Tryz.ntmps75
      go_wp2_with (go_at_call 82; refine hfd.mono ?_; rintro e w' ⟨rfl, rfl⟩; clear hfd)
      go_ret2
      exact ⟨_, by rw [HE.out]; rfl, H54.out⟩
    · obtain ⟨x, rfl⟩ : ∃ x : Nat, a = x := ⟨a.toNat, by omega⟩
      obtain ⟨y, rfl⟩ : ∃ y : Nat, m = y := ⟨m.toNat, by omega⟩
      have he : S.readOk nm x y = 0 := by rw [HC.out, if_neg hbad]
      obtain ⟨hb1, hb2⟩ := HD.out he
      simp only [Int.toNat_natCast] at hb1 hb2
      have hwfr := h.wf.read nm x y
      rw [hb2] at hwfr
      obtain ⟨to, tc, rfl, _⟩ := own_shape h.reads
      have c10 := h.c10
      obtain ⟨g, c2, w1, hrun, ho1, hk1, hg1, hlt1⟩ := run_app (P := Tryz.prog) w 96 96 199 Tryz.underlying96 Tryz.infoSpan rfl (by decide) _ S.reads.length _ h.reads (encSp ⟨nm, x, y⟩) rfl (by simp [encSp, Value.oneCell']) (by unfold maxLen; have := hB.reads; omega) (by have := hB.reads; omega)
      have hK1 := hk1 (fun k => (Value.slice to S.reads.length tc).ownBlock = some k) (fun k e => e)
      have hQ1 := hK1.heapOf h.cells h.ne_s
      have hgp : g ≠ p := by rcases hg1 with e | e; exact fun e2 => h.ne_s (by rw [← e, e2]); have := h.lt; omega
      obtain ⟨w2, hw2⟩ : ∃ w2, w2 = w1.setCell ⟨p, 10, none⟩ (.slice (some ⟨g, 0, none⟩) (S.reads.length + 1) c2) := ⟨_, rfl⟩
      have hK2 : Keep (· = p) w1 w2 := by rw [hw2]; exact (Keep.refl (· = p) w1).setCell (p := ⟨p, 10, none⟩) (fun _ => rfl) _
      have hQ2 := heap_setCell_same w1 p 10 _ _ (.slice (some ⟨g, 0, none⟩) (S.reads.length + 1) c2) hQ1
      rw [← hw2] at hQ2
      have ho2 := own_keeps ho1 hK2 (fun k e e2 => by simp only [Value.ownBlock, Option.some.injEq] at e; exact hgp (by rw [e, e2]))
      have hK02 : Keep (fun k => k = p ∨ (Value.slice to S.reads.length tc).ownBlock = some k) w w2 := (hK1.mono (fun k e _ => .inr e)).trans hK2 (fun k e _ => .inl e)
      obtain ⟨hP2, hKo⟩ := h.told ⟨nm, x, y⟩ hwfr hQ2 ho2 hK02 (fun k e => by
        simp only [Value.ownBlock, Option.some.injEq] at e
        subst e
        rcases hg1 with e | e
        · exact .inl e.symm
        · exact .inr e)
      have d10 : w1.cell? ⟨p, 10, none⟩ = some (.slice to S.reads.length tc) := by rw [cell_of_row w1 p 10 _ _ _ hQ1]; rfl
      have f10 : w1.frozen? ⟨p, 10, none⟩ = false := frozen_of_row w1 p 10 _ _ hQ1
      have ht2 := ht.keep hKo (fun g hg => by omega)
      have j2 := ht2.th0.c2
      obtain ⟨ao', hcut, hsl, hnil⟩ := Tryz.cutMid w2 so (S.th k).shown.length sc x y (S.th k).shown ht2.shown.sl rfl hsc (by omega) (fun e => (hs0 e).2)
      rw [← hb1] at hsl
      have hyl : (S.readBytes nm x y).length = y := by rw [hb1]; simp; omega
      have hcl := cloneR_ok ao' y (sc - x) (S.readBytes nm x y) w2 hyl hsl hnil (by omega)
      have hxy : (x : Int) + (y : Int) = ((x + y : Nat) : Int) := by omega
      have hwr : IntKind.i64.wrap ((x : Int) + (y : Int)) = ((x + y : Nat) : Int) := by rw [IntWalk.i64_in _ (by omega)]; omega
      have FIN : Hid (∀ w3 v, w3.ownsRow 0 5 1 v y (bys (S.readBytes nm x y)) → Kept [] w2 w3 → (∀ g, v.ownBlock = some g → w2.heap.size ≤ g) → AftR w w3 p (S.read nm x y) o v (S.readBytes nm x y)) := fun w3 v hv hk hn => by
        have hP3 := hP2.keep (Keep.ofNone (F := fun _ => False) hk) (fun _ _ h => h)
        refine ⟨A, o.ext w w2 1, ?_, Ext_ext _ _ _ _, (mine_k hKo).kept hk, by rw [hyl]; exact hv, fun g hg => ⟨Nat.le_trans hKo.size (hn g hg), ?_⟩⟩
        · rw [hb2]; exact ⟨_, _, _, _, hP3⟩
        · have := hn g hg
          have := hKo.size
          unfold Lab.ext
          rw [if_neg (by omega), if_neg (by omega)]
      have HE := hide he
      have HXY := hide hxy
      clear h hB ht h0 hv hmem hnm hon HC HD HNO he hs0 hs1 hb1 hb2 hwfr ho1 hk1 hg1 hK1 hQ1 hK2 hQ2 ho2 hK02 hP2 hKo ht2 hsl hnil hxy hscm hgp hlt1
      generalize (S.th k).shown.length = L at i2 hlen hbad j2 hcut hsc
      have b1 : ¬ ((x : Int) < 0) := by omega
      have b2 : ¬ ((y : Int) < 0) := by omega
      have b3 : ¬ ((L : Int) < x) := by omega
      have b4 : ¬ ((L : Int) - x < y) := by omega
      clear hbad
      simp only [encSp] at hrun
      go_enter Tryz.func75, Tryz.ntmps75
      go_upto_region 7 with (first
        | (go_at_call 82; refine hfd.mono ?_; rintro e w' ⟨rfl, rfl⟩; clear hfd)
        | (at_builtin; refine wpList_app_run rfl _ _ 96 96 rfl _ _ rfl rfl _ _ hrun ?_))
      try rw [← hw2]
      clear hw2 hrun d10 f10 c10 i2
      go_wp2_with (go_at_call 66; refine hcl.mono ?_; rintro e w3 ⟨v, rfl, hv3, hk3, hn3⟩; have H3 := hide (FIN.out w3 v hv3 hk3 hn3); obtain ⟨vo, vc, rfl, _⟩ := own_shape hv3; clear hv3 hk3 hn3)
      go_ret2
      exact ⟨_, by rw [HE.out]; rfl, H3.out⟩
  · have hv : findV S A nm = .pointer none := by unfold findV; rw [if_neg h0]
    have he : S.readOk nm a m = (S.find nm).1 := by simp [Ds.readOk, h0]
    have HF := hide (HNO.out _ h0 he)
    have HE := hide he
    rw [hv] at hfd
    clear h hB HNO he
    generalize (S.find nm).1 = E at hfd h0 HE
    have e0 : (E != 0) = true := by simpa using h0
    clear h0 hv
    go_enter Tryz.func75, Tryz.ntmps75
    go_wp2_with (go_at_call 82; refine hfd.mono ?_; rintro e w' ⟨rfl, rfl⟩; clear hfd)
    go_ret2
    exact ⟨_, by rw [HE.out]; rfl, HF.out⟩

section
variable {X : Nat → Prop} {wa w w' : World} {p : Nat} {S : Ds} {N : Nat}
/-- What a call answers beside a disk: a row that stays. -/
structure Gr (X : Nat → Prop) (wa w w' : World) (p : Nat) (S : Ds) (N : Nat) (v : Value) (xs : By) : Prop where
  ax : Ax (fun b => X b ∨ v.ownBlock = some b) w' w' p S N
  row : w'.ownsRow 0 5 1 v xs.length (bys xs)
  keep : Keep (fun b => ¬ X b) wa w'
  new : ∀ g, v.ownBlock = some g → w.heap.size ≤ g
theorem read_axr (h : Ax X wa w p S N) (hN : N ≤ 268435456) (nm : By) (hnl : nm.length ≤ 4611686018427387904) (a m : Int) : Calls Tryz.prog 75 #[.pointer (some ⟨p, 0, none⟩), encStr nm, .int .i64 a, .int .i64 m] w fun e w' => ∃ v, e = .returned (.tuple #[v, .int .i64 (S.readOk nm a m)]) ∧ Gr X wa w w' p (S.read nm a m) (N + 1) v (S.readBytes nm a m) := by
  obtain ⟨A, o, hP, ho, hw, hb⟩ := h
  refine (readR_ok hP hb hN nm hnl a m).mono ?_
  rintro e w' ⟨v, rfl, A', o', h1, h2, h3, h4, h5⟩
  have hx := aft_ax ho hw ⟨A', o', h1, h2, h3⟩ (hb.read nm a m)
  refine ⟨v, rfl, ⟨A', o', h1, fun b hb2 => ?_, Keep.refl _ _, hb.read nm a m⟩, h4, hx.old, fun g hg => (h5 g hg).1⟩
  rcases hb2 with hb2 | hb2
  · have hbl : b < w.heap.size := Nat.lt_of_lt_of_le (ho b hb2).2 hw.size
    exact ⟨Classical.byContradiction fun hn => h2 b hbl hn (ho b hb2).1, Nat.lt_of_lt_of_le hbl h3.size⟩
  · exact ⟨(h5 b hb2).2, (h4.lt b hb2).2⟩
theorem Gr.kept {v : Value} {xs : By} {w3 : World} (h : Gr X wa w w' p S N v xs) (hk : Kept [] w' w3) : Gr X wa w w3 p S N v xs :=
  ⟨(h.ax.kept hk).here, own_keeps h.row (Keep.ofNone (F := fun _ => False) hk) (fun _ _ h => h), h.keep.kept hk, h.new⟩
set_option maxHeartbeats 4000000 in
set_option maxRecDepth 100000 in
theorem get_r (h : Ax X wa w p S N) (name : By) (hN : N + 20 ≤ 268435456) (hm : name.length ≤ 4611686018427387900) (hp : isNm name = true) (hf : (S.find name).1 = 0) :
    Calls Tryz.prog 29 #[.pointer (some ⟨p, 0, none⟩), encStr name] w fun e w' => ∃ v, e = .returned (.tuple #[v, .nilIface]) ∧ Gr X wa w w' p (S.read name 0 (S.size name)) (N + 1) v (S.readBytes name 0 (S.size name)) := by
  have c1 := fisName_ok name w (by omega)
  rw [hp] at c1
  have hsz := size_ax h name (by omega)
  rw [hf] at hsz
  have hrd := read_axr h (by omega) name (by omega) 0 (S.size name)
  have hok : S.readOk name 0 (S.size name) = 0 := by
    simp only [Ds.readOk, Ds.size, hf, ne_eq, not_true_eq_false, if_false]
    rw [if_neg (by omega)]
  rw [hok] at hrd
  have hfa := fun v => fault_ok opGet name 0 v
  clear h hp hf hok
  generalize S.size name = z at *
  go_enter Tryz.func29, Tryz.ntmps29
  go_wp2_with (first
    | (go_at_call 73; refine c1.mono ?_; rintro e w' ⟨rfl, hww⟩; obtain rfl := hww.symm; clear c1)
    | (go_at_call 74; refine hsz.mono ?_; rintro e w' ⟨rfl, hww⟩; obtain rfl := hww.symm; clear hsz)
    | (go_at_call 75; refine hrd.mono ?_; rintro e w2 ⟨v, rfl, hx⟩; have HX := hide hx; clear hrd hx)
    | (go_at_call 63; refine (hfa _).mono ?_; rintro e w3 ⟨v3, rfl, hv3, hk3⟩; obtain rfl : v3 = .nilIface := (by rcases hv3 with hv | hv; exact hv.2; exact absurd rfl hv.1); have HK3 := hide hk3; clear hfa hv3 hk3))
  go_ret2
  exact ⟨_, rfl, HX.out.kept HK3.out⟩
end
end

section
open Go.RowKit Dsk
set_option linter.unusedVariables false
set_option linter.unusedSimpArgs false
def mkb (i z t : Nat) : UInt8 := if t < z then UInt8.ofNat i else UInt8.ofNat (100 + i)
def Mkw (i z : Nat) (xs : By) (k : Nat) : Prop := ∀ t, t < k → xs.getD t 0 = mkb i z t
theorem Mkw.set {i z : Nat} {xs : By} {k : Nat} (h : Mkw i z xs k) (hk : k < xs.length) (hz : k < z) : Mkw i z (xs.set k (UInt8.ofNat i)) (k + 1) := by
  intro t ht
  by_cases e : t = k
  · subst e; unfold mkb; rw [if_pos hz]; simp [List.getD_eq_getElem?_getD, hk]
  · have := h t (by omega)
    rw [List.getD_eq_getElem?_getD] at this ⊢
    rw [List.getElem?_set_ne (by omega)]
    exact this
theorem Mkw.snoc {i z : Nat} {xs : By} (h : Mkw i z xs xs.length) (hz : z ≤ xs.length) : Mkw i z (xs ++ [UInt8.ofNat (100 + i)]) (xs ++ [UInt8.ofNat (100 + i)]).length := by
  intro t ht
  simp at ht
  by_cases e : t = xs.length
  · subst e; unfold mkb; rw [if_neg (by omega)]; simp [List.getD_eq_getElem?_getD]
  · have := h t (by omega)
    rw [List.getD_eq_getElem?_getD] at this ⊢
    rw [List.getElem?_append_left (by omega)]
    exact this
theorem num_i (i : Nat) (hi : i < 100) : IntKind.u8.wrap (i : Int) = ((UInt8.ofNat i).toNat : Int) := by
  rw [UInt8.toNat_ofNat', Nat.mod_eq_of_lt (by omega)]
  simp [IntKind.wrap, IntKind.bits, IntKind.signed]
  omega
theorem num_100 (i : Nat) (hi : i < 100) : IntKind.u8.wrap (100 + (i : Int)) = ((UInt8.ofNat (100 + i)).toNat : Int) := by
  rw [UInt8.toNat_ofNat', Nat.mod_eq_of_lt (by omega)]
  simp [IntKind.wrap, IntKind.bits, IntKind.signed]
  omega
/-- The rows' blocks. -/
def rbs (m : Nat) (f : Nat → Rr) (b : Nat) : Prop := ∃ j, j < m ∧ (f j).blk = some b
/-- The rows as they came, and as they stand. -/
structure Al (w wr : World) (m : Nat) (f h : Nat → Rr) (ao : Option Addr) (cap : Nat) : Prop where
  fam : Fam 0 wr m h
  same : ∀ j, j < m → (h j).val = (f j).val
  all : wr.ownsRow 0 28 1 (.slice ao m cap) m (vals m f)
  bel : Keep (rbs m f) w wr
section
variable {w wr : World} {m : Nat} {f h : Nat → Rr} {ao : Option Addr} {cap : Nat}
theorem Al.len (A : Al w wr m f h ao cap) {j : Nat} (hj : j < m) : (h j).xs.length = (f j).xs.length := by
  have := A.same j hj
  unfold Rr.val at this
  injection this
theorem Al.os (A : Al w wr m f h ao cap) {j : Nat} (hj : j < m) : (h j).o = (f j).o := by
  have := A.same j hj
  unfold Rr.val at this
  injection this
theorem Rr.At.opens {B : Nat} {w : World} {r : Rr} (h : r.At B w) (h0 : 0 < r.xs.length) : ∃ g, r.o = some ⟨g, 0, none⟩ ∧ B ≤ g := by
  rcases h.2 with ⟨e, e2⟩ | ⟨g, cap, cur, e, hb, _⟩
  · omega
  · unfold Rr.val at e
    injection e with e _ _
    exact ⟨g, e, hb⟩
theorem Rr.At.cellAt {B : Nat} {w : World} {r : Rr} (h : r.At B w) {g k : Nat} (ho : r.o = some ⟨g, 0, none⟩) (hk : k < r.xs.length) : w.cell? ⟨g, k, none⟩ = some (.int .u8 (r.xs.getD k 0).toNat) := by
  unfold Rr.At Rr.val at h
  rw [ho] at h
  rw [World.ownsRow.cellAt h k (by omega), bys_at hk]
theorem Rr.At.frozenAt {B : Nat} {w : World} {r : Rr} (h : r.At B w) {g : Nat} (ho : r.o = some ⟨g, 0, none⟩) (k : Nat) : w.frozen? ⟨g, k, none⟩ = false := by
  unfold Rr.At Rr.val at h
  rw [ho] at h
  exact World.ownsRow.frozenAt h k
theorem Al.put (A : Al w wr m f h ao cap) {i g k : Nat} (hi : i < m) (ho : (f i).o = some ⟨g, 0, none⟩) (x : UInt8) :
    Al w (wr.setCell ⟨g, k, none⟩ (.int .u8 x.toNat)) m f (upr h i ⟨(h i).o, (h i).c, (h i).xs.set k x⟩) ao cap := by
  have ho' : (h i).o = some ⟨g, 0, none⟩ := (A.os hi).trans ho
  obtain ⟨F, hg⟩ := A.fam.set (k := k) hi ho' x
  have hbi : (h i).blk = some g := by unfold Rr.blk Rr.val; rw [ho']; rfl
  have hbf : (f i).blk = some g := by unfold Rr.blk Rr.val; rw [ho]; rfl
  exact ⟨F, fun j hj => (upr_val h i _ (by unfold Rr.val; simp) j).trans (A.same j hj), own_keep A.all hg (by rw [← hbi]; exact own_types A.all (A.fam.own i hi) (by decide)), A.bel.grown hg (fun q hq _ => by cases hq; exact ⟨i, hi, hbf⟩)⟩
theorem own_some {w : World} {B : Nat} {e : TypeId} {ao : Option Addr} {m cap : Nat} {xs : List Value} (h : w.ownsRow B e 1 (.slice ao m cap) m xs) (h0 : 0 < m) : ∃ g, ao = some ⟨g, 0, none⟩ ∧ B ≤ g := by
  rcases h.2 with ⟨e, e2⟩ | ⟨g, cap, cur, e, hb, _⟩
  · omega
  · injection e with e _ _
    exact ⟨g, e, hb⟩
end
theorem sl_new1 (w : World) (y : UInt8) : Sl (w.alloc (.cells #[.int .u8 y.toNat] 5)) (some ⟨w.heap.size, 0, none⟩) [y] := fun i hi => by
  obtain rfl : i = 0 := by simpa using hi
  exact ⟨w.heap.size, 0, rfl, by rw [World.cell?_alloc_new]; rfl⟩
theorem wp_append_run1 {P : Program} {o : Oper} {a : Act} {w : World} {K : Act → World → Prop} {Q : Exit → Act → World → Prop} (s x : Operand) (t : TypeId) (ho : o.op = .call { callee := .builtin .append, args := #[s, x], argTypes := #[t, t] }) (vs vx : Value) (hs : a.eval s = vs) (hx : a.eval x = vx) (v' : Value) (w' : World) (hrun : (Builtin.append_ #[t, t] o.type #[vs, vx]).run P w = .ok v' w') (hK : K (a.put o.dst v') w') : Oper.wp P o a w K Q := wp_append_run s x t t ho vs vx hs hx v' w' hrun hK
theorem wpList_appR {ops : Array Oper} {rest : List Oper} {o : Oper} {a : Act} {Q : Exit → Act → World → Prop} (w : World) (B : Nat) (hgd : o.guard = none) (s x : Operand)
    (ho : o.op = .call { callee := .builtin .append, args := #[s, x], argTypes := #[28, 28] }) (hty : o.type = 28) (q : Option Addr) (qc : Nat) (xs : List UInt8) (y : UInt8) (N : Nat) (hN : xs.length = N)
    (hs : a.eval s = .slice q N qc) (hx : a.eval x = .slice (some ⟨w.heap.size, 0, none⟩) 1 1) (hO : (Rr.mk q qc xs).At B w) (hl : N + 1 ≤ 140737488355328) (hb : B ≤ w.heap.size)
    (hK : ∀ g c w', (Rr.mk (some ⟨g, 0, none⟩) c (xs ++ [y])).At B w' → (Rr.mk q qc xs).At B w' → (w.alloc (.cells #[.int .u8 y.toNat] 5)).grownBy w' (Rr.mk q qc xs).blk → (some g = (Rr.mk q qc xs).blk ∨ g = (w.alloc (.cells #[.int .u8 y.toNat] 5)).heap.size) → wpList Tryz.prog ops Q rest (a.put o.dst (.slice (some ⟨g, 0, none⟩) (N + 1) c)) w') :
    wpList Tryz.prog ops Q (o :: rest) a (w.alloc (.cells #[.int .u8 y.toNat] 5)) := by
  subst hN
  refine wpList_plain hgd fun K' hK' => ?_
  obtain ⟨g, c, w3, hrun, h1, h2, h3, h4⟩ := run_append_both _ B ⟨q, qc, xs⟩ y w.heap.size (hO.keep (World.grownBy_alloc w _ none) (Off.none _)) (sl_new1 w y) hl (by simp; omega)
  exact wp_append_run1 s x 28 ho _ _ hs hx _ _ (by rw [hty]; exact hrun) (hK' _ _ (hK g c w3 h1 h2 h3 h4))

theorem wpList_appT {ops : Array Oper} {rest : List Oper} {o : Oper} {a : Act} {Q : Exit → Act → World → Prop} (w : World) (B : Nat) (hgd : o.guard = none) (s x : Operand)
    (ho : o.op = .call { callee := .builtin .append, args := #[s, x], argTypes := #[60, 60] }) (hty : o.type = 60) (lo : Option Addr) (lc n m : Nat) (xs ys : List Value)
    (hs : a.eval s = .slice lo n lc) (hx : a.eval x = .slice (some ⟨w.heap.size, 0, none⟩) m m) (hO : w.ownsRow B 28 1 (.slice lo n lc) n xs) (hm : ys.length = m) (hm0 : 0 < m) (h1 : ∀ u ∈ ys, u.oneCell' = true) (hl : n + m ≤ 1000000) (hb : B ≤ w.heap.size) (A : Array Value) (hA : A = ys.toArray)
    (hK : ∀ g c w', w'.ownsRow B 28 1 (.slice (some ⟨g, 0, none⟩) (n + m) c) (n + m) (xs ++ ys) → (w.alloc (.cells A 28)).grownBy w' (Value.slice lo n lc).ownBlock → (some g = (Value.slice lo n lc).ownBlock ∨ g = (w.alloc (.cells A 28)).heap.size) → wpList Tryz.prog ops Q rest (a.put o.dst (.slice (some ⟨g, 0, none⟩) (n + m) c)) w') :
    wpList Tryz.prog ops Q (o :: rest) a (w.alloc (.cells A 28)) := by
  subst hA
  refine wpList_plain hgd fun K' hK' => ?_
  obtain ⟨g, c, w3, hrun, h2, h3, h4⟩ := run_append_rows _ B lo n lc xs ys w.heap.size m (hO.alloc (.cells ys.toArray 28)) (fun j u hj => by rw [World.cell?_alloc_new]; simpa using hj) hm hm0 h1 hl (by simp; omega)
  exact wp_append_run1 s x 60 ho _ _ hs hx _ _ (by rw [hty]; exact hrun) (hK' _ _ (hK g c w3 h2 h3 h4))


structure Lgr (w wr : World) (m : Nat) (f h : Nat → Rr) (ao : Option Addr) (cap i : Nat) (lf : Nat → Rr) (lo : Option Addr) (lc z : Nat) : Prop where
  lx : Lx 0 wr m h i lf
  all : wr.ownsRow 0 28 1 (.slice ao m cap) m (vals m f)
  longer : wr.ownsRow 0 28 1 (.slice lo i lc) i (vals i lf)
  off : Off (Value.slice lo i lc).ownBlock (Value.slice ao m cap).ownBlock
  bel : Keep (rbs m f) w wr
  mks : ∀ j, j < i → Mkw j z (lf j).xs (lf j).xs.length
  len : ∀ j, j < i → (lf j).xs.length = (f j).xs.length + 70
  lnew : ∀ k, (Value.slice lo i lc).ownBlock = some k → w.heap.size ≤ k
structure Lin (w wr : World) (m : Nat) (f h : Nat → Rr) (ao : Option Addr) (cap i : Nat) (lf : Nat → Rr) (lo : Option Addr) (lc z : Nat) (q : Option Addr) (qc : Nat) (xs : List UInt8) : Prop where
  lx : Lx 0 wr m h (i + 1) (upr lf i ⟨q, qc, xs⟩)
  all : wr.ownsRow 0 28 1 (.slice ao m cap) m (vals m f)
  longer : wr.ownsRow 0 28 1 (.slice lo i lc) i (vals i lf)
  off : Off (Value.slice lo i lc).ownBlock (Value.slice ao m cap).ownBlock
  bel : Keep (rbs m f) w wr
  mks : ∀ j, j < i → Mkw j z (lf j).xs (lf j).xs.length
  len : ∀ j, j < i → (lf j).xs.length = (f j).xs.length + 70
  lnew : ∀ k, (Value.slice lo i lc).ownBlock = some k → w.heap.size ≤ k
  mk' : Mkw i z xs xs.length
  loc : ∀ k, (Rr.mk q qc xs).blk = some k → rbs m f k ∨ w.heap.size ≤ k
  zle : z ≤ xs.length
section
variable {w wr w' : World} {m : Nat} {f h : Nat → Rr} {ao : Option Addr} {cap i : Nat} {lf : Nat → Rr} {lo : Option Addr} {lc z : Nat} {q : Option Addr} {qc : Nat} {xs : List UInt8} {o : Obj} {g c : Nat}
theorem Lin.at_ (L : Lin w wr m f h ao cap i lf lo lc z q qc xs) : (Rr.mk q qc xs).At 0 wr := by
  have := L.lx.own i (by omega)
  rwa [upr_same] at this
theorem Lin.app (L : Lin w wr m f h ao cap i lf lo lc z q qc xs) (hi : i < m)
    (h1 : (Rr.mk (some ⟨g, 0, none⟩) c (xs ++ [UInt8.ofNat (100 + i)])).At 0 w') (h2 : (Rr.mk q qc xs).At 0 w') (h3 : (wr.alloc o).grownBy w' (Rr.mk q qc xs).blk) (h4 : some g = (Rr.mk q qc xs).blk ∨ g = (wr.alloc o).heap.size) :
    Lin w w' m f h ao cap i lf lo lc z (some ⟨g, 0, none⟩) c (xs ++ [UInt8.ofNat (100 + i)]) := by
  have hg0 := World.grownBy_alloc wr o none
  have hat := L.at_
  have lx1 : Lx 0 (wr.alloc o) m h (i + 1) (upr lf i ⟨q, qc, xs⟩) := L.lx.grow hg0 (fun _ _ => Off.none _) (fun _ _ => Off.none _)
  have hup : ∀ r, upr (upr lf i ⟨q, qc, xs⟩) i r = upr lf i r := fun r => by
    funext j
    by_cases e : j = i
    · subst e; rw [upr_same, upr_same]
    · rw [upr_other _ _ _ _ e, upr_other _ _ _ _ e, upr_other _ _ _ _ e]
  have lx2 := lx1.app (r := ⟨some ⟨g, 0, none⟩, c, xs ++ [UInt8.ofNat (100 + i)]⟩) hi h1 (by rw [upr_same]; exact h2) (by rw [upr_same]; exact h3) (by rw [upr_same]; rcases h4 with h4 | h4; exact .inl h4; exact .inr (by unfold Rr.blk Rr.val; simp [Value.ownBlock, h4])) (by rw [upr_same]; simp)
  rw [hup] at lx2
  refine ⟨lx2, own_keep (L.all.alloc o) h3 (own_types (L.all) hat (by decide)), own_keep (L.longer.alloc o) h3 (own_types (L.longer) hat (by decide)), L.off, (L.bel.grown hg0 (by simp)).grown h3 (fun k hk hlt => (L.loc k hk).resolve_right (by omega)), L.mks, L.len, L.lnew, L.mk'.snoc L.zle, fun k hk => ?_, by have := L.zle; simp; omega⟩
  unfold Rr.blk Rr.val at hk
  simp only [Value.ownBlock, Option.some.injEq] at hk
  rcases h4 with h4 | h4
  · exact L.loc k (by rw [← h4, hk])
  · right
    have h5 := L.bel.size
    simp at h4
    omega
theorem Lin.next (L : Lin w wr m f h ao cap i lf lo lc z q qc xs) (hi : i < m) (hl : xs.length = (f i).xs.length + 70)
    (h1 : w'.ownsRow 0 28 1 (.slice (some ⟨g, 0, none⟩) (i + 1) c) (i + 1) (vals i lf ++ [(Rr.mk q qc xs).val])) (h3 : (wr.alloc o).grownBy w' (Value.slice lo i lc).ownBlock) (h4 : some g = (Value.slice lo i lc).ownBlock ∨ g = (wr.alloc o).heap.size) :
    Lgr w w' m f h ao cap (i + 1) (upr lf i ⟨q, qc, xs⟩) (some ⟨g, 0, none⟩) c z := by
  have hg0 := World.grownBy_alloc wr o none
  have hU : ∀ j, j < i → upr lf i ⟨q, qc, xs⟩ j = lf j := fun j hj => upr_other _ _ _ _ (by omega)
  have lx1 : Lx 0 (wr.alloc o) m h (i + 1) (upr lf i ⟨q, qc, xs⟩) := L.lx.grow hg0 (fun _ _ => Off.none _) (fun _ _ => Off.none _)
  refine ⟨lx1.grow h3 (fun j hj => own_types (L.lx.fam.own j hj) L.longer (by decide)) (fun j hj => own_types (L.lx.own j hj) L.longer (by decide)), own_keep (L.all.alloc o) h3 L.off.symm, ?_, ?_, (L.bel.grown hg0 (by simp)).grown h3 (fun k hk hlt => absurd (L.lnew k hk) (by omega)), fun j hj => ?_, fun j hj => ?_, fun k hk => ?_⟩
  · rw [vals_succ, upr_same, vals_congr (f := upr lf i ⟨q, qc, xs⟩) (g := lf) (fun j hj => by rw [hU j hj])]
    exact h1
  · intro k hk hk2
    rcases h4 with h4 | h4
    · exact L.off k (by rw [← h4]; exact hk) hk2
    · simp only [Value.ownBlock, Option.some.injEq] at hk
      have := (World.ownsRow.lt (L.all.alloc o) k hk2).2
      omega
  · by_cases e : j = i
    · subst e; rw [upr_same]; exact L.mk'
    · rw [hU j (by omega)]; exact L.mks j (by omega)
  · by_cases e : j = i
    · subst e; rw [upr_same]; exact hl
    · rw [hU j (by omega)]; exact L.len j (by omega)
  · rcases h4 with h4 | h4
    · exact L.lnew k (by rw [← h4]; exact hk)
    · simp only [Value.ownBlock, Option.some.injEq] at hk
      have h5 := L.bel.size
      simp at h4
      omega
theorem Lgr.start {n : Nat} (L : Lgr w wr m f h ao cap i lf lo lc z) (hi : i < m) (hs : (h i).val = (f i).val) (hv : (h i).val = .slice q n qc) (hm : Mkw i z (h i).xs (h i).xs.length) (hz : z ≤ (h i).xs.length) :
    Lin w wr m f h ao cap i lf lo lc z q qc (h i).xs ∧ (h i).xs.length = n := by
  have e : h i = ⟨q, qc, (h i).xs⟩ := by
    unfold Rr.val at hv
    injection hv with h1 h2 h3
    rw [← h1, ← h3]
  refine ⟨⟨?_, L.all, L.longer, L.off, L.bel, L.mks, L.len, L.lnew, hm, fun k hk => .inl ⟨i, hi, ?_⟩, hz⟩, ?_⟩
  · rw [← e]; exact L.lx.start hi
  · unfold Rr.blk
    rw [← hs]
    rw [← e] at hk
    exact hk
  · unfold Rr.val at hv; injection hv
end

set_option maxHeartbeats 1600000 in
set_option maxRecDepth 100000 in
theorem rowIs_ok (bo : Option Addr) (n c i z : Nat) (xs : By) (w : World) (hl : xs.length = n) (hn : n ≤ 100000) (hi : i < 100) (hz : z ≤ 100000) (hs : Sl w bo xs) (hm : Mkw i z xs n) :
    Calls Tryz.prog 30 #[.slice bo n c, .int .i64 i, .int .i64 z] w fun e w' => e = .returned (.bool true) ∧ w' = w := by
  have HL := hide hl
  have HS := hide hs
  have HM := hide hm
  have n1 := num_i i hi
  have n2 := num_100 i hi
  clear hl hs hm
  go_enter Tryz.func30, Tryz.ntmps30
  go_wp2
  go_loopw [7] (fun v wr => ∃ k : Nat, k ≤ n ∧ v = .int .i64 k ∧ wr = w) (fun v wr => n - (intOf v).toNat)
  case atStart => exact ⟨0, Nat.zero_le _, rfl, by first | rfl | trivial⟩
  case round =>
    obtain ⟨k, hk, rfl, hww⟩ := hrel
    obtain rfl := hww.symm
    by_cases hlt : k < n
    · obtain ⟨b, off, rfl, hc⟩ := HS.out k (by rw [HL.out]; exact hlt)
      rw [HM.out k hlt] at hc
      unfold mkb at hc
      by_cases hkz : k < z
      · rw [if_pos hkz] at hc
        generalize (UInt8.ofNat i).toNat = x at hc n1
        go_wp2
        go_roundw
        case rel => exact ⟨k + 1, by omega, by go_num, by first | rfl | trivial⟩
        case measure => simp [intOf]; omega
      · rw [if_neg hkz] at hc
        have hkz2 : z ≤ k := by omega
        generalize (UInt8.ofNat (100 + i)).toNat = x at hc n2
        go_wp2
        go_roundw
        case rel => exact ⟨k + 1, by omega, by go_num, by first | rfl | trivial⟩
        case measure => simp [intOf]; omega
    · go_wp2
      go_ret
      exact ⟨rfl, rfl⟩
end

end Go.Proofs.YtemlbmamcbmnjaaGreatDoor
