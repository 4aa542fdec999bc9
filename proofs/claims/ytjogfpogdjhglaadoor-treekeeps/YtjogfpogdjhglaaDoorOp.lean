/-
  Rows side by side that are held in a row, and longer ones that went out of them, held in another one. (Elements of any type and size.)
-/
import Derived.Test.YtjogfpogdjhglaaDoorOk
namespace Go.Proofs.YtjogfpogdjhglaaDoor
open Go.RowKit
set_option linter.unusedVariables false
set_option linter.unusedSimpArgs false

theorem kept_grown {l : List Nat} {w w' : World} {row : Option Nat} (h : Kept l w w') (hl : ∀ g ∈ l, row = some g) : w.grownBy w' row :=
  ⟨h.os, h.tape, h.output, h.size, fun k hk hne => h.block k hk (fun hm => hne (hl k hm).symm)⟩
theorem grown_kept {w w' : World} {row : Option Nat} (h : w.grownBy w' row) : Kept row.toList w w' := (Kept.refl _ w).grown h (fun k hk _ => by simp [hk])
theorem grown_trans {w w' w'' : World} {row : Option Nat} (h : w.grownBy w' row) (h' : w'.grownBy w'' row) : w.grownBy w'' row :=
  ⟨h'.os.trans h.os, h'.tape.trans h.tape, h'.output.trans h.output, Nat.le_trans h.size h'.size, fun k hk hne => by rw [h'.block k (Nat.lt_of_lt_of_le hk h.size) hne, h.block k hk hne]⟩
/-- k times ys behind a row's cells. -/
def ext (vs : List Value) (k : Nat) (ys : List Value) : List Value := vs ++ (List.replicate k ys).flatten
theorem ext_zero (vs ys : List Value) : ext vs 0 ys = vs := by simp [ext]
theorem ext_succ (vs ys : List Value) (k : Nat) : ext vs k ys ++ ys = ext vs (k + 1) ys := by
  simp [ext, List.replicate_succ']

/-- The first i of the longer rows have N times ys behind the row that they went out of; the one that is being made k times. -/
def Cd (h lf : Nat → Rw) (N : Nat) (ys : Nat → List Value) (i : Nat) : Prop := ∀ j, j < i → (lf j).n = (h j).n + N ∧ (lf j).vs = ext (h j).vs N (ys j)
def Cu (h lf : Nat → Rw) (ys : Nat → List Value) (i k : Nat) : Prop := (lf i).n = (h i).n + k ∧ (lf i).vs = ext (h i).vs k (ys i)
theorem Cd.start (h lf : Nat → Rw) (N : Nat) (ys : Nat → List Value) : Cd h lf N ys 0 := fun j hj => absurd hj (by omega)
theorem Cd.lay {h lf : Nat → Rw} {N : Nat} {ys : Nat → List Value} {i : Nat} (hd : Cd h lf N ys i) (r : Rw) : Cd h (upr lf i r) N ys i := fun j hj => by
  rw [upr_other _ _ _ _ (by omega)]; exact hd j hj
theorem Cu.start (h lf : Nat → Rw) (ys : Nat → List Value) (i : Nat) : Cu h (upr lf i (h i)) ys i 0 := by
  unfold Cu; rw [upr_same, ext_zero]; exact ⟨rfl, rfl⟩
theorem Cu.step {h lf : Nat → Rw} {ys : Nat → List Value} {i k : Nat} (hu : Cu h lf ys i k) {r : Rw} (hn : r.n = (lf i).n + 1) (hv : r.vs = (lf i).vs ++ ys i) : Cu h (upr lf i r) ys i (k + 1) := by
  unfold Cu; rw [upr_same, hn, hv, hu.1, hu.2, ext_succ]; exact ⟨by omega, rfl⟩
theorem Cd.next {h lf : Nat → Rw} {N : Nat} {ys : Nat → List Value} {i : Nat} (hd : Cd h lf N ys i) (hu : Cu h lf ys i N) : Cd h lf N ys (i + 1) := fun j hj => by
  by_cases e : j = i
  · subst e; exact hu
  · exact hd j (by omega)

structure Gx (e te : TypeId) (s B : Nat) (wr : World) (m : Nat) (h : Nat → Rw) (rR : Rw) (c : Nat) (lf : Nat → Rw) (cc : Nat) (rG : Rw) : Prop where
  ne : e ≠ te
  lx : Lx e s B wr m h c lf
  oR : rR.At te 1 B wr
  nR : rR.n = m
  vR : rR.vs = vals m h
  oG : rG.At te 1 B wr
  nG : rG.n = cc
  vG : rG.vs = vals cc lf
  le : cc ≤ c
  apart : Off rR.blk rG.blk
section
variable {e te : TypeId} {s B : Nat} {w wr wr' : World} {m c cc : Nat} {h lf : Nat → Rw} {rR rG : Rw}
theorem Gx.grow {row : Option Nat} (G : Gx e te s B wr m h rR c lf cc rG) (hg : wr.grownBy wr' row) (h1 : ∀ i, i < m → Off (h i).blk row) (h2 : ∀ i, i < c → Off (lf i).blk row) (h3 : Off rR.blk row) (h4 : Off rG.blk row) : Gx e te s B wr' m h rR c lf cc rG :=
  ⟨G.ne, G.lx.grow hg h1 h2, G.oR.keep hg h3, G.nR, G.vR, G.oG.keep hg h4, G.nG, G.vG, G.le, G.apart⟩
theorem Gx.kept (G : Gx e te s B wr m h rR c lf cc rG) (hk : Kept [] wr wr') : Gx e te s B wr' m h rR c lf cc rG :=
  G.grow (kept_grown (row := none) hk (by simp)) (fun _ _ => Off.none _) (fun _ _ => Off.none _) (Off.none _) (Off.none _)
/-- Something of another type is turned. -/
theorem Gx.other {e' : TypeId} {s' B' n' : Nat} {v' : Value} {xs' : List Value} (G : Gx e te s B wr m h rR c lf cc rG) (ho : wr.ownsRow B' e' s' v' n' xs') (n1 : e ≠ e') (n2 : te ≠ e') (hg : wr.grownBy wr' v'.ownBlock) : Gx e te s B wr' m h rR c lf cc rG :=
  G.grow hg (fun i hi => own_types (G.lx.fam.own i hi) ho n1) (fun i hi => own_types (G.lx.own i hi) ho n1) (own_types G.oR ho n2) (own_types G.oG ho n2)
theorem Gx.start (G : Gx e te s B wr m h rR cc lf cc rG) (hc : cc < m) : Gx e te s B wr m h rR (cc + 1) (upr lf cc (h cc)) cc rG :=
  ⟨G.ne, G.lx.start hc, G.oR, G.nR, G.vR, G.oG, G.nG, by rw [G.vG]; exact vals_congr (fun i hi => by rw [upr_other _ _ _ _ (by omega)]), by omega, G.apart⟩
/-- One element is put behind the longer row that is being made. -/
theorem Gx.app {P : Program} (t : TypeId) (z : Value) (bs : Nat) (ht : P.underlying t = some (.slice e)) (hinf : (P.info? e).map (fun i => (i.zero, i.size, i.bytes)) = some (some z, s, bs)) (hzs : z.cells.size = s) (hs : 0 < s)
    (G : Gx e te s B wr m h rR (cc + 1) lf cc rG) (hc : cc < m) (ys : List Value) (hyl : ys.length = s) (h1y : ∀ u ∈ ys, u.oneCell' = true) (hl : ((lf cc).n + 1) * bs ≤ 140737488355328) (hl2 : (lf cc).n + 1 ≤ 140737488355328) (hb : B ≤ wr.heap.size) :
    ∃ r w', (Builtin.append_ #[t, t] t #[(lf cc).val, .slice (some ⟨wr.heap.size, 0, none⟩) 1 1]).run P (wr.alloc (.cells ys.toArray e)) = .ok r.val w' ∧ Gx e te s B w' m h rR (cc + 1) (upr lf cc r) cc rG ∧ r.n = (lf cc).n + 1 ∧ r.vs = (lf cc).vs ++ ys ∧ (lf cc).At e s B wr ∧ wr.grownBy w' (lf cc).blk := by
  have kN : Kept [] wr (wr.alloc (.cells ys.toArray e)) := (Kept.refl [] wr).alloc _
  have hnew := heap_new wr (.cells ys.toArray e)
  have G1 := G.kept kN
  have hown := G1.lx.own cc (by omega)
  have hsz : wr.heap.size ≤ (wr.alloc (.cells ys.toArray e)).heap.size := kN.size
  obtain ⟨g, c', w', hrun, hn, hst, hg, hbk⟩ := run_append_both (P := P) t t z bs ht hinf hzs hs (lf cc) 1 ys wr.heap.size 1 hown (by omega) (by decide) (fun j u hj => by rw [cell_of_row _ _ _ _ _ _ hnew]; simpa using hj) h1y hl hl2 (by omega)
  have L := G1.lx.app (r := ⟨some ⟨g, 0, none⟩, c', (lf cc).n + 1, (lf cc).vs ++ ys⟩) hc hn hst hg (by
    rcases hbk with hbk | hbk
    · exact .inl hbk
    · right; intro k hk; cases hk; exact Nat.le_of_eq hbk.symm) (by show _ ≤ (lf cc).n + 1; omega)
  refine ⟨⟨some ⟨g, 0, none⟩, c', (lf cc).n + 1, (lf cc).vs ++ ys⟩, w', hrun, ⟨G.ne, L, G1.oR.keep hg (own_types G1.oR hown (Ne.symm G.ne)), G.nR, G.vR, G1.oG.keep hg (own_types G1.oG hown (Ne.symm G.ne)), G.nG, ?_, by omega, G.apart⟩, rfl, rfl, G.lx.own cc (by omega), ?_⟩
  · rw [G.vG]; exact vals_congr (fun i hi => by rw [upr_other _ _ _ _ (by omega)])
  · exact grown_trans (kept_grown kN (by simp)) hg
/-- The longer row is put behind those that are held. -/
theorem Gx.push {P : Program} (t : TypeId) (ht : P.underlying t = some (.slice te)) (hinf : (P.info? te).map (fun i => (i.zero, i.size, i.bytes)) = some (some (.slice none 0 0), 1, 24))
    (G : Gx e te s B wr m h rR (cc + 1) lf cc rG) (hc : cc < 1000000) (hb : B ≤ wr.heap.size) :
    ∃ r w', (Builtin.append_ #[t, t] t #[rG.val, .slice (some ⟨wr.heap.size, 0, none⟩) 1 1]).run P (wr.alloc (.cells #[(lf cc).val] te)) = .ok r.val w' ∧ Gx e te s B w' m h rR (cc + 1) lf (cc + 1) r ∧ rG.At te 1 B wr ∧ wr.grownBy w' rG.blk := by
  have kN : Kept [] wr (wr.alloc (.cells #[(lf cc).val] te)) := (Kept.refl [] wr).alloc _
  have hnew := heap_new wr (.cells #[(lf cc).val] te)
  have G1 := G.kept kN
  have hsz : wr.heap.size ≤ (wr.alloc (.cells #[(lf cc).val] te)).heap.size := kN.size
  have hnG := G.nG
  obtain ⟨g, c', w', hrun, hn, hst, hg, hbk⟩ := run_append_both (P := P) t t (.slice none 0 0) 24 ht hinf rfl (by decide) rG 1 [(lf cc).val] wr.heap.size 1 G1.oG (by simp) (by decide) (fun j u hj => by rw [cell_of_row _ _ _ _ _ _ hnew]; simpa using hj) (by simp [Rw.val, Value.oneCell']) (by omega) (by omega) (by omega)
  have hU : vals (cc + 1) lf = vals cc lf ++ [(lf cc).val] := vals_succ cc lf
  refine ⟨⟨some ⟨g, 0, none⟩, c', rG.n + 1, rG.vs ++ [(lf cc).val]⟩, w', hrun, ⟨G.ne, G1.lx.grow hg (fun i hi => own_types (G1.lx.fam.own i hi) G1.oG G.ne) (fun i hi => own_types (G1.lx.own i hi) G1.oG G.ne), G1.oR.keep hg G.apart, G.nR, G.vR, hn, by show rG.n + 1 = _; rw [hnG], by show rG.vs ++ _ = _; rw [hU, G.vG], by omega, ?_⟩, G.oG, ?_⟩
  · rcases hbk with hbk | hbk
    · show Off rR.blk (some g); rw [hbk]; exact G.apart
    · show Off rR.blk (some g); rw [hbk]; exact G1.oR.new (Nat.le_refl _)
  · exact grown_trans (kept_grown kN (by simp)) hg
/-- One row holds something else now. -/
theorem Gx.turn (G : Gx e te s B wr m h rR 0 lf 0 rG) {i : Nat} (hi : i < m) {vs : List Value} (hn : (Rw.mk (h i).o (h i).c (h i).n vs).At e s B wr') (hg : wr.grownBy wr' (h i).blk) : Gx e te s B wr' m (upr h i ⟨(h i).o, (h i).c, (h i).n, vs⟩) rR 0 lf 0 rG := by
  have hat := G.lx.fam.own i hi
  refine ⟨G.ne, ⟨G.lx.fam.turn hi hn hg, fun j hj => absurd hj (by omega), fun j j' hj => absurd hj (by omega), fun j j' hj => absurd hj (by omega), fun j hj => absurd hj (by omega)⟩, G.oR.keep hg (own_types G.oR hat (Ne.symm G.ne)), G.nR, ?_, G.oG.keep hg (own_types G.oG hat (Ne.symm G.ne)), G.nG, G.vG, G.le, G.apart⟩
  rw [G.vR]
  exact (vals_congr (fun j _ => upr_val h i ⟨(h i).o, (h i).c, (h i).n, vs⟩ rfl j)).symm
/-- Rows in a row that was made, nothing longer yet. -/
theorem Gx.begin (hne : e ≠ te) (F : Fam e s B wr m h) {rR : Rw} (hR : rR.At te 1 B wr) (nR : rR.n = m) (vR : rR.vs = vals m h) : Gx e te s B wr m h rR 0 h 0 rw0 :=
  ⟨hne, ⟨F, fun j hj => absurd hj (by omega), fun j j' hj => absurd hj (by omega), fun j j' hj => absurd hj (by omega), fun j hj => absurd hj (by omega)⟩, hR, nR, vR, World.ownsRow_nil _ _ _ _, rfl, rfl, Nat.le_refl _, Off.none _⟩
/-- Row i's value stands in its cell. -/
theorem rw_cell {B' : Nat} {r : Rw} {n : Nat} {f : Nat → Rw} (hr : r.At te 1 B' wr) (hn : r.n = n) (hv : r.vs = vals n f) {i : Nat} (hi : i < n) : ∃ g, r.o = some ⟨g, 0, none⟩ ∧ wr.cell? ⟨g, i, none⟩ = some (f i).val := by
  rcases hr.2 with ⟨_, h0⟩ | ⟨g, cap, cur, hv', _, hg, _, _, _, ht⟩
  · omega
  · unfold Rw.val at hv'
    injection hv' with e1 _ _
    refine ⟨g, e1, ?_⟩
    rw [cell_of_row _ _ _ _ _ _ hg]
    have h1 := vals_at n f i hi
    rw [← hv, ← ht, List.getElem?_take] at h1
    split at h1
    · simpa using h1
    · cases h1
end
end Go.Proofs.YtjogfpogdjhglaaDoor
