/-
  TreeKeeps: its rows and lists side by side. (Seat ..ab.)
-/
import Derived.Test.YtjogfpogdjhglaaDoorOk
import Derived.Test.YtjogfpogdjhglaaDoorOg
namespace Go.Proofs.YtjogfpogdjhglaaDoor
open Go.RowKit
set_option linter.unusedVariables false
set_option linter.unusedSimpArgs false

theorem Kept.grownBy {l : List Nat} {w w' : World} {row : Option Nat} (h : Kept l w w') (hl : ∀ g ∈ l, row = some g) : w.grownBy w' row :=
  ⟨h.os, h.tape, h.output, h.size, fun k hk hne => h.block k hk (fun hm => hne (hl k hm).symm)⟩
/-- Bytes, entries of their own as rows. -/
def rwB (ao : Option Addr) (c : Nat) (xs : List UInt8) : Rw := ⟨ao, c, xs.length, bys xs⟩
def rwE (ao : Option Addr) (c : Nat) (L : List Ent) : Rw := ⟨ao, c, L.length, rows L⟩
theorem rwB_at {w : World} {base : Nat} {ao : Option Addr} {c : Nat} {xs : List UInt8} (h : OwnB w base (.slice ao xs.length c) xs) : (rwB ao c xs).At 5 1 base w := h
theorem rwE_at {w : World} {base : Nat} {ao : Option Addr} {c : Nat} {L : List Ent} (h : OwnE w base (.slice ao L.length c) L) : (rwE ao c L).At 42 34 base w := h.1
theorem Rw.At.base {e : TypeId} {s B B' : Nat} {w : World} {r : Rw} (h : r.At e s B w) (hB : B' ≤ B) : r.At e s B' w := own_base h hB
theorem Rw.At.ge {e : TypeId} {s B : Nat} {w : World} {r : Rw} (h : r.At e s B w) {k : Nat} (hk : r.blk = some k) : B ≤ k := (World.ownsRow.lt h k hk).1
/-- What was there lies apart from what is new. -/
theorem off_new {e e' : TypeId} {s s' B B' : Nat} {w w' : World} {r r' : Rw} (h : r.At e s B w) (h' : r'.At e' s' B' w') (hB : w.heap.size ≤ B') : Off r.blk r'.blk := fun k h1 h2 => by
  have := h.blk_lt h1
  have := h'.ge h2
  omega

/-- Rows of bytes and lists of entries, each in a block of its own, and the two rows that hold them. -/
structure Tk (w wr : World) (mb ml : Nat) (fb fl : Nat → Rw) (vR vL : Value) : Prop where
  bel : Below w.heap.size w wr
  bf : Fam 5 1 w.heap.size wr mb fb
  lf : Fam 42 34 w.heap.size wr ml fl
  oR : wr.ownsRow w.heap.size 23 1 vR mb (vals mb fb)
  oL : wr.ownsRow w.heap.size 22 1 vL ml (vals ml fl)
section
variable {w wr wr' : World} {mb ml : Nat} {fb fl : Nat → Rw} {vR vL : Value}
theorem Tk.start (w : World) (fb fl : Nat → Rw) : Tk w w 0 0 fb fl (.slice none 0 0) (.slice none 0 0) :=
  ⟨Below.refl _ _, ⟨fun i hi => absurd hi (by omega), fun i j hi => absurd hi (by omega)⟩, ⟨fun i hi => absurd hi (by omega), fun i j hi => absurd hi (by omega)⟩, World.ownsRow_nil _ _ _ _, World.ownsRow_nil _ _ _ _⟩
theorem Tk.kept (h : Tk w wr mb ml fb fl vR vL) (hk : Kept [] wr wr') : Tk w wr' mb ml fb fl vR vL := by
  have hg : wr.grownBy wr' none := hk.grownBy (by simp)
  exact ⟨h.bel.trans (hk.below h.bel.size (by simp)), h.bf.grow hg (fun _ _ => Off.none _), h.lf.grow hg (fun _ _ => Off.none _), own_keep h.oR hg (Off.none _), own_keep h.oL hg (Off.none _)⟩
/-- Two rows of bytes more. -/
theorem Tk.addB (h : Tk w wr mb ml fb fl vR vL) {r1 r2 : Rw} (h1 : r1.At 5 1 w.heap.size wr) (h2 : r2.At 5 1 w.heap.size wr) (o1 : ∀ i, i < mb → Off (fb i).blk r1.blk) (o2 : ∀ i, i < mb → Off (fb i).blk r2.blk) (o12 : Off r1.blk r2.blk)
    {vR' : Value} (hn : wr'.ownsRow w.heap.size 23 1 vR' (mb + 2) (vals mb fb ++ [r1.val, r2.val])) (hg : wr.grownBy wr' vR.ownBlock) : Tk w wr' (mb + 2) ml (upr (upr fb mb r1) (mb + 1) r2) fl vR' vL := by
  have f1 : Fam 5 1 w.heap.size wr (mb + 2) (upr (upr fb mb r1) (mb + 1) r2) := by
    refine (h.bf.more h1 o1).more h2 (fun i hi => ?_)
    by_cases e : i = mb
    · subst e; rw [upr_same]; exact o12
    · rw [upr_other _ _ _ _ e]; exact o2 i (by omega)
  have hbel : Below w.heap.size w wr' := by
    have hk : Kept vR.ownBlock.toList wr wr' := (Kept.refl _ wr).grown hg (fun k hk _ => by simp [hk])
    exact h.bel.trans (hk.below h.bel.size (fun g hg' => (World.ownsRow.lt h.oR g (by simpa using hg')).1))
  have hv : vals (mb + 2) (upr (upr fb mb r1) (mb + 1) r2) = vals mb fb ++ [r1.val, r2.val] := by
    rw [vals_succ, vals_succ, upr_same, upr_other _ _ _ _ (show mb ≠ mb + 1 by omega), upr_same]
    rw [vals_congr (f := upr (upr fb mb r1) (mb + 1) r2) (g := fb) (fun i hi => by rw [upr_other _ _ _ _ (by omega), upr_other _ _ _ _ (by omega)])]
    simp
  refine ⟨hbel, f1.grow hg (fun i hi => own_types (f1.own i hi) h.oR (by decide)), h.lf.grow hg (fun i hi => own_types (h.lf.own i hi) h.oR (by decide)), by rw [hv]; exact hn, own_keep h.oL hg (own_types h.oL h.oR (by decide))⟩
/-- Two lists of entries more. -/
theorem Tk.addL (h : Tk w wr mb ml fb fl vR vL) {r1 r2 : Rw} (h1 : r1.At 42 34 w.heap.size wr) (h2 : r2.At 42 34 w.heap.size wr) (o1 : ∀ i, i < ml → Off (fl i).blk r1.blk) (o2 : ∀ i, i < ml → Off (fl i).blk r2.blk) (o12 : Off r1.blk r2.blk)
    {vL' : Value} (hn : wr'.ownsRow w.heap.size 22 1 vL' (ml + 2) (vals ml fl ++ [r1.val, r2.val])) (hg : wr.grownBy wr' vL.ownBlock) : Tk w wr' mb (ml + 2) fb (upr (upr fl ml r1) (ml + 1) r2) vR vL' := by
  have f1 : Fam 42 34 w.heap.size wr (ml + 2) (upr (upr fl ml r1) (ml + 1) r2) := by
    refine (h.lf.more h1 o1).more h2 (fun i hi => ?_)
    by_cases e : i = ml
    · subst e; rw [upr_same]; exact o12
    · rw [upr_other _ _ _ _ e]; exact o2 i (by omega)
  have hbel : Below w.heap.size w wr' := by
    have hk : Kept vL.ownBlock.toList wr wr' := (Kept.refl _ wr).grown hg (fun k hk _ => by simp [hk])
    exact h.bel.trans (hk.below h.bel.size (fun g hg' => (World.ownsRow.lt h.oL g (by simpa using hg')).1))
  have hv : vals (ml + 2) (upr (upr fl ml r1) (ml + 1) r2) = vals ml fl ++ [r1.val, r2.val] := by
    rw [vals_succ, vals_succ, upr_same, upr_other _ _ _ _ (show ml ≠ ml + 1 by omega), upr_same]
    rw [vals_congr (f := upr (upr fl ml r1) (ml + 1) r2) (g := fl) (fun i hi => by rw [upr_other _ _ _ _ (by omega), upr_other _ _ _ _ (by omega)])]
    simp
  refine ⟨hbel, h.bf.grow hg (fun i hi => own_types (h.bf.own i hi) h.oL (by decide)), f1.grow hg (fun i hi => own_types (f1.own i hi) h.oL (by decide)), own_keep h.oR hg (own_types h.oR h.oL (by decide)), by rw [hv]; exact hn⟩
/-- Row i's value stands in its cell. -/
theorem Tk.cellB (h : Tk w wr mb ml fb fl vR vL) {i : Nat} (hi : i < mb) : ∃ g c, vR = .slice (some ⟨g, 0, none⟩) mb c ∧ wr.cell? ⟨g, i, none⟩ = some (fb i).val := by
  rcases h.oR.2 with ⟨_, h0⟩ | ⟨g, cap, cur, hv, _, hg, _, _, _, ht⟩
  · omega
  · refine ⟨g, cap, hv, ?_⟩
    rw [cell_of_row _ _ _ _ _ _ hg]
    have h1 := vals_at mb fb i hi
    rw [← ht, List.getElem?_take] at h1
    split at h1
    · simpa using h1
    · cases h1
theorem Tk.cellL (h : Tk w wr mb ml fb fl vR vL) {i : Nat} (hi : i < ml) : ∃ g c, vL = .slice (some ⟨g, 0, none⟩) ml c ∧ wr.cell? ⟨g, i, none⟩ = some (fl i).val := by
  rcases h.oL.2 with ⟨_, h0⟩ | ⟨g, cap, cur, hv, _, hg, _, _, _, ht⟩
  · omega
  · refine ⟨g, cap, hv, ?_⟩
    rw [cell_of_row _ _ _ _ _ _ hg]
    have h1 := vals_at ml fl i hi
    rw [← ht, List.getElem?_take] at h1
    split at h1
    · simpa using h1
    · cases h1
end
/-- append(rows, a, b): the two lie in a new block. -/
theorem run_append_two {P : Program} (t e : TypeId) (ht : P.underlying t = some (.slice e)) (hinf : (P.info? e).map (fun i => (i.zero, i.size, i.bytes)) = some (some (.slice none 0 0), 1, 24)) (w : World) (B : Nat) (v : Value) (n : Nat) (xs : List Value) (a b : Value) (hown : w.ownsRow B e 1 v n xs) (h1 : a.oneCell' = true) (h2 : b.oneCell' = true) (hl : n + 2 ≤ 1000000) (hb : B ≤ w.heap.size) :
    ∃ v' w', (Builtin.append_ #[t, t] t #[v, .slice (some ⟨w.heap.size, 0, none⟩) 2 2]).run P (w.alloc (.cells #[a, b] e)) = .ok v' w' ∧ w'.ownsRow B e 1 v' (n + 2) (xs ++ [a, b]) ∧ w.grownBy w' v.ownBlock := by
  obtain ⟨i0, hi, hz0, hz1, hz2⟩ := info_parts hinf
  have hnew := heap_new w (.cells #[a, b] e)
  have kN : Kept [] w (w.alloc (.cells #[a, b] e)) := (Kept.refl [] w).alloc _
  have hown' : (w.alloc (.cells #[a, b] e)).ownsRow B e 1 v n xs := own_keep hown (kN.grownBy (row := none) (by simp)) (Off.none _)
  obtain ⟨v', w', hrun, h1', hg, _, _⟩ := run_append_own_at (P := P) (w.alloc (.cells #[a, b] e)) B t t e i0 (.slice none 0 0) 1 24 ht hi hz0 hz1 hz2 rfl (by decide) v n xs hown' ⟨w.heap.size, 0, none⟩ 2 2 [a, b] rfl
    (fun j u hj => by rw [Addr.add_mid, Nat.zero_add, cell_of_row _ _ _ _ _ _ hnew]; simpa using hj) (by simp [h1, h2]) (by unfold maxLen; omega) (by omega) (by simp; omega)
  refine ⟨v', w', hrun, h1', ?_⟩
  exact Kept.grownBy (l := v.ownBlock.toList) ((kN.mono (by simp)).grown hg (fun k hk _ => by simp [hk])) (by simp)
/-- By turns. -/
def pk {α : Type} (a b : α) (j : Nat) : α := if j % 2 = 0 then a else b
/-- Behind i rounds: what the rows and lists hold. -/
structure Tc (i : Nat) (X Z : List UInt8) (Y1 Y2 : List Ent) (fb fl : Nat → Rw) : Prop where
  b : ∀ j, j < 2 * i → (fb j).n = (pk X Z j).length ∧ (fb j).vs = bys (pk X Z j)
  l : ∀ j, j < 2 * i → (fl j).n = (pk Y1 Y2 j).length ∧ (fl j).vs = rows (pk Y1 Y2 j)
theorem Tc.start (X Z : List UInt8) (Y1 Y2 : List Ent) (fb fl : Nat → Rw) : Tc 0 X Z Y1 Y2 fb fl := ⟨fun j hj => absurd hj (by omega), fun j hj => absurd hj (by omega)⟩
theorem Tc.next {i : Nat} {X Z : List UInt8} {Y1 Y2 : List Ent} {fb fl : Nat → Rw} (h : Tc i X Z Y1 Y2 fb fl) (a1 a2 a3 a4 : Option Addr) (c1 c2 c3 c4 : Nat) :
    Tc (i + 1) X Z Y1 Y2 (upr (upr fb (2 * i) (rwB a1 c1 X)) (2 * i + 1) (rwB a2 c2 Z)) (upr (upr fl (2 * i) (rwE a3 c3 Y1)) (2 * i + 1) (rwE a4 c4 Y2)) := by
  refine ⟨fun j hj => ?_, fun j hj => ?_⟩
  · by_cases e1 : j = 2 * i + 1
    · subst e1; rw [upr_same]; simp [pk, rwB, show (2 * i + 1) % 2 = 1 by omega]
    · rw [upr_other _ _ _ _ e1]
      by_cases e2 : j = 2 * i
      · subst e2; rw [upr_same]; simp [pk, rwB]
      · rw [upr_other _ _ _ _ e2]; exact h.b j (by omega)
  · by_cases e1 : j = 2 * i + 1
    · subst e1; rw [upr_same]; simp [pk, rwE, show (2 * i + 1) % 2 = 1 by omega]
    · rw [upr_other _ _ _ _ e1]
      by_cases e2 : j = 2 * i
      · subst e2; rw [upr_same]; simp [pk, rwE]
      · rw [upr_other _ _ _ _ e2]; exact h.l j (by omega)
end Go.Proofs.YtjogfpogdjhglaaDoor
