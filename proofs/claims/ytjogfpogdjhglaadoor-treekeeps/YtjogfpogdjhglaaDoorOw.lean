/-
  TreeKeeps: what is written into the rows and lists. (Seat ..ab.)
-/
import Derived.Test.YtjogfpogdjhglaaDoorOt
import Derived.Test.YtjogfpogdjhglaaDoorOs
import Derived.Test.YtjogfpogdjhglaaDoorOv
namespace Go.Proofs.YtjogfpogdjhglaaDoor
open Go.RowKit
set_option linter.unusedVariables false
set_option linter.unusedSimpArgs false

section
variable {w wr wr' : World} {mb ml : Nat} {fb fl : Nat → Rw} {vR vL : Value}
/-- One row of bytes holds something else now. -/
theorem Tk.turnB (h : Tk w wr mb ml fb fl vR vL) {i : Nat} (hi : i < mb) {vs : List Value} (hn : (Rw.mk (fb i).o (fb i).c (fb i).n vs).At 5 1 w.heap.size wr') (hg : wr.grownBy wr' (fb i).blk) : Tk w wr' mb ml (upr fb i ⟨(fb i).o, (fb i).c, (fb i).n, vs⟩) fl vR vL := by
  have hat := h.bf.own i hi
  have hk : Kept (fb i).blk.toList wr wr' := (Kept.refl _ wr).grown hg (fun k hk _ => by simp [hk])
  refine ⟨h.bel.trans (hk.below h.bel.size (fun g hg' => hat.ge (by simpa using hg'))), h.bf.turn hi hn hg, h.lf.grow hg (fun j hj => own_types (h.lf.own j hj) hat (by decide)), ?_, own_keep h.oL hg (own_types h.oL hat (by decide))⟩
  rw [vals_congr (fun j _ => upr_val fb i ⟨(fb i).o, (fb i).c, (fb i).n, vs⟩ rfl j)]
  exact own_keep h.oR hg (own_types h.oR hat (by decide))
/-- One list holds something else now. -/
theorem Tk.turnL (h : Tk w wr mb ml fb fl vR vL) {i : Nat} (hi : i < ml) {vs : List Value} (hn : (Rw.mk (fl i).o (fl i).c (fl i).n vs).At 42 34 w.heap.size wr') (hg : wr.grownBy wr' (fl i).blk) : Tk w wr' mb ml fb (upr fl i ⟨(fl i).o, (fl i).c, (fl i).n, vs⟩) vR vL := by
  have hat := h.lf.own i hi
  have hk : Kept (fl i).blk.toList wr wr' := (Kept.refl _ wr).grown hg (fun k hk _ => by simp [hk])
  refine ⟨h.bel.trans (hk.below h.bel.size (fun g hg' => hat.ge (by simpa using hg'))), h.bf.grow hg (fun j hj => own_types (h.bf.own j hj) hat (by decide)), h.lf.turn hi hn hg, own_keep h.oR hg (own_types h.oR hat (by decide)), ?_⟩
  rw [vals_congr (fun j _ => upr_val fl i ⟨(fl i).o, (fl i).c, (fl i).n, vs⟩ rfl j)]
  exact own_keep h.oL hg (own_types h.oL hat (by decide))
end
theorem there_row {w : World} {g : Nat} {cur : Array Value} {t : TypeId} (hg : w.heap[g]? = some (.cells cur t (0, 0))) (o m : Nat) (h : o + m ≤ cur.size) : w.there g o m := fun j hj =>
  ⟨by rw [cell_of_row _ _ _ _ _ _ hg, Array.getElem?_eq_getElem (by omega)]; rfl, frozen_of_row _ _ _ _ _ hg⟩
theorem kept_cells {l : List Nat} {g : Nat} (hg : g ∈ l) : ∀ (vs : List Value) (o : Nat) (w0 w : World), Kept l w0 w → Kept l w0 (w.setCells g o vs)
  | [], _, _, _, h => h
  | v :: r, o, w0, w, h => kept_cells hg r (o + 1) w0 _ (h.setCell (fun _ => hg) v)
/-- Behind i rounds of the third loop, kb bytes and kl entries. -/
structure Tm (w wr : World) (fb fl : Nat → Rw) (vR vL : Value) (i kb kl : Nat) : Prop where
  tk : Tk w wr 12 12 fb fl vR vL
  b : ∀ j, j < 12 → ∃ xs : List UInt8, (fb j).n = xs.length ∧ (fb j).vs = bys xs ∧ xs.length ≤ 1000000 ∧ ∀ k, k < xs.length → (j < i ∨ (j = i ∧ k < kb)) → (xs.getD k 0).toNat = j
  l : ∀ j, j < 12 → ∃ L : List Ent, (fl j).n = L.length ∧ (fl j).vs = rows L ∧ L.length ≤ 32 ∧ (∀ e ∈ L, EntOk e) ∧ ∀ k, k < L.length → (j < i ∨ (j = i ∧ k < kl)) → L.getD k ent0 = wro j k
section
variable {w wr wr' : World} {fb fl : Nat → Rw} {vR vL : Value} {i kb kl : Nat}
theorem Tm.kept (h : Tm w wr fb fl vR vL i kb kl) (hk : Kept [] wr wr') : Tm w wr' fb fl vR vL i kb kl := ⟨h.tk.kept hk, h.b, h.l⟩
/-- A byte is written. -/
theorem Tm.setB (h : Tm w wr fb fl vR vL i kb kl) (hi : i < 12) {g : Nat} (ho : (fb i).o = some ⟨g, 0, none⟩) : Tm w (wr.setCell ⟨g, kb, none⟩ (.int .u8 i)) (upr fb i ⟨(fb i).o, (fb i).c, (fb i).n, (fb i).vs.set kb (.int .u8 i)⟩) fl vR vL i (kb + 1) kl := by
  obtain ⟨h1, h2⟩ := (h.tk.bf.own i hi).set (k := kb) ho (.int .u8 i)
  refine ⟨h.tk.turnB hi h1 h2, fun j hj => ?_, h.l⟩
  obtain ⟨xs, q1, q2, q3, q4⟩ := h.b j hj
  by_cases e : j = i
  · subst e
    have hx : (UInt8.ofNat j).toNat = j := by simp [UInt8.toNat_ofNat', Nat.mod_eq_of_lt (show j < 256 by omega)]
    refine ⟨xs.set kb (UInt8.ofNat j), by rw [upr_same]; simpa using q1, ?_, by simpa using q3, fun k hk hc => ?_⟩
    · rw [upr_same]
      show (fb j).vs.set kb (.int .u8 j) = _
      rw [q2, ← bys_set, hx]
    · rw [List.length_set] at hk
      by_cases e2 : k = kb
      · subst e2
        simp [List.getD, hk]
        omega
      · have := q4 k hk (by omega)
        rw [← this]
        simp [List.getD, List.getElem?_set, Ne.symm e2]
  · rw [upr_other _ _ _ _ e]
    exact ⟨xs, q1, q2, q3, fun k hk hc => q4 k hk (by omega)⟩
/-- An entry is written. -/
theorem Tm.setL (h : Tm w wr fb fl vR vL i kb kl) (hi : i < 12) {g : Nat} (ho : (fl i).o = some ⟨g, 0, none⟩) (hk : kl < (fl i).n) : ∃ fl', Tm w (wr.setCells g (kl * 34) (wro i kl).cells) fb fl' vR vL i kb (kl + 1) ∧ (fl' i).o = (fl i).o ∧ (fl' i).n = (fl i).n ∧ (fl' i).c = (fl i).c := by
  have hok : EntOk (wro i kl) := wro_ok (by omega)
  obtain ⟨ew, hew⟩ : ∃ ew, wro i kl = ew := ⟨_, rfl⟩
  rw [hew] at hok ⊢
  obtain ⟨h1, h2⟩ := Rw.At.sets ew.cells (kl * 34) wr (fl i) (h.tk.lf.own i hi) ho
  have hb : (fl i).blk = some g := by unfold Rw.blk Rw.val; rw [ho]; rfl
  rw [← hb] at h2
  refine ⟨_, ⟨h.tk.turnL hi h1 h2, h.b, fun j hj => ?_⟩, by rw [upr_same], by rw [upr_same], by rw [upr_same]⟩
  obtain ⟨L, q1, q2, q3, q5, q4⟩ := h.l j hj
  by_cases e : j = i
  · subst e
    refine ⟨L.set kl ew, by rw [upr_same]; simpa using q1, ?_, by simpa using q3, fun x hx => ?_, fun k hk2 hc => ?_⟩
    · rw [upr_same]
      dsimp only
      rw [q2, rows_put q5 hok (by omega)]
    · rcases List.mem_or_eq_of_mem_set hx with hx | rfl
      · exact q5 x hx
      · exact hok
    · rw [List.length_set] at hk2
      by_cases e2 : k = kl
      · subst e2
        rw [hew]
        simp [List.getD, hk2]
      · have := q4 k hk2 (by omega)
        rw [← this]
        simp [List.getD, List.getElem?_set, Ne.symm e2]
  · rw [upr_other _ _ _ _ e]
    exact ⟨L, q1, q2, q3, q5, fun k hk hc => q4 k hk (by omega)⟩
/-- The round is over. -/
theorem Tm.next (h : Tm w wr fb fl vR vL i kb kl) (hb : (fb i).n ≤ kb) (hl : (fl i).n ≤ kl) : Tm w wr fb fl vR vL (i + 1) 0 0 := by
  refine ⟨h.tk, fun j hj => ?_, fun j hj => ?_⟩
  · obtain ⟨xs, q1, q2, q3, q4⟩ := h.b j hj
    refine ⟨xs, q1, q2, q3, fun k hk hc => q4 k hk ?_⟩
    by_cases e : j = i
    · subst e; right; omega
    · left; omega
  · obtain ⟨L, q1, q2, q3, q5, q4⟩ := h.l j hj
    refine ⟨L, q1, q2, q3, q5, fun k hk hc => q4 k hk ?_⟩
    by_cases e : j = i
    · subst e; right; omega
    · left; omega
end
end Go.Proofs.YtjogfpogdjhglaaDoor
