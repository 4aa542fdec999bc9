/-
  directory.twin: from the first loop to the second; a change as a call.
-/
import Derived.Test.YtcmiehfahdbffabKe
import Derived.Test.YtcmiehfahdbffabHb
namespace Go.Proofs.Ytcmiehfahdbffab
open Go.RowKit Dsk
set_option linter.unusedVariables false
set_option linter.unusedSimpArgs false
theorem TwA.toB {S : Ds} {w wr w5 w6 : World} {db mb rb : Nat} {left : Lit → Bool} {A : Nat → Nat} {o : Lab} (h : TwA S w wr db mb rb left A o) (hl : ∀ k, left k = false) (hM : Mp w5 wr.heap.size A (S.safe.ren S.rho)) (hk : Kept [] wr w5) (hw6 : w6 = w5.setCell ⟨db, 2, none⟩ (.map (some wr.heap.size))) (hd5 : w5.heap[db]? = some (.cells #[.map (some mb), .slice none 0 0, .map none] 65 (0, 0))) (gd : w.heap.size ≤ db) (dr : rb ≠ db) (gr : w.heap.size ≤ rb) :
    TwB S w w6 db mb wr.heap.size rb (.slice none 0 0) 0 A (o.ext wr w5 1) := by
  have hK6 : Keep (· = db) w5 w6 := by rw [hw6]; exact (Keep.refl (· = db) w5).setCell (p := ⟨db, 2, none⟩) (fun _ => rfl) _
  have hd6 : w6.heap[db]? = some (.cells (#[.map (some mb), .slice none 0 0, .map none].setIfInBounds 2 (.map (some wr.heap.size))) 65 (0, 0)) := by rw [hw6]; exact heap_setCell_same w5 db 2 _ _ _ hd5
  have old : ∀ b, b < wr.heap.size → o.ext wr w5 1 b = o b := fun b hb => Lab.ext_old hb
  have hml := h.map.lt
  have hdl := (Array.getElem?_eq_some_iff.1 h.dir).1
  have hrl := (Array.getElem?_eq_some_iff.1 h.res).1
  have hhl := hM.lt
  have hz := hk.size
  have hz6 := hK6.size
  have hmd : mb ≠ db := map_ne h.map h.dir (by simp)
  have hA6 : Keep (· = db) wr w6 := (Keep.ofNone hk).trans hK6 (fun i e _ => e)
  have hmS : Mp wr mb A (S.safe.ren S.rho) := by have := h.map; rw [notLeft_all hl] at this; exact this
  refine ⟨⟨hA6.os.trans h.keep.os, hA6.tape.trans h.keep.tape, hA6.output.trans h.keep.output, Nat.le_trans h.keep.size hA6.size, fun i hi _ => (hA6.block i (by have := h.keep.size; omega) (fun e => by omega)).trans (h.keep.block i hi (by simp))⟩, hd6, hA6.heapOf h.res dr, by omega, hmS.keep hA6 hmd, hM.keep hK6 (by omega), World.ownsRow_nil _ _ _ _, fun k hk2 => ?_, fun b hb => ?_, by rw [old mb hml]; exact h.lm, Lab.ext_new (Nat.le_refl _) hhl, by simp [Value.ownBlock], by rw [old db hdl]; exact h.nd, by rw [old rb hrl]; exact h.nr, gd, dr, gr⟩
  · simp only [List.take_zero] at hk2
    have hk3 : k ∈ S.safe.ids := by simpa [madeN] using hk2
    obtain ⟨q, hq, rfl⟩ := List.mem_map.1 hk3
    refine ((h.th q hq (hl _)).relab old).keep hA6 (fun g hg e => ?_)
    rw [e, old db hdl, h.nd] at hg
    omega
  · by_cases hb1 : b < wr.heap.size
    · rw [old b hb1] at hb
      have := h.lim b hb
      exact ⟨this.1, by omega⟩
    · by_cases hb2 : b < w5.heap.size
      · exact ⟨by have := h.keep.size; omega, by omega⟩
      · simp [Lab.ext, hb1, hb2] at hb
theorem TwB.kept {S : Ds} {w wr v1 : World} {db mb mh rb j : Nat} {rv : Value} {A : Nat → Nat} {o : Lab} (h : TwB S w wr db mb mh rb rv j A o) (hk1 : Kept [] wr v1) : TwB S w v1 db mb mh rb rv j A o := by
  have kF : Keep (fun _ => False) wr v1 := Keep.ofNone hk1
  exact ⟨h.keep.trans hk1 (by simp), kF.heapOf h.dir (fun h => h), kF.heapOf h.res (fun h => h), h.ne, h.mapS.keep kF (fun h => h), h.mapH.keep kF (fun h => h), own_keeps h.row kF (fun _ _ h => h), fun k hk => (h.th k hk).keep kF (fun _ _ h => h), fun b hb => ⟨(h.lim b hb).1, Nat.lt_of_lt_of_le (h.lim b hb).2 hk1.size⟩, h.lm, h.lh, h.lr, h.nd, h.nr, h.gd, h.dr, h.gr⟩
theorem okN_at {l : Nm} {r : List Nc} (h : okN l r) {j : Nat} {c : Nc} (hc : r[j]? = some c) : c.ok (Dsk.runN l (r.take j)) := by
  have h1 := okN_take l r (j + 1) h
  rw [List.take_add_one, hc] at h1
  exact ((okN_snoc l (r.take j) c).1 h1).2
theorem short_ren {S : Ds} (hw : S.Wf) {c : Nc} (hc : c ∈ S.row) (f : Nat → Nat) : ncShort (c.ren f) := by
  have h := hw.nmr c hc
  cases c with
  | mk n k => exact isNm_len h
  | gv a b => exact ⟨isNm_len h.1, isNm_len h.2⟩
  | tk n => exact isNm_len h
theorem TwB.doChange {S : Ds} {w wr : World} {db mb mh rb j : Nat} {rv : Value} {A : Nat → Nat} {o : Lab} {N : Nat} (h : TwB S w wr db mb mh rb rv j A o) (hw : S.Wf) (hB : S.Bd N) (hN : N ≤ 268435456) {c : Nc} (hc : S.row[j]? = some c) (ht : ∀ k ∈ c.made, Tg wr o (S.rho k + 2) (A (S.rho k)) (S.th k)) :
    Calls Try.prog 50 #[.pointer (some ⟨db, 0, none⟩), encNc A (c.ren S.rho)] wr fun e w' => e = .returned (.tuple #[]) ∧ ∃ rv5 o5, TwB S w w' db mb mh rb rv5 (j + 1) A o5 := by
  have hb := hB.nm
  have hlen : ((S.row.take j).map (Nc.ren S.rho)).length ≤ S.row.length := by simp; omega
  have hrl := runN_len (S.safe.ren S.rho) ((S.row.take j).map (Nc.ren S.rho))
  rw [Nm.ren_len] at hrl
  refine (dirChange_ok (c.ren S.rho) db 0 mh 65 _ rv A _ ((S.row.take j).map (Nc.ren S.rho)) wr h.dir (by decide) rfl rfl h.row h.mapH ?_ (short_ren hw (List.mem_of_getElem? hc) _) (by omega) (by omega)).mono ?_
  · rw [ren_run]
    exact Nc.ren_ok _ _ (okN_at hw.ok hc)
  · rintro e w' ⟨rfl, rv5, h1, h2, h3, h4, h5⟩
    exact ⟨rfl, rv5, _, h.change hc ht h1 h2 h3 h4 h5⟩
end Go.Proofs.Ytcmiehfahdbffab
