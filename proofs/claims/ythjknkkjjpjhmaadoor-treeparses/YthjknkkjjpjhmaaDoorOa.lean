/-
  Entries turned, one at a time.
-/
import Derived.Test.YthjknkkjjpjhmaaDoorNy
namespace Go.Proofs.YthjknkkjjpjhmaaDoor
open Go.RowKit
set_option linter.unusedVariables false
set_option linter.unusedSimpArgs false

/-- append([]api.Entry{}, entries...). -/
theorem run_freshE (w : World) (L : List Ent) (ao : Option Addr) (n c : Nat) (hn : L.length = n) (hs : Ents w ao L) (h0 : ao = none → n = 0 ∧ c = 0) (hl : n * 56 ≤ 140737488351232) :
    ∃ v' w', (Builtin.append_ #[24, 24] 24 #[.slice (some ⟨w.heap.size, 0, none⟩) 0 0, .slice ao n c]).run Tryd.prog (w.alloc (.cells #[] 37)) = .ok v' w' ∧ OwnE w' w.heap.size v' L ∧ Kept [] w w' := by
  subst hn
  have hown : (w.alloc (.cells #[] 37)).ownsRow w.heap.size 37 34 (.slice (some ⟨w.heap.size, 0, none⟩) 0 0) 0 [] := World.ownsRow_made w #[] 0 (Nat.le_refl _) (by decide) rfl
  have hk := (Kept.refl [] w).alloc (.cells #[] 37)
  obtain ⟨i0, hi, hz0, hz1, hz2⟩ := info_parts Tryd.infoEnt3
  cases ao with
  | none =>
    obtain ⟨h1, rfl⟩ := h0 rfl
    have : L = [] := List.eq_nil_of_length_eq_zero h1
    subst this
    exact ⟨_, _, run_append_owned_none (P := Tryd.prog) (w := w.alloc (.cells #[] 37)) w.heap.size 24 24 37 i0 34 Tryd.underlying24 hi _ 0 [] hown, ⟨hown, by simp⟩, hk⟩
  | some ad =>
    have hok : ∀ e ∈ L, EntOk e := fun e he => by
      obtain ⟨i, hi, rfl⟩ := List.getElem_of_mem he
      obtain ⟨_, _, _, _, h⟩ := hs i hi
      simpa [List.getD, List.getElem?_eq_getElem hi] using h
    obtain ⟨v', w', hrun, h1', h2, h3, h4⟩ := run_append_own_at (P := Tryd.prog) (w.alloc (.cells #[] 37)) w.heap.size 24 24 37 i0 (.agg zeroE) 34 56 Tryd.underlying24 hi hz0 hz1 hz2 rfl (by omega) _ 0 [] hown ad L.length c (rows L) (rows_len hok)
      (fun j u hj => by
        have hjl := (List.getElem?_eq_some_iff.1 hj).1
        rw [rows_len hok] at hjl
        have hi' : j / 34 < L.length := by omega
        obtain ⟨b', off', e', hc, hok'⟩ := hs (j / 34) hi'
        cases e'
        have hcl := hok'.len
        have h5 : (L.getD (j / 34) ent0).cells[j % 34]? = some ((L.getD (j / 34) ent0).cells[j % 34]'(by omega)) := List.getElem?_eq_getElem (by omega)
        have h6 := rows_at hok (j / 34) (j % 34) _ hi' h5
        rw [show j / 34 * 34 + j % 34 = j by omega, hj] at h6
        have h7 := hc (j % 34) _ h5
        rw [← Option.some.inj h6] at h7
        rw [Addr.add_mid]
        refine hk.cellOf ?_ (by simp)
        rw [show off' + j = off' + j / 34 * 34 + j % 34 by omega]
        exact h7) (rows_one L) (by unfold maxLen; omega) (by omega) hk.size
    rw [Nat.zero_add, List.nil_append] at h1'
    exact ⟨v', w', hrun, ⟨h1', hok⟩, hk.grown h2 (by intro k hk2 hlt; simp [Value.ownBlock] at hk2; omega)⟩

/-- Another entry at a place. -/
theorem Ents.turn {w w' : World} {g : Nat} {L : List Ent} (h : Ents w (some ⟨g, 0, none⟩) L) {k : Nat} (hk : k < L.length) {e : Ent} (he : EntOk e) (h1 : w'.rangeAt g (k * 34) e.cells) (h2 : ∀ o, (o < k * 34 ∨ k * 34 + 34 ≤ o) → w'.cell? ⟨g, o, none⟩ = w.cell? ⟨g, o, none⟩) : Ents w' (some ⟨g, 0, none⟩) (L.set k e) := by
  intro i hi
  have hi' : i < L.length := by simpa using hi
  refine ⟨g, 0, rfl, ?_⟩
  by_cases hik : i = k
  · subst hik
    have e1 : (L.set i e).getD i ent0 = e := by simp [List.getD, hk]
    rw [e1, Nat.zero_add]
    exact ⟨h1, he⟩
  · have e1 : (L.set k e).getD i ent0 = L.getD i ent0 := by simp [List.getD, List.getElem?_set, Ne.symm hik]
    rw [e1]
    obtain ⟨_, _, hx, hc, hok⟩ := h i hi'
    cases hx
    refine ⟨fun j v hv => ?_, hok⟩
    have hj : j < 34 := by have := (List.getElem?_eq_some_iff.1 hv).1; rw [hok.len] at this; exact this
    rw [h2 _ (by omega)]
    exact hc j v hv
theorem Ents.name {w : World} {g : Nat} {L : List Ent} (h : Ents w (some ⟨g, 0, none⟩) L) {k : Nat} (hk : k < L.length) (nm : List UInt8) (hn : nm.length ≤ 4611686018427387904) : Ents (w.setCell ⟨g, k * 34, none⟩ (.string ⟨nm.toArray⟩)) (some ⟨g, 0, none⟩) (L.set k ⟨nm, (L.getD k ent0).kind, (L.getD k ent0).id⟩) := by
  obtain ⟨_, _, hx, hc, hok⟩ := h k hk
  cases hx
  rw [Nat.zero_add] at hc
  refine h.turn hk ⟨hok.idl, hn, hok.kin⟩ (fun j v hv => ?_) (fun o ho => World.cell?_setCell_other _ _ _ _ (by intro e; injection e with e1 e2; omega))
  cases j with
  | zero =>
    simp only [Ent.cells, List.getElem?_cons_zero, Option.some.injEq] at hv
    subst hv
    exact World.cell?_setCell_same _ _ _ (hc 0 _ rfl)
  | succ j =>
    rw [World.cell?_setCell_other _ _ _ _ (by intro e; injection e with e1 e2; omega)]
    exact hc (j + 1) v hv
theorem Ents.kind {w : World} {g : Nat} {L : List Ent} (h : Ents w (some ⟨g, 0, none⟩) L) {k : Nat} (hk : k < L.length) (kd : Int) (hn : (Lit.int .i64 kd).wf = true) : Ents (w.setCell ⟨g, k * 34 + 1, none⟩ (.int .i64 kd)) (some ⟨g, 0, none⟩) (L.set k ⟨(L.getD k ent0).name, kd, (L.getD k ent0).id⟩) := by
  obtain ⟨_, _, hx, hc, hok⟩ := h k hk
  cases hx
  rw [Nat.zero_add] at hc
  refine h.turn hk ⟨hok.idl, hok.nam, hn⟩ (fun j v hv => ?_) (fun o ho => World.cell?_setCell_other _ _ _ _ (by intro e; injection e with e1 e2; omega))
  match j, hv with
  | 0, hv =>
    rw [World.cell?_setCell_other _ _ _ _ (by intro e; injection e with e1 e2; omega)]
    exact hc 0 v hv
  | 1, hv =>
    simp only [Ent.cells, List.getElem?_cons_succ, List.getElem?_cons_zero, Option.some.injEq] at hv
    subst hv
    exact World.cell?_setCell_same _ _ _ (hc 1 _ rfl)
  | j + 2, hv =>
    rw [World.cell?_setCell_other _ _ _ _ (by intro e; injection e with e1 e2; omega)]
    exact hc (j + 2) v hv
theorem Ents.put {w : World} {g : Nat} {L : List Ent} (h : Ents w (some ⟨g, 0, none⟩) L) {k : Nat} (hk : k < L.length) {e : Ent} (he : EntOk e) (ht : w.there g (k * 34) 34) : Ents (w.setCells g (k * 34) e.cells) (some ⟨g, 0, none⟩) (L.set k e) := by
  have hl := he.len
  refine h.turn hk he (World.rangeAt_setCells_same w g (k * 34) e.cells (by rw [hl]; exact ht)) (fun o ho => ?_)
  rw [World.cell?_setCells_out g e.cells (k * 34) w ⟨g, o, none⟩ (fun _ _ => by rw [hl]; exact ho)]
theorem kept_setCells {l : List Nat} {a : World} {g : Nat} (hg : g < a.heap.size → g ∈ l) : ∀ (vs : List Value) (o : Nat) (w : World), Kept l a w → Kept l a (w.setCells g o vs)
  | [], _, _, h => h
  | v :: r, o, w, h => by
    rw [World.setCells]
    exact kept_setCells hg r (o + 1) _ (h.setCell hg v)
/-- The row of entries that a call owns may be written. -/
theorem OwnE.row {w : World} {base g n cap : Nat} {L : List Ent} (h : OwnE w base (.slice (some ⟨g, 0, none⟩) n cap) L) : ∃ cur, w.heap[g]? = some (.cells cur 37 (0, 0)) ∧ n ≤ cap ∧ cur.size = cap * 34 := by
  rcases h.1.2 with ⟨h0, _⟩ | ⟨g', cap', cur, hv, hb, hg, hn, hc, hs, ht⟩
  · cases h0
  · cases hv
    exact ⟨cur, hg, hn, hs⟩
theorem there_row {w : World} {g : Nat} {cur : Array Value} {t : TypeId} (hg : w.heap[g]? = some (.cells cur t (0, 0))) (o m : Nat) (h : o + m ≤ cur.size) : w.there g o m := fun j hj =>
  ⟨by rw [cell_of_row _ _ _ _ _ _ hg, Array.getElem?_eq_getElem (by omega)]; rfl, frozen_of_row _ _ _ _ _ hg⟩
end Go.Proofs.YthjknkkjjpjhmaaDoor
