/-
  directory.twin: its second loop's state.
-/
import Derived.Test.YtcmiehfahdbffabKd
namespace Go.Proofs.Ytcmiehfahdbffab
open Go.RowKit Dsk
set_option linter.unusedVariables false
set_option linter.unusedSimpArgs false
/-- While the row is gone through: j changes have their twins. -/
structure TwB (S : Ds) (w wr : World) (db mb mh rb : Nat) (rv : Value) (j : Nat) (A : Nat → Nat) (o : Lab) : Prop where
  keep : Kept [] w wr
  dir : wr.heap[db]? = some (.cells #[.map (some mb), rv, .map (some mh)] 65 (0, 0))
  res : wr.heap[rb]? = some (.cells #[.map none, .slice none 0 0, .map none] 65 (0, 0))
  ne : mb ≠ mh
  mapS : Mp wr mb A (S.safe.ren S.rho)
  mapH : Mp wr mh A (Dsk.runN (S.safe.ren S.rho) ((S.row.take j).map (Nc.ren S.rho)))
  row : wr.ownsRow 0 110 1 rv ((S.row.take j).map (Nc.ren S.rho)).length (((S.row.take j).map (Nc.ren S.rho)).map (encNc A))
  th : ∀ k ∈ S.safe.ids ++ madeN (S.row.take j), Tg wr o (S.rho k + 2) (A (S.rho k)) (S.th k)
  lim : ∀ b, o b ≠ 0 → w.heap.size ≤ b ∧ b < wr.heap.size
  lm : o mb = 1
  lh : o mh = 1
  lr : ∀ g, rv.ownBlock = some g → o g = 1
  nd : o db = 0
  nr : o rb = 0
  gd : w.heap.size ≤ db
  dr : rb ≠ db
  gr : w.heap.size ≤ rb
theorem NewTh.relt {v v1 : World} {b1 : Nat} {rv sv : Value} {t : Th} (h : NewTh v v1 b1 rv sv t) (o : Lab) (l : Nat) : Tg v1 (o.ext v v1 l) l b1 t := ⟨rv, sv, h.at o l⟩
theorem encNc_ren_congr {A A' : Nat → Nat} {f : Nat → Nat} {l : List Nc} (h : ∀ k ∈ madeN l, A' (f k) = A (f k)) : (l.map (Nc.ren f)).map (encNc A') = (l.map (Nc.ren f)).map (encNc A) := by
  rw [List.map_map, List.map_map]
  apply List.map_congr_left
  intro c hc
  cases c with
  | mk n k =>
    have : k ∈ madeN l := List.mem_flatMap.2 ⟨_, hc, by simp [Nc.made]⟩
    simp only [Function.comp_def, Nc.ren, encNc, h k this]
  | gv a b => rfl
  | tk n => rfl
/-- A new thing beside it. -/
theorem TwB.thing {S : Ds} {w wr v1 : World} {db mb mh rb j : Nat} {rv : Value} {A : Nat → Nat} {o : Lab} (h : TwB S w wr db mb mh rb rv j A o) {k b1 : Nat} (hk : k ∈ S.lives) (hnk : k ∉ S.safe.ids ++ madeN (S.row.take j)) (hsub : ∀ i ∈ S.safe.ids ++ madeN (S.row.take j), i ∈ S.lives) {r1 s1 : Value} (hn : NewTh wr v1 b1 r1 s1 (S.th k)) (hk1 : Kept [] wr v1) :
    TwB S w v1 db mb mh rb rv j (upd A (S.rho k) b1) (o.ext wr v1 (S.rho k + 2)) ∧ Tg v1 (o.ext wr v1 (S.rho k + 2)) (S.rho k + 2) (upd A (S.rho k) b1 (S.rho k)) (S.th k) := by
  have old : ∀ b, b < wr.heap.size → o.ext wr v1 (S.rho k + 2) b = o b := fun b hb => Lab.ext_old hb
  have kF : Keep (fun _ => False) wr v1 := Keep.ofNone hk1
  have hA : ∀ i ∈ S.safe.ids ++ madeN (S.row.take j), upd A (S.rho k) b1 (S.rho i) = A (S.rho i) := fun i hi => upd_other _ _ (fun e => hnk (by rw [← Ds.rho_inj (hsub i hi) hk e]; exact hi))
  have hml := h.mapS.lt
  have hhl := h.mapH.lt
  have hdl := (Array.getElem?_eq_some_iff.1 h.dir).1
  have hrl := (Array.getElem?_eq_some_iff.1 h.res).1
  have hz := hk1.size
  refine ⟨⟨h.keep.trans hk1 (by simp), kF.heapOf h.dir (fun h => h), kF.heapOf h.res (fun h => h), h.ne, (h.mapS.keep kF (fun h => h)).congr (fun i hi => ?_), (h.mapH.keep kF (fun h => h)).congr (fun i hi => ?_), ?_, fun i hi => ?_, fun b hb => ?_, by rw [old mb hml]; exact h.lm, by rw [old mh hhl]; exact h.lh, fun g hg => by rw [old g (h.row.lt g hg).2]; exact h.lr g hg, by rw [old db hdl]; exact h.nd, by rw [old rb hrl]; exact h.nr, h.gd, h.dr, h.gr⟩, ?_⟩
  · rw [Nm.ren_ids] at hi
    obtain ⟨i', hi', rfl⟩ := List.mem_map.1 hi
    exact hA i' (List.mem_append_left _ hi')
  · rw [ren_run, Nm.ren_ids] at hi
    obtain ⟨i', hi', rfl⟩ := List.mem_map.1 hi
    exact hA i' (runN_ids_sub _ hi')
  · rw [encNc_ren_congr (fun i hi => hA i (List.mem_append_right _ hi))]
    exact own_keeps h.row kF (fun _ _ h => h)
  · rw [hA i hi]
    exact ((h.th i hi).relab old).keep kF (fun _ _ h => h)
  · by_cases hb1 : b < wr.heap.size
    · rw [old b hb1] at hb
      have := h.lim b hb
      exact ⟨this.1, by omega⟩
    · by_cases hb2 : b < v1.heap.size
      · exact ⟨by have := h.keep.size; omega, hb2⟩
      · simp [Lab.ext, hb1, hb2] at hb
  · rw [upd_same]
    exact hn.relt o _
/-- A change is made in the twin. -/
theorem TwB.change {S : Ds} {w wr w5 : World} {db mb mh rb j : Nat} {rv rv5 : Value} {A : Nat → Nat} {o : Lab} (h : TwB S w wr db mb mh rb rv j A o) {c : Nc} (hc : S.row[j]? = some c) (ht : ∀ k ∈ c.made, Tg wr o (S.rho k + 2) (A (S.rho k)) (S.th k))
    (hQ : w5.heap[db]? = some (.cells ((#[.map (some mb), rv, .map (some mh)] : Array Value).setIfInBounds (0 + 1) rv5) 65 (0, 0))) (hrow : w5.ownsRow 0 110 1 rv5 ((S.row.take j).map (Nc.ren S.rho) ++ [c.ren S.rho]).length (((S.row.take j).map (Nc.ren S.rho) ++ [c.ren S.rho]).map (encNc A))) (hM : Mp w5 mh A ((c.ren S.rho).apply (Dsk.runN (S.safe.ren S.rho) ((S.row.take j).map (Nc.ren S.rho)))))
    (hK : Keep (fun b => b = db ∨ b = mh ∨ rv.ownBlock = some b) wr w5) (hr5 : ∀ g, rv5.ownBlock = some g → rv.ownBlock = some g ∨ wr.heap.size ≤ g) : TwB S w w5 db mb mh rb rv5 (j + 1) A (o.ext wr w5 1) := by
  have old : ∀ b, b < wr.heap.size → o.ext wr w5 1 b = o b := fun b hb => Lab.ext_old hb
  have hml := h.mapS.lt
  have hhl := h.mapH.lt
  have hdl := (Array.getElem?_eq_some_iff.1 h.dir).1
  have hrl := (Array.getElem?_eq_some_iff.1 h.res).1
  have hz := hK.size
  have hmd : mb ≠ db := map_ne h.mapS h.dir (by simp)
  have htk : S.row.take (j + 1) = S.row.take j ++ [c] := by rw [List.take_add_one, hc]; rfl
  have hge : ∀ b, (b = db ∨ b = mh ∨ rv.ownBlock = some b) → w.heap.size ≤ b := fun b hb => by
    rcases hb with e | e | e
    · rw [e]; exact h.gd
    · rw [e]; exact (h.lim mh (by rw [h.lh]; decide)).1
    · exact (h.lim b (by rw [h.lr b e]; decide)).1
  have hmF : ¬ (mb = db ∨ mb = mh ∨ rv.ownBlock = some mb) := fun e => by
    rcases e with e | e | e
    · exact hmd e
    · exact h.ne e
    · exact own_nmap h.row h.mapS.blk e
  have hrF : ¬ (rb = db ∨ rb = mh ∨ rv.ownBlock = some rb) := fun e => by
    rcases e with e | e | e
    · exact h.dr e
    · exact map_ne h.mapH h.res (by simp) e.symm
    · exact own_ne h.row h.res (by decide) e
  have hthF : ∀ (k : Nat) (g : Nat), o g = S.rho k + 2 → ¬ (g = db ∨ g = mh ∨ rv.ownBlock = some g) := fun k g hg e => by
    rcases e with e | e | e
    · rw [e, h.nd] at hg; omega
    · rw [e, h.lh] at hg; omega
    · rw [h.lr g e] at hg; omega
  refine ⟨⟨hK.os.trans h.keep.os, hK.tape.trans h.keep.tape, hK.output.trans h.keep.output, Nat.le_trans h.keep.size hK.size, fun i hi _ => (hK.block i (by have := h.keep.size; omega) (fun e => by have := hge i e; omega)).trans (h.keep.block i hi (by simp))⟩, hQ, hK.heapOf h.res hrF, h.ne, h.mapS.keep hK hmF, ?_, ?_, fun k hk => ?_, fun b hb => ?_, by rw [old mb hml]; exact h.lm, by rw [old mh hhl]; exact h.lh, fun g hg => ?_, by rw [old db hdl]; exact h.nd, by rw [old rb hrl]; exact h.nr, h.gd, h.dr, h.gr⟩
  · rw [htk, List.map_append, List.map_cons, List.map_nil, runN_snoc]
    exact hM
  · rw [htk, List.map_append, List.map_cons, List.map_nil]
    exact hrow
  · have hk2 : Tg wr o (S.rho k + 2) (A (S.rho k)) (S.th k) := by
      rw [htk, madeN_snoc, ← List.append_assoc] at hk
      rcases List.mem_append.1 hk with hk | hk
      · exact h.th k hk
      · exact ht k hk
    exact (hk2.relab old).keep hK (fun g hg => by
      by_cases hlt : g < wr.heap.size
      · rw [old g hlt] at hg; exact hthF k g hg
      · intro e
        have : g < wr.heap.size := by
          rcases e with e | e | e
          · rw [e]; exact hdl
          · rw [e]; exact hhl
          · exact (h.row.lt g e).2
        exact hlt this)
  · by_cases hb1 : b < wr.heap.size
    · rw [old b hb1] at hb
      have := h.lim b hb
      exact ⟨this.1, by omega⟩
    · by_cases hb2 : b < w5.heap.size
      · exact ⟨by have := h.keep.size; omega, hb2⟩
      · simp [Lab.ext, hb1, hb2] at hb
  · rcases hr5 g hg with e | e
    · rw [old g (h.row.lt g e).2]; exact h.lr g e
    · exact Lab.ext_new e (hrow.lt g hg).2
end Go.Proofs.Ytcmiehfahdbffab
