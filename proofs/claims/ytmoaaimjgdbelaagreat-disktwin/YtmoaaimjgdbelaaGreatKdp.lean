/-
  directory.twin: the state of its loops.
  With: Kd, Ke, Kg.
-/
import Derived.Test.YtmoaaimjgdbelaaGreatKbp
import Derived.Test.YtmoaaimjgdbelaaGreatGxp
import Derived.Test.YtmoaaimjgdbelaaGreatHap
namespace Go.Proofs.YtmoaaimjgdbelaaGreat
open Go.RowKit Dsk
set_option linter.unusedVariables false
set_option linter.unusedSimpArgs false
namespace Dsk
theorem Nm.Up.ext {l l' : Nm} (h : l.Up) (h' : l'.Up) (hm : ∀ p, p ∈ l ↔ p ∈ l') : l = l' := by
  induction l generalizing l' with
  | nil =>
    cases l' with
    | nil => rfl
    | cons y s => exact absurd ((hm y).2 (by simp)) (by simp)
  | cons x r ih =>
    cases l' with
    | nil => exact absurd ((hm x).1 (by simp)) (by simp)
    | cons y s =>
      have hx := List.pairwise_cons.1 h
      have hy := List.pairwise_cons.1 h'
      have e : x = y := by
        rcases List.mem_cons.1 ((hm x).1 (by simp)) with e | e
        · exact e
        · rcases List.mem_cons.1 ((hm y).2 (by simp)) with e2 | e2
          · exact e2.symm
          · have a1 := hy.1 x e
            have a2 := hx.1 y e2
            have := before_trans a1 a2
            rw [before_irrefl] at this
            cases this
      subst e
      congr 1
      refine ih hx.2 hy.2 (fun p => ?_)
      have hp := hm p
      simp only [List.mem_cons] at hp
      constructor
      · intro hr
        rcases hp.1 (.inr hr) with e | e
        · have := hx.1 p hr; rw [e, before_irrefl] at this; cases this
        · exact e
      · intro hr
        rcases hp.2 (.inr hr) with e | e
        · have := hy.1 p hr; rw [e, before_irrefl] at this; cases this
        · exact e
/-- The names that have come. -/
def notLeft (left : Lit → Bool) (l : Nm) : Nm := l.filter (fun p => !left (.string p.1))
theorem notLeft_none {left : Lit → Bool} {l : Nm} (h : ∀ p ∈ l, left (.string p.1) = true) : notLeft left l = [] := List.filter_eq_nil_iff.2 (fun p hp => by simp [h p hp])
theorem notLeft_all {left : Lit → Bool} {l : Nm} (h : ∀ k, left k = false) : notLeft left l = l := List.filter_eq_self.2 (fun p hp => by simp [h])
theorem notLeft_step {left : Lit → Bool} {l : Nm} (hu : l.Up) {n : By} {k : Nat} (hm : (n, k) ∈ l) (hl : left (.string n) = true) : (notLeft left l).put n k = notLeft (fun z => left z && !z.sameKey (.string n)) l := by
  have u1 : (notLeft left l).Up := hu.filter _
  refine Nm.Up.ext (u1.put n k) (hu.filter _) (fun p => ?_)
  rw [Nm.mem_put]
  simp only [notLeft, List.mem_filter, same_str, Bool.not_and, Bool.not_not, Bool.or_eq_true, Bool.not_eq_true', beq_iff_eq]
  constructor
  · rintro (rfl | ⟨⟨h1, h2⟩, h3⟩)
    · exact ⟨hm, .inr rfl⟩
    · exact ⟨h1, .inl h2⟩
  · rintro ⟨h1, h2⟩
    by_cases e : p.1 = n
    · left
      have : p.2 = k := hu.uniq (n := n) (j := p.2) (k := k) (by rw [← e]; exact h1) hm
      rw [← this, ← e]
    · right
      exact ⟨⟨h1, h2.resolve_right e⟩, e⟩
theorem notLeft_len (left : Lit → Bool) (l : Nm) : (notLeft left l).length ≤ l.length := List.length_filter_le _ _
end Dsk

/-- While the safe names are taken: those that are not left have their twins. -/
structure TwA (S : Ds) (w wr : World) (db mb rb : Nat) (left : Lit → Bool) (A : Nat → Nat) (o : Lab) : Prop where
  keep : Kept [] w wr
  dir : wr.heap[db]? = some (.cells #[.map (some mb), .slice none 0 0, .map none] 67 (0, 0))
  res : wr.heap[rb]? = some (.cells #[.map none, .slice none 0 0, .map none] 67 (0, 0))
  map : Mp wr mb A ((notLeft left S.safe).ren S.rho)
  th : ∀ p ∈ S.safe, left (.string p.1) = false → Tg wr o (S.rho p.2 + 2) (A (S.rho p.2)) (S.th p.2)
  lim : ∀ b, o b ≠ 0 → w.heap.size ≤ b ∧ b < wr.heap.size
  lm : o mb = 1
  nd : o db = 0
  nr : o rb = 0
  ge : w.heap.size ≤ mb
theorem safe_rho {S : Ds} (hw : S.Wf) {p q : By × Nat} (hp : p ∈ S.safe) (hq : q ∈ S.safe) (h : S.rho p.2 = S.rho q.2) : p = q := by
  have e := Ds.rho_inj (Ds.safe_lives hp) (Ds.safe_lives hq) h
  have hn : S.safe.ids.Nodup := (List.nodup_append.1 hw.nodup).1
  obtain ⟨i, hi, e1⟩ := List.mem_iff_getElem.1 hp
  obtain ⟨j, hj, e2⟩ := List.mem_iff_getElem.1 hq
  have h1 : S.safe.ids[i]'(by simpa [Nm.ids] using hi) = p.2 := by simp [Nm.ids, e1]
  have h2 : S.safe.ids[j]'(by simpa [Nm.ids] using hj) = q.2 := by simp [Nm.ids, e2]
  have : i = j := (List.getElem_inj hn).1 (by rw [h1, h2, e])
  subst this
  rw [← e1, ← e2]
theorem Tg.keep {F : Nat → Prop} {w w' : World} {o : Lab} {l b : Nat} {t : Th} (h : Tg w o l b t) (hk : Keep F w w') (hF : ∀ g, o g = l → ¬ F g) : Tg w' o l b t := by
  obtain ⟨rv, sv, h⟩ := h
  exact ⟨rv, sv, h.keep hk hF⟩
theorem Tg.relab {w : World} {o o' : Lab} {l b : Nat} {t : Th} (h : Tg w o l b t) (ho : ∀ g, g < w.heap.size → o' g = o g) : Tg w o' l b t := by
  obtain ⟨rv, sv, h⟩ := h
  exact ⟨rv, sv, h.relab ho⟩
/-- One name more. -/
theorem TwA.step {S : Ds} {w wr v v1 w5 : World} {db mb rb r : Nat} {left : Lit → Bool} {A : Nat → Nat} {o : Lab} (h : TwA S w wr db mb rb left A o) (hw : S.Wf) {n : By} {k : Nat} (hm : (n, k) ∈ S.safe) (hl : left (.string n) = true)
    (hor : o r = 0) (hrge : w.heap.size ≤ r) (hrd : r ≠ db ∧ r ≠ rb ∧ r ≠ mb) (hK : Keep (· = r) wr v) {b1 : Nat} {rv sv : Value} (hn : NewTh v v1 b1 rv sv (S.th k)) (hk1 : Kept [] v v1) (hM : Mp w5 mb (upd A (S.rho k) b1) (((notLeft left S.safe).ren S.rho).put n (S.rho k))) (hK5 : Keep (· = mb) v1 w5) :
    TwA S w w5 db mb rb (fun z => left z && !z.sameKey (.string n)) (upd A (S.rho k) b1) (o.ext v v1 (S.rho k + 2)) := by
  have hz1 := hK.size
  have hz2 := hk1.size
  have hz3 := hK5.size
  have hz0 := h.keep.size
  have kA : Keep (fun b => b = r ∨ b = mb) wr w5 := ((hK.mono (fun b e _ => .inl e)).kept hk1).trans hK5 (fun b e _ => .inr e)
  have hdl := (Array.getElem?_eq_some_iff.1 h.dir).1
  have hrl := (Array.getElem?_eq_some_iff.1 h.res).1
  have hml := h.map.lt
  have hmd : mb ≠ db := map_ne h.map h.dir (by simp)
  have hmr : mb ≠ rb := map_ne h.map h.res (by simp)
  have old : ∀ b, b < wr.heap.size → o.ext v v1 (S.rho k + 2) b = o b := fun b hb => Lab.ext_old (by omega)
  refine ⟨⟨kA.os.trans h.keep.os, kA.tape.trans h.keep.tape, kA.output.trans h.keep.output, Nat.le_trans h.keep.size kA.size, fun i hi _ => (kA.block i (by omega) (fun e => by have := h.ge; rcases e with e | e <;> omega)).trans (h.keep.block i hi (by simp))⟩, kA.heapOf h.dir (fun e => by rcases e with e | e; exact hrd.1 e.symm; exact hmd e.symm), kA.heapOf h.res (fun e => by rcases e with e | e; exact hrd.2.1 e.symm; exact hmr e.symm), ?_, fun p hp hlp => ?_, fun b hb => ?_, by rw [old mb hml]; exact h.lm, by rw [old db hdl]; exact h.nd, by rw [old rb hrl]; exact h.nr, h.ge⟩
  · rw [← notLeft_step hw.up hm hl, ← Nm.ren_put]
    exact hM
  · by_cases e : p = (n, k)
    · subst e
      rw [upd_same]
      have h5 : ThAt v1 (o.ext v v1 (S.rho k + 2)) (S.rho k + 2) b1 rv sv (S.th k) := hn.at o _
      exact ⟨rv, sv, h5.keep hK5 (fun g hg e2 => by
        rw [e2, old mb hml, h.lm] at hg
        omega)⟩
    · have hne : S.rho p.2 ≠ S.rho k := fun e2 => e (safe_rho hw hp hm e2)
      rw [upd_other _ _ hne]
      have hlp2 : left (.string p.1) = false := by
        simp only [same_str, Bool.and_eq_false_iff, Bool.not_eq_false'] at hlp
        rcases hlp with h1 | h1
        · exact h1
        · simp only [beq_iff_eq] at h1
          exfalso
          apply e
          have : p.2 = k := hw.up.uniq (n := n) (j := p.2) (k := k) (by rw [← h1]; exact hp) hm
          rw [← this, ← h1]
      have h5 := (h.th p hp hlp2).keep kA (fun g hg e2 => by
        rcases e2 with e2 | e2
        · rw [e2, hor] at hg; omega
        · rw [e2, h.lm] at hg; omega)
      obtain ⟨rv3, sv3, h3⟩ := h.th p hp hlp2
      obtain ⟨rv5, sv5, h6⟩ := h5
      refine ⟨rv3, sv3, ?_⟩
      have h7 := h3.keep kA (fun g hg e2 => by
        rcases e2 with e2 | e2
        · rw [e2, hor] at hg; omega
        · rw [e2, h.lm] at hg; omega)
      exact ⟨h7.cells, h7.row, h7.shown, (old _ h3.lt).trans h3.lb, fun g hg => (old g (h3.row.lt g hg).2).trans (h3.lr g hg), fun g hg => (old g (h3.shown.lt hg)).trans (h3.ls g hg)⟩
  · by_cases hb1 : b < v.heap.size
    · rw [Lab.ext_old hb1] at hb
      have := h.lim b hb
      exact ⟨this.1, by omega⟩
    · by_cases hb2 : b < v1.heap.size
      · exact ⟨by omega, by omega⟩
      · simp [Lab.ext, hb1, hb2] at hb
end Go.Proofs.YtmoaaimjgdbelaaGreat

namespace Go.Proofs.YtmoaaimjgdbelaaGreat
open Go.RowKit Dsk
set_option linter.unusedVariables false
set_option linter.unusedSimpArgs false
/-- While the row is gone through: j changes have their twins. -/
structure TwB (S : Ds) (w wr : World) (db mb mh rb : Nat) (rv : Value) (j : Nat) (A : Nat → Nat) (o : Lab) : Prop where
  keep : Kept [] w wr
  dir : wr.heap[db]? = some (.cells #[.map (some mb), rv, .map (some mh)] 67 (0, 0))
  res : wr.heap[rb]? = some (.cells #[.map none, .slice none 0 0, .map none] 67 (0, 0))
  ne : mb ≠ mh
  mapS : Mp wr mb A (S.safe.ren S.rho)
  mapH : Mp wr mh A (Dsk.runN (S.safe.ren S.rho) ((S.row.take j).map (Nc.ren S.rho)))
  row : wr.ownsRow 0 171 1 rv ((S.row.take j).map (Nc.ren S.rho)).length (((S.row.take j).map (Nc.ren S.rho)).map (encNc A))
  th : ∀ k ∈ S.safe.ids ++ madeN (S.row.take j), Tg wr o (S.rho k + 2) (A (S.rho k)) (S.th k)
  lim : ∀ b, o b ≠ 0 → w.heap.size ≤ b ∧ b < wr.heap.size
  lm : o mb = 1
  lh : o mh = 1
  lr : ∀ g, rv.ownBlock = some g → o g = 1
  nd : o db = 0
  nr : o rb = 0
  gd : w.heap.size ≤ db
  dr : rb ≠ db
  gr : w.heap.size ≤ rb
theorem NewTh.relt {v v1 : World} {b1 : Nat} {rv sv : Value} {t : Th} (h : NewTh v v1 b1 rv sv t) (o : Lab) (l : Nat) : Tg v1 (o.ext v v1 l) l b1 t := ⟨rv, sv, h.at o l⟩
theorem encNc_ren_congr {A A' : Nat → Nat} {f : Nat → Nat} {l : List Nc} (h : ∀ k ∈ madeN l, A' (f k) = A (f k)) : (l.map (Nc.ren f)).map (encNc A') = (l.map (Nc.ren f)).map (encNc A) := by
  rw [List.map_map, List.map_map]
  apply List.map_congr_left
  intro c hc
  cases c with
  | mk n k =>
    have : k ∈ madeN l := List.mem_flatMap.2 ⟨_, hc, by simp [Nc.made]⟩
    simp only [Function.comp_def, Nc.ren, encNc, h k this]
  | gv a b => rfl
  | tk n => rfl
/-- A new thing beside it. -/
theorem TwB.thing {S : Ds} {w wr v1 : World} {db mb mh rb j : Nat} {rv : Value} {A : Nat → Nat} {o : Lab} (h : TwB S w wr db mb mh rb rv j A o) {k b1 : Nat} (hk : k ∈ S.lives) (hnk : k ∉ S.safe.ids ++ madeN (S.row.take j)) (hsub : ∀ i ∈ S.safe.ids ++ madeN (S.row.take j), i ∈ S.lives) {r1 s1 : Value} (hn : NewTh wr v1 b1 r1 s1 (S.th k)) (hk1 : Kept [] wr v1) :
    TwB S w v1 db mb mh rb rv j (upd A (S.rho k) b1) (o.ext wr v1 (S.rho k + 2)) ∧ Tg v1 (o.ext wr v1 (S.rho k + 2)) (S.rho k + 2) (upd A (S.rho k) b1 (S.rho k)) (S.th k) := by
  have old : ∀ b, b < wr.heap.size → o.ext wr v1 (S.rho k + 2) b = o b := fun b hb => Lab.ext_old hb
  have kF : Keep (fun _ => False) wr v1 := Keep.ofNone hk1
  have hA : ∀ i ∈ S.safe.ids ++ madeN (S.row.take j), upd A (S.rho k) b1 (S.rho i) = A (S.rho i) := fun i hi => upd_other _ _ (fun e => hnk (by rw [← Ds.rho_inj (hsub i hi) hk e]; exact hi))
  have hml := h.mapS.lt
  have hhl := h.mapH.lt
  have hdl := (Array.getElem?_eq_some_iff.1 h.dir).1
  have hrl := (Array.getElem?_eq_some_iff.1 h.res).1
  have hz := hk1.size
  refine ⟨⟨h.keep.trans hk1 (by simp), kF.heapOf h.dir (fun h => h), kF.heapOf h.res (fun h => h), h.ne, (h.mapS.keep kF (fun h => h)).congr (fun i hi => ?_), (h.mapH.keep kF (fun h => h)).congr (fun i hi => ?_), ?_, fun i hi => ?_, fun b hb => ?_, by rw [old mb hml]; exact h.lm, by rw [old mh hhl]; exact h.lh, fun g hg => by rw [old g (h.row.lt g hg).2]; exact h.lr g hg, by rw [old db hdl]; exact h.nd, by rw [old rb hrl]; exact h.nr, h.gd, h.dr, h.gr⟩, ?_⟩
  · rw [Nm.ren_ids] at hi
    obtain ⟨i', hi', rfl⟩ := List.mem_map.1 hi
    exact hA i' (List.mem_append_left _ hi')
  · rw [ren_run, Nm.ren_ids] at hi
    obtain ⟨i', hi', rfl⟩ := List.mem_map.1 hi
    exact hA i' (runN_ids_sub _ hi')
  · rw [encNc_ren_congr (fun i hi => hA i (List.mem_append_right _ hi))]
    exact own_keeps h.row kF (fun _ _ h => h)
  · rw [hA i hi]
    exact ((h.th i hi).relab old).keep kF (fun _ _ h => h)
  · by_cases hb1 : b < wr.heap.size
    · rw [old b hb1] at hb
      have := h.lim b hb
      exact ⟨this.1, by omega⟩
    · by_cases hb2 : b < v1.heap.size
      · exact ⟨by have := h.keep.size; omega, hb2⟩
      · simp [Lab.ext, hb1, hb2] at hb
  · rw [upd_same]
    exact hn.relt o _
/-- A change is made in the twin. -/
theorem TwB.change {S : Ds} {w wr w5 : World} {db mb mh rb j : Nat} {rv rv5 : Value} {A : Nat → Nat} {o : Lab} (h : TwB S w wr db mb mh rb rv j A o) {c : Nc} (hc : S.row[j]? = some c) (ht : ∀ k ∈ c.made, Tg wr o (S.rho k + 2) (A (S.rho k)) (S.th k))
    (hQ : w5.heap[db]? = some (.cells ((#[.map (some mb), rv, .map (some mh)] : Array Value).setIfInBounds (0 + 1) rv5) 67 (0, 0))) (hrow : w5.ownsRow 0 171 1 rv5 ((S.row.take j).map (Nc.ren S.rho) ++ [c.ren S.rho]).length (((S.row.take j).map (Nc.ren S.rho) ++ [c.ren S.rho]).map (encNc A))) (hM : Mp w5 mh A ((c.ren S.rho).apply (Dsk.runN (S.safe.ren S.rho) ((S.row.take j).map (Nc.ren S.rho)))))
    (hK : Keep (fun b => b = db ∨ b = mh ∨ rv.ownBlock = some b) wr w5) (hr5 : ∀ g, rv5.ownBlock = some g → rv.ownBlock = some g ∨ wr.heap.size ≤ g) : TwB S w w5 db mb mh rb rv5 (j + 1) A (o.ext wr w5 1) := by
  have old : ∀ b, b < wr.heap.size → o.ext wr w5 1 b = o b := fun b hb => Lab.ext_old hb
  have hml := h.mapS.lt
  have hhl := h.mapH.lt
  have hdl := (Array.getElem?_eq_some_iff.1 h.dir).1
  have hrl := (Array.getElem?_eq_some_iff.1 h.res).1
  have hz := hK.size
  have hmd : mb ≠ db := map_ne h.mapS h.dir (by simp)
  have htk : S.row.take (j + 1) = S.row.take j ++ [c] := by rw [List.take_add_one, hc]; rfl
  have hge : ∀ b, (b = db ∨ b = mh ∨ rv.ownBlock = some b) → w.heap.size ≤ b := fun b hb => by
    rcases hb with e | e | e
    · rw [e]; exact h.gd
    · rw [e]; exact (h.lim mh (by rw [h.lh]; decide)).1
    · exact (h.lim b (by rw [h.lr b e]; decide)).1
  have hmF : ¬ (mb = db ∨ mb = mh ∨ rv.ownBlock = some mb) := fun e => by
    rcases e with e | e | e
    · exact hmd e
    · exact h.ne e
    · exact own_nmap h.row h.mapS.blk e
  have hrF : ¬ (rb = db ∨ rb = mh ∨ rv.ownBlock = some rb) := fun e => by
    rcases e with e | e | e
    · exact h.dr e
    · exact map_ne h.mapH h.res (by simp) e.symm
    · exact own_ne h.row h.res (by decide) e
  have hthF : ∀ (k : Nat) (g : Nat), o g = S.rho k + 2 → ¬ (g = db ∨ g = mh ∨ rv.ownBlock = some g) := fun k g hg e => by
    rcases e with e | e | e
    · rw [e, h.nd] at hg; omega
    · rw [e, h.lh] at hg; omega
    · rw [h.lr g e] at hg; omega
  refine ⟨⟨hK.os.trans h.keep.os, hK.tape.trans h.keep.tape, hK.output.trans h.keep.output, Nat.le_trans h.keep.size hK.size, fun i hi _ => (hK.block i (by have := h.keep.size; omega) (fun e => by have := hge i e; omega)).trans (h.keep.block i hi (by simp))⟩, hQ, hK.heapOf h.res hrF, h.ne, h.mapS.keep hK hmF, ?_, ?_, fun k hk => ?_, fun b hb => ?_, by rw [old mb hml]; exact h.lm, by rw [old mh hhl]; exact h.lh, fun g hg => ?_, by rw [old db hdl]; exact h.nd, by rw [old rb hrl]; exact h.nr, h.gd, h.dr, h.gr⟩
  · rw [htk, List.map_append, List.map_cons, List.map_nil, runN_snoc]
    exact hM
  · rw [htk, List.map_append, List.map_cons, List.map_nil]
    exact hrow
  · have hk2 : Tg wr o (S.rho k + 2) (A (S.rho k)) (S.th k) := by
      rw [htk, madeN_snoc, ← List.append_assoc] at hk
      rcases List.mem_append.1 hk with hk | hk
      · exact h.th k hk
      · exact ht k hk
    exact (hk2.relab old).keep hK (fun g hg => by
      by_cases hlt : g < wr.heap.size
      · rw [old g hlt] at hg; exact hthF k g hg
      · intro e
        have : g < wr.heap.size := by
          rcases e with e | e | e
          · rw [e]; exact hdl
          · rw [e]; exact hhl
          · exact (h.row.lt g e).2
        exact hlt this)
  · by_cases hb1 : b < wr.heap.size
    · rw [old b hb1] at hb
      have := h.lim b hb
      exact ⟨this.1, by omega⟩
    · by_cases hb2 : b < w5.heap.size
      · exact ⟨by have := h.keep.size; omega, hb2⟩
      · simp [Lab.ext, hb1, hb2] at hb
  · rcases hr5 g hg with e | e
    · rw [old g (h.row.lt g e).2]; exact h.lr g e
    · exact Lab.ext_new e (hrow.lt g hg).2
end Go.Proofs.YtmoaaimjgdbelaaGreat

namespace Go.Proofs.YtmoaaimjgdbelaaGreat
open Go.RowKit Dsk
set_option linter.unusedVariables false
set_option linter.unusedSimpArgs false
theorem TwA.toB {S : Ds} {w wr w5 w6 : World} {db mb rb : Nat} {left : Lit → Bool} {A : Nat → Nat} {o : Lab} (h : TwA S w wr db mb rb left A o) (hl : ∀ k, left k = false) (hM : Mp w5 wr.heap.size A (S.safe.ren S.rho)) (hk : Kept [] wr w5) (hw6 : w6 = w5.setCell ⟨db, 2, none⟩ (.map (some wr.heap.size))) (hd5 : w5.heap[db]? = some (.cells #[.map (some mb), .slice none 0 0, .map none] 67 (0, 0))) (gd : w.heap.size ≤ db) (dr : rb ≠ db) (gr : w.heap.size ≤ rb) :
    TwB S w w6 db mb wr.heap.size rb (.slice none 0 0) 0 A (o.ext wr w5 1) := by
  have hK6 : Keep (· = db) w5 w6 := by rw [hw6]; exact (Keep.refl (· = db) w5).setCell (p := ⟨db, 2, none⟩) (fun _ => rfl) _
  have hd6 : w6.heap[db]? = some (.cells (#[.map (some mb), .slice none 0 0, .map none].setIfInBounds 2 (.map (some wr.heap.size))) 67 (0, 0)) := by rw [hw6]; exact heap_setCell_same w5 db 2 _ _ _ hd5
  have old : ∀ b, b < wr.heap.size → o.ext wr w5 1 b = o b := fun b hb => Lab.ext_old hb
  have hml := h.map.lt
  have hdl := (Array.getElem?_eq_some_iff.1 h.dir).1
  have hrl := (Array.getElem?_eq_some_iff.1 h.res).1
  have hhl := hM.lt
  have hz := hk.size
  have hz6 := hK6.size
  have hmd : mb ≠ db := map_ne h.map h.dir (by simp)
  have hA6 : Keep (· = db) wr w6 := (Keep.ofNone hk).trans hK6 (fun i e _ => e)
  have hmS : Mp wr mb A (S.safe.ren S.rho) := by have := h.map; rw [notLeft_all hl] at this; exact this
  refine ⟨⟨hA6.os.trans h.keep.os, hA6.tape.trans h.keep.tape, hA6.output.trans h.keep.output, Nat.le_trans h.keep.size hA6.size, fun i hi _ => (hA6.block i (by have := h.keep.size; omega) (fun e => by omega)).trans (h.keep.block i hi (by simp))⟩, hd6, hA6.heapOf h.res dr, by omega, hmS.keep hA6 hmd, hM.keep hK6 (by omega), World.ownsRow_nil _ _ _ _, fun k hk2 => ?_, fun b hb => ?_, by rw [old mb hml]; exact h.lm, Lab.ext_new (Nat.le_refl _) hhl, by simp [Value.ownBlock], by rw [old db hdl]; exact h.nd, by rw [old rb hrl]; exact h.nr, gd, dr, gr⟩
  · simp only [List.take_zero] at hk2
    have hk3 : k ∈ S.safe.ids := by simpa [madeN] using hk2
    obtain ⟨q, hq, rfl⟩ := List.mem_map.1 hk3
    refine ((h.th q hq (hl _)).relab old).keep hA6 (fun g hg e => ?_)
    rw [e, old db hdl, h.nd] at hg
    omega
  · by_cases hb1 : b < wr.heap.size
    · rw [old b hb1] at hb
      have := h.lim b hb
      exact ⟨this.1, by omega⟩
    · by_cases hb2 : b < w5.heap.size
      · exact ⟨by have := h.keep.size; omega, by omega⟩
      · simp [Lab.ext, hb1, hb2] at hb
theorem TwB.kept {S : Ds} {w wr v1 : World} {db mb mh rb j : Nat} {rv : Value} {A : Nat → Nat} {o : Lab} (h : TwB S w wr db mb mh rb rv j A o) (hk1 : Kept [] wr v1) : TwB S w v1 db mb mh rb rv j A o := by
  have kF : Keep (fun _ => False) wr v1 := Keep.ofNone hk1
  exact ⟨h.keep.trans hk1 (by simp), kF.heapOf h.dir (fun h => h), kF.heapOf h.res (fun h => h), h.ne, h.mapS.keep kF (fun h => h), h.mapH.keep kF (fun h => h), own_keeps h.row kF (fun _ _ h => h), fun k hk => (h.th k hk).keep kF (fun _ _ h => h), fun b hb => ⟨(h.lim b hb).1, Nat.lt_of_lt_of_le (h.lim b hb).2 hk1.size⟩, h.lm, h.lh, h.lr, h.nd, h.nr, h.gd, h.dr, h.gr⟩
theorem okN_at {l : Nm} {r : List Nc} (h : okN l r) {j : Nat} {c : Nc} (hc : r[j]? = some c) : c.ok (Dsk.runN l (r.take j)) := by
  have h1 := okN_take l r (j + 1) h
  rw [List.take_add_one, hc] at h1
  exact ((okN_snoc l (r.take j) c).1 h1).2
theorem short_ren {S : Ds} (hw : S.Wf) {c : Nc} (hc : c ∈ S.row) (f : Nat → Nat) : ncShort (c.ren f) := by
  have h := hw.nmr c hc
  cases c with
  | mk n k => exact isNm_len h
  | gv a b => exact ⟨isNm_len h.1, isNm_len h.2⟩
  | tk n => exact isNm_len h
theorem TwB.doChange {S : Ds} {w wr : World} {db mb mh rb j : Nat} {rv : Value} {A : Nat → Nat} {o : Lab} {N : Nat} (h : TwB S w wr db mb mh rb rv j A o) (hw : S.Wf) (hB : S.Bd N) (hN : N ≤ 268435456) {c : Nc} (hc : S.row[j]? = some c) (ht : ∀ k ∈ c.made, Tg wr o (S.rho k + 2) (A (S.rho k)) (S.th k)) :
    Calls Tryz.prog 74 #[.pointer (some ⟨db, 0, none⟩), encNc A (c.ren S.rho)] wr fun e w' => e = .returned (.tuple #[]) ∧ ∃ rv5 o5, TwB S w w' db mb mh rb rv5 (j + 1) A o5 := by
  have hb := hB.nm
  have hlen : ((S.row.take j).map (Nc.ren S.rho)).length ≤ S.row.length := by simp; omega
  have hrl := runN_len (S.safe.ren S.rho) ((S.row.take j).map (Nc.ren S.rho))
  rw [Nm.ren_len] at hrl
  refine (dirChange_ok (c.ren S.rho) db 0 mh 67 _ rv A _ ((S.row.take j).map (Nc.ren S.rho)) wr h.dir (by decide) rfl rfl h.row h.mapH ?_ (short_ren hw (List.mem_of_getElem? hc) _) (by omega) (by omega)).mono ?_
  · rw [ren_run]
    exact Nc.ren_ok _ _ (okN_at hw.ok hc)
  · rintro e w' ⟨rfl, rv5, h1, h2, h3, h4, h5⟩
    exact ⟨rfl, rv5, _, h.change hc ht h1 h2 h3 h4 h5⟩
end Go.Proofs.YtmoaaimjgdbelaaGreat
