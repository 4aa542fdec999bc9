/-
  The disk behind a change: of a thing, of names; a new thing. What a call leaves.
-/
import Derived.Test.YtmoaaimjgdbelaaGreatGz
namespace Go.Proofs.YtmoaaimjgdbelaaGreat
open Go.RowKit Dsk
set_option linter.unusedVariables false
set_option linter.unusedSimpArgs false

/-- Behind a call: the disk is S' now; nothing has turned but its own blocks. -/
def Aft (w w' : World) (p : Nat) (S' : Ds) (o : Lab) : Prop := ∃ A' o', PD w' p S' A' o' ∧ o.Ext o' w ∧ Keep o.mine w w'
theorem Lab.Ext.refl (o : Lab) (w : World) : o.Ext o w := fun _ _ h => h
theorem Lab.Ext.trans {o o1 o2 : Lab} {w w1 : World} (h : o.Ext o1 w) (h1 : o1.Ext o2 w1) (hs : w.heap.size ≤ w1.heap.size) : o.Ext o2 w := fun b hb hn => h b hb (h1 b (by omega) hn)
theorem Aft.of {w w' : World} {p : Nat} {S' : Ds} {A : Nat → Nat} {o : Lab} {ms mh : Nat} {rv sv : Value} (h : PDx w' p S' A o ms mh rv sv) (hk : Keep o.mine w w') : Aft w w' p S' o := ⟨A, o, ⟨ms, mh, rv, sv, h⟩, Lab.Ext.refl _ _, hk⟩
/-- One call behind another. -/
theorem Aft.trans {w w1 w2 : World} {p : Nat} {S2 : Ds} {o o1 : Lab} (he : o.Ext o1 w) (hk : Keep o.mine w w1) (h : Aft w1 w2 p S2 o1) : Aft w w2 p S2 o := by
  obtain ⟨A2, o2, h2, e2, k2⟩ := h
  exact ⟨A2, o2, h2, he.trans e2 hk.size, hk.trans k2 (fun i hi hlt => he i hlt hi)⟩
theorem mine_p {w : World} {p : Nat} {S : Ds} {A : Nat → Nat} {o : Lab} {ms mh : Nat} {rv sv : Value} (h : PDx w p S A o ms mh rv sv) {w1 w2 : World} (hk : Keep (· = p) w1 w2) : Keep o.mine w1 w2 :=
  hk.mono (fun i e _ => by subst e; show o i ≠ 0; rw [h.lp]; decide)

section
variable {w : World} {p : Nat} {S : Ds} {A : Nat → Nat} {o : Lab} {ms mh : Nat} {rv sv : Value}

theorem PDx.thing {w' : World} {k : Nat} {rv1 sv1 : Value} {t' : Th} (h : PDx w p S A o ms mh rv sv) (hk : k < S.nx) (ht : ThAt w o (k + 2) (A k) rv1 sv1 (S.th k)) (hm : Mv w w' (A k) rv1 sv1 t') (hwf : ({ S with th := upd S.th k t' } : Ds).Wf) :
    PDx w' p { S with th := upd S.th k t' } A (o.ext w w' (k + 2)) ms mh rv sv ∧ Keep (fun b => o b = k + 2) w w' := by
  obtain ⟨h1, hK⟩ := ht.moved hm
  have n1 : ∀ b, o b = 1 → ¬ o b = k + 2 := fun b e e2 => by omega
  have old : ∀ b, b < w.heap.size → o.ext w w' (k + 2) b = o b := fun b hb => Lab.ext_old hb
  refine ⟨⟨hwf, hK.heapOf h.cells (n1 p h.lp), h.ne, h.safe.keep hK (n1 _ h.lm), h.shown.keep hK (n1 _ h.lh), own_keeps h.row hK (fun g hg => n1 g (h.lr g hg)), own_keeps h.reads hK (fun g hg => n1 g (h.ls g hg)), ?_, (old p h.lt).trans h.lp, (old _ h.safe.lt).trans h.lm, (old _ h.shown.lt).trans h.lh, fun g hg => (old g (h.row.lt g hg).2).trans (h.lr g hg), fun g hg => (old g (h.reads.lt g hg).2).trans (h.ls g hg), lim_ext h.lim hK.size, h.pl⟩, hK⟩
  intro j hj
  show Tg w' _ (j + 2) (A j) (upd S.th k t' j)
  by_cases e : j = k
  · subst e; rw [upd_same]; exact h1
  · rw [upd_other _ _ e]
    exact (h.th j hj).ext hK (fun g hg e2 => by omega)

theorem PDx.names {w' : World} {c : Nc} {rv' : Value} (h : PDx w p S A o ms mh rv sv) (hwf : (S.addName c).Wf) (hc : w'.heap[p]? = some (.cells #[.int .i64 S.room, .bool S.on, .map (some ms), rv', .map (some mh), .int .i64 S.strokes, .int .i64 S.off, .int .i64 S.from_, .int .i64 S.to, .int .i64 S.planned, sv] 70 (0, 0)))
    (hr : w'.ownsRow 0 171 1 rv' (S.row ++ [c]).length ((S.row ++ [c]).map (encNc A))) (hM : Mp w' mh A (c.apply S.shown)) (hK : Keep (fun k => k = p ∨ k = mh ∨ rv.ownBlock = some k) w w') (hl : ∀ g, rv'.ownBlock = some g → rv.ownBlock = some g ∨ w.heap.size ≤ g) :
    PDx w' p (S.addName c) A (o.ext w w' 1) ms mh rv' sv ∧ Keep (fun b => o b = 1) w w' := by
  have hF : ∀ b, (b = p ∨ b = mh ∨ rv.ownBlock = some b) → o b = 1 := fun b hb => by
    rcases hb with rfl | rfl | e
    · exact h.lp
    · exact h.lh
    · exact h.lr b e
  have old : ∀ b, b < w.heap.size → o.ext w w' 1 b = o b := fun b hb => Lab.ext_old hb
  have hms : ¬ (ms = p ∨ ms = mh ∨ rv.ownBlock = some ms) := by
    rintro (e | e | e)
    · exact h.ne_m e
    · exact h.ne e
    · exact own_nmap h.row h.safe.blk e
  refine ⟨⟨hwf, hc, h.ne, h.safe.keep hK hms, hM, hr, own_keeps h.reads hK (fun g hg => ?_), ?_, (old p h.lt).trans h.lp, (old _ h.safe.lt).trans h.lm, (old _ h.shown.lt).trans h.lh, fun g hg => ?_, fun g hg => (old g (h.reads.lt g hg).2).trans (h.ls g hg), lim_ext h.lim hK.size, h.pl⟩, hK.mono (fun b hb _ => hF b hb)⟩
  · rintro (e | e | e)
    · exact h.ne_s (by rw [hg, e])
    · exact own_nmap h.reads h.shown.blk (by rw [hg, e])
    · exact own_two h.reads h.row (by decide) g hg e
  · intro j hj
    exact (h.th j hj).ext hK (fun g hg e2 => by have := hF g e2; omega)
  · rcases hl g hg with e | e
    · exact (old g (h.row.lt g e).2).trans (h.lr g e)
    · exact Lab.ext_new e (hr.lt g hg).2

theorem encNc_congr {A A' : Nat → Nat} {row : List Nc} {n : Nat} (h : ∀ k, k < n → A' k = A k) (hr : ∀ k ∈ madeN row, k < n) : row.map (encNc A') = row.map (encNc A) := by
  refine List.map_congr_left (fun c hc => ?_)
  cases c with
  | mk nm k =>
    have : k ∈ madeN row := List.mem_flatMap.2 ⟨_, hc, by simp [Nc.made]⟩
    simp only [encNc, h k (hr k this)]
  | gv f t => rfl
  | tk nm => rfl

/-- A new thing. -/
theorem PDx.fresh (h : PDx w p S A o ms mh rv sv) (w' : World) (hw : w' = w.alloc (.cells #[encStr [], .slice none 0 0, .slice none 0 0] 81)) :
    PDx w' p { S with th := upd S.th S.nx Th.new, nx := S.nx + 1 } (upd A S.nx w.heap.size) (o.ext w w' (S.nx + 2)) ms mh rv sv ∧ Kept [] w w' := by
  have hk : Kept [] w w' := by rw [hw]; exact (Kept.refl [] w).alloc _
  have hK : Keep (fun _ => False) w w' := Keep.ofNone hk
  have old : ∀ b, b < w.heap.size → o.ext w w' (S.nx + 2) b = o b := fun b hb => Lab.ext_old hb
  have hA : ∀ k, k < S.nx → upd A S.nx w.heap.size k = A k := fun k hk => upd_other _ _ (by omega)
  have hsz : w'.heap.size = w.heap.size + 1 := by rw [hw]; simp
  have hids : ∀ l : Nm, (∀ k ∈ l.ids, k < S.nx) → ∀ k ∈ l.ids, upd A S.nx w.heap.size k = A k := fun l hl k hk => hA k (hl k hk)
  refine ⟨⟨⟨h.wf.room, h.wf.up, h.wf.shown, h.wf.ok, h.wf.nodup, fun k hk => Nat.lt_succ_of_lt (h.wf.lt k hk), h.wf.nm, h.wf.nmr, ?_⟩, hK.heapOf h.cells (fun h => h), h.ne, ?_, ?_, ?_, own_keeps h.reads hK (fun _ _ h => h), ?_, (old p h.lt).trans h.lp, (old _ h.safe.lt).trans h.lm, (old _ h.shown.lt).trans h.lh, fun g hg => (old g (h.row.lt g hg).2).trans (h.lr g hg), fun g hg => (old g (h.reads.lt g hg).2).trans (h.ls g hg), lim_ext h.lim hK.size, h.pl⟩, hk⟩
  · intro k hk'
    show (upd S.th S.nx Th.new k).ok
    have hk2 : k < S.nx + 1 := hk'
    by_cases e : k = S.nx
    · subst e; rw [upd_same]; exact Th.new_ok
    · rw [upd_other _ _ e]; exact h.wf.th k (by omega)
  · exact (h.safe.keep hK (fun h => h)).congr (hids _ (fun k hk => h.wf.lt k (List.mem_append_left _ hk)))
  · exact (h.shown.keep hK (fun h => h)).congr (hids _ (fun k hk => by obtain ⟨n, hn⟩ := Nm.mem_ids.1 hk; exact h.wf.slt hn))
  · have := own_keeps h.row hK (fun _ _ h => h)
    rw [← encNc_congr hA (fun k hk => h.wf.lt k (List.mem_append_right _ hk))] at this
    exact this
  · intro j hj
    have hj2 : j < S.nx + 1 := hj
    show Tg w' _ (j + 2) (upd A S.nx w.heap.size j) (upd S.th S.nx Th.new j)
    by_cases e : j = S.nx
    · subst e
      rw [upd_same, upd_same]
      refine ⟨.slice none 0 0, .slice none 0 0, by rw [hw]; exact (MapKept.heap_alloc w _).1, World.ownsRow_nil _ _ _ _, OwnB.nil _, Lab.ext_new (Nat.le_refl _) (by omega), by simp [Value.ownBlock], by simp [Value.ownBlock]⟩
    · rw [upd_other _ _ e, upd_other _ _ e]
      exact (h.th j (by omega)).ext hK (fun _ _ h => h)
end
end Go.Proofs.YtmoaaimjgdbelaaGreat
