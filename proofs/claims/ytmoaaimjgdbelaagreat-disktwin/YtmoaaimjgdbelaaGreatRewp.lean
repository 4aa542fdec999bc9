/-
  The document's own disk: names put behind names; numbered anew; a twin on its way. (Written by tools/rew.py.)
-/
import Derived.Test.YtmoaaimjgdbelaaGreatRevp
import Derived.Test.YtmoaaimjgdbelaaGreatResp
namespace Go.Proofs.YtmoaaimjgdbelaaGreat
open Go.RowKit Dsk
set_option linter.unusedVariables false
set_option linter.unusedSimpArgs false
section
variable {w : World} {q : Nat} {S : Ds} {A : Nat → Nat} {o : Lab} {nv bv tv sv : Value}

theorem RDx.addNow {to : Option Addr} {n tc : Nat} (h : RDx w q S A o (.slice to n tc) bv tv sv) (hn : S.shown.length = n) (hb : n ≤ 536870912) (hap : ∀ g, (Value.slice to n tc).ownBlock = some g → bv.ownBlock ≠ some g) (p : By × Nat) :
    ∃ g c' w5, (Builtin.append_ #[71, 71] 71 #[.slice to n tc, .slice (some ⟨w.heap.size, 0, none⟩) 1 1]).run Tryz.prog (w.alloc (.cells #[encStr p.1, .pointer (some ⟨A p.2, 0, none⟩)] 132)) = .ok (.slice (some ⟨g, 0, none⟩) (n + 1) c') w5 ∧ w5.cell? ⟨q, 2, none⟩ = some (.slice to n tc) ∧ w5.frozen? ⟨q, 2, none⟩ = false ∧
      RDx (w5.setCell ⟨q, 2, none⟩ (.slice (some ⟨g, 0, none⟩) (n + 1) c')) q { S with shown := S.shown ++ [p] } A (o.ext w w5 1) (.slice (some ⟨g, 0, none⟩) (n + 1) c') bv tv sv ∧ Keep (fun b => o b = 1) w (w5.setCell ⟨q, 2, none⟩ (.slice (some ⟨g, 0, none⟩) (n + 1) c')) ∧ (∀ g', (Value.slice (some ⟨g, 0, none⟩) (n + 1) c').ownBlock = some g' → bv.ownBlock ≠ some g') ∧ w5.heap.size = (w5.setCell ⟨q, 2, none⟩ (.slice (some ⟨g, 0, none⟩) (n + 1) c')).heap.size := by
  have hr := h.now
  rw [hn] at hr
  obtain ⟨g, c', w5, e1, e2, e3, e4, e5⟩ := run_app (P := Tryz.prog) w 71 71 132 Tryz.underlying71 Tryz.infoName rfl (by decide) _ n _ hr [encStr p.1, .pointer (some ⟨A p.2, 0, none⟩)] rfl (fun z hz => by simp only [List.mem_cons, List.not_mem_nil, or_false] at hz; rcases hz with rfl | rfl <;> rfl) (by unfold maxLen; omega) (by omega)
  have hK5 := e3 (fun k => (Value.slice to n tc).ownBlock = some k) (fun _ e => e)
  have nq : ¬ (Value.slice to n tc).ownBlock = some q := own_ne h.now h.cells (by decide)
  have hc5 := hK5.heapOf h.cells nq
  have old : ∀ b, b < w.heap.size → o.ext w w5 1 b = o b := fun b hb => Lab.ext_old hb
  have hk : Keep (· = q) w5 (w5.setCell ⟨q, 2, none⟩ (.slice (some ⟨g, 0, none⟩) (n + 1) c')) := (Keep.refl (· = q) w5).setCell (p := ⟨q, 2, none⟩) (fun _ => rfl) _
  have hF1 : ∀ b, (Value.slice to n tc).ownBlock = some b → o b = 1 := fun b e => h.ln b e
  have hsis := own_keeps h.before hK5 (fun g hg e => hap g e hg)
  have htu := own_keeps h.turns hK5 (fun g hg e => own_two h.turns h.now (by decide) g hg e)
  have hto := own_keeps h.told hK5 (fun g hg e => own_two h.told h.now (by decide) g hg e)
  have e2' : w5.ownsRow 0 132 2 (.slice (some ⟨g, 0, none⟩) (n + 1) c') (S.shown ++ [p]).length (nmsV A (S.shown ++ [p])) := by
    rw [nmsV_snoc, List.length_append, hn]; exact e2
  have hlab : ∀ g', (Value.slice (some ⟨g, 0, none⟩) (n + 1) c').ownBlock = some g' → o.ext w w5 1 g' = 1 := fun g' hg' => by
    simp only [Value.ownBlock, Option.some.injEq] at hg'
    subst hg'
    rcases e4 with e | e
    · rw [old g (hr.lt g e.symm).2]; exact h.ln g e.symm
    · exact Lab.ext_new e e5
  have hlo : ∀ g', bv.ownBlock = some g' → o.ext w w5 1 g' = 1 := fun g' hg' => by rw [old g' (h.before.lt g' hg').2]; exact h.lb g' hg'
  have q1 := own_keeps e2' hk (own_types0 e2' hc5 (by decide))
  have q2 := own_keeps hsis hk (own_types0 hsis hc5 (by decide))
  refine ⟨g, c', w5, e1, by rw [cell_of_row w5 q 2 _ _ _ hc5]; rfl, frozen_of_row _ _ _ _ _ hc5, ⟨?_, q1, q2, own_keeps htu hk (own_types0 htu hc5 (by decide)), own_keeps hto hk (own_types0 hto hc5 (by decide)), ?_, ?_, hlab, hlo, ?_, ?_, lim_ext2 h.lim hK5.size hk.size, h.pl⟩, ?_, ?_, by simp [World.setCell]⟩
  · rw [heap_setCell_same _ q 2 _ _ _ hc5]; simp
  · intro k hk'
    have h1 : Rg w5 (o.ext w w5 1) (k + 2) (A k) (S.th k) := Rg.ext (F := fun k => (Value.slice to n tc).ownBlock = some k) (h.th k hk') hK5 (fun b e e2 => by have := hF1 b e2; omega)
    exact h1.keep hk (fun b hb e => by
      rw [show b = q from e, old q h.qlt, h.lq] at hb
      omega)
  · rw [old q h.qlt]; exact h.lq
  · intro g' hg'; rw [old g' (h.turns.lt g' hg').2]; exact h.lt g' hg'
  · intro g' hg'; rw [old g' (h.told.lt g' hg').2]; exact h.ls g' hg'
  · exact (hK5.mono (G := fun b => o b = 1) (fun i e _ => hF1 i e)).trans hk (fun i e _ => by show o i = 1; rw [show i = q from e]; exact h.lq)
  · intro g' hg' hs
    simp only [Value.ownBlock, Option.some.injEq] at hg'
    subst hg'
    rcases e4 with e | e
    · exact hap g e.symm hs
    · have := (h.before.lt g hs).2; omega

theorem RDx.addBefore {to : Option Addr} {n tc : Nat} (h : RDx w q S A o nv (.slice to n tc) tv sv) (hn : S.safe.length = n) (hb : n ≤ 536870912) (hap : ∀ g, (Value.slice to n tc).ownBlock = some g → nv.ownBlock ≠ some g) (p : By × Nat) (hm : Rg w o (p.2 + 2) (A p.2) (S.th p.2)) :
    ∃ g c' w5, (Builtin.append_ #[71, 71] 71 #[.slice to n tc, .slice (some ⟨w.heap.size, 0, none⟩) 1 1]).run Tryz.prog (w.alloc (.cells #[encStr p.1, .pointer (some ⟨A p.2, 0, none⟩)] 132)) = .ok (.slice (some ⟨g, 0, none⟩) (n + 1) c') w5 ∧ w5.cell? ⟨q, 3, none⟩ = some (.slice to n tc) ∧ w5.frozen? ⟨q, 3, none⟩ = false ∧
      RDx (w5.setCell ⟨q, 3, none⟩ (.slice (some ⟨g, 0, none⟩) (n + 1) c')) q { S with safe := S.safe ++ [p] } A (o.ext w w5 1) nv (.slice (some ⟨g, 0, none⟩) (n + 1) c') tv sv ∧ Keep (fun b => o b = 1) w (w5.setCell ⟨q, 3, none⟩ (.slice (some ⟨g, 0, none⟩) (n + 1) c')) ∧ (∀ g', (Value.slice (some ⟨g, 0, none⟩) (n + 1) c').ownBlock = some g' → nv.ownBlock ≠ some g') ∧ w5.heap.size = (w5.setCell ⟨q, 3, none⟩ (.slice (some ⟨g, 0, none⟩) (n + 1) c')).heap.size := by
  have hr := h.before
  rw [hn] at hr
  obtain ⟨g, c', w5, e1, e2, e3, e4, e5⟩ := run_app (P := Tryz.prog) w 71 71 132 Tryz.underlying71 Tryz.infoName rfl (by decide) _ n _ hr [encStr p.1, .pointer (some ⟨A p.2, 0, none⟩)] rfl (fun z hz => by simp only [List.mem_cons, List.not_mem_nil, or_false] at hz; rcases hz with rfl | rfl <;> rfl) (by unfold maxLen; omega) (by omega)
  have hK5 := e3 (fun k => (Value.slice to n tc).ownBlock = some k) (fun _ e => e)
  have nq : ¬ (Value.slice to n tc).ownBlock = some q := own_ne h.before h.cells (by decide)
  have hc5 := hK5.heapOf h.cells nq
  have old : ∀ b, b < w.heap.size → o.ext w w5 1 b = o b := fun b hb => Lab.ext_old hb
  have hk : Keep (· = q) w5 (w5.setCell ⟨q, 3, none⟩ (.slice (some ⟨g, 0, none⟩) (n + 1) c')) := (Keep.refl (· = q) w5).setCell (p := ⟨q, 3, none⟩) (fun _ => rfl) _
  have hF1 : ∀ b, (Value.slice to n tc).ownBlock = some b → o b = 1 := fun b e => h.lb b e
  have hsis := own_keeps h.now hK5 (fun g hg e => hap g e hg)
  have htu := own_keeps h.turns hK5 (fun g hg e => own_two h.turns h.before (by decide) g hg e)
  have hto := own_keeps h.told hK5 (fun g hg e => own_two h.told h.before (by decide) g hg e)
  have e2' : w5.ownsRow 0 132 2 (.slice (some ⟨g, 0, none⟩) (n + 1) c') (S.safe ++ [p]).length (nmsV A (S.safe ++ [p])) := by
    rw [nmsV_snoc, List.length_append, hn]; exact e2
  have hlab : ∀ g', (Value.slice (some ⟨g, 0, none⟩) (n + 1) c').ownBlock = some g' → o.ext w w5 1 g' = 1 := fun g' hg' => by
    simp only [Value.ownBlock, Option.some.injEq] at hg'
    subst hg'
    rcases e4 with e | e
    · rw [old g (hr.lt g e.symm).2]; exact h.lb g e.symm
    · exact Lab.ext_new e e5
  have hlo : ∀ g', nv.ownBlock = some g' → o.ext w w5 1 g' = 1 := fun g' hg' => by rw [old g' (h.now.lt g' hg').2]; exact h.ln g' hg'
  have q1 := own_keeps e2' hk (own_types0 e2' hc5 (by decide))
  have q2 := own_keeps hsis hk (own_types0 hsis hc5 (by decide))
  refine ⟨g, c', w5, e1, by rw [cell_of_row w5 q 3 _ _ _ hc5]; rfl, frozen_of_row _ _ _ _ _ hc5, ⟨?_, q2, q1, own_keeps htu hk (own_types0 htu hc5 (by decide)), own_keeps hto hk (own_types0 hto hc5 (by decide)), ?_, ?_, hlo, hlab, ?_, ?_, lim_ext2 h.lim hK5.size hk.size, h.pl⟩, ?_, ?_, by simp [World.setCell]⟩
  · rw [heap_setCell_same _ q 3 _ _ _ hc5]; simp
  · intro k hk'
    have h1 : Rg w5 (o.ext w w5 1) (k + 2) (A k) (S.th k) := Rg.ext (F := fun k => (Value.slice to n tc).ownBlock = some k) ((by have hk2 : k ∈ (S.safe ++ [p]).map (·.2) ++ madeN S.row := hk'; rw [List.map_append, List.mem_append, List.mem_append] at hk2; rcases hk2 with (e | e) | e; exact h.th k (List.mem_append_left _ e); (rw [show k = p.2 by simpa using e]; exact hm); exact h.th k (List.mem_append_right _ e))) hK5 (fun b e e2 => by have := hF1 b e2; omega)
    exact h1.keep hk (fun b hb e => by
      rw [show b = q from e, old q h.qlt, h.lq] at hb
      omega)
  · rw [old q h.qlt]; exact h.lq
  · intro g' hg'; rw [old g' (h.turns.lt g' hg').2]; exact h.lt g' hg'
  · intro g' hg'; rw [old g' (h.told.lt g' hg').2]; exact h.ls g' hg'
  · exact (hK5.mono (G := fun b => o b = 1) (fun i e _ => hF1 i e)).trans hk (fun i e _ => by show o i = 1; rw [show i = q from e]; exact h.lq)
  · intro g' hg' hs
    simp only [Value.ownBlock, Option.some.injEq] at hg'
    subst hg'
    rcases e4 with e | e
    · exact hap g e.symm hs
    · have := (h.now.lt g hs).2; omega

theorem RDx.inj (h : RDx w q S A o nv bv tv sv) {j k : Nat} (hj : j ∈ S.lives) (hk : k ∈ S.lives) (e : A j = A k) : j = k := by
  obtain ⟨_, _, _, _, h1⟩ := h.th j hj
  obtain ⟨_, _, _, _, h2⟩ := h.th k hk
  have a := h1.lb
  have b := h2.lb
  rw [e, b] at a
  omega

/-- Numbered anew. -/
theorem RD.compact (h : RD w q S A o) : RD w q S.compact (fun j => A (S.lives.getD j 0)) (fun b => if o b = 0 then 0 else if o b = 1 then 1 else S.rho (o b - 2) + 2) := by
  obtain ⟨hwf, nv, bv, tv, sv, h⟩ := h
  have l1 : ∀ b, o b = 1 → (fun b => if o b = 0 then 0 else if o b = 1 then 1 else S.rho (o b - 2) + 2) b = 1 := fun b e => by simp [e]
  have lk : ∀ b k, o b = k + 2 → (fun b => if o b = 0 then 0 else if o b = 1 then 1 else S.rho (o b - 2) + 2) b = S.rho k + 2 := fun b k e => by
    have : o b ≠ 0 := by omega
    have : o b ≠ 1 := by omega
    simp [e]
  have hren : ∀ l : Nm, (∀ p ∈ l, p.2 ∈ S.lives) → nmsV (fun j => A (S.lives.getD j 0)) (l.ren S.rho) = nmsV A l := fun l hl => by
    unfold nmsV Nm.ren
    rw [List.flatMap_map]
    induction l with
    | nil => rfl
    | cons x r ih =>
      rw [List.flatMap_cons, List.flatMap_cons, ih (fun p hp => hl p (by simp [hp]))]
      congr 1
      unfold nmV
      simp only
      rw [Ds.rho_back (hl x (by simp))]
  have hrow : ∀ r : List Nc, (∀ k ∈ madeN r, k ∈ S.lives) → tusV (fun j => A (S.lives.getD j 0)) (r.map (Nc.ren S.rho)) = tusV A r := fun r hr => by
    unfold tusV
    rw [List.flatMap_map]
    induction r with
    | nil => rfl
    | cons c r ih =>
      rw [List.flatMap_cons, List.flatMap_cons, ih (fun k hk => hr k (by rw [madeN_cons]; exact List.mem_append_right _ hk))]
      congr 1
      cases c with
      | mk n k =>
        simp only [Nc.ren, tuV]
        rw [Ds.rho_back (hr k (by rw [madeN_cons]; exact List.mem_append_left _ (by simp [Nc.made])))]
      | gv f t => rfl
      | tk n => rfl
  refine ⟨hwf.compact, nv, bv, tv, sv, ⟨h.cells, ?_, ?_, ?_, h.told, ?_, l1 _ h.lq, fun g hg => l1 g (h.ln g hg), fun g hg => l1 g (h.lb g hg), fun g hg => l1 g (h.lt g hg), fun g hg => l1 g (h.ls g hg), fun b hb => h.lim b (fun e => hb (by simp [e])), h.pl⟩⟩
  · show w.ownsRow 0 _ 2 nv (S.shown.ren S.rho).length (nmsV _ (S.shown.ren S.rho))
    rw [hren _ (fun p hp => Ds.shown_lives hwf hp), Nm.ren_len]
    exact h.now
  · show w.ownsRow 0 _ 2 bv (S.safe.ren S.rho).length (nmsV _ (S.safe.ren S.rho))
    rw [hren _ (fun p hp => Ds.safe_lives hp), Nm.ren_len]
    exact h.before
  · show w.ownsRow 0 _ 4 tv (S.row.map (Nc.ren S.rho)).length (tusV _ (S.row.map (Nc.ren S.rho)))
    rw [hrow _ (fun k hk => List.mem_append_right _ hk), List.length_map]
    exact h.turns
  · intro j hj
    have hj2 : j ∈ S.lives.map S.rho := by rw [← Ds.compact_ids]; exact hj
    obtain ⟨k, hk, rfl⟩ := List.mem_map.1 hj2
    show Rg w _ (S.rho k + 2) (A (S.lives.getD (S.rho k) 0)) (S.compact.th (S.rho k))
    rw [Ds.rho_back hk, Ds.compact_th hk]
    exact (h.th k hk).relab (fun g _ e => lk g k e)
end

theorem nodup_le : ∀ (K M : List Nat), K.Nodup → (∀ k ∈ K, k ∈ M) → K.length ≤ M.length
  | [], _, _, _ => by simp
  | k :: K, M, hn, hs => by
    have h1 := List.nodup_cons.1 hn
    have h2 := nodup_le K (M.erase k) h1.2 (fun j hj => by
      have hne : j ≠ k := fun e => h1.1 (by rw [← e]; exact hj)
      exact (List.mem_erase_of_ne hne).2 (hs j (by simp [hj])))
    have h3 := List.length_erase_of_mem (hs k (by simp))
    have h4 : 0 < M.length := List.length_pos_of_mem (hs k (by simp))
    simp only [List.length_cons]
    omega
theorem madeN_len (r : List Nc) : (madeN r).length ≤ r.length := by
  induction r with
  | nil => simp [madeN]
  | cons c r ih =>
    rw [madeN_cons, List.length_append, List.length_cons]
    have : c.made.length ≤ 1 := by cases c <;> simp [Nc.made]
    omega
theorem lives_len (S : Ds) : S.lives.length ≤ S.safe.length + S.row.length := by
  unfold Ds.lives
  rw [List.length_append]
  have h1 := madeN_len S.row
  have h2 : S.safe.ids.length = S.safe.length := by simp [Nm.ids]
  omega

/-- The new disk has some names already. -/
structure Twz (w wr : World) (X : Nat) (S S' : Ds) (A B : Nat → Nat) (K : List Nat) (oX : Lab) (n : Nat) (ov mv nv bv tv sv : Value) : Prop where
  rd : RDx wr X S' B oX nv bv tv sv
  len : K.length = n
  old : wr.ownsRow 0 85 1 ov n (ptrs A K)
  made : wr.ownsRow 0 85 1 mv n (ptrs B K)
  lo : ∀ g, ov.ownBlock = some g → oX g = 0
  lm : ∀ g, mv.ownBlock = some g → oX g = 0
  th : ∀ k ∈ K, Rg wr oX (k + 2) (B k) (S.th k)
  keep : Kept [] w wr
  lab : ∀ b, oX b ≠ 0 → w.heap.size ≤ b
  all : ∀ k ∈ S.lives, k ∈ K
  sub : ∀ k ∈ K, k ∈ S.lives
theorem Twz.step {w wr w5 w' : World} {X : Nat} {S S' S2 : Ds} {A B : Nat → Nat} {K : List Nat} {oX : Lab} {n : Nat} {ov mv nv bv tv sv nv2 bv2 tv2 sv2 : Value} (h : Twz w wr X S S' A B K oX n ov mv nv bv tv sv) {wd : World} (hd : Kept [] wr wd) (rd' : RDx w' X S2 B (oX.ext wd w5 1) nv2 bv2 tv2 sv2) (hK : Keep (fun b => oX b = 1) wd w') : Twz w w' X S S2 A B K (oX.ext wd w5 1) n ov mv nv2 bv2 tv2 sv2 := by
  have hKd : Keep (fun b => oX b = 1) wr w' := (Keep.ofNone hd).trans hK (fun i e _ => e)
  have old : ∀ b, b < wr.heap.size → oX.ext wd w5 1 b = oX b := fun b hb => Lab.ext_old (Nat.lt_of_lt_of_le hb hd.size)
  refine ⟨rd', h.len, own_keeps h.old hKd (fun g hg e => by rw [h.lo g hg] at e; omega), own_keeps h.made hKd (fun g hg e => by rw [h.lm g hg] at e; omega), fun g hg => by rw [old g (h.old.lt g hg).2]; exact h.lo g hg, fun g hg => by rw [old g (h.made.lt g hg).2]; exact h.lm g hg, fun k hk => ?_, ?_, fun b hb => ?_, h.all, h.sub⟩
  · have h1 := (h.th k hk).keep hKd (fun g hg e => by omega)
    exact h1.relab (fun g _ e => by
      have hlt : g < wr.heap.size := h.rd.lim g (by rw [e]; omega)
      rw [old g hlt]; exact e)
  · exact ⟨hKd.os.trans h.keep.os, hKd.tape.trans h.keep.tape, hKd.output.trans h.keep.output, Nat.le_trans h.keep.size hKd.size, fun b hb _ => (hKd.block b (Nat.lt_of_lt_of_le hb h.keep.size) (fun e => by have := h.lab b (by rw [e]; decide); omega)).trans (h.keep.block b hb (by simp))⟩
  · by_cases hlt : b < wd.heap.size
    · rw [Lab.ext_old hlt] at hb; exact h.lab b hb
    · have := h.keep.size; have := hd.size; omega
end Go.Proofs.YtmoaaimjgdbelaaGreat
