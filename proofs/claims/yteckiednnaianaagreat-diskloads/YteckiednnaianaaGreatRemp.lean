import Derived.Test.YteckiednnaianaaGreatRefp
import Derived.Test.YteckiednnaianaaGreatHmp
import Derived.Test.YteckiednnaianaaGreatHlp
namespace Go.Proofs.YteckiednnaianaaGreat
section
open Go.RowKit Dsk
set_option linter.unusedVariables false
set_option linter.unusedSimpArgs false
theorem upd_upd {α : Type} (f : Nat → α) (k : Nat) (a b : α) : upd (upd f k a) k b = upd f k b := by
 funext j
 unfold upd
 by_cases h : j = k <;> simp [h]
section
variable {w w1 : World} {q : Nat} {S : Ds} {A : Nat → Nat} {o : Lab} {nv bv tv sv : Value}
theorem lim_ext2 {o : Lab} {w w' w2 : World} {l : Nat} (hl : ∀ b, o b ≠ 0 → b < w.heap.size) (h1 : w.heap.size ≤ w'.heap.size) (h2 : w'.heap.size ≤ w2.heap.size) : ∀ b, o.ext w w' l b ≠ 0 → b < w2.heap.size := by
 intro b hb
 unfold Lab.ext at hb
 split at hb
 ·have := hl b hb; omega
 ·split at hb
  ·omega
  ·exact absurd rfl hb
theorem RDx.thShown {k : Nat} (h : RDx w q S A o nv bv tv sv) (hk : k ∈ S.lives) {v : Value} {xs : By} (hB : Cg w w1 v xs) :
  RDx (w1.setCell ⟨A k, 1, none⟩ v) q { S with th := upd S.th k { S.th k with shown := xs } } A (o.ext w w1 (k + 2)) nv bv tv sv ∧ Keep (· = A k) w (w1.setCell ⟨A k, 1, none⟩ v) ∧ (∃ u, w1.cell? ⟨A k, 1, none⟩ = some u) ∧ w1.frozen? ⟨A k, 1, none⟩ = false := by
 obtain ⟨s1, h1, r1, R1, ht⟩ := h.th k hk
 have hK1 : Keep (fun _ => False) w w1 := Keep.ofNone hB.keep
 have ht1 := ht.keep hK1 (fun _ _ h => h)
 have hks : Keep (· = A k) w1 (w1.setCell ⟨A k, 1, none⟩ v) := (Keep.refl (· = A k) w1).setCell (p := ⟨A k, 1, none⟩) (fun _ => rfl) _
 have hK : Keep (· = A k) w (w1.setCell ⟨A k, 1, none⟩ v) := (Keep.ofNone hB.keep).trans hks (fun i e _ => e)
 have old : ∀ b, b < w.heap.size → o.ext w w1 (k + 2) b = o b := fun b hb => Lab.ext_old hb
 have nB : ∀ {u : Value} {n : Nat} {ys : By}, OwnB w1 u n ys → ∀ g, u.ownBlock = some g → ¬ g = A k := fun hu g hg e => hu.ne ht1.cells (by decide) (by rw [hg, e])
 have hvB := OwnB.of hB.row
 refine ⟨RDx.thing (k := k) h (hK.mono (fun i e _ => by show o i = k + 2; rw [show i = A k from e]; exact ht.lb)) old (lim_ext2 h.lim hB.keep.size hks.size) ⟨s1, v, r1, R1, ?_, ht1.safe.keep hks (nB ht1.safe), hvB.keep hks (nB hvB), ht1.eq, own_keeps ht1.row hks (fun g hg e => own_ne ht1.row ht1.cells (by decide) (by rw [hg, e])), fun p hp => (ht1.data p hp).keep hks (fun g hg e => ?_), (old _ ht.lt).trans ht.lb, fun g hg => (old g (ht.safe.lt hg)).trans (ht.ls g hg), fun g hg => Lab.ext_new (hB.new g hg) (hvB.lt hg), fun g hg => (old g (ht.row.lt g hg).2).trans (ht.lr g hg), fun p hp g hg => (old g ((ht.data p hp).lt hg)).trans (ht.ld p hp g hg)⟩, hK, ⟨h1, by rw [cell_of_row w1 _ 1 _ _ _ ht1.cells]; rfl⟩, frozen_of_row _ _ _ _ _ ht1.cells⟩
 ·rw [heap_setCell_same _ (A k) 1 _ _ _ ht1.cells]; simp
 ·have hd : OwnB w1 p.2 (chD p.1).length (chD p.1) := ht1.data p hp
  exact nB hd g hg e
theorem RDx.thRow {k : Nat} (h : RDx w q S A o nv bv tv sv) (hk : k ∈ S.lives) (hb : (S.th k).row.length ≤ 536870912) (c : Ch) (dv : Value) (hd : ChD w (c, dv)) (hdl : ∀ g, dv.ownBlock = some g → o g = k + 2) (h1c : dv.oneCell' = true) :
  ∃ ro n rc, w.cell? ⟨A k, 2, none⟩ = some (.slice ro n rc) ∧ ∃ g c' w5, (Builtin.append_ #[76, 76] 76 #[.slice ro n rc, .slice (some ⟨w.heap.size, 0, none⟩) 1 1]).run Tryz.prog (w.alloc (.cells #[.bool (isCut c), .int .i64 c.place, dv] 143)) = .ok (.slice (some ⟨g, 0, none⟩) (n + 1) c') w5 ∧ w5.cell? ⟨A k, 2, none⟩ = some (.slice ro n rc) ∧ w5.frozen? ⟨A k, 2, none⟩ = false ∧
   RDx (w5.setCell ⟨A k, 2, none⟩ (.slice (some ⟨g, 0, none⟩) (n + 1) c')) q { S with th := upd S.th k { S.th k with row := (S.th k).row ++ [c] } } A (o.ext w w5 (k + 2)) nv bv tv sv ∧ Keep (fun b => o b = k + 2) w (w5.setCell ⟨A k, 2, none⟩ (.slice (some ⟨g, 0, none⟩) (n + 1) c')) := by
 obtain ⟨s1, h1, r1, R1, ht⟩ := h.th k hk
 have hRl : R1.length = (S.th k).row.length := by rw [← ht.eq]; simp
 obtain ⟨ro, rc, rfl, _⟩ := own_shape ht.row
 obtain ⟨n, hn⟩ : ∃ n, R1.length = n := ⟨_, rfl⟩
 rw [hn] at ht
 have hr := ht.row
 rw [hn] at hr
 obtain ⟨g, c', w5, e1, e2, e3, e4, e5⟩ := run_app (P := Tryz.prog) w 76 76 143 Tryz.underlying76 Tryz.infoChange rfl (by decide) _ n _ hr [.bool (isCut c), .int .i64 c.place, dv] rfl (fun z hz => by simp only [List.mem_cons, List.not_mem_nil, or_false] at hz; rcases hz with rfl | rfl | rfl; rfl; rfl; exact h1c) (by unfold maxLen; omega) (by omega)
 have hK5 := e3 (fun k => (Value.slice ro n rc).ownBlock = some k) (fun _ e => e)
 have nA : ¬ (Value.slice ro n rc).ownBlock = some (A k) := own_ne ht.row ht.cells (by decide)
 have hc5 := hK5.heapOf ht.cells nA
 have old : ∀ b, b < w.heap.size → o.ext w w5 (k + 2) b = o b := fun b hb => Lab.ext_old hb
 have hks : Keep (· = A k) w5 (w5.setCell ⟨A k, 2, none⟩ (.slice (some ⟨g, 0, none⟩) (n + 1) c')) := (Keep.refl (· = A k) w5).setCell (p := ⟨A k, 2, none⟩) (fun _ => rfl) _
 have nRow : ∀ {u : Value} {m : Nat} {ys : By}, OwnB w u m ys → ∀ g, u.ownBlock = some g → ¬ (Value.slice ro n rc).ownBlock = some g := fun hu g hg e => OwnB.two ht.row hu (by decide) g e hg
 have nB : ∀ {u : Value} {m : Nat} {ys : By}, OwnB w5 u m ys → ∀ g, u.ownBlock = some g → ¬ g = A k := fun hu g hg e => hu.ne hc5 (by decide) (by rw [hg, e])
 have k5 : ∀ {u : Value} {m : Nat} {ys : By}, OwnB w u m ys → OwnB (w5.setCell ⟨A k, 2, none⟩ (.slice (some ⟨g, 0, none⟩) (n + 1) c')) u m ys := fun hu => (hu.keep hK5 (nRow hu)).keep hks (nB (hu.keep hK5 (nRow hu)))
 have kD : ∀ p : Ch × Value, ChD w p → ChD (w5.setCell ⟨A k, 2, none⟩ (.slice (some ⟨g, 0, none⟩) (n + 1) c')) p := fun p hp => k5 (show OwnB w p.2 (chD p.1).length (chD p.1) from hp)
 have e2' : w5.ownsRow 0 143 3 (.slice (some ⟨g, 0, none⟩) (n + 1) c') (R1 ++ [(c, dv)]).length (chsV (R1 ++ [(c, dv)])) := by
  rw [chsV_snoc, List.length_append, hn]; exact e2
 have hKw : Keep (fun b => o b = k + 2) w (w5.setCell ⟨A k, 2, none⟩ (.slice (some ⟨g, 0, none⟩) (n + 1) c')) := (hK5.mono (G := fun b => o b = k + 2) (fun i e _ => ht.lr i e)).trans hks (fun i e _ => by show o i = k + 2; rw [show i = A k from e]; exact ht.lb)
 refine ⟨ro, n, rc, by rw [cell_of_row w _ 2 _ _ _ ht.cells]; rfl, g, c', w5, e1, by rw [cell_of_row w5 _ 2 _ _ _ hc5]; rfl, frozen_of_row _ _ _ _ _ hc5, RDx.thing (k := k) h hKw old (lim_ext2 h.lim hK5.size hks.size) ⟨s1, h1, .slice (some ⟨g, 0, none⟩) (n + 1) c', R1 ++ [(c, dv)], ?_, k5 ht.safe, k5 ht.shown, by simp [ht.eq], own_keeps e2' hks (fun g' hg' e => own_ne e2' hc5 (by decide) (by rw [hg', e])), fun p hp => ?_, (old _ ht.lt).trans ht.lb, fun g hg => (old g (ht.safe.lt hg)).trans (ht.ls g hg), fun g hg => (old g (ht.shown.lt hg)).trans (ht.lh g hg), fun g' hg' => ?_, fun p hp g' hg' => ?_⟩, hKw⟩
 ·rw [heap_setCell_same _ (A k) 2 _ _ _ hc5]; simp
 ·rcases List.mem_append.1 hp with hp | hp
  ·exact kD p (ht.data p hp)
  ·rw [List.mem_singleton.1 hp]; exact kD _ hd
 ·simp only [Value.ownBlock, Option.some.injEq] at hg'
  subst hg'
  rcases e4 with e | e
  ·rw [old g (hr.lt g e.symm).2]; exact ht.lr g e.symm
  ·exact Lab.ext_new e e5
 ·rcases List.mem_append.1 hp with hp | hp
  ·exact (old g' ((ht.data p hp).lt hg')).trans (ht.ld p hp g' hg')
  ·rw [List.mem_singleton.1 hp] at hg'
   exact (old g' (hd.lt hg')).trans (hdl g' hg')
theorem RDx.thSafe {k : Nat} (h : RDx w q S A o nv bv tv sv) (hk : k ∈ S.lives) {v : Value} {xs : By} (hB : Cg w w1 v xs) :
  RDx ((w1.setCell ⟨A k, 0, none⟩ v).setCell ⟨A k, 2, none⟩ (.slice none 0 0)) q { S with th := upd S.th k ⟨xs, [], (S.th k).shown⟩ } A (o.ext w w1 (k + 2)) nv bv tv sv ∧ Keep (· = A k) w ((w1.setCell ⟨A k, 0, none⟩ v).setCell ⟨A k, 2, none⟩ (.slice none 0 0)) ∧ (∃ u, w1.cell? ⟨A k, 0, none⟩ = some u) ∧ w1.frozen? ⟨A k, 0, none⟩ = false ∧ (∃ u, w1.cell? ⟨A k, 2, none⟩ = some u) ∧ w1.frozen? ⟨A k, 2, none⟩ = false := by
 obtain ⟨s1, h1, r1, R1, ht⟩ := h.th k hk
 have hK1 : Keep (fun _ => False) w w1 := Keep.ofNone hB.keep
 have ht1 := ht.keep hK1 (fun _ _ h => h)
 have hks : Keep (· = A k) w1 ((w1.setCell ⟨A k, 0, none⟩ v).setCell ⟨A k, 2, none⟩ (.slice none 0 0)) := ((Keep.refl (· = A k) w1).setCell (p := ⟨A k, 0, none⟩) (fun _ => rfl) _).setCell (p := ⟨A k, 2, none⟩) (fun _ => rfl) _
 have hK : Keep (· = A k) w ((w1.setCell ⟨A k, 0, none⟩ v).setCell ⟨A k, 2, none⟩ (.slice none 0 0)) := (Keep.ofNone hB.keep).trans hks (fun i e _ => e)
 have old : ∀ b, b < w.heap.size → o.ext w w1 (k + 2) b = o b := fun b hb => Lab.ext_old hb
 have nB : ∀ {u : Value} {n : Nat} {ys : By}, OwnB w1 u n ys → ∀ g, u.ownBlock = some g → ¬ g = A k := fun hu g hg e => hu.ne ht1.cells (by decide) (by rw [hg, e])
 have hvB := OwnB.of hB.row
 refine ⟨RDx.thing (k := k) h (hK.mono (fun i e _ => by show o i = k + 2; rw [show i = A k from e]; exact ht.lb)) old (lim_ext2 h.lim hB.keep.size hks.size) ⟨v, h1, .slice none 0 0, [], ?_, hvB.keep hks (nB hvB), ht1.shown.keep hks (nB ht1.shown), rfl, World.ownsRow_nil _ _ _ _, by simp, (old _ ht.lt).trans ht.lb, fun g hg => Lab.ext_new (hB.new g hg) (hvB.lt hg), fun g hg => (old g (ht.shown.lt hg)).trans (ht.lh g hg), by simp [Value.ownBlock], by simp⟩, hK, ⟨s1, by rw [cell_of_row w1 _ 0 _ _ _ ht1.cells]; rfl⟩, frozen_of_row _ _ _ _ _ ht1.cells, ⟨r1, by rw [cell_of_row w1 _ 2 _ _ _ ht1.cells]; rfl⟩, frozen_of_row _ _ _ _ _ ht1.cells⟩
 rw [heap_setCell_same _ (A k) 2 _ _ _ (heap_setCell_same _ (A k) 0 _ _ _ ht1.cells)]; simp
theorem RDx.thShape {k : Nat} (h : RDx w q S A o nv bv tv sv) (hk : k ∈ S.lives) : ∃ so sc ho hc, OwnB w (.slice so (S.th k).safe.length sc) (S.th k).safe.length (S.th k).safe ∧ OwnB w (.slice ho (S.th k).shown.length hc) (S.th k).shown.length (S.th k).shown ∧ w.cell? ⟨A k, 0, none⟩ = some (.slice so (S.th k).safe.length sc) ∧ w.cell? ⟨A k, 1, none⟩ = some (.slice ho (S.th k).shown.length hc) ∧ o (A k) = k + 2 ∧ A k < w.heap.size := by
 obtain ⟨s1, h1, r1, R1, ht⟩ := h.th k hk
 obtain ⟨so, sc, e1, _⟩ := ht.safe.shape
 obtain ⟨ho, hc, e2, _⟩ := ht.shown.shape
 subst e1 e2
 exact ⟨so, sc, ho, hc, ht.safe, ht.shown, by rw [cell_of_row w _ 0 _ _ _ ht.cells]; rfl, by rw [cell_of_row w _ 1 _ _ _ ht.cells]; rfl, ht.lb, ht.lt⟩
end
end

section
open Go.RowKit Dsk
set_option linter.unusedVariables false
set_option linter.unusedSimpArgs false
theorem find0 {S : Ds} (hwf : S.Wf) {n : By} (h0 : (S.find n).1 = 0) : ∃ i, S.shown[i]? = some (n, (S.find n).2) ∧ i < S.shown.length ∧ thereI S n = i ∧ (S.find n).2 ∈ S.lives ∧ S.on = true ∧ (S.find n).2 < S.nx := by
 obtain ⟨h1, h2, h3, h4⟩ := Ds.find_ok hwf h0
 obtain ⟨i, hi, hp, hf⟩ := fix_get_some hwf.sup ((Nm.get_some hwf.sup).2 h3)
 exact ⟨i, hp, hi, by unfold thereI; rw [if_pos h0, hf], Ds.shown_lives hwf h3, h1, h4⟩
section
variable {w : World} {q : Nat} {S : Ds} {A : Nat → Nat} {o : Lab} {nv bv tv sv : Value}
theorem tick_fin (hwf : S.Wf) (hq : o q = 1) {v w2 : World} {a1 a2 a3 a4 : Value} (hk2 : Keep (· = q) w w2) (hv : RDx v q { (Ds.cnt S) with on := (Ds.cnt S).on && !S.goesOff } A o a1 a2 a3 a4) (hkv : Keep (· = q) w2 v) : RAft w v q S.tick o :=
 ⟨A, o, ⟨hwf.tick, a1, a2, a3, a4, hv⟩, fun _ _ h => h, (hk2.trans hkv (fun _ h _ => h)).mono (fun i e _ => by show o i ≠ 0; rw [show i = q from e, hq]; decide)⟩
set_option maxHeartbeats 3200000 in
set_option maxRecDepth 100000 in
theorem rsync_ok (h : RDx w q S A o nv bv tv sv) (hwf : S.Wf) {N : Nat} (hB : S.Bd N) (hN : N ≤ 268435456) (n : By) (hn : n.length ≤ 4611686018427387904) :
  Calls Tryz.prog 61 #[.pointer (some ⟨q, 0, none⟩), encStr n] w fun e w' => e = .returned (.int .i64 (S.sync n).1) ∧ RAft w w' q (S.sync n).2 o := by
 have hth := there_ok h hwf.sup (by have := hB.shown hwf; omega) n hn
 by_cases h0 : (S.find n).1 = 0
 ·have hst := rstroke_ok h (by have := hB.strokes; omega) (by have := hB.planned; omega)
  obtain ⟨i, hp, hi, hti, hlv, hon, hnx⟩ := find0 hwf h0
  rw [h0, hti] at hth
  have hlq := h.lq
  cases hgo : S.goesOff with
  | true =>
   have HC : Hid (S.sync n = (S.ans 0, S.tick)) := hide (by simp [Ds.sync, h0, hgo, Ds.ans])
   have HFIN : Hid (∀ v w2 a1 a2 a3 a4, Keep (· = q) w w2 → RDx v q { (Ds.cnt S) with on := (Ds.cnt S).on && !true } A o a1 a2 a3 a4 → Keep (· = q) w2 v → RAft w v q S.tick o) := hide (fun v w2 a1 a2 a3 a4 h1 h2 h3 => tick_fin hwf hlq h1 (by rw [hgo]; exact h2) h3)
   have HGO : Hid (S.ans 0 = 50) := hide (by simp [Ds.ans, hgo])
   rw [hgo] at hst
   clear h hB h0 hlq hgo hti hp
   go_enter Tryz.func61, Tryz.ntmps61
   go_wp2_with (first
    | (go_at_call 82; refine hth.mono ?_; rintro e w' ⟨rfl, hw⟩; obtain rfl := hw.symm; clear hth)
    | (go_at_call 79; refine hst.mono ?_; rintro e w2 ⟨rfl, hR2, hK2⟩; have hen := fun b x => rend_ok hR2 b x; have HK2 := hide hK2; clear hst hR2 hK2)
    | (go_at_call 80; refine (hen _ _).mono ?_; rintro e w8 ⟨rfl, hR8, hK8⟩; have H8 := hide (HFIN.out w8 _ _ _ _ _ HK2.out hR8 hK8); clear hR8 hK8 hen))
   go_ret
   exact ⟨by rw [HC.out]; show _ = Ending.returned (Value.int _ (S.ans 0)); rw [HGO.out]; rfl, by rw [HC.out]; exact H8.out⟩
  | false =>
   have hsy : S.sync n = (0, { S.tick with th := upd S.th (S.find n).2 (S.th (S.find n).2).sync }) := by simp [Ds.sync, h0, hgo]
   have hwfE : ({ S.tick with th := upd S.th (S.find n).2 (S.th (S.find n).2).sync } : Ds).Wf := by have := hwf.sync n; rw [hsy] at this; exact this
   have HC := hide hsy
   have hlen : (S.th (S.find n).2).shown.length ≤ 268435456 := by have := hB.len hwf hnx; omega
   rw [hgo] at hst
   generalize (S.find n).2 = k at *
   obtain ⟨m, hm⟩ : ∃ m, S.shown.length = m := ⟨_, rfl⟩
   obtain ⟨no, nc, hnv⟩ := h.nvs
   rw [hm] at hnv hi
   subst hnv
   have HP := hide hp
   have HM := hide hm
   have HLQ := hide hlq
   have HGO := hide hgo
   have HLV := hide hlv
   have HPRE : Hid (∀ w2, RDx w2 q (Ds.cnt S) A o (.slice no m nc) bv tv sv → ∃ g, no = some ⟨g, 0, none⟩ ∧ w2.cell? ⟨q, 2, none⟩ = some (.slice no m nc) ∧ w2.cell? ⟨g, i * 2 + 1, none⟩ = some (.pointer (some ⟨A k, 0, none⟩))) := hide (fun w2 hR => by
    obtain ⟨g, e, _, c⟩ := nms_cell (n := m) (l := S.shown) (A := A) (w := w2) (vo := no) (vc := nc) (by have := hR.now; exact this) HP.out
    exact ⟨g, e, hR.cell 2 _ rfl, c⟩)
   clear h hB h0 hlq hgo hti hp hsy hm
   go_enter Tryz.func61, Tryz.ntmps61
   go_upto_region 6 with (first
    | (go_at_call 82; refine hth.mono ?_; rintro e w' ⟨rfl, hw⟩; obtain rfl := hw.symm; clear hth)
    | (go_at_call 79; refine hst.mono ?_; rintro e w2 ⟨rfl, hR2, hK2⟩; have HR2 := hide hR2; have HK2 := hide hK2; clear hst hR2 hK2))
   obtain ⟨g, rfl, c2, cp⟩ := HPRE.out w2 HR2.out
   obtain ⟨so, sc, ho, hc, hs1, hs2, cs, ch, hlb, hlt⟩ := HR2.out.thShape HLV.out
   have hcp := copiedB_ok _ _ _ w2 hs2 (by show (S.th k).shown.length ≤ _; omega)
   have HPOST : Hid (∀ g' c' w3, w3.ownsRow 0 5 1 (.slice (some ⟨g', 0, none⟩) ((Ds.cnt S).th k).shown.length c') ((Ds.cnt S).th k).shown.length (bys ((Ds.cnt S).th k).shown) → Kept [] w2 w3 → w2.heap.size ≤ g' → _) := hide (fun g' c' w3 hr hk hg => RDx.thSafe HR2.out HLV.out (w1 := w3) (v := .slice (some ⟨g', 0, none⟩) ((Ds.cnt S).th k).shown.length c') (xs := ((Ds.cnt S).th k).shown) ⟨hr, fun g2 e => by simp only [Value.ownBlock] at e; injection e with e; rw [← e]; exact hg, hk⟩)
   have HFIN : Hid (∀ v w5 o5 a1 a2 a3 a4, RDx v q { ({ Ds.cnt S with th := upd (Ds.cnt S).th k ⟨((Ds.cnt S).th k).shown, [], ((Ds.cnt S).th k).shown⟩ } : Ds) with on := (Ds.cnt S).on && !false } A o5 a1 a2 a3 a4 → (∀ b, b < w2.heap.size → o5 b = o b) → Keep (· = A k) w2 w5 → Keep (· = q) w5 v → RAft w v q { S.tick with th := upd S.th k (S.th k).sync } o) := hide (fun v w5 o5 a1 a2 a3 a4 hv ho5 hk5 hkv => by
    refine ⟨A, o5, ⟨hwfE, a1, a2, a3, a4, ?_⟩, fun b hb hn => ?_, ?_⟩
    ·have e : ({ ({ Ds.cnt S with th := upd (Ds.cnt S).th k ⟨((Ds.cnt S).th k).shown, [], ((Ds.cnt S).th k).shown⟩ } : Ds) with on := (Ds.cnt S).on && !false } : Ds) = { S.tick with th := upd S.th k (S.th k).sync } := by
      simp only [Ds.tick, HGO.out]
      rfl
     rw [← e]
     exact hv
    ·rw [ho5 b (Nat.lt_of_lt_of_le hb HK2.out.size)] at hn; exact hn
    ·have k1 := HK2.out.mono (G := o.mine) (fun i e _ => by show o i ≠ 0; rw [show i = q from e, HLQ.out]; decide)
     have k2 := k1.trans hk5 (fun i e _ => by show o i ≠ 0; rw [show i = A k from e, hlb]; omega)
     exact k2.trans hkv (fun i e _ => by show o i ≠ 0; rw [show i = q from e, HLQ.out]; decide))
   clear hs1 hs2 HPRE
   have hz : ((Ds.cnt S).th k).shown.length = (S.th k).shown.length := rfl
   generalize ((Ds.cnt S).th k).shown.length = z at hcp HPOST ch hz
   clear hz
   go_upto_region 9 with (go_at_call 20; refine hcp.mono ?_; rintro e w3 ⟨g', c', rfl, hr, hk3, hg3⟩; have HP3 := hide (HPOST.out g' c' w3 hr hk3 hg3); have hk3' := hk3; obtain ⟨_, _, ⟨_, d0⟩, f0, ⟨_, d2⟩, f2⟩ := HP3.out; clear hcp HPOST hr hk3 hg3 cs ch cp c2)
   obtain ⟨hR5, hK5, _⟩ := HP3.out
   clear HP3 d0 f0 d2 f2
   have HO5 : Hid (∀ b, b < w2.heap.size → o.ext w2 w3 (k + 2) b = o b) := hide (fun b hb => Lab.ext_old hb)
   generalize o.ext w2 w3 (k + 2) = o5 at hR5 HO5
   generalize World.setCell _ _ _ = w5 at hR5 hK5 ⊢
   have hen := fun b x => rend_ok hR5 b x
   have HK5 := hide hK5
   clear hR5 hK5
   go_wp2_with (go_at_call 80; refine (hen _ _).mono ?_; rintro e w8 ⟨rfl, hR8, hK8⟩; have H8 := hide (HFIN.out w8 _ _ _ _ _ _ hR8 HO5.out HK5.out hK8); clear hR8 hK8 hen)
   go_ret
   exact ⟨by rw [HC.out]; rfl, by rw [HC.out]; exact H8.out⟩
 ·have HC : Hid (S.sync n = ((S.find n).1, S)) := hide (by simp [Ds.sync, h0])
  have HA := hide (RAft.of ⟨hwf, _, _, _, _, h⟩ (Keep.refl _ w))
  generalize (S.find n).1 = E at hth h0 HC
  generalize thereI S n = I at hth
  have e0 : (E == 0) = false := by simpa using h0
  have e1 : (E != 0) = true := by simpa using h0
  clear h hB h0
  go_enter Tryz.func61, Tryz.ntmps61
  go_wp2_with (go_at_call 82; refine hth.mono ?_; rintro e w' ⟨rfl, hw⟩; obtain rfl := hw.symm; clear hth)
  go_ret
  exact ⟨by rw [HC.out]; rfl, by rw [HC.out]; exact HA.out⟩
end
end

section
open Go.RowKit Dsk
set_option linter.unusedVariables false
set_option linter.unusedSimpArgs false
section
variable {w : World} {q : Nat} {S : Ds} {A : Nat → Nat} {o : Lab} {nv bv tv sv : Value}
theorem q_mine (h : o q = 1) {a b : World} (hk : Keep (· = q) a b) : Keep o.mine a b := hk.mono (fun i e _ => by show o i ≠ 0; rw [show i = q from e, h]; decide)
set_option maxHeartbeats 1600000 in
set_option maxRecDepth 100000 in
theorem rsyncNames_ok (h : RDx w q S A o nv bv tv sv) (hwf : S.Wf) {N : Nat} (hB : S.Bd N) (hN : N ≤ 268435456) :
  Calls Tryz.prog 62 #[.pointer (some ⟨q, 0, none⟩)] w fun e w' => e = .returned (.int .i64 (S.syncNames).1) ∧ RAft w w' q (S.syncNames).2 o := by
 have hoff := roff_ok h
 have hst := rstroke_ok h (by have := hB.strokes; omega) (by have := hB.planned; omega)
 have hlq := h.lq
 cases hon : S.on with
 | false =>
  have HC : Hid (S.syncNames = (50, S)) := hide (by simp [Ds.syncNames, hon])
  have HA := hide (RAft.of ⟨hwf, _, _, _, _, h⟩ (Keep.refl _ w))
  rw [hon] at hoff
  clear h hB hst hon hlq
  go_enter Tryz.func62, Tryz.ntmps62
  go_wp2_with (go_at_call 37; refine hoff.mono ?_; rintro e w' ⟨rfl, hw⟩; obtain rfl := hw.symm; clear hoff)
  go_ret
  exact ⟨by rw [HC.out]; rfl, by rw [HC.out]; exact HA.out⟩
 | true =>
  rw [hon] at hoff
  cases hgo : S.goesOff with
  | true =>
   have HC : Hid (S.syncNames = (50, S.tick)) := hide (by simp [Ds.syncNames, hon, hgo])
   have HFIN : Hid (∀ v w2 a1 a2 a3 a4, Keep (· = q) w w2 → RDx v q { (Ds.cnt S) with on := (Ds.cnt S).on && !true } A o a1 a2 a3 a4 → Keep (· = q) w2 v → RAft w v q S.tick o) := hide (fun v w2 a1 a2 a3 a4 h1 h2 h3 => tick_fin hwf hlq h1 (by rw [hgo]; exact h2) h3)
   rw [hgo] at hst
   clear h hB hlq hgo hon
   go_enter Tryz.func62, Tryz.ntmps62
   go_wp2_with (first
    | (go_at_call 37; refine hoff.mono ?_; rintro e w' ⟨rfl, hw⟩; obtain rfl := hw.symm; clear hoff)
    | (go_at_call 79; refine hst.mono ?_; rintro e w2 ⟨rfl, hR2, hK2⟩; have hen := fun b x => rend_ok hR2 b x; have HK2 := hide hK2; clear hst hR2 hK2)
    | (go_at_call 80; refine (hen _ _).mono ?_; rintro e w8 ⟨rfl, hR8, hK8⟩; have H8 := hide (HFIN.out w8 _ _ _ _ _ HK2.out hR8 hK8); clear hR8 hK8 hen))
   go_ret
   exact ⟨by rw [HC.out]; rfl, by rw [HC.out]; exact H8.out⟩
  | false =>
   have hsn : S.syncNames = (0, { S.tick with safe := S.shown, row := [] }) := by simp [Ds.syncNames, hon, hgo]
   have hwfE : ({ S.tick with safe := S.shown, row := [] } : Ds).Wf := by have := hwf.syncNames; rw [hsn] at this; exact this
   have HC := hide hsn
   have HLV : Hid (∀ k, k ∈ S.shown.ids → k ∈ S.lives) := hide (fun k hk => by obtain ⟨n, hn⟩ := Nm.mem_ids.1 hk; exact Ds.shown_lives hwf hn)
   obtain ⟨no, nc, hnv⟩ := h.nvs
   obtain ⟨m, hm⟩ : ∃ m, S.shown.length = m := ⟨_, rfl⟩
   rw [hm] at hnv
   subst hnv
   have HST : Hid (∀ w2, RDx w2 q (Ds.cnt S) A o (.slice no m nc) bv tv sv → RDx ((w2.setCell ⟨q, 3, none⟩ (.slice no m nc)).setCell ⟨q, 4, none⟩ (.slice none 0 0)) q { Ds.cnt S with safe := S.shown, row := [] } A o (.slice no m nc) (.slice no m nc) (.slice none 0 0) sv ∧ Keep (· = q) w2 ((w2.setCell ⟨q, 3, none⟩ (.slice no m nc)).setCell ⟨q, 4, none⟩ (.slice none 0 0)) ∧ w2.cell? ⟨q, 2, none⟩ = some (.slice no m nc) ∧ w2.cell? ⟨q, 3, none⟩ = some bv ∧ w2.cell? ⟨q, 4, none⟩ = some tv ∧ w2.frozen? ⟨q, 3, none⟩ = false ∧ w2.frozen? ⟨q, 4, none⟩ = false) := hide (fun w2 h2 => by
    have hk : Keep (· = q) w2 ((w2.setCell ⟨q, 3, none⟩ (.slice no m nc)).setCell ⟨q, 4, none⟩ (.slice none 0 0)) := ((Keep.refl (· = q) w2).setCell (p := ⟨q, 3, none⟩) (fun _ => rfl) _).setCell (p := ⟨q, 4, none⟩) (fun _ => rfl) _
    refine ⟨RDx.put (S' := { Ds.cnt S with safe := S.shown, row := [] }) h2 hk ?_ h2.now h2.now (World.ownsRow_nil _ _ _ _) h2.told (fun k hk' => h2.th k (HLV.out k (by simpa [Ds.lives, madeN] using hk'))) h2.ln h2.ln (by simp [Value.ownBlock]) h2.ls h2.pl, hk, h2.cell 2 _ rfl, h2.cell 3 _ rfl, h2.cell 4 _ rfl, frozen_of_row _ _ _ _ _ h2.cells, frozen_of_row _ _ _ _ _ h2.cells⟩
    rw [heap_setCell_same _ q 4 _ _ _ (heap_setCell_same _ q 3 _ _ _ h2.cells)]
    simp)
   have HFIN : Hid (∀ v w2 w3 a1 a2 a3 a4, Keep (· = q) w w2 → Keep (· = q) w2 w3 → RDx v q { ({ Ds.cnt S with safe := S.shown, row := [] } : Ds) with on := (Ds.cnt S).on && !false } A o a1 a2 a3 a4 → Keep (· = q) w3 v → RAft w v q { S.tick with safe := S.shown, row := [] } o) := hide (fun v w2 w3 a1 a2 a3 a4 k1 k2 hv k3 => by
    refine ⟨A, o, ⟨hwfE, a1, a2, a3, a4, ?_⟩, fun _ _ h => h, q_mine hlq ((k1.trans k2 (fun _ h _ => h)).trans k3 (fun _ h _ => h))⟩
    have e : ({ ({ Ds.cnt S with safe := S.shown, row := [] } : Ds) with on := (Ds.cnt S).on && !false } : Ds) = { S.tick with safe := S.shown, row := [] } := by
     simp only [Ds.tick, hgo]
     rfl
    rw [← e]
    exact hv)
   rw [hgo] at hst
   clear h hB hlq hgo hon hsn hm
   go_enter Tryz.func62, Tryz.ntmps62
   go_upto_region 7 with (first
    | (go_at_call 37; refine hoff.mono ?_; rintro e w' ⟨rfl, hw⟩; obtain rfl := hw.symm; clear hoff)
    | (go_at_call 79; refine hst.mono ?_; rintro e w2 ⟨rfl, hR2, hK2⟩; obtain ⟨hR3, hK3, c2, c3, c4, f3, f4⟩ := HST.out w2 hR2; have HR3 := hide hR3; have HK3 := hide hK3; have HK2 := hide hK2; clear hst hR2 hK2 hR3 hK3))
   clear c2 c3 c4 f3 f4
   have hR3 := HR3.out
   have hK3 := HK3.out
   generalize World.setCell _ _ _ = w3 at hR3 hK3 ⊢
   have hen := fun b x => rend_ok hR3 b x
   have HK4 := hide hK3
   clear hR3 hK3 HR3 HK3
   go_wp2_with (go_at_call 80; refine (hen _ _).mono ?_; rintro e w8 ⟨rfl, hR8, hK8⟩; have H8 := hide (HFIN.out w8 w2 w3 _ _ _ _ HK2.out HK4.out hR8 hK8); clear hR8 hK8 hen)
   go_ret
   exact ⟨by rw [HC.out]; rfl, by rw [HC.out]; exact H8.out⟩
set_option maxHeartbeats 1600000 in
set_option maxRecDepth 100000 in
theorem rlook_ok (h : RDx w q S A o nv bv tv sv) (hwf : S.Wf) :
  Calls Tryz.prog 95 #[.pointer (some ⟨q, 0, none⟩)] w fun e w' => e = .returned (.tuple #[]) ∧ RAft w w' q S.look o := by
 have c10 := h.cell 10 _ rfl
 have f10 : w.frozen? ⟨q, 10, none⟩ = false := frozen_of_row _ _ _ _ _ h.cells
 have hk : Keep (· = q) w (w.setCell ⟨q, 10, none⟩ (.slice none 0 0)) := (Keep.refl (· = q) w).setCell (p := ⟨q, 10, none⟩) (fun _ => rfl) _
 have HA : Hid (RAft w (w.setCell ⟨q, 10, none⟩ (.slice none 0 0)) q S.look o) := hide ⟨A, o, ⟨hwf.look, _, _, _, _, RDx.put (S' := S.look) h hk (by rw [heap_setCell_same _ q 10 _ _ _ h.cells]; simp [Ds.look]) h.now h.before h.turns (World.ownsRow_nil _ _ _ _) h.th h.ln h.lb h.lt (by simp [Value.ownBlock]) h.pl⟩, fun _ _ h => h, q_mine h.lq hk⟩
 clear h hk
 go_enter Tryz.func95, Tryz.ntmps95
 go_wp2
 first | refine bodyPost_end (results_none rfl _ _ _) rfl ?_ | refine bodyPost_ret (results_none rfl _ _ _) rfl ?_
 exact ⟨rfl, HA.out⟩
set_option maxHeartbeats 1600000 in
set_option maxRecDepth 100000 in
theorem rplan_ok (h : RDx w q S A o nv bv tv sv) (hwf : S.Wf) (a b c : Int) (hp : (Lit.int .i64 a).wf = true ∧ (Lit.int .i64 b).wf = true ∧ (Lit.int .i64 c).wf = true) :
  Calls Tryz.prog 90 #[.pointer (some ⟨q, 0, none⟩), .agg #[.int .i64 a, .int .i64 b, .int .i64 c]] w fun e w' => e = .returned (.tuple #[]) ∧ RAft w w' q (S.setPlan a b c) o := by
 obtain ⟨w1, hw1⟩ : ∃ w1, w1 = w.alloc (.cells #[.int .i64 a, .int .i64 b, .int .i64 c] 50) := ⟨_, rfl⟩
 have hk1 : Kept [] w w1 := by rw [hw1]; exact (Kept.refl [] w).alloc _
 have hb1 : w1.heap[w.heap.size]? = some (.cells #[.int .i64 a, .int .i64 b, .int .i64 c] 50 (0, 0)) := by rw [hw1]; exact (MapKept.heap_alloc w _).1
 have x0 : w1.cell? ⟨w.heap.size, 0, none⟩ = some (.int .i64 a) := by rw [cell_of_row w1 _ 0 _ _ _ hb1]; rfl
 have x1 : w1.cell? ⟨w.heap.size, 1, none⟩ = some (.int .i64 b) := by rw [cell_of_row w1 _ 1 _ _ _ hb1]; rfl
 have x2 : w1.cell? ⟨w.heap.size, 2, none⟩ = some (.int .i64 c) := by rw [cell_of_row w1 _ 2 _ _ _ hb1]; rfl
 have h1 := h.kept hk1
 have hoff := roff_ok h1
 have hlq := h.lq
 cases hon : S.on with
 | false =>
  have HC : Hid (S.setPlan a b c = S) := hide (by simp [Ds.setPlan, hon])
  have HA := hide (RAft.of ⟨hwf, _, _, _, _, h1⟩ (Keep.ofNone (F := o.mine) hk1))
  rw [hon] at hoff
  obtain ⟨X, hX⟩ : ∃ X, X = w.heap.size := ⟨_, rfl⟩
  clear h h1 hon hlq hb1 x0 x1 x2 hk1
  go_enter Tryz.func90, Tryz.ntmps90
  go_upto_region 1 with (fail)
  rw [← hw1, ← hX]
  clear hw1 hX
  go_wp2_with (go_at_call 37; refine hoff.mono ?_; rintro e w' ⟨rfl, hw⟩; obtain rfl := hw.symm; clear hoff)
  first | refine bodyPost_end (results_none rfl _ _ _) rfl ?_ | refine bodyPost_ret (results_none rfl _ _ _) rfl ?_
  exact ⟨rfl, by rw [HC.out]; exact HA.out⟩
 | true =>
  have HC : Hid (S.setPlan a b c = { S with off := a, from_ := b, to := c, planned := 0 }) := hide (by simp [Ds.setPlan, hon])
  have hwfE : ({ S with off := a, from_ := b, to := c, planned := 0 } : Ds).Wf := by have := hwf.setPlan a b c; rw [HC.out] at this; exact this
  rw [hon] at hoff
  have c6 := h1.cell 6 _ rfl
  have c7 := h1.cell 7 _ rfl
  have c8 := h1.cell 8 _ rfl
  have c9 := h1.cell 9 _ rfl
  have f6 : w1.frozen? ⟨q, 6, none⟩ = false := frozen_of_row _ _ _ _ _ h1.cells
  have f7 : w1.frozen? ⟨q, 7, none⟩ = false := frozen_of_row _ _ _ _ _ h1.cells
  have f8 : w1.frozen? ⟨q, 8, none⟩ = false := frozen_of_row _ _ _ _ _ h1.cells
  have f9 : w1.frozen? ⟨q, 9, none⟩ = false := frozen_of_row _ _ _ _ _ h1.cells
  have hk : Keep (· = q) w1 ((((w1.setCell ⟨q, 7, none⟩ (.int .i64 a)).setCell ⟨q, 8, none⟩ (.int .i64 b)).setCell ⟨q, 9, none⟩ (.int .i64 c)).setCell ⟨q, 6, none⟩ (.int .i64 0)) := ((((Keep.refl (· = q) w1).setCell (p := ⟨q, 7, none⟩) (fun _ => rfl) _).setCell (p := ⟨q, 8, none⟩) (fun _ => rfl) _).setCell (p := ⟨q, 9, none⟩) (fun _ => rfl) _).setCell (p := ⟨q, 6, none⟩) (fun _ => rfl) _
  have HA : Hid (RAft w ((((w1.setCell ⟨q, 7, none⟩ (.int .i64 a)).setCell ⟨q, 8, none⟩ (.int .i64 b)).setCell ⟨q, 9, none⟩ (.int .i64 c)).setCell ⟨q, 6, none⟩ (.int .i64 0)) q { S with off := a, from_ := b, to := c, planned := 0 } o) := hide ⟨A, o, ⟨hwfE, _, _, _, _, RDx.put (S' := { S with off := a, from_ := b, to := c, planned := 0 }) h1 hk (by
    rw [heap_setCell_same _ q 6 _ _ _ (heap_setCell_same _ q 9 _ _ _ (heap_setCell_same _ q 8 _ _ _ (heap_setCell_same _ q 7 _ _ _ h1.cells)))]
    simp) h1.now h1.before h1.turns h1.told h1.th h1.ln h1.lb h1.lt h1.ls hp⟩, fun _ _ h => h, (Keep.ofNone hk1).trans (q_mine hlq hk) (fun _ h _ => h)⟩
  obtain ⟨X, hX⟩ : ∃ X, X = w.heap.size := ⟨_, rfl⟩
  rw [← hX] at x0 x1 x2
  clear h h1 hon hlq hb1 hk1 hk
  go_enter Tryz.func90, Tryz.ntmps90
  go_upto_region 1 with (fail)
  rw [← hw1, ← hX]
  clear hw1 hX
  go_wp2_with (go_at_call 37; refine hoff.mono ?_; rintro e w' ⟨rfl, hw⟩; obtain rfl := hw.symm; clear hoff)
  first | refine bodyPost_end (results_none rfl _ _ _) rfl ?_ | refine bodyPost_ret (results_none rfl _ _ _) rfl ?_
  exact ⟨rfl, by rw [HC.out]; exact HA.out⟩
set_option maxHeartbeats 1600000 in
set_option maxRecDepth 100000 in
theorem rsize_ok (h : RDx w q S A o nv bv tv sv) (hwf : S.Wf) (hl : S.shown.length ≤ 1073741824) (n : By) (hn : n.length ≤ 4611686018427387904) :
  Calls Tryz.prog 88 #[.pointer (some ⟨q, 0, none⟩), encStr n] w fun e w' => e = .returned (.tuple #[.int .i64 (S.size n), .int .i64 (S.find n).1]) ∧ w' = w := by
 have hth := there_ok h hwf.sup hl n hn
 by_cases h0 : (S.find n).1 = 0
 ·obtain ⟨i, hp, hi, hti, hlv, hon, hnx⟩ := find0 hwf h0
  have hsz : S.size n = (S.th (S.find n).2).shown.length := by simp [Ds.size, h0]
  rw [hsz, h0]
  rw [h0, hti] at hth
  generalize (S.find n).2 = k at *
  obtain ⟨mm, hm⟩ : ∃ m, S.shown.length = m := ⟨_, rfl⟩
  obtain ⟨no, nc, hnv⟩ := h.nvs
  rw [hm] at hnv hi hl
  subst hnv
  obtain ⟨gn, hgn, _, cpn⟩ := nms_cell (n := mm) (l := S.shown) (A := A) (w := w) (vo := no) (vc := nc) h.now hp
  subst hgn
  have c2 := h.cell 2 _ rfl
  obtain ⟨so0, sc0, ho0, hc0, _, _, _, ch0, _, _⟩ := h.thShape hlv
  generalize (S.th k).shown.length = z at ch0
  generalize A k = ab at ch0 cpn
  clear h hp h0 hti hsz hm hlv
  go_enter Tryz.func88, Tryz.ntmps88
  go_wp2_with (go_at_call 82; refine hth.mono ?_; rintro e w' ⟨rfl, hw⟩; obtain rfl := hw.symm; clear hth)
  go_ret2
  exact ⟨rfl, rfl⟩
 ·have hsz : S.size n = 0 := by simp [Ds.size, h0]
  rw [hsz]
  generalize (S.find n).1 = E at hth h0
  generalize thereI S n = I at hth
  have e0 : (E == 0) = false := by simpa using h0
  have e1 : (E != 0) = true := by simpa using h0
  clear h h0
  go_enter Tryz.func88, Tryz.ntmps88
  go_wp2_with (go_at_call 82; refine hth.mono ?_; rintro e w' ⟨rfl, hw⟩; obtain rfl := hw.symm; clear hth)
  go_ret2
  exact ⟨rfl, rfl⟩
end
set_option maxHeartbeats 1600000 in
set_option maxRecDepth 100000 in
theorem rnewBad_ok (r : Int) (w : World) (h : roomE r = 1) : Calls Tryz.prog 17 #[.int .i64 r] w fun e w' => e = .returned (.tuple #[.pointer none, .int .i64 1]) ∧ w' = w := by
 have hr : r < 1 ∨ 1048576 < r := by unfold roomE at h; split at h; assumption; cases h
 clear h
 by_cases h1 : r < 1
 ·clear hr
  go_enter Tryz.func17, Tryz.ntmps17
  go_wp2
  go_ret2
  exact ⟨rfl, rfl⟩
 ·have h2 : 1048576 < r := by omega
  clear hr
  go_enter Tryz.func17, Tryz.ntmps17
  go_wp2
  go_ret2
  exact ⟨rfl, rfl⟩
set_option maxHeartbeats 1600000 in
set_option maxRecDepth 100000 in
theorem rnew_ok (r : Int) (w : World) (h : roomE r = 0) : Calls Tryz.prog 17 #[.int .i64 r] w fun e w' => ∃ q, e = .returned (.tuple #[.pointer (some ⟨q, 0, none⟩), .int .i64 0]) ∧ ∃ A o, RD w' q (Ds.fresh r.toNat) A o ∧ (∀ b, o b ≠ 0 → w.heap.size ≤ b) ∧ Kept [] w w' := by
 have hr : 1 ≤ r ∧ r ≤ 1048576 := by unfold roomE at h; split at h; cases h; omega
 obtain ⟨hr1, hr2⟩ := hr
 have h1 : ¬ r < 1 := by omega
 have h2 : ¬ 1048576 < r := by omega
 have HR : Hid ((r.toNat : Int) = r) := hide (by omega)
 have HW : Hid ((Ds.fresh r.toNat).Wf) := hide (Ds.Wf.fresh (by omega))
 clear h
 go_enter Tryz.func17, Tryz.ntmps17
 go_wp2
 go_ret2
 refine ⟨w.heap.size, rfl, fun _ => 0, fun b => if b = w.heap.size then 1 else 0, ⟨HW.out, .slice none 0 0, .slice none 0 0, .slice none 0 0, .slice none 0 0, ?_, World.ownsRow_nil _ _ _ _, World.ownsRow_nil _ _ _ _, World.ownsRow_nil _ _ _ _, World.ownsRow_nil _ _ _ _, ?_, by simp, by simp [Value.ownBlock], by simp [Value.ownBlock], by simp [Value.ownBlock], by simp [Value.ownBlock], ?_, ?_⟩, ?_, (Kept.refl [] w).alloc _⟩
 ·rw [(MapKept.heap_alloc w _).1]
  simp [Ds.fresh, HR.out]
 ·intro k hk
  simp [Ds.lives, Ds.fresh, Nm.ids, madeN] at hk
 ·intro b hb
  by_cases e : b = w.heap.size
  ·rw [e]; simp
  ·simp [e] at hb
 ·exact (show (Lit.int .i64 0).wf = true ∧ (Lit.int .i64 0).wf = true ∧ (Lit.int .i64 0).wf = true from ⟨by decide, by decide, by decide⟩)
 ·intro b hb
  by_cases e : b = w.heap.size
  ·omega
  ·simp [e] at hb
end

section
open Go.RowKit Dsk
set_option linter.unusedVariables false
set_option linter.unusedSimpArgs false
structure Rlg (w wr : World) (q : Nat) (r : Int) (L : List (By × By)) (k : Nat) (A : Nat → Nat) (o : Lab) (nv bv tv sv : Value) : Prop where
 cells : wr.heap[q]? = some (.cells #[.bool true, .int .i64 r, nv, bv, tv, .int .i64 0, .int .i64 0, .int .i64 0, .int .i64 0, .int .i64 0, sv] 74 (0, 0))
 now : wr.ownsRow 0 113 2 nv (ldn L k).length (nmsV A (ldn L k))
 turns : wr.ownsRow 0 138 4 tv 0 []
 told : wr.ownsRow 0 126 3 sv 0 []
 th : ∀ j, j < k → Rg wr o (j + 2) (A j) (thL L j)
 lq : o q = 1
 ln : ∀ g, nv.ownBlock = some g → o g = 1
 lt : ∀ g, tv.ownBlock = some g → o g = 1
 ls : ∀ g, sv.ownBlock = some g → o g = 1
 lim : ∀ b, o b ≠ 0 → w.heap.size ≤ b ∧ b < wr.heap.size
 kept : Kept [] w wr
section
variable {w wr : World} {q : Nat} {r : Int} {L : List (By × By)} {k : Nat} {A : Nat → Nat} {o : Lab} {nv bv tv sv : Value}
theorem Rlg.kept' {w' : World} (h : Rlg w wr q r L k A o nv bv tv sv) (hk : Kept [] wr w') : Rlg w w' q r L k A o nv bv tv sv := by
 have hK : Keep (fun _ => False) wr w' := Keep.ofNone hk
 exact ⟨hK.heapOf h.cells id, own_keeps h.now hK (fun _ _ h => h), own_keeps h.turns hK (fun _ _ h => h), own_keeps h.told hK (fun _ _ h => h), fun j hj => (h.th j hj).keep hK (fun _ _ h => h), h.lq, h.ln, h.lt, h.ls, fun b hb => ⟨(h.lim b hb).1, Nat.lt_of_lt_of_le (h.lim b hb).2 hk.size⟩, h.kept.trans hk (by simp)⟩
theorem Rlg.now' (h : Rlg w wr q r L k A o nv bv tv sv) (tb : Nat) : wr.ownsRow 0 113 2 nv (ldn L k).length (nmsV (upd A k tb) (ldn L k)) := by
 rw [nmsV_congr (A := A) (fun j hj => ?_)]
 ·exact h.now
 ·obtain ⟨p, hp, rfl⟩ := List.mem_map.1 hj
  exact upd_other _ _ (by have := (ldn_mem L k p hp).1; omega)
theorem Rlg.step {w3 w4 w5 : World} {tb : Nat} {s1 s2 nv' : Value} (h : Rlg w wr q r L k A o nv bv tv sv) (hk3 : Kept [] wr w3) (ht : w3.heap[tb]? = some (.cells #[s1, s2, .slice none 0 0] 78 (0, 0))) (htb : wr.heap.size ≤ tb)
  (h1 : OwnB w3 s1 (thL L k).safe.length (thL L k).safe) (h2 : OwnB w3 s2 (thL L k).shown.length (thL L k).shown) (n1 : ∀ g, s1.ownBlock = some g → wr.heap.size ≤ g) (n2 : ∀ g, s2.ownBlock = some g → wr.heap.size ≤ g)
  (hb : Bl w3 w4 (upd A k tb) nv' (ldn L (k + 1))) (hw5 : w5 = w4.setCell ⟨q, 2, none⟩ nv') : Rlg w w5 q r L (k + 1) (upd A k tb) ((o.ext wr w3 (k + 2)).ext w3 w5 1) nv' bv tv sv := by
 have hql : q < wr.heap.size := (h.lim q (by rw [h.lq]; decide)).2
 have z3 := hk3.size
 have z4 := hb.keep.size
 have z5 : w5.heap.size = w4.heap.size := by rw [hw5]; simp [World.setCell]
 have k3 : Keep (fun _ => False) wr w3 := Keep.ofNone hk3
 have k35 : Keep (· = q) w3 w5 := (Keep.ofNone (F := (· = q)) hb.keep).trans (by rw [hw5]; exact (Keep.refl (· = q) w4).setCell (p := ⟨q, 2, none⟩) (fun _ => rfl) _) (fun _ h _ => h)
 have c4 : w4.heap[q]? = some (.cells #[.bool true, .int .i64 r, nv, bv, tv, .int .i64 0, .int .i64 0, .int .i64 0, .int .i64 0, .int .i64 0, sv] 74 (0, 0)) := by rw [hb.keep.block q (by omega) (by simp), hk3.block q hql (by simp)]; exact h.cells
 have lab : ∀ b, b < wr.heap.size → ((o.ext wr w3 (k + 2)).ext w3 w5 1) b = o b := fun b hb => by rw [Lab.ext_old (by omega), Lab.ext_old hb]
 have q1 : (o.ext wr w3 (k + 2)) q = 1 := by rw [Lab.ext_old hql]; exact h.lq
 have ne5 : ∀ g, (o.ext wr w3 (k + 2)) g ≠ 1 → g ≠ q := fun g hg e => hg (by rw [e]; exact q1)
 have rowq : ∀ (v : Value) (e : TypeId) (s n : Nat) (xs : List Value), wr.ownsRow 0 e s v n xs → e ≠ 74 → ∀ g, v.ownBlock = some g → g ≠ q := fun v e s n xs hr he g hg hq => by
  rcases hr.2 with ⟨h0, _⟩ | ⟨g', cap, cur, h0, _, hg', _⟩
  ·rw [h0] at hg; cases hg
  ·rw [h0] at hg
   cases hg
   have hq' : g' = q := hq
   rw [hq', h.cells] at hg'
   cases hg'
   exact he rfl
 refine ⟨?_, ?_, own_keeps (own_keeps h.turns k3 (fun _ _ h => h)) k35 (rowq _ _ _ _ _ h.turns (by decide)), own_keeps (own_keeps h.told k3 (fun _ _ h => h)) k35 (rowq _ _ _ _ _ h.told (by decide)), fun j hj => ?_, (lab q hql).trans h.lq, fun g hg => ?_, fun g hg => ?_, fun g hg => ?_, fun b hb => ?_, ?_⟩
 ·rw [hw5, heap_setCell_same _ _ _ _ _ _ c4]; rfl
 ·have hne : ∀ g, nv'.ownBlock = some g → g ≠ q := fun g hg e => by have := hb.new g hg; omega
  rw [hw5]
  exact own_keeps hb.row ((Keep.refl (· = q) w4).setCell (p := ⟨q, 2, none⟩) (fun _ => rfl) _) hne
 ·by_cases e : j = k
  ·subst e
   rw [upd_same]
   have t3 : Rg w3 (o.ext wr w3 (j + 2)) (j + 2) tb (thL L j) := ⟨s1, s2, .slice none 0 0, [], ht, h1, h2, rfl, World.ownsRow_nil _ _ _ _, by simp, Lab.ext_new htb (Array.getElem?_eq_some_iff.1 ht).1, fun g hg => Lab.ext_new (n1 g hg) (h1.lt hg), fun g hg => Lab.ext_new (n2 g hg) (h2.lt hg), (fun g hg => by cases hg), by simp⟩
   exact t3.ext k35 (fun g hg e => by rw [e, q1] at hg; omega)
  ·rw [upd_other _ _ e]
   have t3 := (h.th j (by omega)).ext (m := k + 2) k3 (fun _ _ h => h)
   exact t3.ext k35 (fun g hg e => by rw [e, q1] at hg; omega)
 ·have := hb.new g hg
  exact Lab.ext_new this (by have := (hb.row.lt g hg).2; omega)
 ·rw [lab g (h.turns.lt g hg).2]; exact h.lt g hg
 ·rw [lab g (h.told.lt g hg).2]; exact h.ls g hg
 ·have hs := h.kept.size
  by_cases b1 : b < wr.heap.size
  ·rw [lab b b1] at hb
   exact ⟨(h.lim b hb).1, by omega⟩
  ·by_cases b2 : b < w5.heap.size
   ·exact ⟨by omega, b2⟩
   ·by_cases b3 : b < w3.heap.size
    ·omega
    ·simp [Lab.ext, b2, b3] at hb
 ·have hqn := (h.lim q (by rw [h.lq]; decide)).1
  have hk := h.kept.trans hk3 (by simp)
  exact ⟨k35.os.trans hk.os, k35.tape.trans hk.tape, k35.output.trans hk.output, Nat.le_trans hk.size k35.size, fun i hi _ => (k35.block i (Nat.lt_of_lt_of_le hi hk.size) (by omega)).trans (hk.block i hi (by simp))⟩
end
theorem Rlg.start {w w1 : World} {q : Nat} {r : Int} {L : List (By × By)} {A : Nat → Nat} {o : Lab} (hr : 1 ≤ r) (h : RD w1 q (Ds.fresh r.toNat) A o) (hn : ∀ b, o b ≠ 0 → w.heap.size ≤ b) (hk : Kept [] w w1) : ∃ nv bv tv sv, Rlg w w1 q r L 0 A o nv bv tv sv := by
 obtain ⟨_, nv, bv, tv, sv, h⟩ := h
 have hc := h.cells
 have e : (((Ds.fresh r.toNat).room : Nat) : Int) = r := Int.toNat_of_nonneg (by omega)
 rw [e] at hc
 exact ⟨nv, bv, tv, sv, hc, h.now, h.turns, h.told, fun j hj => absurd hj (Nat.not_lt_zero j), h.lq, h.ln, h.lt, h.ls, fun b hb => ⟨hn b hb, h.lim b hb⟩, hk⟩
theorem Rlg.done {w wr w' : World} {q : Nat} {r : Int} {L : List (By × By)} {A : Nat → Nat} {o : Lab} {nv bv tv sv : Value} (h : Rlg w wr q r L L.length A o nv bv tv sv) (hr : 1 ≤ r ∧ r ≤ 1048576) (hN : ∀ f ∈ L, isNm f.1 = true) (hw : w' = wr.setCell ⟨q, 3, none⟩ nv) :
  RD w' q (Ds.load r.toNat L) A o ∧ (∀ b, o b ≠ 0 → w.heap.size ≤ b) ∧ Kept [] w w' := by
 have hql : q < wr.heap.size := (h.lim q (by rw [h.lq]; decide)).2
 have z5 : w'.heap.size = wr.heap.size := by rw [hw]; simp [World.setCell]
 have kq : Keep (· = q) wr w' := by rw [hw]; exact (Keep.refl (· = q) wr).setCell (p := ⟨q, 3, none⟩) (fun _ => rfl) _
 have rowq : ∀ (v : Value) (e : TypeId) (s n : Nat) (xs : List Value), wr.ownsRow 0 e s v n xs → e ≠ 74 → ∀ g, v.ownBlock = some g → g ≠ q := fun v e s n xs hr he g hg hq => by
  rcases hr.2 with ⟨h0, _⟩ | ⟨g', cap, cur, h0, _, hg', _⟩
  ·rw [h0] at hg; cases hg
  ·rw [h0] at hg
   cases hg
   have hq' : g' = q := hq
   rw [hq', h.cells] at hg'
   cases hg'
   exact he rfl
 have hnow := own_keeps h.now kq (rowq _ _ _ _ _ h.now (by decide))
 refine ⟨⟨Wf.load (by omega) hN, nv, nv, tv, sv, ?_, hnow, hnow, own_keeps h.turns kq (rowq _ _ _ _ _ h.turns (by decide)), own_keeps h.told kq (rowq _ _ _ _ _ h.told (by decide)), fun k hk => ?_, h.lq, h.ln, h.ln, h.lt, h.ls, fun b hb => by rw [z5]; exact (h.lim b hb).2, (by refine ⟨?_, ?_, ?_⟩ <;> exact (by decide : (Lit.int .i64 0).wf = true))⟩, fun b hb => (h.lim b hb).1, ?_⟩
 ·rw [hw, heap_setCell_same _ _ _ _ _ _ h.cells]
  have e : (((Ds.load r.toNat L).room : Nat) : Int) = r := Int.toNat_of_nonneg (by omega)
  rw [e]; rfl
 ·have hkn : k < L.length := by
   have h1 : k ∈ (ldn L L.length).ids := by simpa [Ds.lives, Ds.load, madeN] using hk
   obtain ⟨p, hp, rfl⟩ := List.mem_map.1 h1
   exact (ldn_mem L _ p hp).1
  exact (h.th k hkn).keep kq (fun g hg e => by rw [show g = q from e, h.lq] at hg; omega)
 ·have hqn := (h.lim q (by rw [h.lq]; decide)).1
  have hk := h.kept
  exact ⟨kq.os.trans hk.os, kq.tape.trans hk.tape, kq.output.trans hk.output, Nat.le_trans hk.size kq.size, fun i hi _ => (kq.block i (Nat.lt_of_lt_of_le hi hk.size) (by omega)).trans (hk.block i hi (by simp))⟩
end

section
open Go.RowKit Dsk
set_option linter.unusedVariables false
set_option linter.unusedSimpArgs false
theorem total_mem {L : List (By × By)} {f : By × By} (h : f ∈ L) : f.2.length ≤ totalOf L := by
 unfold totalOf
 induction L with
 | nil => cases h
 | cons y r ih =>
  simp only [List.map_cons, List.sum_cons]
  rcases List.mem_cons.1 h with rfl | h
  ·omega
  ·have := ih h; omega
def Fio (w : World) (ao : Option Addr) (L : List (By × By)) : Prop := ∀ i, i < L.length → ∃ b off, ao = some ⟨b, off, none⟩ ∧ ∃ f : By × By, L[i]? = some f ∧ w.cell? ⟨b, off + i * 2, none⟩ = some (encStr f.1) ∧ ∃ bo bc, w.cell? ⟨b, off + i * 2 + 1, none⟩ = some (.slice bo f.2.length bc) ∧ Sl w bo f.2 ∧ (bo = none → f.2.length = 0 ∧ bc = 0)
end

end Go.Proofs.YteckiednnaianaaGreat
