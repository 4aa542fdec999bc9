/-
  Contracts of freightref5: SyncNames, Plan, Look, Size, New.
-/
import Derived.Test.YtmoaaimjgdbelaaGreatRenp
import Derived.Test.YtmoaaimjgdbelaaGreatHmp
namespace Go.Proofs.YtmoaaimjgdbelaaGreat
open Go.RowKit Dsk
set_option linter.unusedVariables false
set_option linter.unusedSimpArgs false
section
variable {w : World} {q : Nat} {S : Ds} {A : Nat → Nat} {o : Lab} {nv bv tv sv : Value}

theorem q_mine (h : o q = 1) {a b : World} (hk : Keep (· = q) a b) : Keep o.mine a b := hk.mono (fun i e _ => by show o i ≠ 0; rw [show i = q from e, h]; decide)

set_option maxHeartbeats 1600000 in
set_option maxRecDepth 100000 in
theorem rsyncNames_ok (h : RDx w q S A o nv bv tv sv) (hwf : S.Wf) {N : Nat} (hB : S.Bd N) (hN : N ≤ 268435456) :
    Calls Tryz.prog 69 #[.pointer (some ⟨q, 0, none⟩)] w fun e w' => e = .returned (.int .i64 (S.syncNames).1) ∧ RAft w w' q (S.syncNames).2 o := by
  have hoff := roff_ok h
  have hst := rstroke_ok h (by have := hB.strokes; omega) (by have := hB.planned; omega)
  have hlq := h.lq
  cases hon : S.on with
  | false =>
    have HC : Hid (S.syncNames = (50, S)) := hide (by simp [Ds.syncNames, hon])
    have HA := hide (RAft.of ⟨hwf, _, _, _, _, h⟩ (Keep.refl _ w))
    rw [hon] at hoff
    clear h hB hst hon hlq
    go_enter Tryz.func69, Tryz.ntmps69
    go_wp2_with (go_at_call 45; refine hoff.mono ?_; rintro e w' ⟨rfl, hw⟩; obtain rfl := hw.symm; clear hoff)
    go_ret
    exact ⟨by rw [HC.out]; rfl, by rw [HC.out]; exact HA.out⟩
  | true =>
    rw [hon] at hoff
    cases hgo : S.goesOff with
    | true =>
      have HC : Hid (S.syncNames = (50, S.tick)) := hide (by simp [Ds.syncNames, hon, hgo])
      have HFIN : Hid (∀ v w2 a1 a2 a3 a4, Keep (· = q) w w2 → RDx v q { (Ds.cnt S) with on := (Ds.cnt S).on && !true } A o a1 a2 a3 a4 → Keep (· = q) w2 v → RAft w v q S.tick o) := hide (fun v w2 a1 a2 a3 a4 h1 h2 h3 => tick_fin hwf hlq h1 (by rw [hgo]; exact h2) h3)
      rw [hgo] at hst
      clear h hB hlq hgo hon
      go_enter Tryz.func69, Tryz.ntmps69
      go_wp2_with (first
        | (go_at_call 45; refine hoff.mono ?_; rintro e w' ⟨rfl, hw⟩; obtain rfl := hw.symm; clear hoff)
        | (go_at_call 89; refine hst.mono ?_; rintro e w2 ⟨rfl, hR2, hK2⟩; have hen := fun b x => rend_ok hR2 b x; have HK2 := hide hK2; clear hst hR2 hK2)
        | (go_at_call 90; refine (hen _ _).mono ?_; rintro e w8 ⟨rfl, hR8, hK8⟩; have H8 := hide (HFIN.out w8 _ _ _ _ _ HK2.out hR8 hK8); clear hR8 hK8 hen))
      go_ret
      exact ⟨by rw [HC.out]; rfl, by rw [HC.out]; exact H8.out⟩
    | false =>
      have hsn : S.syncNames = (0, { S.tick with safe := S.shown, row := [] }) := by simp [Ds.syncNames, hon, hgo]
      have hwfE : ({ S.tick with safe := S.shown, row := [] } : Ds).Wf := by have := hwf.syncNames; rw [hsn] at this; exact this
      have HC := hide hsn
      have HLV : Hid (∀ k, k ∈ S.shown.ids → k ∈ S.lives) := hide (fun k hk => by obtain ⟨n, hn⟩ := Nm.mem_ids.1 hk; exact Ds.shown_lives hwf hn)
      obtain ⟨no, nc, hnv⟩ := h.nvs
      obtain ⟨m, hm⟩ : ∃ m, S.shown.length = m := ⟨_, rfl⟩
      rw [hm] at hnv
      subst hnv
      have HST : Hid (∀ w2, RDx w2 q (Ds.cnt S) A o (.slice no m nc) bv tv sv → RDx ((w2.setCell ⟨q, 3, none⟩ (.slice no m nc)).setCell ⟨q, 4, none⟩ (.slice none 0 0)) q { Ds.cnt S with safe := S.shown, row := [] } A o (.slice no m nc) (.slice no m nc) (.slice none 0 0) sv ∧ Keep (· = q) w2 ((w2.setCell ⟨q, 3, none⟩ (.slice no m nc)).setCell ⟨q, 4, none⟩ (.slice none 0 0)) ∧ w2.cell? ⟨q, 2, none⟩ = some (.slice no m nc) ∧ w2.cell? ⟨q, 3, none⟩ = some bv ∧ w2.cell? ⟨q, 4, none⟩ = some tv ∧ w2.frozen? ⟨q, 3, none⟩ = false ∧ w2.frozen? ⟨q, 4, none⟩ = false) := hide (fun w2 h2 => by
        have hk : Keep (· = q) w2 ((w2.setCell ⟨q, 3, none⟩ (.slice no m nc)).setCell ⟨q, 4, none⟩ (.slice none 0 0)) := ((Keep.refl (· = q) w2).setCell (p := ⟨q, 3, none⟩) (fun _ => rfl) _).setCell (p := ⟨q, 4, none⟩) (fun _ => rfl) _
        refine ⟨RDx.put (S' := { Ds.cnt S with safe := S.shown, row := [] }) h2 hk ?_ h2.now h2.now (World.ownsRow_nil _ _ _ _) h2.told (fun k hk' => h2.th k (HLV.out k (by simpa [Ds.lives, madeN] using hk'))) h2.ln h2.ln (by simp [Value.ownBlock]) h2.ls h2.pl, hk, h2.cell 2 _ rfl, h2.cell 3 _ rfl, h2.cell 4 _ rfl, frozen_of_row _ _ _ _ _ h2.cells, frozen_of_row _ _ _ _ _ h2.cells⟩
        rw [heap_setCell_same _ q 4 _ _ _ (heap_setCell_same _ q 3 _ _ _ h2.cells)]
        simp)
      have HFIN : Hid (∀ v w2 w3 a1 a2 a3 a4, Keep (· = q) w w2 → Keep (· = q) w2 w3 → RDx v q { ({ Ds.cnt S with safe := S.shown, row := [] } : Ds) with on := (Ds.cnt S).on && !false } A o a1 a2 a3 a4 → Keep (· = q) w3 v → RAft w v q { S.tick with safe := S.shown, row := [] } o) := hide (fun v w2 w3 a1 a2 a3 a4 k1 k2 hv k3 => by
        refine ⟨A, o, ⟨hwfE, a1, a2, a3, a4, ?_⟩, fun _ _ h => h, q_mine hlq ((k1.trans k2 (fun _ h _ => h)).trans k3 (fun _ h _ => h))⟩
        have e : ({ ({ Ds.cnt S with safe := S.shown, row := [] } : Ds) with on := (Ds.cnt S).on && !false } : Ds) = { S.tick with safe := S.shown, row := [] } := by
          simp only [Ds.tick, hgo]
          rfl
        rw [← e]
        exact hv)
      rw [hgo] at hst
      clear h hB hlq hgo hon hsn hm
      go_enter Tryz.func69, Tryz.ntmps69
      go_upto_region 7 with (first
        | (go_at_call 45; refine hoff.mono ?_; rintro e w' ⟨rfl, hw⟩; obtain rfl := hw.symm; clear hoff)
        | (go_at_call 89; refine hst.mono ?_; rintro e w2 ⟨rfl, hR2, hK2⟩; obtain ⟨hR3, hK3, c2, c3, c4, f3, f4⟩ := HST.out w2 hR2; have HR3 := hide hR3; have HK3 := hide hK3; have HK2 := hide hK2; clear hst hR2 hK2 hR3 hK3))
      clear c2 c3 c4 f3 f4
      have hR3 := HR3.out
      have hK3 := HK3.out
      generalize World.setCell _ _ _ = w3 at hR3 hK3 ⊢
      have hen := fun b x => rend_ok hR3 b x
      have HK4 := hide hK3
      clear hR3 hK3 HR3 HK3
      go_wp2_with (go_at_call 90; refine (hen _ _).mono ?_; rintro e w8 ⟨rfl, hR8, hK8⟩; have H8 := hide (HFIN.out w8 w2 w3 _ _ _ _ HK2.out HK4.out hR8 hK8); clear hR8 hK8 hen)
      go_ret
      exact ⟨by rw [HC.out]; rfl, by rw [HC.out]; exact H8.out⟩

set_option maxHeartbeats 1600000 in
set_option maxRecDepth 100000 in
theorem rlook_ok (h : RDx w q S A o nv bv tv sv) (hwf : S.Wf) :
    Calls Tryz.prog 104 #[.pointer (some ⟨q, 0, none⟩)] w fun e w' => e = .returned (.tuple #[]) ∧ RAft w w' q S.look o := by
  have c10 := h.cell 10 _ rfl
  have f10 : w.frozen? ⟨q, 10, none⟩ = false := frozen_of_row _ _ _ _ _ h.cells
  have hk : Keep (· = q) w (w.setCell ⟨q, 10, none⟩ (.slice none 0 0)) := (Keep.refl (· = q) w).setCell (p := ⟨q, 10, none⟩) (fun _ => rfl) _
  have HA : Hid (RAft w (w.setCell ⟨q, 10, none⟩ (.slice none 0 0)) q S.look o) := hide ⟨A, o, ⟨hwf.look, _, _, _, _, RDx.put (S' := S.look) h hk (by rw [heap_setCell_same _ q 10 _ _ _ h.cells]; simp [Ds.look]) h.now h.before h.turns (World.ownsRow_nil _ _ _ _) h.th h.ln h.lb h.lt (by simp [Value.ownBlock]) h.pl⟩, fun _ _ h => h, q_mine h.lq hk⟩
  clear h hk
  go_enter Tryz.func104, Tryz.ntmps104
  go_wp2
  first | refine bodyPost_end (results_none rfl _ _ _) rfl ?_ | refine bodyPost_ret (results_none rfl _ _ _) rfl ?_
  exact ⟨rfl, HA.out⟩

set_option maxHeartbeats 1600000 in
set_option maxRecDepth 100000 in
theorem rplan_ok (h : RDx w q S A o nv bv tv sv) (hwf : S.Wf) (a b c : Int) (hp : (Lit.int .i64 a).wf = true ∧ (Lit.int .i64 b).wf = true ∧ (Lit.int .i64 c).wf = true) :
    Calls Tryz.prog 99 #[.pointer (some ⟨q, 0, none⟩), .agg #[.int .i64 a, .int .i64 b, .int .i64 c]] w fun e w' => e = .returned (.tuple #[]) ∧ RAft w w' q (S.setPlan a b c) o := by
  obtain ⟨w1, hw1⟩ : ∃ w1, w1 = w.alloc (.cells #[.int .i64 a, .int .i64 b, .int .i64 c] 50) := ⟨_, rfl⟩
  have hk1 : Kept [] w w1 := by rw [hw1]; exact (Kept.refl [] w).alloc _
  have hb1 : w1.heap[w.heap.size]? = some (.cells #[.int .i64 a, .int .i64 b, .int .i64 c] 50 (0, 0)) := by rw [hw1]; exact (MapKept.heap_alloc w _).1
  have x0 : w1.cell? ⟨w.heap.size, 0, none⟩ = some (.int .i64 a) := by rw [cell_of_row w1 _ 0 _ _ _ hb1]; rfl
  have x1 : w1.cell? ⟨w.heap.size, 1, none⟩ = some (.int .i64 b) := by rw [cell_of_row w1 _ 1 _ _ _ hb1]; rfl
  have x2 : w1.cell? ⟨w.heap.size, 2, none⟩ = some (.int .i64 c) := by rw [cell_of_row w1 _ 2 _ _ _ hb1]; rfl
  have h1 := h.kept hk1
  have hoff := roff_ok h1
  have hlq := h.lq
  cases hon : S.on with
  | false =>
    have HC : Hid (S.setPlan a b c = S) := hide (by simp [Ds.setPlan, hon])
    have HA := hide (RAft.of ⟨hwf, _, _, _, _, h1⟩ (Keep.ofNone (F := o.mine) hk1))
    rw [hon] at hoff
    obtain ⟨X, hX⟩ : ∃ X, X = w.heap.size := ⟨_, rfl⟩
    clear h h1 hon hlq hb1 x0 x1 x2 hk1
    go_enter Tryz.func99, Tryz.ntmps99
    go_upto_region 1 with (fail)
    rw [← hw1, ← hX]
    clear hw1 hX
    go_wp2_with (go_at_call 45; refine hoff.mono ?_; rintro e w' ⟨rfl, hw⟩; obtain rfl := hw.symm; clear hoff)
    first | refine bodyPost_end (results_none rfl _ _ _) rfl ?_ | refine bodyPost_ret (results_none rfl _ _ _) rfl ?_
    exact ⟨rfl, by rw [HC.out]; exact HA.out⟩
  | true =>
    have HC : Hid (S.setPlan a b c = { S with off := a, from_ := b, to := c, planned := 0 }) := hide (by simp [Ds.setPlan, hon])
    have hwfE : ({ S with off := a, from_ := b, to := c, planned := 0 } : Ds).Wf := by have := hwf.setPlan a b c; rw [HC.out] at this; exact this
    rw [hon] at hoff
    have c6 := h1.cell 6 _ rfl
    have c7 := h1.cell 7 _ rfl
    have c8 := h1.cell 8 _ rfl
    have c9 := h1.cell 9 _ rfl
    have f6 : w1.frozen? ⟨q, 6, none⟩ = false := frozen_of_row _ _ _ _ _ h1.cells
    have f7 : w1.frozen? ⟨q, 7, none⟩ = false := frozen_of_row _ _ _ _ _ h1.cells
    have f8 : w1.frozen? ⟨q, 8, none⟩ = false := frozen_of_row _ _ _ _ _ h1.cells
    have f9 : w1.frozen? ⟨q, 9, none⟩ = false := frozen_of_row _ _ _ _ _ h1.cells
    have hk : Keep (· = q) w1 ((((w1.setCell ⟨q, 7, none⟩ (.int .i64 a)).setCell ⟨q, 8, none⟩ (.int .i64 b)).setCell ⟨q, 9, none⟩ (.int .i64 c)).setCell ⟨q, 6, none⟩ (.int .i64 0)) := ((((Keep.refl (· = q) w1).setCell (p := ⟨q, 7, none⟩) (fun _ => rfl) _).setCell (p := ⟨q, 8, none⟩) (fun _ => rfl) _).setCell (p := ⟨q, 9, none⟩) (fun _ => rfl) _).setCell (p := ⟨q, 6, none⟩) (fun _ => rfl) _
    have HA : Hid (RAft w ((((w1.setCell ⟨q, 7, none⟩ (.int .i64 a)).setCell ⟨q, 8, none⟩ (.int .i64 b)).setCell ⟨q, 9, none⟩ (.int .i64 c)).setCell ⟨q, 6, none⟩ (.int .i64 0)) q { S with off := a, from_ := b, to := c, planned := 0 } o) := hide ⟨A, o, ⟨hwfE, _, _, _, _, RDx.put (S' := { S with off := a, from_ := b, to := c, planned := 0 }) h1 hk (by
        rw [heap_setCell_same _ q 6 _ _ _ (heap_setCell_same _ q 9 _ _ _ (heap_setCell_same _ q 8 _ _ _ (heap_setCell_same _ q 7 _ _ _ h1.cells)))]
        simp) h1.now h1.before h1.turns h1.told h1.th h1.ln h1.lb h1.lt h1.ls hp⟩, fun _ _ h => h, (Keep.ofNone hk1).trans (q_mine hlq hk) (fun _ h _ => h)⟩
    obtain ⟨X, hX⟩ : ∃ X, X = w.heap.size := ⟨_, rfl⟩
    rw [← hX] at x0 x1 x2
    clear h h1 hon hlq hb1 hk1 hk
    go_enter Tryz.func99, Tryz.ntmps99
    go_upto_region 1 with (fail)
    rw [← hw1, ← hX]
    clear hw1 hX
    go_wp2_with (go_at_call 45; refine hoff.mono ?_; rintro e w' ⟨rfl, hw⟩; obtain rfl := hw.symm; clear hoff)
    first | refine bodyPost_end (results_none rfl _ _ _) rfl ?_ | refine bodyPost_ret (results_none rfl _ _ _) rfl ?_
    exact ⟨rfl, by rw [HC.out]; exact HA.out⟩

set_option maxHeartbeats 1600000 in
set_option maxRecDepth 100000 in
theorem rsize_ok (h : RDx w q S A o nv bv tv sv) (hwf : S.Wf) (hl : S.shown.length ≤ 1073741824) (n : By) (hn : n.length ≤ 4611686018427387904) :
    Calls Tryz.prog 98 #[.pointer (some ⟨q, 0, none⟩), encStr n] w fun e w' => e = .returned (.tuple #[.int .i64 (S.size n), .int .i64 (S.find n).1]) ∧ w' = w := by
  have hth := there_ok h hwf.sup hl n hn
  by_cases h0 : (S.find n).1 = 0
  · obtain ⟨i, hp, hi, hti, hlv, hon, hnx⟩ := find0 hwf h0
    have hsz : S.size n = (S.th (S.find n).2).shown.length := by simp [Ds.size, h0]
    rw [hsz, h0]
    rw [h0, hti] at hth
    generalize (S.find n).2 = k at *
    obtain ⟨mm, hm⟩ : ∃ m, S.shown.length = m := ⟨_, rfl⟩
    obtain ⟨no, nc, hnv⟩ := h.nvs
    rw [hm] at hnv hi hl
    subst hnv
    obtain ⟨gn, hgn, _, cpn⟩ := nms_cell (n := mm) (l := S.shown) (A := A) (w := w) (vo := no) (vc := nc) h.now hp
    subst hgn
    have c2 := h.cell 2 _ rfl
    obtain ⟨so0, sc0, ho0, hc0, _, _, _, ch0, _, _⟩ := h.thShape hlv
    generalize (S.th k).shown.length = z at ch0
    generalize A k = ab at ch0 cpn
    clear h hp h0 hti hsz hm hlv
    go_enter Tryz.func98, Tryz.ntmps98
    go_wp2_with (go_at_call 92; refine hth.mono ?_; rintro e w' ⟨rfl, hw⟩; obtain rfl := hw.symm; clear hth)
    go_ret2
    exact ⟨rfl, rfl⟩
  · have hsz : S.size n = 0 := by simp [Ds.size, h0]
    rw [hsz]
    generalize (S.find n).1 = E at hth h0
    generalize thereI S n = I at hth
    have e0 : (E == 0) = false := by simpa using h0
    have e1 : (E != 0) = true := by simpa using h0
    clear h h0
    go_enter Tryz.func98, Tryz.ntmps98
    go_wp2_with (go_at_call 92; refine hth.mono ?_; rintro e w' ⟨rfl, hw⟩; obtain rfl := hw.symm; clear hth)
    go_ret2
    exact ⟨rfl, rfl⟩
end

set_option maxHeartbeats 1600000 in
set_option maxRecDepth 100000 in
theorem rnewBad_ok (r : Int) (w : World) (h : roomE r = 1) : Calls Tryz.prog 28 #[.int .i64 r] w fun e w' => e = .returned (.tuple #[.pointer none, .int .i64 1]) ∧ w' = w := by
  have hr : r < 1 ∨ 1048576 < r := by unfold roomE at h; split at h; assumption; cases h
  clear h
  by_cases h1 : r < 1
  · clear hr
    go_enter Tryz.func28, Tryz.ntmps28
    go_wp2
    go_ret2
    exact ⟨rfl, rfl⟩
  · have h2 : 1048576 < r := by omega
    clear hr
    go_enter Tryz.func28, Tryz.ntmps28
    go_wp2
    go_ret2
    exact ⟨rfl, rfl⟩

set_option maxHeartbeats 1600000 in
set_option maxRecDepth 100000 in
theorem rnew_ok (r : Int) (w : World) (h : roomE r = 0) : Calls Tryz.prog 28 #[.int .i64 r] w fun e w' => ∃ q, e = .returned (.tuple #[.pointer (some ⟨q, 0, none⟩), .int .i64 0]) ∧ ∃ A o, RD w' q (Ds.fresh r.toNat) A o ∧ (∀ b, o b ≠ 0 → w.heap.size ≤ b) ∧ Kept [] w w' := by
  have hr : 1 ≤ r ∧ r ≤ 1048576 := by unfold roomE at h; split at h; cases h; omega
  obtain ⟨hr1, hr2⟩ := hr
  have h1 : ¬ r < 1 := by omega
  have h2 : ¬ 1048576 < r := by omega
  have HR : Hid ((r.toNat : Int) = r) := hide (by omega)
  have HW : Hid ((Ds.fresh r.toNat).Wf) := hide (Ds.Wf.fresh (by omega))
  clear h
  go_enter Tryz.func28, Tryz.ntmps28
  go_wp2
  go_ret2
  refine ⟨w.heap.size, rfl, fun _ => 0, fun b => if b = w.heap.size then 1 else 0, ⟨HW.out, .slice none 0 0, .slice none 0 0, .slice none 0 0, .slice none 0 0, ?_, World.ownsRow_nil _ _ _ _, World.ownsRow_nil _ _ _ _, World.ownsRow_nil _ _ _ _, World.ownsRow_nil _ _ _ _, ?_, by simp, by simp [Value.ownBlock], by simp [Value.ownBlock], by simp [Value.ownBlock], by simp [Value.ownBlock], ?_, ?_⟩, ?_, (Kept.refl [] w).alloc _⟩
  · rw [(MapKept.heap_alloc w _).1]
    simp [Ds.fresh, HR.out]
  · intro k hk
    simp [Ds.lives, Ds.fresh, Nm.ids, madeN] at hk
  · intro b hb
    by_cases e : b = w.heap.size
    · rw [e]; simp
    · simp [e] at hb
  · exact (show (Lit.int .i64 0).wf = true ∧ (Lit.int .i64 0).wf = true ∧ (Lit.int .i64 0).wf = true from ⟨by decide, by decide, by decide⟩)
  · intro b hb
    by_cases e : b = w.heap.size
    · omega
    · simp [e] at hb
end Go.Proofs.YtmoaaimjgdbelaaGreat
