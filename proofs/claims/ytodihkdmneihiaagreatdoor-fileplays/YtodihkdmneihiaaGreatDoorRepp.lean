import Derived.Test.YtodihkdmneihiaaGreatDoorRenp
import Derived.Test.YtodihkdmneihiaaGreatDoorHop
import Derived.Test.YtodihkdmneihiaaGreatDoorHkp
namespace Go.Proofs.YtodihkdmneihiaaGreatDoor
section
open Go.RowKit Dsk
set_option linter.unusedVariables false
set_option linter.unusedSimpArgs false
section
variable {w : World} {q : Nat} {S : Ds} {A : Nat → Nat} {o : Lab} {nv bv tv sv : Value}
theorem q_mine (h : o q = 1) {a b : World} (hk : Keep (· = q) a b) : Keep o.mine a b := hk.mono (fun i e _ => by show o i ≠ 0; rw [show i = q from e, h]; decide)
set_option maxHeartbeats 1600000 in
set_option maxRecDepth 100000 in
theorem rsyncNames_ok (h : RDx w q S A o nv bv tv sv) (hwf : S.Wf) {N : Nat} (hB : S.Bd N) (hN : N ≤ 268435456) :
  Calls Tryz.prog 36 #[.pointer (some ⟨q, 0, none⟩)] w fun e w' => e = .returned (.int .i64 (S.syncNames).1) ∧ RAft w w' q (S.syncNames).2 o := by
 have hoff := roff_ok h
 have hst := rstroke_ok h (by have := hB.strokes; omega) (by have := hB.planned; omega)
 have hlq := h.lq
 cases hon : S.on with
 | false =>
  have HC : Hid (S.syncNames = (50, S)) := hide (by simp [Ds.syncNames, hon])
  have HA := hide (RAft.of ⟨hwf, _, _, _, _, h⟩ (Keep.refl _ w))
  rw [hon] at hoff
  clear h hB hst hon hlq
  go_enter Tryz.func36, Tryz.ntmps36
  go_wp2_with (go_at_call 42; refine hoff.mono ?_; rintro e w' ⟨rfl, hw⟩; obtain rfl := hw.symm; clear hoff)
  go_ret
  exact ⟨by rw [HC.out]; rfl, by rw [HC.out]; exact HA.out⟩
 | true =>
  rw [hon] at hoff
  cases hgo : S.goesOff with
  | true =>
   have HC : Hid (S.syncNames = (50, S.tick)) := hide (by simp [Ds.syncNames, hon, hgo])
   have HFIN : Hid (∀ v w2 a1 a2 a3 a4, Keep (· = q) w w2 → RDx v q { (Ds.cnt S) with on := (Ds.cnt S).on && !true } A o a1 a2 a3 a4 → Keep (· = q) w2 v → RAft w v q S.tick o) := hide (fun v w2 a1 a2 a3 a4 h1 h2 h3 => tick_fin hwf hlq h1 (by rw [hgo]; exact h2) h3)
   rw [hgo] at hst
   clear h hB hlq hgo hon
   go_enter Tryz.func36, Tryz.ntmps36
   go_wp2_with (first
    | (go_at_call 42; refine hoff.mono ?_; rintro e w' ⟨rfl, hw⟩; obtain rfl := hw.symm; clear hoff)
    | (go_at_call 72; refine hst.mono ?_; rintro e w2 ⟨rfl, hR2, hK2⟩; have hen := fun b x => rend_ok hR2 b x; have HK2 := hide hK2; clear hst hR2 hK2)
    | (go_at_call 73; refine (hen _ _).mono ?_; rintro e w8 ⟨rfl, hR8, hK8⟩; have H8 := hide (HFIN.out w8 _ _ _ _ _ HK2.out hR8 hK8); clear hR8 hK8 hen))
   go_ret
   exact ⟨by rw [HC.out]; rfl, by rw [HC.out]; exact H8.out⟩
  | false =>
   have hsn : S.syncNames = (0, { S.tick with safe := S.shown, row := [] }) := by simp [Ds.syncNames, hon, hgo]
   have hwfE : ({ S.tick with safe := S.shown, row := [] } : Ds).Wf := by have := hwf.syncNames; rw [hsn] at this; exact this
   have HC := hide hsn
   have HLV : Hid (∀ k, k ∈ S.shown.ids → k ∈ S.lives) := hide (fun k hk => by obtain ⟨n, hn⟩ := Nm.mem_ids.1 hk; exact Ds.shown_lives hwf hn)
   obtain ⟨no, nc, hnv⟩ := h.nvs
   obtain ⟨m, hm⟩ : ∃ m, S.shown.length = m := ⟨_, rfl⟩
   rw [hm] at hnv
   subst hnv
   have HST : Hid (∀ w2, RDx w2 q (Ds.cnt S) A o (.slice no m nc) bv tv sv → RDx ((w2.setCell ⟨q, 3, none⟩ (.slice no m nc)).setCell ⟨q, 4, none⟩ (.slice none 0 0)) q { Ds.cnt S with safe := S.shown, row := [] } A o (.slice no m nc) (.slice no m nc) (.slice none 0 0) sv ∧ Keep (· = q) w2 ((w2.setCell ⟨q, 3, none⟩ (.slice no m nc)).setCell ⟨q, 4, none⟩ (.slice none 0 0)) ∧ w2.cell? ⟨q, 2, none⟩ = some (.slice no m nc) ∧ w2.cell? ⟨q, 3, none⟩ = some bv ∧ w2.cell? ⟨q, 4, none⟩ = some tv ∧ w2.frozen? ⟨q, 3, none⟩ = false ∧ w2.frozen? ⟨q, 4, none⟩ = false) := hide (fun w2 h2 => by
    have hk : Keep (· = q) w2 ((w2.setCell ⟨q, 3, none⟩ (.slice no m nc)).setCell ⟨q, 4, none⟩ (.slice none 0 0)) := ((Keep.refl (· = q) w2).setCell (p := ⟨q, 3, none⟩) (fun _ => rfl) _).setCell (p := ⟨q, 4, none⟩) (fun _ => rfl) _
    refine ⟨RDx.put (S' := { Ds.cnt S with safe := S.shown, row := [] }) h2 hk ?_ h2.now h2.now (World.ownsRow_nil _ _ _ _) h2.told (fun k hk' => h2.th k (HLV.out k (by simpa [Ds.lives, madeN] using hk'))) h2.ln h2.ln (by simp [Value.ownBlock]) h2.ls h2.pl, hk, h2.cell 2 _ rfl, h2.cell 3 _ rfl, h2.cell 4 _ rfl, frozen_of_row _ _ _ _ _ h2.cells, frozen_of_row _ _ _ _ _ h2.cells⟩
    rw [heap_setCell_same _ q 4 _ _ _ (heap_setCell_same _ q 3 _ _ _ h2.cells)]
    simp)
   have HFIN : Hid (∀ v w2 w3 a1 a2 a3 a4, Keep (· = q) w w2 → Keep (· = q) w2 w3 → RDx v q { ({ Ds.cnt S with safe := S.shown, row := [] } : Ds) with on := (Ds.cnt S).on && !false } A o a1 a2 a3 a4 → Keep (· = q) w3 v → RAft w v q { S.tick with safe := S.shown, row := [] } o) := hide (fun v w2 w3 a1 a2 a3 a4 k1 k2 hv k3 => by
    refine ⟨A, o, ⟨hwfE, a1, a2, a3, a4, ?_⟩, fun _ _ h => h, q_mine hlq ((k1.trans k2 (fun _ h _ => h)).trans k3 (fun _ h _ => h))⟩
    have e : ({ ({ Ds.cnt S with safe := S.shown, row := [] } : Ds) with on := (Ds.cnt S).on && !false } : Ds) = { S.tick with safe := S.shown, row := [] } := by
     simp only [Ds.tick, hgo]
     rfl
    rw [← e]
    exact hv)
   rw [hgo] at hst
   clear h hB hlq hgo hon hsn hm
   go_enter Tryz.func36, Tryz.ntmps36
   go_upto_region 7 with (first
    | (go_at_call 42; refine hoff.mono ?_; rintro e w' ⟨rfl, hw⟩; obtain rfl := hw.symm; clear hoff)
    | (go_at_call 72; refine hst.mono ?_; rintro e w2 ⟨rfl, hR2, hK2⟩; obtain ⟨hR3, hK3, c2, c3, c4, f3, f4⟩ := HST.out w2 hR2; have HR3 := hide hR3; have HK3 := hide hK3; have HK2 := hide hK2; clear hst hR2 hK2 hR3 hK3))
   clear c2 c3 c4 f3 f4
   have hR3 := HR3.out
   have hK3 := HK3.out
   generalize World.setCell _ _ _ = w3 at hR3 hK3 ⊢
   have hen := fun b x => rend_ok hR3 b x
   have HK4 := hide hK3
   clear hR3 hK3 HR3 HK3
   go_wp2_with (go_at_call 73; refine (hen _ _).mono ?_; rintro e w8 ⟨rfl, hR8, hK8⟩; have H8 := hide (HFIN.out w8 w2 w3 _ _ _ _ HK2.out HK4.out hR8 hK8); clear hR8 hK8 hen)
   go_ret
   exact ⟨by rw [HC.out]; rfl, by rw [HC.out]; exact H8.out⟩
set_option maxHeartbeats 1600000 in
set_option maxRecDepth 100000 in
theorem rplan_ok (h : RDx w q S A o nv bv tv sv) (hwf : S.Wf) (a b c : Int) (hp : (Lit.int .i64 a).wf = true ∧ (Lit.int .i64 b).wf = true ∧ (Lit.int .i64 c).wf = true) :
  Calls Tryz.prog 38 #[.pointer (some ⟨q, 0, none⟩), .agg #[.int .i64 a, .int .i64 b, .int .i64 c]] w fun e w' => e = .returned (.tuple #[]) ∧ RAft w w' q (S.setPlan a b c) o := by
 obtain ⟨w1, hw1⟩ : ∃ w1, w1 = w.alloc (.cells #[.int .i64 a, .int .i64 b, .int .i64 c] 30) := ⟨_, rfl⟩
 have hk1 : Kept [] w w1 := by rw [hw1]; exact (Kept.refl [] w).alloc _
 have hb1 : w1.heap[w.heap.size]? = some (.cells #[.int .i64 a, .int .i64 b, .int .i64 c] 30 (0, 0)) := by rw [hw1]; exact (MapKept.heap_alloc w _).1
 have x0 : w1.cell? ⟨w.heap.size, 0, none⟩ = some (.int .i64 a) := by rw [cell_of_row w1 _ 0 _ _ _ hb1]; rfl
 have x1 : w1.cell? ⟨w.heap.size, 1, none⟩ = some (.int .i64 b) := by rw [cell_of_row w1 _ 1 _ _ _ hb1]; rfl
 have x2 : w1.cell? ⟨w.heap.size, 2, none⟩ = some (.int .i64 c) := by rw [cell_of_row w1 _ 2 _ _ _ hb1]; rfl
 have h1 := h.kept hk1
 have hoff := roff_ok h1
 have hlq := h.lq
 cases hon : S.on with
 | false =>
  have HC : Hid (S.setPlan a b c = S) := hide (by simp [Ds.setPlan, hon])
  have HA := hide (RAft.of ⟨hwf, _, _, _, _, h1⟩ (Keep.ofNone (F := o.mine) hk1))
  rw [hon] at hoff
  obtain ⟨X, hX⟩ : ∃ X, X = w.heap.size := ⟨_, rfl⟩
  clear h h1 hon hlq hb1 x0 x1 x2 hk1
  go_enter Tryz.func38, Tryz.ntmps38
  go_upto_region 1 with (fail)
  rw [← hw1, ← hX]
  clear hw1 hX
  go_wp2_with (go_at_call 42; refine hoff.mono ?_; rintro e w' ⟨rfl, hw⟩; obtain rfl := hw.symm; clear hoff)
  first | refine bodyPost_end (results_none rfl _ _ _) rfl ?_ | refine bodyPost_ret (results_none rfl _ _ _) rfl ?_
  exact ⟨rfl, by rw [HC.out]; exact HA.out⟩
 | true =>
  have HC : Hid (S.setPlan a b c = { S with off := a, from_ := b, to := c, planned := 0 }) := hide (by simp [Ds.setPlan, hon])
  have hwfE : ({ S with off := a, from_ := b, to := c, planned := 0 } : Ds).Wf := by have := hwf.setPlan a b c; rw [HC.out] at this; exact this
  rw [hon] at hoff
  have c6 := h1.cell 6 _ rfl
  have c7 := h1.cell 7 _ rfl
  have c8 := h1.cell 8 _ rfl
  have c9 := h1.cell 9 _ rfl
  have f6 : w1.frozen? ⟨q, 6, none⟩ = false := frozen_of_row _ _ _ _ _ h1.cells
  have f7 : w1.frozen? ⟨q, 7, none⟩ = false := frozen_of_row _ _ _ _ _ h1.cells
  have f8 : w1.frozen? ⟨q, 8, none⟩ = false := frozen_of_row _ _ _ _ _ h1.cells
  have f9 : w1.frozen? ⟨q, 9, none⟩ = false := frozen_of_row _ _ _ _ _ h1.cells
  have hk : Keep (· = q) w1 ((((w1.setCell ⟨q, 7, none⟩ (.int .i64 a)).setCell ⟨q, 8, none⟩ (.int .i64 b)).setCell ⟨q, 9, none⟩ (.int .i64 c)).setCell ⟨q, 6, none⟩ (.int .i64 0)) := ((((Keep.refl (· = q) w1).setCell (p := ⟨q, 7, none⟩) (fun _ => rfl) _).setCell (p := ⟨q, 8, none⟩) (fun _ => rfl) _).setCell (p := ⟨q, 9, none⟩) (fun _ => rfl) _).setCell (p := ⟨q, 6, none⟩) (fun _ => rfl) _
  have HA : Hid (RAft w ((((w1.setCell ⟨q, 7, none⟩ (.int .i64 a)).setCell ⟨q, 8, none⟩ (.int .i64 b)).setCell ⟨q, 9, none⟩ (.int .i64 c)).setCell ⟨q, 6, none⟩ (.int .i64 0)) q { S with off := a, from_ := b, to := c, planned := 0 } o) := hide ⟨A, o, ⟨hwfE, _, _, _, _, RDx.put (S' := { S with off := a, from_ := b, to := c, planned := 0 }) h1 hk (by
    rw [heap_setCell_same _ q 6 _ _ _ (heap_setCell_same _ q 9 _ _ _ (heap_setCell_same _ q 8 _ _ _ (heap_setCell_same _ q 7 _ _ _ h1.cells)))]
    simp) h1.now h1.before h1.turns h1.told h1.th h1.ln h1.lb h1.lt h1.ls hp⟩, fun _ _ h => h, (Keep.ofNone hk1).trans (q_mine hlq hk) (fun _ h _ => h)⟩
  obtain ⟨X, hX⟩ : ∃ X, X = w.heap.size := ⟨_, rfl⟩
  rw [← hX] at x0 x1 x2
  clear h h1 hon hlq hb1 hk1 hk
  go_enter Tryz.func38, Tryz.ntmps38
  go_upto_region 1 with (fail)
  rw [← hw1, ← hX]
  clear hw1 hX
  go_wp2_with (go_at_call 42; refine hoff.mono ?_; rintro e w' ⟨rfl, hw⟩; obtain rfl := hw.symm; clear hoff)
  first | refine bodyPost_end (results_none rfl _ _ _) rfl ?_ | refine bodyPost_ret (results_none rfl _ _ _) rfl ?_
  exact ⟨rfl, by rw [HC.out]; exact HA.out⟩
set_option maxHeartbeats 1600000 in
set_option maxRecDepth 100000 in
theorem rsize_ok (h : RDx w q S A o nv bv tv sv) (hwf : S.Wf) (hl : S.shown.length ≤ 1073741824) (n : By) (hn : n.length ≤ 4611686018427387904) :
  Calls Tryz.prog 63 #[.pointer (some ⟨q, 0, none⟩), encStr n] w fun e w' => e = .returned (.tuple #[.int .i64 (S.size n), .int .i64 (S.find n).1]) ∧ w' = w := by
 have hth := there_ok h hwf.sup hl n hn
 by_cases h0 : (S.find n).1 = 0
 ·obtain ⟨i, hp, hi, hti, hlv, hon, hnx⟩ := find0 hwf h0
  have hsz : S.size n = (S.th (S.find n).2).shown.length := by simp [Ds.size, h0]
  rw [hsz, h0]
  rw [h0, hti] at hth
  generalize (S.find n).2 = k at *
  obtain ⟨mm, hm⟩ : ∃ m, S.shown.length = m := ⟨_, rfl⟩
  obtain ⟨no, nc, hnv⟩ := h.nvs
  rw [hm] at hnv hi hl
  subst hnv
  obtain ⟨gn, hgn, _, cpn⟩ := nms_cell (n := mm) (l := S.shown) (A := A) (w := w) (vo := no) (vc := nc) h.now hp
  subst hgn
  have c2 := h.cell 2 _ rfl
  obtain ⟨so0, sc0, ho0, hc0, _, _, _, ch0, _, _⟩ := h.thShape hlv
  generalize (S.th k).shown.length = z at ch0
  generalize A k = ab at ch0 cpn
  clear h hp h0 hti hsz hm hlv
  go_enter Tryz.func63, Tryz.ntmps63
  go_wp2_with (go_at_call 76; refine hth.mono ?_; rintro e w' ⟨rfl, hw⟩; obtain rfl := hw.symm; clear hth)
  go_ret2
  exact ⟨rfl, rfl⟩
 ·have hsz : S.size n = 0 := by simp [Ds.size, h0]
  rw [hsz]
  generalize (S.find n).1 = E at hth h0
  generalize thereI S n = I at hth
  have e0 : (E == 0) = false := by simpa using h0
  have e1 : (E != 0) = true := by simpa using h0
  clear h h0
  go_enter Tryz.func63, Tryz.ntmps63
  go_wp2_with (go_at_call 76; refine hth.mono ?_; rintro e w' ⟨rfl, hw⟩; obtain rfl := hw.symm; clear hth)
  go_ret2
  exact ⟨rfl, rfl⟩
end
set_option maxHeartbeats 1600000 in
set_option maxRecDepth 100000 in
theorem rnew_ok (r : Int) (w : World) (h : roomE r = 0) : Calls Tryz.prog 11 #[.int .i64 r] w fun e w' => ∃ q, e = .returned (.tuple #[.pointer (some ⟨q, 0, none⟩), .int .i64 0]) ∧ ∃ A o, RD w' q (Ds.fresh r.toNat) A o ∧ (∀ b, o b ≠ 0 → w.heap.size ≤ b) ∧ Kept [] w w' := by
 have hr : 1 ≤ r ∧ r ≤ 1048576 := by unfold roomE at h; split at h; cases h; omega
 obtain ⟨hr1, hr2⟩ := hr
 have h1 : ¬ r < 1 := by omega
 have h2 : ¬ 1048576 < r := by omega
 have HR : Hid ((r.toNat : Int) = r) := hide (by omega)
 have HW : Hid ((Ds.fresh r.toNat).Wf) := hide (Ds.Wf.fresh (by omega))
 clear h
 go_enter Tryz.func11, Tryz.ntmps11
 go_wp2
 go_ret2
 refine ⟨w.heap.size, rfl, fun _ => 0, fun b => if b = w.heap.size then 1 else 0, ⟨HW.out, .slice none 0 0, .slice none 0 0, .slice none 0 0, .slice none 0 0, ?_, World.ownsRow_nil _ _ _ _, World.ownsRow_nil _ _ _ _, World.ownsRow_nil _ _ _ _, World.ownsRow_nil _ _ _ _, ?_, by simp, by simp [Value.ownBlock], by simp [Value.ownBlock], by simp [Value.ownBlock], by simp [Value.ownBlock], ?_, ?_⟩, ?_, (Kept.refl [] w).alloc _⟩
 ·rw [(MapKept.heap_alloc w _).1]
  simp [Ds.fresh, HR.out]
 ·intro k hk
  simp [Ds.lives, Ds.fresh, Nm.ids, madeN] at hk
 ·intro b hb
  by_cases e : b = w.heap.size
  ·rw [e]; simp
  ·simp [e] at hb
 ·exact (show (Lit.int .i64 0).wf = true ∧ (Lit.int .i64 0).wf = true ∧ (Lit.int .i64 0).wf = true from ⟨by decide, by decide, by decide⟩)
 ·intro b hb
  by_cases e : b = w.heap.size
  ·omega
  ·simp [e] at hb
end

section
open Go.RowKit Dsk
set_option linter.unusedVariables false
set_option linter.unusedSimpArgs false
set_option maxHeartbeats 1600000 in
set_option maxRecDepth 100000 in
theorem safe_ok {w : World} {p : Nat} {S : Ds} {A : Nat → Nat} {o : Lab} {N : Nat} (h : PD w p S A o) (hB : S.Bd N) (hN : N ≤ 268435456) : Calls Tryz.prog 47 #[.pointer (some ⟨p, 0, none⟩)] w fun e w' => ∃ v vs, e = .returned v ∧ Fls w' w.heap.size v S.safeFiles vs ∧ Kept [] w w' := by
 obtain ⟨ms, mh, rv, sv, h⟩ := h
 have hup : S.safe.Up := h.wf.up
 have hlen : S.safe.length ≤ N := by have := hB.nm; omega
 have hrs := rising_ok ms A S.safe w h.safe hup (by omega)
 have cm := h.c2
 have HP : Hid (∀ v, Kept [] w v → PDx v p S A o ms mh rv sv) := fun v hv => h.keep (Keep.ofNone (F := fun _ => False) hv) (fun _ _ h => h)
 have HB := hide (And.intro h.wf hB)
 have hLl : S.safeFiles.length = S.safe.length := by simp [Ds.safeFiles]
 clear h hB
 go_enter Tryz.func47, Tryz.ntmps47
 go_wp2_with (go_at_call 87; refine hrs.mono ?_; rintro e w1 ⟨nv, rfl, hrow, hbl⟩; obtain ⟨no, nc, rfl, _⟩ := own_shape hrow; have HLP := hide (Lp.mk (Fls.start w1 w.heap.size) (Kept.of_below hbl) (show w1.ownsRow 0 9 1 _ (S.safe.keys).length (S.safe.keys.map encStr) by simpa [Nm.keys] using ownsRow_base_a hrow (Nat.zero_le _))); clear hrow hbl hrs)
 generalize hLe : S.safe.length = M at *
 have HL := hide hLe
 clear cm hLe
 go_loopw [15, 3, 5] (fun i f _ wr => ∃ k : Nat, k ≤ M ∧ i = .int .i64 k ∧ Hid (∃ vs, Lp w wr w.heap.size (.slice no M nc) S.safe.keys f (S.safeFiles.take k) vs) ∧ ∃ fo fc, f = .slice fo k fc) (fun i _ _ wr => M - (intOf i).toNat)
 case atStart => exact ⟨0, by omega, rfl, hide ⟨[], by simpa using HLP.out⟩, none, 0, rfl⟩
 case round =>
  clear HLP
  obtain ⟨k, hk, rfl, HR, fo, fc, rfl⟩ := hrel
  obtain ⟨vs, hR⟩ := HR.out
  clear HR
  by_cases hlt : k < M
  ·have hlt2 : k < S.safe.length := by rw [HL.out]; exact hlt
   obtain ⟨⟨n, id⟩, hq⟩ : ∃ q, S.safe[k]? = some q := ⟨S.safe[k], List.getElem?_eq_getElem hlt2⟩
   have hmem : (n, id) ∈ S.safe := List.mem_of_getElem? hq
   have hPr := HP.out wr hR.keep
   have hget := (Nm.get_some hup).2 hmem
   have hnl : n.length ≤ 112 := isNm_len (HB.out.1.nm _ hmem)
   have hid : id < S.nx := HB.out.1.lt id (List.mem_append_left _ (Nm.mem_ids.2 ⟨n, hmem⟩))
   have hlk := hPr.safe.look n (by unfold maxLen; omega)
   rw [hget] at hlk
   have cm := hPr.c2
   obtain ⟨rv1, sv1, ht⟩ := hPr.th id hid
   obtain ⟨so, sc, rfl, hsc, _, hs0, _⟩ := ht.shown.shape
   have it := ht.th0.c0
   have hil := HB.out.2.th id hid
   have hls := HB.out.2.len HB.out.1 hid
   obtain ⟨g, hg⟩ : ∃ g, no = some ⟨g, 0, none⟩ := by
    rcases hR.names.2 with ⟨e, e2⟩ | ⟨g, cap, cur, e, _⟩
    ·have h2 : S.safe.keys.length = S.safe.length := by simp [Nm.keys]
     omega
    ·injection e with e _ _; exact ⟨g, e⟩
   subst hg
   have hcell : wr.cell? ⟨g, k, none⟩ = some (encStr n) := by
    have := hR.names.cells (g := g) rfl k (encStr n) (by simp [Nm.keys, hq])
    rwa [add0] at this
   have htk : S.safeFiles.take (k + 1) = S.safeFiles.take k ++ [(n, (S.th id).safe)] := by
    rw [List.take_add_one]
    congr 1
    simp [Ds.safeFiles, hq]
   have htl : (S.safeFiles.take k).length = k := by rw [List.length_take]; simp [Ds.safeFiles]; omega
   have HST : Hid (∀ w4 w5 u v', Kept [] wr w4 → OwnB w4 u (S.th id).safe.length (S.th id).safe → (∀ g, u.ownBlock = some g → wr.heap.size ≤ g) → w5.ownsRow 0 157 2 v' (k + 1) (fcells (S.safeFiles.take k) vs ++ [encStr n, u]) → (∀ F : Nat → Prop, (∀ j, (Value.slice fo k fc).ownBlock = some j → F j) → Keep F w4 w5) → (∀ g, v'.ownBlock = some g → (Value.slice fo k fc).ownBlock = some g ∨ w4.heap.size ≤ g) → ∃ vs', Lp w w5 w.heap.size (.slice (some ⟨g, 0, none⟩) M nc) S.safe.keys v' (S.safeFiles.take (k + 1)) vs') := fun w4 w5 u v' h1 h2 h3 h4 h5 h6 => by
    rw [htk]
    exact ⟨_, hR.step rfl h1 (f := (n, (S.th id).safe)) h2 h3 (by rw [htl]; exact h4) h5 h6⟩
   have HAP : Hid (∀ w4, Kept [] wr w4 → ∀ u : Value, u.oneCell' = true → ∃ g c w', (Builtin.append_ #[72, 72] 72 #[.slice fo k fc, .slice (some ⟨w4.heap.size, 0, none⟩) 1 1]).run Tryz.prog (w4.alloc (.cells #[encStr n, u] 157)) = .ok (.slice (some ⟨g, 0, none⟩) (k + 1) c) w' ∧ w'.ownsRow 0 157 2 (.slice (some ⟨g, 0, none⟩) (k + 1) c) (k + 1) (fcells (S.safeFiles.take k) vs ++ [encStr n, u]) ∧ (∀ F : Nat → Prop, (∀ j, (Value.slice fo k fc).ownBlock = some j → F j) → Keep F w4 w') ∧ (∀ g', (Value.slice (some ⟨g, 0, none⟩) (k + 1) c).ownBlock = some g' → (Value.slice fo k fc).ownBlock = some g' ∨ w4.heap.size ≤ g')) := fun w4 h4 u hu => by
    have hr4 := own_keeps (ownsRow_base_a hR.fls.row (Nat.zero_le _)) (Keep.ofNone (F := fun _ => False) h4) (fun _ _ h => h)
    rw [htl] at hr4
    obtain ⟨g, c, w', e1, e2, e3, e4, _⟩ := run_app (P := Tryz.prog) w4 72 72 157 Tryz.underlying72 Tryz.infoFile rfl (by decide) _ k _ hr4 [encStr n, u] rfl (fun z hz => by simp only [List.mem_cons, List.not_mem_nil, or_false] at hz; rcases hz with rfl | rfl; rfl; exact hu) (by unfold maxLen; omega) (by omega)
    refine ⟨g, c, w', e1, e2, e3, fun g' hg' => ?_⟩
    simp only [Value.ownBlock, Option.some.injEq] at hg'
    subst hg'
    rcases e4 with e | e
    ·exact .inl e.symm
    ·exact .inr e
   obtain ⟨u, w4, hcv, hu4, hk4, hb4, uc, rfl⟩ := run_of_str wr (S.th id).safe (by omega)
   obtain ⟨ga, gc, w5, hap, ho5, hK5, hl5⟩ := HAP.out w4 hk4 (.slice (some ⟨wr.heap.size, 0, none⟩) (S.th id).safe.length uc) rfl
   have H5 := hide (HST.out w4 w5 _ _ hk4 hu4 (fun g hg => by rw [hb4] at hg; injection hg with hg; omega) ho5 hK5 hl5)
   clear hu4 hb4 ho5 hK5 hl5 HST HAP
   clear hR hPr hget ht hq htk hmem htl hs0
   go_wp2_with (first
    | fail
    | (at_builtin; refine wpList_app_run rfl _ _ 72 72 rfl _ _ rfl rfl _ _ hap ?_))
   go_roundw
   case rel => exact ⟨k + 1, by omega, by go_num, H5, _, _, rfl⟩
   case measure => simp [intOf]; omega
  ·have hkM : k = M := by omega
   subst hkM
   have HE : Hid (S.safeFiles.take k = S.safeFiles) := hide (List.take_of_length_le (by omega))
   have HRR := hide hR
   clear hR
   go_wp2
   go_ret
   rw [HE.out] at HRR
   exact ⟨_, vs, rfl, HRR.out.fls, HRR.out.keep⟩
end

end Go.Proofs.YtodihkdmneihiaaGreatDoor
