/-
  Contracts: thing.sync, thing.change. (Written by tools/gv.py.)
-/
import Derived.Test.YtemlbmamcbmnjaaGreatDoorGup
namespace Go.Proofs.YtemlbmamcbmnjaaGreatDoor
open Go.RowKit Dsk
set_option linter.unusedVariables false
set_option linter.unusedSimpArgs false

theorem loc_refl (w : World) (v : Value) : Loc w v v := fun g hg => .inl hg
theorem loc_nil (w : World) (v : Value) : Loc w v (.slice none 0 0) := fun g hg => by simp [Value.ownBlock] at hg

set_option maxHeartbeats 800000 in
set_option maxRecDepth 100000 in
theorem thingSync_ok (b : Nat) (rv sv : Value) (t : Th) (w : World) (h : Th0 w b rv sv t) :
    Calls Tryz.prog 96 #[.pointer (some ⟨b, 0, none⟩)] w fun e w' => e = .returned (.tuple #[]) ∧ Mv w w' b rv sv t.sync := by
  have c0 := h.c0
  have c2 := h.c2
  have f0 := h.fr 0
  have hcv := run_to_str w sv _ _ h.shown
  have hQ1 := heap_setCell_same w b 0 _ _ (encStr t.shown) h.cells
  have c1 : (w.setCell ⟨b, 0, none⟩ (encStr t.shown)).cell? ⟨b, 1, none⟩ = some rv := by rw [cell_of_row _ b 1 _ _ _ hQ1]; rfl
  have f1 : (w.setCell ⟨b, 0, none⟩ (encStr t.shown)).frozen? ⟨b, 1, none⟩ = false := frozen_of_row _ b 1 _ _ hQ1
  have FIN : Hid (Mv w ((w.setCell ⟨b, 0, none⟩ (encStr t.shown)).setCell ⟨b, 1, none⟩ (.slice none 0 0)) b rv sv t.sync) := by
    have hK : Keep (· = b) w ((w.setCell ⟨b, 0, none⟩ (encStr t.shown)).setCell ⟨b, 1, none⟩ (.slice none 0 0)) := ((Keep.refl (· = b) w).setCell (p := ⟨b, 0, none⟩) (fun _ => rfl) _).setCell (p := ⟨b, 1, none⟩) (fun _ => rfl) _
    exact ⟨.slice none 0 0, sv, ⟨heap_setCell_same _ b 1 _ _ _ hQ1, World.ownsRow_nil _ _ _ _, h.shown.keep hK (fun g hg e => h.sb (by rw [hg, e]))⟩, hK.mono (fun k e _ => .inl e), loc_nil _ _, loc_refl _ _⟩
  clear h hQ1
  go_enter Tryz.func96, Tryz.ntmps96
  go_wp2
  first | refine bodyPost_end (results_none rfl _ _ _) rfl ?_ | refine bodyPost_ret (results_none rfl _ _ _) rfl ?_
  exact ⟨rfl, FIN.out⟩

/-- apply, of whichever kind. -/
def chFunc : Ch → Nat
  | .wr _ _ => 184
  | .cut _ => 177
def chVal : Ch → Value
  | .wr a d => .agg #[.int .i64 a, encStr d]
  | .cut a => .agg #[.int .i64 a]
theorem chApply_ok (c : Ch) (u n cap : Nat) (so : Option Addr) (xs : By) (w : World) (h : OwnB w (.slice so n cap) n xs) (hp : c.place ≤ n) (hu : u ≤ c.units) (hb : n + c.units ≤ 1073741824) :
    Calls Tryz.prog (chFunc c) #[chVal c, .slice so n cap, .int .i64 u] w fun e w' => ∃ v', e = .returned v' ∧ Applied w w' (.slice so n cap) v' (c.apply xs u) := by
  cases c with
  | wr a d => exact writeApply_ok a u n cap d xs so w h hp hu hb
  | cut a =>
    have hxl := h.1
    obtain ⟨_, _, e, hn, hc, _⟩ := h.shape
    injection e with _ _ e3
    subst e3
    refine (cutApply_ok a u n cap so w hp hn hc).mono fun e w' ⟨he, hk⟩ => ⟨_, he, ?_, Keep.ofNone hk, fun g hg => .inl (by cases so <;> simp_all [Value.ownBlock])⟩
    have h2 := own_cut (h.kept hk) a hp
    have hl : ((Ch.cut a).apply xs u).length = a := by simp only [Ch.apply, List.length_take]; have : a ≤ n := hp; omega
    rw [hl]
    exact h2

set_option maxHeartbeats 1600000 in
set_option maxRecDepth 100000 in
theorem thingChange_ok (c : Ch) (b : Nat) (rv sv : Value) (t : Th) (w : World) (h : Th0 w b rv sv t) (hp : c.place ≤ t.shown.length) (hb : t.shown.length + c.units + t.row.length < 1073741824) :
    Calls Tryz.prog 93 #[.pointer (some ⟨b, 0, none⟩), encCh c] w fun e w' => e = .returned (.tuple #[]) ∧ Mv w w' b rv sv (t.change c) := by
  obtain ⟨ro, rc, rfl, hrc⟩ := own_shape h.row
  obtain ⟨so, sc, rfl, hsc, hscm, hs0, hs1⟩ := h.shown.shape
  obtain ⟨g, c2, w1, hrun, ho1, hk1, hg1, hlt1⟩ := run_app (P := Tryz.prog) w 106 106 183 Tryz.underlying106 Tryz.infoBc rfl (by decide) _ t.row.length _ h.row [encCh c] rfl (by simp [encCh_one]) (by unfold maxLen; omega) (by omega)
  have hK1 := hk1 (fun k => (Value.slice ro t.row.length rc).ownBlock = some k) (fun k e => e)
  have hQ1 := hK1.heapOf h.cells h.rb
  have hgb : g ≠ b := by rcases hg1 with e | e; exact fun e2 => h.rb (by rw [← e, e2]); have := h.lt; omega
  have hS1 := h.shown.keep hK1 (fun k hk hk2 => OwnB.two h.row h.shown (by decide) k hk2 hk)
  obtain ⟨w2, hw2⟩ : ∃ w2, w2 = w1.setCell ⟨b, 1, none⟩ (.slice (some ⟨g, 0, none⟩) (t.row.length + 1) c2) := ⟨_, rfl⟩
  have hK2 : Keep (· = b) w1 w2 := by rw [hw2]; exact (Keep.refl (· = b) w1).setCell (p := ⟨b, 1, none⟩) (fun _ => rfl) _
  have hQ2 : w2.heap[b]? = some (.cells #[encStr t.safe, .slice (some ⟨g, 0, none⟩) (t.row.length + 1) c2, .slice so t.shown.length sc] 108 (0, 0)) := by rw [hw2]; exact heap_setCell_same w1 b 1 _ _ _ hQ1
  have hS2 := hS1.keep hK2 (fun k hk e => h.sb (by rw [hk, e]))
  have ho2 := own_keeps ho1 hK2 (fun k e e2 => by simp only [Value.ownBlock, Option.some.injEq] at e; exact hgb (by rw [e, e2]))
  have c1 := h.c1
  have d1 : w1.cell? ⟨b, 1, none⟩ = some (.slice ro t.row.length rc) := by rw [cell_of_row w1 b 1 _ _ _ hQ1]; rfl
  have f1 : w1.frozen? ⟨b, 1, none⟩ = false := frozen_of_row w1 b 1 _ _ hQ1
  have d2 : w2.cell? ⟨b, 2, none⟩ = some (.slice so t.shown.length sc) := by rw [cell_of_row w2 b 2 _ _ _ hQ2]; rfl
  have hK02 : Keep (thF b (.slice ro t.row.length rc) (.slice so t.shown.length sc)) w w2 := (hK1.mono (fun k e _ => .inr (.inl e))).trans hK2 (fun k e _ => .inl e)
  have hbw2 : b < w2.heap.size := (Array.getElem?_eq_some_iff.1 hQ2).1
  -- behind the call of apply, in world v
  have AP : Hid (∀ v, Kept [] w2 v → ∀ v' w3, Applied v w3 (.slice so t.shown.length sc) v' (c.apply t.shown c.units) → w3.cell? ⟨b, 2, none⟩ = some (.slice so t.shown.length sc) ∧ w3.frozen? ⟨b, 2, none⟩ = false ∧ Mv w (w3.setCell ⟨b, 2, none⟩ v') b (.slice ro t.row.length rc) (.slice so t.shown.length sc) (t.change c)) := by
    intro v hv v' w3 ha
    have hK3 : Keep (fun k => (Value.slice so t.shown.length sc).ownBlock = some k) w2 w3 := (Keep.ofNone hv).trans ha.2.1 (fun i e _ => e)
    have hQ3 := hK3.heapOf hQ2 (fun e => h.sb e)
    have hbv : b < v.heap.size := Nat.lt_of_lt_of_le hbw2 hv.size
    have hne : ∀ k, v'.ownBlock = some k → k ≠ b := fun k hk e => by
      rcases ha.2.2 k hk with e2 | e2
      · exact h.sb (by rw [e2, e])
      · omega
    have hK4 : Keep (· = b) w3 (w3.setCell ⟨b, 2, none⟩ v') := (Keep.refl (· = b) w3).setCell (p := ⟨b, 2, none⟩) (fun _ => rfl) _
    refine ⟨by rw [cell_of_row w3 b 2 _ _ _ hQ3]; rfl, frozen_of_row w3 b 2 _ _ hQ3, .slice (some ⟨g, 0, none⟩) (t.row.length + 1) c2, v', ⟨heap_setCell_same w3 b 2 _ _ _ hQ3, ?_, ha.1.keep hK4 hne⟩, (hK02.trans hK3 (fun i e _ => .inr (.inr e))).trans hK4 (fun i e _ => .inl e), ?_, ?_⟩
    · have h3 := own_keeps (own_keeps ho2 hK3 (fun k hk e => OwnB.two ho2 hS2 (by decide) k hk e)) hK4 (fun k e e2 => by simp only [Value.ownBlock, Option.some.injEq] at e; exact hgb (by rw [e, e2]))
      have e1 : (t.change c).row.length = t.row.length + 1 := by simp [Th.change]
      have e2 : (t.change c).row.map encCh = t.row.map encCh ++ [encCh c] := by simp [Th.change]
      rw [e1, e2]
      exact h3
    · intro k e
      simp only [Value.ownBlock, Option.some.injEq] at e
      subst e
      rcases hg1 with e | e
      · exact .inl e.symm
      · exact .inr e
    · intro k e
      have := hK02.size
      have := hv.size
      rcases ha.2.2 k e with e2 | e2
      · exact .inl e2
      · exact .inr (by omega)
  have HC : Hid (∀ v, Kept [] w2 v → Calls Tryz.prog (chFunc c) #[chVal c, .slice so t.shown.length sc, .int .i64 c.units] v fun e w' => ∃ v', e = .returned v' ∧ Applied v w' (.slice so t.shown.length sc) v' (c.apply t.shown c.units)) := fun v hv =>
    chApply_ok c c.units t.shown.length sc so t.shown v (hS2.kept hv) hp (Nat.le_refl _) (by omega)
  clear hS2 ho2 hQ2 hS1 hQ1 hK1 hK2 ho1 hk1 h hg1 hgb hK02 hrc hsc hscm hs0 hs1 hlt1 hp
  cases c with
  | wr a d =>
    simp only [encCh] at hrun ⊢
    simp only [Ch.units, chFunc, chVal] at HC AP
    have hm : ∀ w : World, (method 377 205 (.agg #[.int .i64 a, encStr d]) "freight/disk.units").run Tryz.prog w = .ok (185, .agg #[.int .i64 a, encStr d]) w := fun _ => by kernel_rfl
    have hmn : ∀ w : World, (nilAhead 377 205 (.agg #[.int .i64 a, encStr d]) "freight/disk.units").run Tryz.prog w = .ok (some false) w := fun _ => by kernel_rfl
    have hp : ∀ w : World, (method 377 205 (.agg #[.int .i64 a, encStr d]) "freight/disk.apply").run Tryz.prog w = .ok (184, .agg #[.int .i64 a, encStr d]) w := fun _ => by kernel_rfl
    have hpn : ∀ w : World, (nilAhead 377 205 (.agg #[.int .i64 a, encStr d]) "freight/disk.apply").run Tryz.prog w = .ok (some false) w := fun _ => by kernel_rfl
    go_enter Tryz.func93, Tryz.ntmps93
    go_wp2_with (at_builtin; refine wpList_app_run rfl _ _ 106 106 rfl _ _ rfl rfl _ _ hrun ?_)
    rw [← hw2]
    clear hw2 hrun
    refine wp_region_late (fun w' => Kept [] w2 w') (fun i => i == 11 || i == 14) (by kernel_rfl) ?_
    have h0 : Kept [] w2 w2.drew := (Kept.refl [] w2).drew
    generalize World.drew w2 = v0 at h0 ⊢
    refine wpAnyL_free (i := 0) (v := .pointer (some ⟨b, 0, none⟩)) rfl (by kernel_rfl) (by kernel_rfl) (by kernel_rfl) (fun _ _ _ h => h) (Or.inl ⟨by rfl, fun w _ => by go_simp⟩) ?_
    try simp only [List.getElem_toArray, List.getElem_cons_zero, List.getElem_cons_succ, Act.put, List.setIfInBounds_toArray, List.set_cons_zero, List.set_cons_succ]
    refine wpAnyL_free (i := 1) (v := .iface 205 (.agg #[.int .i64 a, encStr d])) rfl (by kernel_rfl) (by kernel_rfl) (by kernel_rfl) (fun _ _ _ h => h) (Or.inl ⟨by rfl, fun w _ => by go_simp⟩) ?_
    try simp only [List.getElem_toArray, List.getElem_cons_zero, List.getElem_cons_succ, Act.put, List.setIfInBounds_toArray, List.set_cons_zero, List.set_cons_succ]
    refine wpAnyL_free (i := 2) (v := .pointer (some ⟨b, 0, none⟩)) rfl (by kernel_rfl) (by kernel_rfl) (by kernel_rfl) (fun _ _ _ h => h) (Or.inl ⟨by rfl, fun w _ => by go_simp⟩) ?_
    try simp only [List.getElem_toArray, List.getElem_cons_zero, List.getElem_cons_succ, Act.put, List.setIfInBounds_toArray, List.set_cons_zero, List.set_cons_succ]
    refine wpAnyL_free (i := 3) (v := .pointer (some ⟨b, 0, none⟩)) rfl (by kernel_rfl) (by kernel_rfl) (by kernel_rfl) (fun _ _ _ h => h) (Or.inl ⟨by rfl, fun w _ => by go_simp⟩) ?_
    try simp only [List.getElem_toArray, List.getElem_cons_zero, List.getElem_cons_succ, Act.put, List.setIfInBounds_toArray, List.set_cons_zero, List.set_cons_succ]
    refine wpAnyL_free (i := 4) (v := .pointer (some ⟨b, 2, none⟩)) rfl (by kernel_rfl) (by kernel_rfl) (by kernel_rfl) (fun _ _ _ h => h) (Or.inl ⟨by rfl, fun w _ => by go_simp⟩) ?_
    try simp only [List.getElem_toArray, List.getElem_cons_zero, List.getElem_cons_succ, Act.put, List.setIfInBounds_toArray, List.set_cons_zero, List.set_cons_succ]
    refine wpAnyL_take (i := 5) (v := .slice so t.shown.length sc) rfl (by kernel_rfl) (by kernel_rfl) (by kernel_rfl) (by kernel_rfl) (by kernel_rfl) (fun _ _ _ h => h) (Or.inl ⟨by rfl, fun w hSw => by have c := Kept.cellOf hSw d2 (by simp); go_simp⟩) h0 ?_
    try simp only [List.getElem_toArray, List.getElem_cons_zero, List.getElem_cons_succ, Act.put, List.setIfInBounds_toArray, List.set_cons_zero, List.set_cons_succ]
    refine wpAnyL_free (i := 6) (v := .iface 205 (.agg #[.int .i64 a, encStr d])) rfl (by kernel_rfl) (by kernel_rfl) (by kernel_rfl) (fun _ _ _ h => h) (Or.inl ⟨by rfl, fun w _ => by go_simp⟩) ?_
    try simp only [List.getElem_toArray, List.getElem_cons_zero, List.getElem_cons_succ, Act.put, List.setIfInBounds_toArray, List.set_cons_zero, List.set_cons_succ]
    refine wpAnyL_free (i := 8) (v := .func (Fn.method "freight/disk.apply") #[.iface 205 (.agg #[.int .i64 a, encStr d])] #[]) rfl (by kernel_rfl) (by kernel_rfl) (by kernel_rfl) (fun _ _ _ h => h) (Or.inl ⟨by rfl, fun w _ => by go_simp⟩) ?_
    try simp only [List.getElem_toArray, List.getElem_cons_zero, List.getElem_cons_succ, Act.put, List.setIfInBounds_toArray, List.set_cons_zero, List.set_cons_succ]
    refine wpAnyL_free (i := 9) (v := .func (Fn.method "freight/disk.apply") #[.iface 205 (.agg #[.int .i64 a, encStr d])] #[]) rfl (by kernel_rfl) (by kernel_rfl) (by kernel_rfl) (fun _ _ _ h => h) (Or.inl ⟨by rfl, fun w _ => by go_simp⟩) ?_
    try simp only [List.getElem_toArray, List.getElem_cons_zero, List.getElem_cons_succ, Act.put, List.setIfInBounds_toArray, List.set_cons_zero, List.set_cons_succ]
    refine wpAnyL_free (i := 10) (v := .iface 205 (.agg #[.int .i64 a, encStr d])) rfl (by kernel_rfl) (by kernel_rfl) (by kernel_rfl) (fun _ _ _ h => h) (Or.inl ⟨by rfl, fun w _ => by go_simp⟩) ?_
    try simp only [List.getElem_toArray, List.getElem_cons_zero, List.getElem_cons_succ, Act.put, List.setIfInBounds_toArray, List.set_cons_zero, List.set_cons_succ]
    refine wpAnyL_one (i := 7) (by kernel_rfl) rfl (fun K hK => ?_)
    rw [if_pos (by rfl)]
    go_simp
    refine (writeUnits_ok a d _).mono ?_
    rintro e v1 ⟨rfl, hq⟩
    have h1 : Kept [] w2 v1 := h0.trans hq (by simp)
    refine hK.out _ _ (fun _ _ => h1) ?_
    clear hK K hq h0
    try simp only [List.getElem_toArray, List.getElem_cons_zero, List.getElem_cons_succ, Act.put, List.setIfInBounds_toArray, List.set_cons_zero, List.set_cons_succ]
    refine wpAnyL_one (i := 11) (by kernel_rfl) rfl (fun K hK => ?_)
    rw [if_pos (by rfl)]
    go_simp
    refine (HC.out v1 h1).mono ?_
    rintro e w3 ⟨v', rfl, ha⟩
    obtain ⟨vo, vc, rfl, _⟩ := ha.1.shape
    obtain ⟨k2, k3, FIN⟩ := AP.out v1 h1 _ w3 ha
    refine hK.out _ _ (fun _ h => by cases h) ?_
    clear hK K ha h1 AP HC
    try simp only [List.getElem_toArray, List.getElem_cons_zero, List.getElem_cons_succ, Act.put, List.setIfInBounds_toArray, List.set_cons_zero, List.set_cons_succ]
    have HF := hide FIN
    clear FIN
    refine wpAnyL_free (i := 12) (v := .pointer (some ⟨b, 0, none⟩)) rfl (by kernel_rfl) (by kernel_rfl) (by kernel_rfl) (fun _ _ _ h => h) (Or.inl ⟨by rfl, fun w _ => by go_simp⟩) ?_
    try simp only [List.getElem_toArray, List.getElem_cons_zero, List.getElem_cons_succ, Act.put, List.setIfInBounds_toArray, List.set_cons_zero, List.set_cons_succ]
    refine wpAnyL_free (i := 13) (v := .pointer (some ⟨b, 2, none⟩)) rfl (by kernel_rfl) (by kernel_rfl) (by kernel_rfl) (fun _ _ _ h => h) (Or.inl ⟨by rfl, fun w _ => by go_simp⟩) ?_
    try simp only [List.getElem_toArray, List.getElem_cons_zero, List.getElem_cons_succ, Act.put, List.setIfInBounds_toArray, List.set_cons_zero, List.set_cons_succ]
    refine wpAnyL_one (i := 14) (by kernel_rfl) rfl (fun K hK => ?_)
    rw [if_pos (by rfl)]
    go_simp
    refine hK.out _ _ (fun _ h => by cases h) ?_
    clear hK K
    try simp only [List.getElem_toArray, List.getElem_cons_zero, List.getElem_cons_succ, Act.put, List.setIfInBounds_toArray, List.set_cons_zero, List.set_cons_succ]
    refine wpAnyL_done (by kernel_rfl) ?_ _
    first | refine bodyPost_end (results_none rfl _ _ _) rfl ?_ | refine bodyPost_ret (results_none rfl _ _ _) rfl ?_
    exact ⟨rfl, HF.out⟩
  | cut a =>
    simp only [encCh] at hrun ⊢
    simp only [Ch.units, chFunc, chVal] at HC AP
    have hm : ∀ w : World, (method 377 159 (.agg #[.int .i64 a]) "freight/disk.units").run Tryz.prog w = .ok (178, .agg #[.int .i64 a]) w := fun _ => by kernel_rfl
    have hmn : ∀ w : World, (nilAhead 377 159 (.agg #[.int .i64 a]) "freight/disk.units").run Tryz.prog w = .ok (some false) w := fun _ => by kernel_rfl
    have hp : ∀ w : World, (method 377 159 (.agg #[.int .i64 a]) "freight/disk.apply").run Tryz.prog w = .ok (177, .agg #[.int .i64 a]) w := fun _ => by kernel_rfl
    have hpn : ∀ w : World, (nilAhead 377 159 (.agg #[.int .i64 a]) "freight/disk.apply").run Tryz.prog w = .ok (some false) w := fun _ => by kernel_rfl
    go_enter Tryz.func93, Tryz.ntmps93
    go_wp2_with (at_builtin; refine wpList_app_run rfl _ _ 106 106 rfl _ _ rfl rfl _ _ hrun ?_)
    rw [← hw2]
    clear hw2 hrun
    refine wp_region_late (fun w' => Kept [] w2 w') (fun i => i == 11 || i == 14) (by kernel_rfl) ?_
    have h0 : Kept [] w2 w2.drew := (Kept.refl [] w2).drew
    generalize World.drew w2 = v0 at h0 ⊢
    refine wpAnyL_free (i := 0) (v := .pointer (some ⟨b, 0, none⟩)) rfl (by kernel_rfl) (by kernel_rfl) (by kernel_rfl) (fun _ _ _ h => h) (Or.inl ⟨by rfl, fun w _ => by go_simp⟩) ?_
    try simp only [List.getElem_toArray, List.getElem_cons_zero, List.getElem_cons_succ, Act.put, List.setIfInBounds_toArray, List.set_cons_zero, List.set_cons_succ]
    refine wpAnyL_free (i := 1) (v := .iface 159 (.agg #[.int .i64 a])) rfl (by kernel_rfl) (by kernel_rfl) (by kernel_rfl) (fun _ _ _ h => h) (Or.inl ⟨by rfl, fun w _ => by go_simp⟩) ?_
    try simp only [List.getElem_toArray, List.getElem_cons_zero, List.getElem_cons_succ, Act.put, List.setIfInBounds_toArray, List.set_cons_zero, List.set_cons_succ]
    refine wpAnyL_free (i := 2) (v := .pointer (some ⟨b, 0, none⟩)) rfl (by kernel_rfl) (by kernel_rfl) (by kernel_rfl) (fun _ _ _ h => h) (Or.inl ⟨by rfl, fun w _ => by go_simp⟩) ?_
    try simp only [List.getElem_toArray, List.getElem_cons_zero, List.getElem_cons_succ, Act.put, List.setIfInBounds_toArray, List.set_cons_zero, List.set_cons_succ]
    refine wpAnyL_free (i := 3) (v := .pointer (some ⟨b, 0, none⟩)) rfl (by kernel_rfl) (by kernel_rfl) (by kernel_rfl) (fun _ _ _ h => h) (Or.inl ⟨by rfl, fun w _ => by go_simp⟩) ?_
    try simp only [List.getElem_toArray, List.getElem_cons_zero, List.getElem_cons_succ, Act.put, List.setIfInBounds_toArray, List.set_cons_zero, List.set_cons_succ]
    refine wpAnyL_free (i := 4) (v := .pointer (some ⟨b, 2, none⟩)) rfl (by kernel_rfl) (by kernel_rfl) (by kernel_rfl) (fun _ _ _ h => h) (Or.inl ⟨by rfl, fun w _ => by go_simp⟩) ?_
    try simp only [List.getElem_toArray, List.getElem_cons_zero, List.getElem_cons_succ, Act.put, List.setIfInBounds_toArray, List.set_cons_zero, List.set_cons_succ]
    refine wpAnyL_take (i := 5) (v := .slice so t.shown.length sc) rfl (by kernel_rfl) (by kernel_rfl) (by kernel_rfl) (by kernel_rfl) (by kernel_rfl) (fun _ _ _ h => h) (Or.inl ⟨by rfl, fun w hSw => by have c := Kept.cellOf hSw d2 (by simp); go_simp⟩) h0 ?_
    try simp only [List.getElem_toArray, List.getElem_cons_zero, List.getElem_cons_succ, Act.put, List.setIfInBounds_toArray, List.set_cons_zero, List.set_cons_succ]
    refine wpAnyL_free (i := 6) (v := .iface 159 (.agg #[.int .i64 a])) rfl (by kernel_rfl) (by kernel_rfl) (by kernel_rfl) (fun _ _ _ h => h) (Or.inl ⟨by rfl, fun w _ => by go_simp⟩) ?_
    try simp only [List.getElem_toArray, List.getElem_cons_zero, List.getElem_cons_succ, Act.put, List.setIfInBounds_toArray, List.set_cons_zero, List.set_cons_succ]
    refine wpAnyL_free (i := 8) (v := .func (Fn.method "freight/disk.apply") #[.iface 159 (.agg #[.int .i64 a])] #[]) rfl (by kernel_rfl) (by kernel_rfl) (by kernel_rfl) (fun _ _ _ h => h) (Or.inl ⟨by rfl, fun w _ => by go_simp⟩) ?_
    try simp only [List.getElem_toArray, List.getElem_cons_zero, List.getElem_cons_succ, Act.put, List.setIfInBounds_toArray, List.set_cons_zero, List.set_cons_succ]
    refine wpAnyL_free (i := 9) (v := .func (Fn.method "freight/disk.apply") #[.iface 159 (.agg #[.int .i64 a])] #[]) rfl (by kernel_rfl) (by kernel_rfl) (by kernel_rfl) (fun _ _ _ h => h) (Or.inl ⟨by rfl, fun w _ => by go_simp⟩) ?_
    try simp only [List.getElem_toArray, List.getElem_cons_zero, List.getElem_cons_succ, Act.put, List.setIfInBounds_toArray, List.set_cons_zero, List.set_cons_succ]
    refine wpAnyL_free (i := 10) (v := .iface 159 (.agg #[.int .i64 a])) rfl (by kernel_rfl) (by kernel_rfl) (by kernel_rfl) (fun _ _ _ h => h) (Or.inl ⟨by rfl, fun w _ => by go_simp⟩) ?_
    try simp only [List.getElem_toArray, List.getElem_cons_zero, List.getElem_cons_succ, Act.put, List.setIfInBounds_toArray, List.set_cons_zero, List.set_cons_succ]
    refine wpAnyL_one (i := 7) (by kernel_rfl) rfl (fun K hK => ?_)
    rw [if_pos (by rfl)]
    go_simp
    refine (cutUnits_ok a _).mono ?_
    rintro e v1 ⟨rfl, hq⟩
    have h1 : Kept [] w2 v1 := h0.trans hq (by simp)
    refine hK.out _ _ (fun _ _ => h1) ?_
    clear hK K hq h0
    try simp only [List.getElem_toArray, List.getElem_cons_zero, List.getElem_cons_succ, Act.put, List.setIfInBounds_toArray, List.set_cons_zero, List.set_cons_succ]
    refine wpAnyL_one (i := 11) (by kernel_rfl) rfl (fun K hK => ?_)
    rw [if_pos (by rfl)]
    go_simp
    refine (HC.out v1 h1).mono ?_
    rintro e w3 ⟨v', rfl, ha⟩
    obtain ⟨vo, vc, rfl, _⟩ := ha.1.shape
    obtain ⟨k2, k3, FIN⟩ := AP.out v1 h1 _ w3 ha
    refine hK.out _ _ (fun _ h => by cases h) ?_
    clear hK K ha h1 AP HC
    try simp only [List.getElem_toArray, List.getElem_cons_zero, List.getElem_cons_succ, Act.put, List.setIfInBounds_toArray, List.set_cons_zero, List.set_cons_succ]
    have HF := hide FIN
    clear FIN
    refine wpAnyL_free (i := 12) (v := .pointer (some ⟨b, 0, none⟩)) rfl (by kernel_rfl) (by kernel_rfl) (by kernel_rfl) (fun _ _ _ h => h) (Or.inl ⟨by rfl, fun w _ => by go_simp⟩) ?_
    try simp only [List.getElem_toArray, List.getElem_cons_zero, List.getElem_cons_succ, Act.put, List.setIfInBounds_toArray, List.set_cons_zero, List.set_cons_succ]
    refine wpAnyL_free (i := 13) (v := .pointer (some ⟨b, 2, none⟩)) rfl (by kernel_rfl) (by kernel_rfl) (by kernel_rfl) (fun _ _ _ h => h) (Or.inl ⟨by rfl, fun w _ => by go_simp⟩) ?_
    try simp only [List.getElem_toArray, List.getElem_cons_zero, List.getElem_cons_succ, Act.put, List.setIfInBounds_toArray, List.set_cons_zero, List.set_cons_succ]
    refine wpAnyL_one (i := 14) (by kernel_rfl) rfl (fun K hK => ?_)
    rw [if_pos (by rfl)]
    go_simp
    refine hK.out _ _ (fun _ h => by cases h) ?_
    clear hK K
    try simp only [List.getElem_toArray, List.getElem_cons_zero, List.getElem_cons_succ, Act.put, List.setIfInBounds_toArray, List.set_cons_zero, List.set_cons_succ]
    refine wpAnyL_done (by kernel_rfl) ?_ _
    first | refine bodyPost_end (results_none rfl _ _ _) rfl ?_ | refine bodyPost_ret (results_none rfl _ _ _) rfl ?_
    exact ⟨rfl, HF.out⟩
end Go.Proofs.YtemlbmamcbmnjaaGreatDoor
