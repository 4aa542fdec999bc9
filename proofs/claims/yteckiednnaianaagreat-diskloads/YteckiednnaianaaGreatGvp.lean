import Derived.Test.YteckiednnaianaaGreatGsp
import Derived.Test.YteckiednnaianaaGreatOlp
import Derived.Deep.QuietTactic
import Derived.BigQuiet
import Derived.WalkArith
import Derived.Lib.Bytealg
import Derived.Laws.Externs
import Derived.ProofKit
namespace Go.Proofs.YteckiednnaianaaGreat
section
open Go.RowKit Dsk
set_option linter.unusedVariables false
set_option linter.unusedSimpArgs false
theorem loc_refl (w : World) (v : Value) : Loc w v v := fun g hg => .inl hg
theorem loc_nil (w : World) (v : Value) : Loc w v (.slice none 0 0) := fun g hg => by simp [Value.ownBlock] at hg
set_option maxHeartbeats 800000 in
set_option maxRecDepth 100000 in
theorem thingSync_ok (b : Nat) (rv sv : Value) (t : Th) (w : World) (h : Th0 w b rv sv t) :
  Calls Tryz.prog 15 #[.pointer (some ⟨b, 0, none⟩)] w fun e w' => e = .returned (.tuple #[]) ∧ Mv w w' b rv sv t.sync := by
 have c0 := h.c0
 have c2 := h.c2
 have f0 := h.fr 0
 have hcv := run_to_str w sv _ _ h.shown
 have hQ1 := heap_setCell_same w b 0 _ _ (encStr t.shown) h.cells
 have c1 : (w.setCell ⟨b, 0, none⟩ (encStr t.shown)).cell? ⟨b, 1, none⟩ = some rv := by rw [cell_of_row _ b 1 _ _ _ hQ1]; rfl
 have f1 : (w.setCell ⟨b, 0, none⟩ (encStr t.shown)).frozen? ⟨b, 1, none⟩ = false := frozen_of_row _ b 1 _ _ hQ1
 have FIN : Hid (Mv w ((w.setCell ⟨b, 0, none⟩ (encStr t.shown)).setCell ⟨b, 1, none⟩ (.slice none 0 0)) b rv sv t.sync) := by
  have hK : Keep (· = b) w ((w.setCell ⟨b, 0, none⟩ (encStr t.shown)).setCell ⟨b, 1, none⟩ (.slice none 0 0)) := ((Keep.refl (· = b) w).setCell (p := ⟨b, 0, none⟩) (fun _ => rfl) _).setCell (p := ⟨b, 1, none⟩) (fun _ => rfl) _
  exact ⟨.slice none 0 0, sv, ⟨heap_setCell_same _ b 1 _ _ _ hQ1, World.ownsRow_nil _ _ _ _, h.shown.keep hK (fun g hg e => h.sb (by rw [hg, e]))⟩, hK.mono (fun k e _ => .inl e), loc_nil _ _, loc_refl _ _⟩
 clear h hQ1
 go_enter Tryz.func15, Tryz.ntmps15
 go_wp2
 first | refine bodyPost_end (results_none rfl _ _ _) rfl ?_ | refine bodyPost_ret (results_none rfl _ _ _) rfl ?_
 exact ⟨rfl, FIN.out⟩
def chFunc : Ch → Nat
 | .wr _ _ => 162
 | .cut _ => 160
def chVal : Ch → Value
 | .wr a d => .agg #[.int .i64 a, encStr d]
 | .cut a => .agg #[.int .i64 a]
theorem chApply_ok (c : Ch) (u n cap : Nat) (so : Option Addr) (xs : By) (w : World) (h : OwnB w (.slice so n cap) n xs) (hp : c.place ≤ n) (hu : u ≤ c.units) (hb : n + c.units ≤ 1073741824) :
  Calls Tryz.prog (chFunc c) #[chVal c, .slice so n cap, .int .i64 u] w fun e w' => ∃ v', e = .returned v' ∧ Applied w w' (.slice so n cap) v' (c.apply xs u) := by
 cases c with
 | wr a d => exact writeApply_ok a u n cap d xs so w h hp hu hb
 | cut a =>
  have hxl := h.1
  obtain ⟨_, _, e, hn, hc, _⟩ := h.shape
  injection e with _ _ e3
  subst e3
  refine (cutApply_ok a u n cap so w hp hn hc).mono fun e w' ⟨he, hk⟩ => ⟨_, he, ?_, Keep.ofNone hk, fun g hg => .inl (by cases so <;> simp_all [Value.ownBlock])⟩
  have h2 := own_cut (h.kept hk) a hp
  have hl : ((Ch.cut a).apply xs u).length = a := by simp only [Ch.apply, List.length_take]; have : a ≤ n := hp; omega
  rw [hl]
  exact h2
set_option maxHeartbeats 1600000 in
set_option maxRecDepth 100000 in
theorem thingChange_ok (c : Ch) (b : Nat) (rv sv : Value) (t : Th) (w : World) (h : Th0 w b rv sv t) (hp : c.place ≤ t.shown.length) (hb : t.shown.length + c.units + t.row.length < 1073741824) :
  Calls Tryz.prog 85 #[.pointer (some ⟨b, 0, none⟩), encCh c] w fun e w' => e = .returned (.tuple #[]) ∧ Mv w w' b rv sv (t.change c) := by
 obtain ⟨ro, rc, rfl, hrc⟩ := own_shape h.row
 obtain ⟨so, sc, rfl, hsc, hscm, hs0, hs1⟩ := h.shown.shape
 obtain ⟨g, c2, w1, hrun, ho1, hk1, hg1, hlt1⟩ := run_app (P := Tryz.prog) w 65 65 174 Tryz.underlying65 Tryz.infoBc rfl (by decide) _ t.row.length _ h.row [encCh c] rfl (by simp [encCh_one]) (by unfold maxLen; omega) (by omega)
 have hK1 := hk1 (fun k => (Value.slice ro t.row.length rc).ownBlock = some k) (fun k e => e)
 have hQ1 := hK1.heapOf h.cells h.rb
 have hgb : g ≠ b := by rcases hg1 with e | e; exact fun e2 => h.rb (by rw [← e, e2]); have := h.lt; omega
 have hS1 := h.shown.keep hK1 (fun k hk hk2 => OwnB.two h.row h.shown (by decide) k hk2 hk)
 obtain ⟨w2, hw2⟩ : ∃ w2, w2 = w1.setCell ⟨b, 1, none⟩ (.slice (some ⟨g, 0, none⟩) (t.row.length + 1) c2) := ⟨_, rfl⟩
 have hK2 : Keep (· = b) w1 w2 := by rw [hw2]; exact (Keep.refl (· = b) w1).setCell (p := ⟨b, 1, none⟩) (fun _ => rfl) _
 have hQ2 : w2.heap[b]? = some (.cells #[encStr t.safe, .slice (some ⟨g, 0, none⟩) (t.row.length + 1) c2, .slice so t.shown.length sc] 67 (0, 0)) := by rw [hw2]; exact heap_setCell_same w1 b 1 _ _ _ hQ1
 have hS2 := hS1.keep hK2 (fun k hk e => h.sb (by rw [hk, e]))
 have ho2 := own_keeps ho1 hK2 (fun k e e2 => by simp only [Value.ownBlock, Option.some.injEq] at e; exact hgb (by rw [e, e2]))
 have c1 := h.c1
 have d1 : w1.cell? ⟨b, 1, none⟩ = some (.slice ro t.row.length rc) := by rw [cell_of_row w1 b 1 _ _ _ hQ1]; rfl
 have f1 : w1.frozen? ⟨b, 1, none⟩ = false := frozen_of_row w1 b 1 _ _ hQ1
 have d2 : w2.cell? ⟨b, 2, none⟩ = some (.slice so t.shown.length sc) := by rw [cell_of_row w2 b 2 _ _ _ hQ2]; rfl
 have hK02 : Keep (thF b (.slice ro t.row.length rc) (.slice so t.shown.length sc)) w w2 := (hK1.mono (fun k e _ => .inr (.inl e))).trans hK2 (fun k e _ => .inl e)
 have hbw2 : b < w2.heap.size := (Array.getElem?_eq_some_iff.1 hQ2).1
 -- behind the call of apply, in world v
 have AP : Hid (∀ v, Kept [] w2 v → ∀ v' w3, Applied v w3 (.slice so t.shown.length sc) v' (c.apply t.shown c.units) → w3.cell? ⟨b, 2, none⟩ = some (.slice so t.shown.length sc) ∧ w3.frozen? ⟨b, 2, none⟩ = false ∧ Mv w (w3.setCell ⟨b, 2, none⟩ v') b (.slice ro t.row.length rc) (.slice so t.shown.length sc) (t.change c)) := by
  intro v hv v' w3 ha
  have hK3 : Keep (fun k => (Value.slice so t.shown.length sc).ownBlock = some k) w2 w3 := (Keep.ofNone hv).trans ha.2.1 (fun i e _ => e)
  have hQ3 := hK3.heapOf hQ2 (fun e => h.sb e)
  have hbv : b < v.heap.size := Nat.lt_of_lt_of_le hbw2 hv.size
  have hne : ∀ k, v'.ownBlock = some k → k ≠ b := fun k hk e => by
   rcases ha.2.2 k hk with e2 | e2
   ·exact h.sb (by rw [e2, e])
   ·omega
  have hK4 : Keep (· = b) w3 (w3.setCell ⟨b, 2, none⟩ v') := (Keep.refl (· = b) w3).setCell (p := ⟨b, 2, none⟩) (fun _ => rfl) _
  refine ⟨by rw [cell_of_row w3 b 2 _ _ _ hQ3]; rfl, frozen_of_row w3 b 2 _ _ hQ3, .slice (some ⟨g, 0, none⟩) (t.row.length + 1) c2, v', ⟨heap_setCell_same w3 b 2 _ _ _ hQ3, ?_, ha.1.keep hK4 hne⟩, (hK02.trans hK3 (fun i e _ => .inr (.inr e))).trans hK4 (fun i e _ => .inl e), ?_, ?_⟩
  ·have h3 := own_keeps (own_keeps ho2 hK3 (fun k hk e => OwnB.two ho2 hS2 (by decide) k hk e)) hK4 (fun k e e2 => by simp only [Value.ownBlock, Option.some.injEq] at e; exact hgb (by rw [e, e2]))
   have e1 : (t.change c).row.length = t.row.length + 1 := by simp [Th.change]
   have e2 : (t.change c).row.map encCh = t.row.map encCh ++ [encCh c] := by simp [Th.change]
   rw [e1, e2]
   exact h3
  ·intro k e
   simp only [Value.ownBlock, Option.some.injEq] at e
   subst e
   rcases hg1 with e | e
   ·exact .inl e.symm
   ·exact .inr e
  ·intro k e
   have := hK02.size
   have := hv.size
   rcases ha.2.2 k e with e2 | e2
   ·exact .inl e2
   ·exact .inr (by omega)
 have HC : Hid (∀ v, Kept [] w2 v → Calls Tryz.prog (chFunc c) #[chVal c, .slice so t.shown.length sc, .int .i64 c.units] v fun e w' => ∃ v', e = .returned v' ∧ Applied v w' (.slice so t.shown.length sc) v' (c.apply t.shown c.units)) := fun v hv =>
  chApply_ok c c.units t.shown.length sc so t.shown v (hS2.kept hv) hp (Nat.le_refl _) (by omega)
 clear hS2 ho2 hQ2 hS1 hQ1 hK1 hK2 ho1 hk1 h hg1 hgb hK02 hrc hsc hscm hs0 hs1 hlt1 hp
 cases c with
 | wr a d =>
  simp only [encCh] at hrun ⊢
  simp only [Ch.units, chFunc, chVal] at HC AP
  have hm : ∀ w : World, (method 326 167 (.agg #[.int .i64 a, encStr d]) "freight/disk.units").run Tryz.prog w = .ok (163, .agg #[.int .i64 a, encStr d]) w := fun _ => by kernel_rfl
  have hmn : ∀ w : World, (nilAhead 326 167 (.agg #[.int .i64 a, encStr d]) "freight/disk.units").run Tryz.prog w = .ok (some false) w := fun _ => by kernel_rfl
  have hp : ∀ w : World, (method 326 167 (.agg #[.int .i64 a, encStr d]) "freight/disk.apply").run Tryz.prog w = .ok (162, .agg #[.int .i64 a, encStr d]) w := fun _ => by kernel_rfl
  have hpn : ∀ w : World, (nilAhead 326 167 (.agg #[.int .i64 a, encStr d]) "freight/disk.apply").run Tryz.prog w = .ok (some false) w := fun _ => by kernel_rfl
  go_enter Tryz.func85, Tryz.ntmps85
  go_wp2_with (at_builtin; refine wpList_app_run rfl _ _ 65 65 rfl _ _ rfl rfl _ _ hrun ?_)
  rw [← hw2]
  clear hw2 hrun
  refine wp_region_late (fun w' => Kept [] w2 w') (fun i => i == 11 || i == 14) (by kernel_rfl) ?_
  have h0 : Kept [] w2 w2.drew := (Kept.refl [] w2).drew
  generalize World.drew w2 = v0 at h0 ⊢
  refine wpAnyL_free (i := 0) (v := .pointer (some ⟨b, 0, none⟩)) rfl (by kernel_rfl) (by kernel_rfl) (by kernel_rfl) (fun _ _ _ h => h) (Or.inl ⟨by rfl, fun w _ => by go_simp⟩) ?_
  try simp only [z1, z2, z3, z4, z5, z6, z7, z8]
  refine wpAnyL_free (i := 1) (v := .iface 167 (.agg #[.int .i64 a, encStr d])) rfl (by kernel_rfl) (by kernel_rfl) (by kernel_rfl) (fun _ _ _ h => h) (Or.inl ⟨by rfl, fun w _ => by go_simp⟩) ?_
  try simp only [z1, z2, z3, z4, z5, z6, z7, z8]
  refine wpAnyL_free (i := 2) (v := .pointer (some ⟨b, 0, none⟩)) rfl (by kernel_rfl) (by kernel_rfl) (by kernel_rfl) (fun _ _ _ h => h) (Or.inl ⟨by rfl, fun w _ => by go_simp⟩) ?_
  try simp only [z1, z2, z3, z4, z5, z6, z7, z8]
  refine wpAnyL_free (i := 3) (v := .pointer (some ⟨b, 0, none⟩)) rfl (by kernel_rfl) (by kernel_rfl) (by kernel_rfl) (fun _ _ _ h => h) (Or.inl ⟨by rfl, fun w _ => by go_simp⟩) ?_
  try simp only [z1, z2, z3, z4, z5, z6, z7, z8]
  refine wpAnyL_free (i := 4) (v := .pointer (some ⟨b, 2, none⟩)) rfl (by kernel_rfl) (by kernel_rfl) (by kernel_rfl) (fun _ _ _ h => h) (Or.inl ⟨by rfl, fun w _ => by go_simp⟩) ?_
  try simp only [z1, z2, z3, z4, z5, z6, z7, z8]
  refine wpAnyL_take (i := 5) (v := .slice so t.shown.length sc) rfl (by kernel_rfl) (by kernel_rfl) (by kernel_rfl) (by kernel_rfl) (by kernel_rfl) (fun _ _ _ h => h) (Or.inl ⟨by rfl, fun w hSw => by have c := Kept.cellOf hSw d2 (by simp); go_simp⟩) h0 ?_
  try simp only [z1, z2, z3, z4, z5, z6, z7, z8]
  refine wpAnyL_free (i := 6) (v := .iface 167 (.agg #[.int .i64 a, encStr d])) rfl (by kernel_rfl) (by kernel_rfl) (by kernel_rfl) (fun _ _ _ h => h) (Or.inl ⟨by rfl, fun w _ => by go_simp⟩) ?_
  try simp only [z1, z2, z3, z4, z5, z6, z7, z8]
  refine wpAnyL_free (i := 8) (v := .func (Fn.method "freight/disk.apply") #[.iface 167 (.agg #[.int .i64 a, encStr d])] #[]) rfl (by kernel_rfl) (by kernel_rfl) (by kernel_rfl) (fun _ _ _ h => h) (Or.inl ⟨by rfl, fun w _ => by go_simp⟩) ?_
  try simp only [z1, z2, z3, z4, z5, z6, z7, z8]
  refine wpAnyL_free (i := 9) (v := .func (Fn.method "freight/disk.apply") #[.iface 167 (.agg #[.int .i64 a, encStr d])] #[]) rfl (by kernel_rfl) (by kernel_rfl) (by kernel_rfl) (fun _ _ _ h => h) (Or.inl ⟨by rfl, fun w _ => by go_simp⟩) ?_
  try simp only [z1, z2, z3, z4, z5, z6, z7, z8]
  refine wpAnyL_free (i := 10) (v := .iface 167 (.agg #[.int .i64 a, encStr d])) rfl (by kernel_rfl) (by kernel_rfl) (by kernel_rfl) (fun _ _ _ h => h) (Or.inl ⟨by rfl, fun w _ => by go_simp⟩) ?_
  try simp only [z1, z2, z3, z4, z5, z6, z7, z8]
  refine wpAnyL_one (i := 7) (by kernel_rfl) rfl (fun K hK => ?_)
  rw [if_pos (by rfl)]
  go_simp
  refine (writeUnits_ok a d _).mono ?_
  rintro e v1 ⟨rfl, hq⟩
  have h1 : Kept [] w2 v1 := h0.trans hq (by simp)
  refine hK.out _ _ (fun _ _ => h1) ?_
  clear hK K hq h0
  try simp only [z1, z2, z3, z4, z5, z6, z7, z8]
  refine wpAnyL_one (i := 11) (by kernel_rfl) rfl (fun K hK => ?_)
  rw [if_pos (by rfl)]
  go_simp
  refine (HC.out v1 h1).mono ?_
  rintro e w3 ⟨v', rfl, ha⟩
  obtain ⟨vo, vc, rfl, _⟩ := ha.1.shape
  obtain ⟨k2, k3, FIN⟩ := AP.out v1 h1 _ w3 ha
  refine hK.out _ _ (fun _ h => by cases h) ?_
  clear hK K ha h1 AP HC
  try simp only [z1, z2, z3, z4, z5, z6, z7, z8]
  have HF := hide FIN
  clear FIN
  refine wpAnyL_free (i := 12) (v := .pointer (some ⟨b, 0, none⟩)) rfl (by kernel_rfl) (by kernel_rfl) (by kernel_rfl) (fun _ _ _ h => h) (Or.inl ⟨by rfl, fun w _ => by go_simp⟩) ?_
  try simp only [z1, z2, z3, z4, z5, z6, z7, z8]
  refine wpAnyL_free (i := 13) (v := .pointer (some ⟨b, 2, none⟩)) rfl (by kernel_rfl) (by kernel_rfl) (by kernel_rfl) (fun _ _ _ h => h) (Or.inl ⟨by rfl, fun w _ => by go_simp⟩) ?_
  try simp only [z1, z2, z3, z4, z5, z6, z7, z8]
  refine wpAnyL_one (i := 14) (by kernel_rfl) rfl (fun K hK => ?_)
  rw [if_pos (by rfl)]
  go_simp
  refine hK.out _ _ (fun _ h => by cases h) ?_
  clear hK K
  try simp only [z1, z2, z3, z4, z5, z6, z7, z8]
  refine wpAnyL_done (by kernel_rfl) ?_ _
  first | refine bodyPost_end (results_none rfl _ _ _) rfl ?_ | refine bodyPost_ret (results_none rfl _ _ _) rfl ?_
  exact ⟨rfl, HF.out⟩
 | cut a =>
  simp only [encCh] at hrun ⊢
  simp only [Ch.units, chFunc, chVal] at HC AP
  have hm : ∀ w : World, (method 326 148 (.agg #[.int .i64 a]) "freight/disk.units").run Tryz.prog w = .ok (161, .agg #[.int .i64 a]) w := fun _ => by kernel_rfl
  have hmn : ∀ w : World, (nilAhead 326 148 (.agg #[.int .i64 a]) "freight/disk.units").run Tryz.prog w = .ok (some false) w := fun _ => by kernel_rfl
  have hp : ∀ w : World, (method 326 148 (.agg #[.int .i64 a]) "freight/disk.apply").run Tryz.prog w = .ok (160, .agg #[.int .i64 a]) w := fun _ => by kernel_rfl
  have hpn : ∀ w : World, (nilAhead 326 148 (.agg #[.int .i64 a]) "freight/disk.apply").run Tryz.prog w = .ok (some false) w := fun _ => by kernel_rfl
  go_enter Tryz.func85, Tryz.ntmps85
  go_wp2_with (at_builtin; refine wpList_app_run rfl _ _ 65 65 rfl _ _ rfl rfl _ _ hrun ?_)
  rw [← hw2]
  clear hw2 hrun
  refine wp_region_late (fun w' => Kept [] w2 w') (fun i => i == 11 || i == 14) (by kernel_rfl) ?_
  have h0 : Kept [] w2 w2.drew := (Kept.refl [] w2).drew
  generalize World.drew w2 = v0 at h0 ⊢
  refine wpAnyL_free (i := 0) (v := .pointer (some ⟨b, 0, none⟩)) rfl (by kernel_rfl) (by kernel_rfl) (by kernel_rfl) (fun _ _ _ h => h) (Or.inl ⟨by rfl, fun w _ => by go_simp⟩) ?_
  try simp only [z1, z2, z3, z4, z5, z6, z7, z8]
  refine wpAnyL_free (i := 1) (v := .iface 148 (.agg #[.int .i64 a])) rfl (by kernel_rfl) (by kernel_rfl) (by kernel_rfl) (fun _ _ _ h => h) (Or.inl ⟨by rfl, fun w _ => by go_simp⟩) ?_
  try simp only [z1, z2, z3, z4, z5, z6, z7, z8]
  refine wpAnyL_free (i := 2) (v := .pointer (some ⟨b, 0, none⟩)) rfl (by kernel_rfl) (by kernel_rfl) (by kernel_rfl) (fun _ _ _ h => h) (Or.inl ⟨by rfl, fun w _ => by go_simp⟩) ?_
  try simp only [z1, z2, z3, z4, z5, z6, z7, z8]
  refine wpAnyL_free (i := 3) (v := .pointer (some ⟨b, 0, none⟩)) rfl (by kernel_rfl) (by kernel_rfl) (by kernel_rfl) (fun _ _ _ h => h) (Or.inl ⟨by rfl, fun w _ => by go_simp⟩) ?_
  try simp only [z1, z2, z3, z4, z5, z6, z7, z8]
  refine wpAnyL_free (i := 4) (v := .pointer (some ⟨b, 2, none⟩)) rfl (by kernel_rfl) (by kernel_rfl) (by kernel_rfl) (fun _ _ _ h => h) (Or.inl ⟨by rfl, fun w _ => by go_simp⟩) ?_
  try simp only [z1, z2, z3, z4, z5, z6, z7, z8]
  refine wpAnyL_take (i := 5) (v := .slice so t.shown.length sc) rfl (by kernel_rfl) (by kernel_rfl) (by kernel_rfl) (by kernel_rfl) (by kernel_rfl) (fun _ _ _ h => h) (Or.inl ⟨by rfl, fun w hSw => by have c := Kept.cellOf hSw d2 (by simp); go_simp⟩) h0 ?_
  try simp only [z1, z2, z3, z4, z5, z6, z7, z8]
  refine wpAnyL_free (i := 6) (v := .iface 148 (.agg #[.int .i64 a])) rfl (by kernel_rfl) (by kernel_rfl) (by kernel_rfl) (fun _ _ _ h => h) (Or.inl ⟨by rfl, fun w _ => by go_simp⟩) ?_
  try simp only [z1, z2, z3, z4, z5, z6, z7, z8]
  refine wpAnyL_free (i := 8) (v := .func (Fn.method "freight/disk.apply") #[.iface 148 (.agg #[.int .i64 a])] #[]) rfl (by kernel_rfl) (by kernel_rfl) (by kernel_rfl) (fun _ _ _ h => h) (Or.inl ⟨by rfl, fun w _ => by go_simp⟩) ?_
  try simp only [z1, z2, z3, z4, z5, z6, z7, z8]
  refine wpAnyL_free (i := 9) (v := .func (Fn.method "freight/disk.apply") #[.iface 148 (.agg #[.int .i64 a])] #[]) rfl (by kernel_rfl) (by kernel_rfl) (by kernel_rfl) (fun _ _ _ h => h) (Or.inl ⟨by rfl, fun w _ => by go_simp⟩) ?_
  try simp only [z1, z2, z3, z4, z5, z6, z7, z8]
  refine wpAnyL_free (i := 10) (v := .iface 148 (.agg #[.int .i64 a])) rfl (by kernel_rfl) (by kernel_rfl) (by kernel_rfl) (fun _ _ _ h => h) (Or.inl ⟨by rfl, fun w _ => by go_simp⟩) ?_
  try simp only [z1, z2, z3, z4, z5, z6, z7, z8]
  refine wpAnyL_one (i := 7) (by kernel_rfl) rfl (fun K hK => ?_)
  rw [if_pos (by rfl)]
  go_simp
  refine (cutUnits_ok a _).mono ?_
  rintro e v1 ⟨rfl, hq⟩
  have h1 : Kept [] w2 v1 := h0.trans hq (by simp)
  refine hK.out _ _ (fun _ _ => h1) ?_
  clear hK K hq h0
  try simp only [z1, z2, z3, z4, z5, z6, z7, z8]
  refine wpAnyL_one (i := 11) (by kernel_rfl) rfl (fun K hK => ?_)
  rw [if_pos (by rfl)]
  go_simp
  refine (HC.out v1 h1).mono ?_
  rintro e w3 ⟨v', rfl, ha⟩
  obtain ⟨vo, vc, rfl, _⟩ := ha.1.shape
  obtain ⟨k2, k3, FIN⟩ := AP.out v1 h1 _ w3 ha
  refine hK.out _ _ (fun _ h => by cases h) ?_
  clear hK K ha h1 AP HC
  try simp only [z1, z2, z3, z4, z5, z6, z7, z8]
  have HF := hide FIN
  clear FIN
  refine wpAnyL_free (i := 12) (v := .pointer (some ⟨b, 0, none⟩)) rfl (by kernel_rfl) (by kernel_rfl) (by kernel_rfl) (fun _ _ _ h => h) (Or.inl ⟨by rfl, fun w _ => by go_simp⟩) ?_
  try simp only [z1, z2, z3, z4, z5, z6, z7, z8]
  refine wpAnyL_free (i := 13) (v := .pointer (some ⟨b, 2, none⟩)) rfl (by kernel_rfl) (by kernel_rfl) (by kernel_rfl) (fun _ _ _ h => h) (Or.inl ⟨by rfl, fun w _ => by go_simp⟩) ?_
  try simp only [z1, z2, z3, z4, z5, z6, z7, z8]
  refine wpAnyL_one (i := 14) (by kernel_rfl) rfl (fun K hK => ?_)
  rw [if_pos (by rfl)]
  go_simp
  refine hK.out _ _ (fun _ h => by cases h) ?_
  clear hK K
  try simp only [z1, z2, z3, z4, z5, z6, z7, z8]
  refine wpAnyL_done (by kernel_rfl) ?_ _
  first | refine bodyPost_end (results_none rfl _ _ _) rfl ?_ | refine bodyPost_ret (results_none rfl _ _ _) rfl ?_
  exact ⟨rfl, HF.out⟩
end

section
open Go.RowKit Dsk
set_option linter.unusedVariables false
set_option linter.unusedSimpArgs false
theorem Tryz.signAt (t : List UInt8) (j : Nat) (hj : j < t.length) (W : World) : (Instr.index 9 (.string ⟨t.toArray⟩) (.int .i64 j)).run Tryz.prog W = .ok (.int .u8 (t.getD j 0).toNat) W := by
 rw [run_index_string (P := Tryz.prog) W 9 ⟨t.toArray⟩ .i64 j Tryz.underlying9]
 have hs : (ByteArray.mk t.toArray).size = t.length := by simp [ByteArray.size]
 rw [dif_pos (by rw [hs]; omega)]
 congr 3
 show ((t.toArray)[(j : Int).toNat]'_).toNat = _
 simp [List.getElem?_eq_getElem hj]
set_option maxHeartbeats 800000 in
set_option maxRecDepth 100000 in
theorem liteIndex_ok (s : By) (c : UInt8) (w : World) : Calls Tryz.prog 110 #[.string ⟨s.toArray⟩, .int .u8 c.toNat] w fun e w' => e = .returned (.int .i64 (Lib.indexByte s c)) ∧ w' = w := by
 go_enter Tryz.func110, Tryz.ntmps110
 go_wp2
 rw [run_callFunc_extern Tryz.func115 (by kernel_rfl) (by kernel_rfl) (by kernel_rfl) (e := Extern.BytealgIndexByte.indexByte) (by kernel_rfl), Lib.run_indexByteString]
 have : ((c.toNat : Int).toNat.toUInt8) = c := by simp
 rw [this]
 simp only [Result.andThen]
 rw [Oper.upon_value]
 go_wp2
 go_ret
 exact ⟨rfl, rfl⟩
set_option maxHeartbeats 800000 in
set_option maxRecDepth 100000 in
theorem indexByte_ok (s : By) (c : UInt8) (w : World) : Calls Tryz.prog 98 #[.string ⟨s.toArray⟩, .int .u8 c.toNat] w fun e w' => e = .returned (.int .i64 (Lib.indexByte s c)) ∧ w' = w := by
 go_enter Tryz.func98, Tryz.ntmps98
 go_wp2_with (go_at_call 110; refine (liteIndex_ok s c _).mono ?_; rintro e w' ⟨rfl, rfl⟩)
 go_ret
 exact ⟨rfl, rfl⟩
def nameBs : By := [97, 98, 99, 100, 101, 102, 103, 104, 105, 106, 107, 108, 109, 110, 111, 112, 113, 114, 115, 116, 117, 118, 119, 120, 121, 122, 48, 49, 50, 51, 52, 53, 54, 55, 56, 57, 46, 45, 95, 43]
theorem index_neg (l : By) (c : UInt8) : Lib.indexByte l c < 0 ↔ c ∉ l := by
 induction l with
 | nil => simp [Lib.indexByte]
 | cons b r ih =>
  have hge := Lib.indexByte_ge r c
  by_cases e : b = c
  ·subst e; simp [Lib.indexByte]
  ·have e' : (b == c) = false := by simpa using e
   simp only [Lib.indexByte, e', Bool.false_eq_true, if_false, List.mem_cons, not_or]
   by_cases h1 : Lib.indexByte r c = -1
   ·have : c ∉ r := ih.1 (by omega)
    simp [h1, this, Ne.symm e]
   ·have h2 : ¬ Lib.indexByte r c < 0 := by omega
    have h3 : (Lib.indexByte r c == -1) = false := by simpa using h1
    rw [h3]
    have h4 : ¬ (c ∉ r) := fun h => h2 (ih.2 h)
    constructor
    ·intro h; simp at h; omega
    ·rintro ⟨_, h⟩; exact absurd h h4
theorem okByte_mem (c : UInt8) : okByte c = true ↔ c ∈ nameBs := by
 have h : ∀ n : Fin 256, okByte (UInt8.ofNat n.val) = nameBs.contains (UInt8.ofNat n.val) := by decide +kernel
 have h2 := h ⟨c.toNat, c.toNat_lt⟩
 simp only [UInt8.ofNat_toNat] at h2
 rw [h2]
 simp
theorem okByte_index (c : UInt8) : decide (Lib.indexByte nameBs c < 0) = !okByte c := by
 cases h : okByte c
 ·have : c ∉ nameBs := fun hm => by rw [(okByte_mem c).2 hm] at h; cases h
  simp [(index_neg _ _).2 this]
 ·have : c ∈ nameBs := (okByte_mem c).1 h
  have h2 : ¬ Lib.indexByte nameBs c < 0 := fun hn => (index_neg _ _).1 hn this
  simp only [Bool.not_true, decide_eq_false_iff_not]
  exact h2
set_option maxHeartbeats 800000 in
set_option maxRecDepth 100000 in
theorem isName_ok (t : By) (w : World) (hm : t.length ≤ 4611686018427387904) : Calls Tryz.prog 64 #[.string ⟨t.toArray⟩] w fun e w' => e = .returned (.bool (isNm t)) ∧ w' = w := by
 have hbs : (ByteArray.mk t.toArray).size = t.length := by simp [ByteArray.size]
 have hsz : t.toArray.size = t.length := by simp
 go_enter Tryz.func64, Tryz.ntmps64
 by_cases h1 : t.length < 1
 ·have hf : isNm t = false := by unfold isNm; simp only [Bool.and_eq_false_iff, decide_eq_false_iff_not]; left; left; omega
  have HF := hide hf
  clear hf
  go_wp2
  go_ret
  exact ⟨by rw [HF.out]; rfl, rfl⟩
 by_cases h2 : 112 < t.length
 ·have hf : isNm t = false := by unfold isNm; simp only [Bool.and_eq_false_iff, decide_eq_false_iff_not]; left; right; omega
  have HF := hide hf
  clear hf
  go_wp2
  go_ret
  exact ⟨by rw [HF.out]; rfl, rfl⟩
 have hall : isNm t = t.all okByte := by unfold isNm; simp [show 1 ≤ t.length by omega, show t.length ≤ 112 by omega]
 have HA := hide hall
 clear hall
 go_wp2
 go_loopw [14, 3] (fun i _ wr => ∃ k : Nat, k ≤ t.length ∧ i = .int .i64 k ∧ wr = w ∧ Hid ((t.take k).all okByte = true)) (fun i _ wr => t.length - (intOf i).toNat)
 case atStart => exact ⟨0, by omega, rfl, rfl, by show _ = _; simp⟩
 case round =>
  obtain ⟨k, hk, rfl, rfl, HR⟩ := hrel
  by_cases hlt : k < t.length
  ·have s0 := fun W => Tryz.signAt t k hlt W
   have hc := okByte_index (t.getD k 0)
   have hix : ∀ W, Calls Tryz.prog 98 #[.string ⟨#[97, 98, 99, 100, 101, 102, 103, 104, 105, 106, 107, 108, 109, 110, 111, 112, 113, 114, 115, 116, 117, 118, 119, 120, 121, 122, 48, 49, 50, 51, 52, 53, 54, 55, 56, 57, 46, 45, 95, 43]⟩, .int .u8 (t.getD k 0).toNat] W fun e w' => e = .returned (.int .i64 (Lib.indexByte nameBs (t.getD k 0))) ∧ w' = W := fun W => indexByte_ok nameBs (t.getD k 0) W
   have hx1 : -1 ≤ Lib.indexByte nameBs (t.getD k 0) := Lib.indexByte_ge _ _
   have HG : Hid (t.take (k + 1) = t.take k ++ [t.getD k 0]) := by
    show _ = _
    rw [List.take_succ_eq_append_getElem hlt]
    simp [List.getElem?_eq_getElem hlt]
   have HM : Hid (t.getD k 0 ∈ t) := by
    show _ ∈ _
    simp [List.getElem?_eq_getElem hlt]
   generalize t.getD k 0 = c at s0 hc hix hx1 HG HM
   generalize Lib.indexByte nameBs c = x at hc hix hx1
   cases hok : okByte c
   ·rw [hok] at hc
    have hxn : x < 0 := by simpa using hc
    have HO : Hid (isNm t = false) := by
     rw [HA.out]
     show _ = _
     rw [Bool.eq_iff_iff]
     simp only [List.all_eq_true]
     constructor
     ·intro h; have := h c HM.out; rw [hok] at this; cases this
     ·intro h; cases h
    clear hc hok
    go_wp2_with (go_at_call 98; refine (hix _).mono ?_; rintro e w' ⟨rfl, rfl⟩)
    go_ret
    exact ⟨by rw [HO.out]; rfl, rfl⟩
   ·rw [hok] at hc
    have hxn : ¬ x < 0 := by simpa using hc
    have HO := hide hok
    clear hc hok
    go_wp2_with (go_at_call 98; refine (hix _).mono ?_; rintro e w' ⟨rfl, rfl⟩)
    go_roundw
    case rel => exact ⟨k + 1, by omega, by go_num, trivial, hide (by rw [HG.out, List.all_append, HR.out]; simp [HO.out])⟩
    case measure => simp [intOf]; omega
  ·go_wp2
   go_ret
   refine ⟨?_, rfl⟩
   rw [HA.out]
   have := HR.out
   rw [List.take_of_length_le (by omega)] at this
   rw [this]
   rfl
theorem rnd_go (p : Int) (n : Nat) : ((p.tmod ((n : Int) + 1)) + ((n : Int) + 1)).tmod ((n : Int) + 1) = (rnd p n : Int) := by
 unfold rnd
 have hp : (0 : Int) < (n : Int) + 1 := by omega
 have h0 := Int.emod_nonneg p (b := (n : Int) + 1) (by omega)
 have h1 : (0 : Int) ≤ p.tmod ((n : Int) + 1) + ((n : Int) + 1) := by
  have := Int.lt_tmod_of_pos p hp
  omega
 rw [Int.tmod_eq_emod_of_nonneg h1, Int.add_emod_right]
 rw [Int.toNat_of_nonneg h0]
 rw [Int.tmod_eq_emod]
 split
 ·simp
 ·have e : (((n : Int) + 1).natAbs : Int) = (n : Int) + 1 := by omega
  rw [e]
  simp [Int.sub_emod]
set_option maxHeartbeats 800000 in
set_option maxRecDepth 100000 in
theorem round_ok (p : Int) (n : Nat) (w : World) (hp : (Lit.int .i64 p).wf = true) (hn : n ≤ 1073741824) : Calls Tryz.prog 100 #[.int .i64 p, .int .i64 n] w fun e w' => e = .returned (.int .i64 (rnd p n)) ∧ w' = w := by
 have hg := hide (rnd_go p n)
 have hb : -((n : Int) + 1) < p.tmod ((n : Int) + 1) ∧ p.tmod ((n : Int) + 1) < (n : Int) + 1 := ⟨Int.lt_tmod_of_pos p (by omega), Int.tmod_lt_of_pos p (by omega)⟩
 have hw : Hid (wrap64 (p.tmod ((n : Int) + 1) + ((n : Int) + 1)) = p.tmod ((n : Int) + 1) + ((n : Int) + 1)) := by
  show wrap64 (p.tmod ((n : Int) + 1) + ((n : Int) + 1)) = p.tmod ((n : Int) + 1) + ((n : Int) + 1)
  unfold wrap64
  omega
 clear hb
 go_enter Tryz.func100, Tryz.ntmps100
 go_wp2
 go_ret
 refine ⟨?_, rfl⟩
 show Ending.returned (.int .i64 ((wrap64 (p.tmod ((n : Int) + 1) + ((n : Int) + 1))).tmod ((n : Int) + 1))) = _
 rw [hw.out, hg.out]
def Ints (w : World) (ao : Option Addr) (ps : List Int) : Prop := ∀ i, i < ps.length → ∃ b off, ao = some ⟨b, off, none⟩ ∧ w.cell? ⟨b, off + i, none⟩ = some (.int .i64 (ps.getD i 0))
theorem Ints.kept {F : Nat → Prop} {w w' : World} {ao : Option Addr} {ps : List Int} (h : Ints w ao ps) (hk : Keep F w w') (hn : ps ≠ [] → ∀ a, ao = some a → ¬ F a.block) : Ints w' ao ps := by
 intro i hi
 obtain ⟨b, off, rfl, hc⟩ := h i hi
 exact ⟨b, off, rfl, hk.cellOf hc (hn (by rintro rfl; simp at hi) ⟨b, off, none⟩ rfl)⟩
set_option maxHeartbeats 800000 in
set_option maxRecDepth 100000 in
theorem pickAt_ok (ao : Option Addr) (n c : Nat) (ps : List Int) (i : Nat) (w : World) (hn : ps.length = n) (hm : n ≤ 17592186044416) (hi : i ≤ 1073741824) (h : Ints w ao ps) :
  Calls Tryz.prog 75 #[.slice ao n c, .int .i64 i] w fun e w' => e = .returned (.int .i64 (ps.getD i 0)) ∧ w' = w := by
 go_enter Tryz.func75, Tryz.ntmps75
 by_cases hlt : i < n
 ·obtain ⟨b, off, rfl, hc⟩ := h i (by omega)
  clear h
  generalize ps.getD i 0 = x at hc
  go_wp2
  go_ret
  exact ⟨rfl, rfl⟩
 ·have he : Hid (ps.getD i 0 = 0) := hide (by simp [List.getElem?_eq_none (show ps.length ≤ i by omega)])
  clear h
  go_wp2
  go_ret
  exact ⟨by rw [he.out]; rfl, rfl⟩
end

section
open Go.RowKit Dsk
set_option linter.unusedVariables false
set_option linter.unusedSimpArgs false
theorem wpList_minRun {ops : Array Oper} {rest : List Oper} {o : Oper} {a : Act} {Q : Exit → Act → World → Prop} {P : Program} (w : World) (hgd : o.guard = none) (s x : Operand) (t : TypeId) (ho : o.op = .call { callee := .builtin .min, args := #[s, x], argTypes := #[t, t] }) (vs vx : Value) (hs : a.eval s = vs) (hx : a.eval x = vx) (v' : Value)
  (hrun : ∀ W, (Builtin.min_ #[t, t] o.type #[vs, vx]).run P W = .ok v' W) (hK : wpList P ops Q rest (a.put o.dst v') w) : wpList P ops Q (o :: rest) a w := by
 refine wpList_plain hgd fun K' hK' => ?_
 unfold Oper.wp execOp
 simp only [ho, resolve, invoke, builtin, Sem.run_bind, Sem.run_pure, Result.andThen_ok, List.map_toArray, List.map_cons, List.map_nil, hs, hx, hrun]
 exact hK' _ _ hK
theorem min_run (a b c : Int) (h : min a b = c) (ty : TypeId) (W : World) : (Builtin.min_ #[3, 3] ty #[.int .i64 a, .int .i64 b]).run Tryz.prog W = .ok (.int .i64 c) W := by
 rw [← h]
 have : (if b < a then b else a) = min a b := by split <;> omega
 simp [Builtin.min_, Builtin.min2, this]
structure Cr (w wr : World) (b : Nat) (rv sv : Value) (t : Th) (X : By) (k U M : Nat) (sv' : Value) (B : By) : Prop where
 cells : wr.heap[b]? = some (.cells #[encStr t.safe, rv, sv'] 67 (0, 0))
 row : wr.ownsRow 0 174 1 rv t.row.length (t.row.map encCh)
 shown : OwnB wr sv' B.length B
 keep : Keep (thF b rv sv) w wr
 new : ∀ g, sv'.ownBlock = some g → w.heap.size ≤ g
 torn : Dsk.torn B (t.row.drop k) U = X
 fits : U ≠ 0 → Dsk.fits B (t.row.drop k)
 le : B.length + unitsOf (t.row.drop k) ≤ M ∨ U = 0
theorem Cr.fin {w wr w' : World} {b : Nat} {rv sv sv' : Value} {t : Th} {X B : By} {k U M : Nat} (hb : b < w.heap.size) (h : Cr w wr b rv sv t X k U M sv' B) (hX : B = X) (hm : Mv wr w' b rv sv' ⟨B, [], B⟩) : Mv w w' b rv sv ⟨X, [], X⟩ := by
 obtain ⟨rv2, sv2, h0, hk, hr, hs⟩ := hm
 subst hX
 have hsz := h.keep.size
 refine ⟨rv2, sv2, h0, h.keep.trans hk (fun i hi hlt => ?_), fun g hg => ?_, fun g hg => ?_⟩
 ·rcases hi with e | e | e
  ·exact .inl e
  ·exact .inr (.inl e)
  ·have := h.new i e; omega
 ·rcases hr g hg with e | e
  ·exact .inl e
  ·exact .inr (by omega)
 ·rcases hs g hg with e | e
  ·exact .inr (h.new g e)
  ·exact .inr (by omega)
theorem Cr.step {w wr w3 : World} {b : Nat} {rv sv sv' v' : Value} {t : Th} {X B : By} {k U M : Nat} {c : Ch} (hb : b < w.heap.size) (h : Cr w wr b rv sv t X k U M sv' B) (hU : U ≠ 0) (hc : t.row[k]? = some c) (ha : Applied wr w3 sv' v' (c.apply B (min U c.units))) :
  w3.cell? ⟨b, 2, none⟩ = some sv' ∧ w3.frozen? ⟨b, 2, none⟩ = false ∧ Cr w (w3.setCell ⟨b, 2, none⟩ v') b rv sv t X (k + 1) (U - min U c.units) M v' (c.apply B (min U c.units)) := by
 have hlt : k < t.row.length := (List.getElem?_eq_some_iff.1 hc).1
 have hd : t.row.drop k = c :: t.row.drop (k + 1) := by
  rw [List.drop_eq_getElem_cons hlt]
  congr 1
  exact (List.getElem?_eq_some_iff.1 hc).2
 have hK3 := ha.2.1
 have hne : ∀ k, sv'.ownBlock = some k → k ≠ b := fun k hk e => by have := h.new k hk; omega
 have hQ3 := hK3.heapOf h.cells (fun e => hne b e rfl)
 have hsz := h.keep.size
 have hnew : ∀ g, v'.ownBlock = some g → w.heap.size ≤ g := fun g hg => by
  rcases ha.2.2 g hg with e | e
  ·exact h.new g e
  ·omega
 have hK4 : Keep (· = b) w3 (w3.setCell ⟨b, 2, none⟩ v') := (Keep.refl (· = b) w3).setCell (p := ⟨b, 2, none⟩) (fun _ => rfl) _
 have hor := h.le
 have hf := h.fits hU
 rw [hd] at hf hor
 have ht := h.torn
 rw [hd] at ht
 simp only [Dsk.torn, if_neg hU] at ht
 simp only [unitsOf] at hor
 have hal := c.apply_len B (min U c.units) hf.1
 refine ⟨by rw [cell_of_row w3 b 2 _ _ _ hQ3]; rfl, frozen_of_row w3 b 2 _ _ hQ3, heap_setCell_same w3 b 2 _ _ _ hQ3, ?_, ha.1.keep hK4 (fun g hg e => by have := hnew g hg; omega), ?_, hnew, ht, fun h0 => ?_, ?_⟩
 ·exact own_keeps (own_keeps h.row hK3 (fun g hg e => OwnB.two h.row h.shown (by decide) g hg e)) hK4 (fun g hg e => own_ne h.row h.cells (by decide) (by rw [hg, e]))
 ·exact (h.keep.trans hK3 (fun i e hi => by have := h.new i e; omega)).trans hK4 (fun i e _ => .inl e)
 ·have : min U c.units = c.units := by omega
  rw [this]
  exact hf.2
 ·left
  rcases hor with h1 | h1
  ·omega
  ·exact absurd h1 hU
set_option maxHeartbeats 1600000 in
set_option maxRecDepth 100000 in
theorem thingCrash_ok (p : Int) (b : Nat) (rv sv : Value) (t : Th) (w : World) (h : Th0 w b rv sv t) (hok : t.ok) (hb : t.safe.length + unitsOf t.row + t.row.length < 1073741824) (hp : (Lit.int .i64 p).wf = true) :
  Calls Tryz.prog 77 #[.pointer (some ⟨b, 0, none⟩), .int .i64 p] w fun e w' => e = .returned (.tuple #[]) ∧ Mv w w' b rv sv (t.crash p) := by
 obtain ⟨ro, rc, rfl, hrc⟩ := own_shape h.row
 have hrl := rnd_le p (unitsOf t.row)
 have hun := thingUnits_ok b _ sv t w h (by omega)
 have hrd := fun W => round_ok p (unitsOf t.row) W hp (by omega)
 unfold Th.crash
 generalize rnd p (unitsOf t.row) = U0 at hrl hrd ⊢
 have hblt := h.lt
 have HT := hide (And.intro h hok)
 have HRD := hide hrd
 clear hrd h hok
 go_enter Tryz.func77, Tryz.ntmps77
 go_upto_region 1 with (first
  | (go_at_call 103; have Ha := hun; refine hun.mono ?_; rintro e w1 ⟨rfl, hk1⟩; have H1 := hide (And.intro hk1 (HT.out.1.kept hk1)); clear Ha hun hk1)
  | (go_at_call 100; refine (HRD.out _).mono ?_; rintro e w' ⟨rfl, rfl⟩))
 obtain ⟨hk1, hT1⟩ := H1.out
 have c0 := hT1.c0
 obtain ⟨v2, w2, hcv, hO2, hk2, hb2, c2, hv2⟩ := run_of_str w' t.safe (by omega)
 subst hv2
 have hT2 := hT1.kept hk2
 have d2 := hT2.c2
 have f2 := hT2.fr 2
 have HCR : Hid (Cr w (w2.setCell ⟨b, 2, none⟩ (.slice (some ⟨w'.heap.size, 0, none⟩) t.safe.length c2)) b (.slice ro t.row.length rc) sv t (torn t.safe t.row U0) 0 U0 (t.safe.length + unitsOf t.row) (.slice (some ⟨w'.heap.size, 0, none⟩) t.safe.length c2) t.safe) := by
  have hK : Keep (· = b) w2 (w2.setCell ⟨b, 2, none⟩ (.slice (some ⟨w'.heap.size, 0, none⟩) t.safe.length c2)) := (Keep.refl (· = b) w2).setCell (p := ⟨b, 2, none⟩) (fun _ => rfl) _
  have hs1 := hk1.size
  refine ⟨heap_setCell_same w2 b 2 _ _ _ hT2.cells, own_keeps hT2.row hK (fun g hg e => hT2.rb (by rw [hg, e])), hO2.keep hK (fun g hg e => ?_), ((Keep.ofNone hk1).trans (Keep.ofNone (F := fun _ => False) hk2) (fun _ h _ => h.elim)).trans hK (fun i e _ => .inl e), fun g hg => ?_, rfl, fun _ => HT.out.2.1, .inl (Nat.le_refl _)⟩
  ·rw [hb2] at hg; injection hg with hg; omega
  ·rw [hb2] at hg; injection hg with hg; omega
 have e1 : (w2.setCell ⟨b, 2, none⟩ (.slice (some ⟨w'.heap.size, 0, none⟩) t.safe.length c2)).cell? ⟨b, 1, none⟩ = some (.slice ro t.row.length rc) := by
  rw [cell_of_row _ b 1 _ _ _ HCR.out.cells]; rfl
 clear hT1 hT2 hO2 hk2 hb2 hk1 H1
 generalize hw3 : w2.setCell ⟨b, 2, none⟩ (.slice (some ⟨w'.heap.size, 0, none⟩) t.safe.length c2) = w3 at HCR e1
 go_upto_region 2 with (fail)
 try rw [hw3]
 clear hw3 hcv c0 d2 f2
 go_wp2
 generalize Value.slice (some ⟨w'.heap.size, 0, none⟩) t.safe.length c2 = sv0 at HCR ⊢
 generalize hL : t.row.length = L at *
 generalize hX : torn t.safe t.row U0 = X at *
 obtain ⟨M, hM⟩ : ∃ M, M = t.safe.length + unitsOf t.row := ⟨_, rfl⟩
 rw [← hM] at HCR
 have HX := hide hX
 have HL := hide hL
 have hMb : M + L < 1073741824 := by omega
 clear hX hM e1 hL
 go_loopw [25, 4, 6] (fun i u _ wr => ∃ k U : Nat, k ≤ L ∧ U ≤ U0 ∧ i = .int .i64 k ∧ u = .int .i64 U ∧ Hid (∃ sv' B, Cr w wr b (.slice ro L rc) sv t X k U M sv' B)) (fun i _ _ wr => L - (intOf i).toNat)
 case atStart => exact ⟨0, U0, by omega, Nat.le_refl _, rfl, rfl, hide ⟨_, _, HCR.out⟩⟩
 case round =>
  clear HCR
  obtain ⟨k, U, hk, hUle, rfl, rfl, HR⟩ := hrel
  obtain ⟨sv', B, hR⟩ := HR.out
  clear HR
  by_cases hlt : k < L
  ·obtain ⟨c, hc⟩ : ∃ c, t.row[k]? = some c := ⟨t.row[k]'(by have := HL.out; omega), List.getElem?_eq_getElem (by have := HL.out; omega)⟩
   obtain ⟨g, hg⟩ : ∃ g, ro = some ⟨g, 0, none⟩ := by
    rcases hR.row.2 with ⟨e, e2⟩ | ⟨g, cap, cur, e, _⟩
    ·have := HL.out; omega
    ·injection e with e _ _; exact ⟨g, e⟩
   subst hg
   have hcell : wr.cell? ⟨g, k, none⟩ = some (encCh c) := by
    have := hR.row.cells (g := g) rfl k (encCh c) (by simp [hc])
    rwa [add0] at this
   by_cases hU : U = 0
   ·subst hU
    have hX : B = X := by have := hR.torn; rw [torn_zero] at this; exact this
    have hT : Th0 wr b (.slice (some ⟨g, 0, none⟩) L rc) sv' ⟨t.safe, t.row, B⟩ := ⟨hR.cells, by have := hR.row; rw [HL.out] at this; simpa [HL.out] using this, hR.shown⟩
    have hsy := thingSync_ok b _ _ _ wr hT
    have HCS : Hid (∀ w', Mv wr w' b (.slice (some ⟨g, 0, none⟩) L rc) sv' (Th.sync ⟨t.safe, t.row, B⟩) → Mv w w' b (.slice (some ⟨g, 0, none⟩) L rc) sv ⟨X, [], X⟩) := fun w' hm => Cr.fin hblt hR hX hm
    clear hT hR hc hX
    cases c <;> simp only [encCh] at hcell <;> (
     go_wp2_with (go_at_call 15; have Ha := hsy; refine hsy.mono ?_; rintro e w4 ⟨rfl, hm4⟩; clear Ha hsy)
     first | refine bodyPost_end (results_none rfl _ _ _) rfl ?_ | refine bodyPost_ret (results_none rfl _ _ _) rfl ?_
     refine ⟨rfl, ?_⟩
     rw [HL.out, HX.out]
     exact HCS.out _ hm4)
   ·obtain ⟨so, sc, rfl, _, _, _, _⟩ := hR.shown.shape
    have hd : t.row.drop k = c :: t.row.drop (k + 1) := by
     rw [List.drop_eq_getElem_cons (by have := HL.out; omega)]
     congr 1
     exact (List.getElem?_eq_some_iff.1 hc).2
    have hBn : B.length + c.units ≤ 1073741824 := by
     rcases hR.le with h1 | h1
     ·rw [hd] at h1; simp only [unitsOf] at h1; omega
     ·exact absurd h1 hU
    have hpl : c.place ≤ B.length := by have := hR.fits hU; rw [hd] at this; exact this.1
    have HC : Hid (∀ v, Kept [] wr v → Calls Tryz.prog (chFunc c) #[chVal c, .slice so B.length sc, .int .i64 (min U c.units : Nat)] v fun e w' => ∃ v', e = .returned v' ∧ Applied v w' (.slice so B.length sc) v' (c.apply B (min U c.units))) := fun v hv =>
     chApply_ok c (min U c.units) B.length sc so B v (hR.shown.kept hv) hpl (Nat.min_le_right _ _) hBn
    have CK : Hid (∀ v, Kept [] wr v → Cr w v b (.slice (some ⟨g, 0, none⟩) L rc) sv t X k U M (.slice so B.length sc) B) := fun v hv => ⟨by rw [hv.block b (Nat.lt_of_lt_of_le hblt hR.keep.size) (by simp)]; exact hR.cells, own_keeps hR.row (Keep.ofNone (F := fun _ => False) hv) (fun _ _ h => h), hR.shown.kept hv, hR.keep.trans (Keep.ofNone (F := fun _ => False) hv) (fun _ h _ => h.elim), hR.new, hR.torn, hR.fits, hR.le⟩
    have ST : Hid (∀ v, Kept [] wr v → ∀ v' w3, Applied v w3 (.slice so B.length sc) v' (c.apply B (min U c.units)) → w3.cell? ⟨b, 2, none⟩ = some (.slice so B.length sc) ∧ w3.frozen? ⟨b, 2, none⟩ = false ∧ Cr w (w3.setCell ⟨b, 2, none⟩ v') b (.slice (some ⟨g, 0, none⟩) L rc) sv t X (k + 1) (U - min U c.units) M v' (c.apply B (min U c.units))) := fun v hv v' w3 ha =>
     Cr.step hblt (CK.out v hv) hU hc ha
    have hcu : c.units < 1073741824 + 1 := by omega
    have hUne : (U : Int) ≠ 0 := by omega
    have hmn : min (U : Int) (c.units : Int) = ((min U c.units : Nat) : Int) := by omega
    have hmu : min U c.units ≤ U := Nat.min_le_left _ _
    have CC : Hid (∀ v, Kept [] wr v → v.cell? ⟨b, 2, none⟩ = some (.slice so B.length sc)) := fun v hv => by rw [cell_of_row v b 2 _ _ _ (CK.out v hv).cells]; rfl
    generalize min U c.units = u at HC ST hmn hmu
    clear hR hd hBn hpl hc CK
    cases c with
    | wr a d =>
     simp only [encCh] at hcell
     simp only [chFunc, chVal, Ch.units] at HC hmn hcu
     skip
     have hm : ∀ w : World, (method 326 167 (.agg #[.int .i64 a, encStr d]) "freight/disk.units").run Tryz.prog w = .ok (163, .agg #[.int .i64 a, encStr d]) w := fun _ => by kernel_rfl
     have hmn : ∀ w : World, (nilAhead 326 167 (.agg #[.int .i64 a, encStr d]) "freight/disk.units").run Tryz.prog w = .ok (some false) w := fun _ => by kernel_rfl
     have hp2 : ∀ w : World, (method 326 167 (.agg #[.int .i64 a, encStr d]) "freight/disk.apply").run Tryz.prog w = .ok (162, .agg #[.int .i64 a, encStr d]) w := fun _ => by kernel_rfl
     have hp2n : ∀ w : World, (nilAhead 326 167 (.agg #[.int .i64 a, encStr d]) "freight/disk.apply").run Tryz.prog w = .ok (some false) w := fun _ => by kernel_rfl
     go_upto_region 7 with (first
      | (go_at_call 163; refine (writeUnits_ok a d _).mono ?_; rintro e w4 ⟨rfl, hk4⟩)
      | (refine wpList_minRun _ rfl _ _ 3 rfl _ _ rfl rfl _ (min_run _ _ _ hmn _) ?_))
     have hc2 := CC.out w4 hk4
     refine wp_region_late (fun w' => Kept [] w4 w') (fun i => i == 10 || i == 13) (by kernel_rfl) ?_
     have h0 : Kept [] w4 w4.drew := (Kept.refl [] w4).drew
     generalize World.drew w4 = v0 at h0 ⊢
     refine wpAnyL_free (i := 0) (v := .pointer (some ⟨b, 0, none⟩)) rfl (by kernel_rfl) (by kernel_rfl) (by kernel_rfl) (fun _ _ _ h => h) (Or.inl ⟨by rfl, fun w _ => by go_simp⟩) ?_
     try simp only [z1, z2, z3, z4, z5, z6, z7, z8]
     refine wpAnyL_free (i := 1) (v := .iface 167 (.agg #[.int .i64 a, encStr d])) rfl (by kernel_rfl) (by kernel_rfl) (by kernel_rfl) (fun _ _ _ h => h) (Or.inl ⟨by rfl, fun w _ => by go_simp⟩) ?_
     try simp only [z1, z2, z3, z4, z5, z6, z7, z8]
     refine wpAnyL_free (i := 2) (v := .pointer (some ⟨b, 0, none⟩)) rfl (by kernel_rfl) (by kernel_rfl) (by kernel_rfl) (fun _ _ _ h => h) (Or.inl ⟨by rfl, fun w _ => by go_simp⟩) ?_
     try simp only [z1, z2, z3, z4, z5, z6, z7, z8]
     refine wpAnyL_free (i := 3) (v := .pointer (some ⟨b, 0, none⟩)) rfl (by kernel_rfl) (by kernel_rfl) (by kernel_rfl) (fun _ _ _ h => h) (Or.inl ⟨by rfl, fun w _ => by go_simp⟩) ?_
     try simp only [z1, z2, z3, z4, z5, z6, z7, z8]
     refine wpAnyL_free (i := 4) (v := .pointer (some ⟨b, 2, none⟩)) rfl (by kernel_rfl) (by kernel_rfl) (by kernel_rfl) (fun _ _ _ h => h) (Or.inl ⟨by rfl, fun w _ => by go_simp⟩) ?_
     try simp only [z1, z2, z3, z4, z5, z6, z7, z8]
     refine wpAnyL_take (i := 5) (v := .slice so B.length sc) rfl (by kernel_rfl) (by kernel_rfl) (by kernel_rfl) (by kernel_rfl) (by kernel_rfl) (fun _ _ _ h => h) (Or.inl ⟨by rfl, fun w hSw => by have c := Kept.cellOf hSw hc2 (by simp); go_simp⟩) h0 ?_
     try simp only [z1, z2, z3, z4, z5, z6, z7, z8]
     refine wpAnyL_free (i := 6) (v := .int .i64 u) rfl (by kernel_rfl) (by kernel_rfl) (by kernel_rfl) (fun _ _ _ h => h) (Or.inl ⟨by rfl, fun w _ => by go_simp⟩) ?_
     try simp only [z1, z2, z3, z4, z5, z6, z7, z8]
     refine wpAnyL_free (i := 7) (v := .func (Fn.method "freight/disk.apply") #[.iface 167 (.agg #[.int .i64 a, encStr d])] #[]) rfl (by kernel_rfl) (by kernel_rfl) (by kernel_rfl) (fun _ _ _ h => h) (Or.inl ⟨by rfl, fun w _ => by go_simp⟩) ?_
     try simp only [z1, z2, z3, z4, z5, z6, z7, z8]
     refine wpAnyL_free (i := 8) (v := .func (Fn.method "freight/disk.apply") #[.iface 167 (.agg #[.int .i64 a, encStr d])] #[]) rfl (by kernel_rfl) (by kernel_rfl) (by kernel_rfl) (fun _ _ _ h => h) (Or.inl ⟨by rfl, fun w _ => by go_simp⟩) ?_
     try simp only [z1, z2, z3, z4, z5, z6, z7, z8]
     refine wpAnyL_free (i := 9) (v := .iface 167 (.agg #[.int .i64 a, encStr d])) rfl (by kernel_rfl) (by kernel_rfl) (by kernel_rfl) (fun _ _ _ h => h) (Or.inl ⟨by rfl, fun w _ => by go_simp⟩) ?_
     try simp only [z1, z2, z3, z4, z5, z6, z7, z8]
     have hkv : Kept [] wr v0 := hk4.trans h0 (by simp)
     refine wpAnyL_one (i := 10) (by kernel_rfl) rfl (fun K hK => ?_)
     rw [if_pos (by rfl)]
     go_simp
     refine (HC.out v0 hkv).mono ?_
     rintro e w5 ⟨v', rfl, ha⟩
     obtain ⟨vo, vc, rfl, _⟩ := ha.1.shape
     obtain ⟨k2, k3, hfin⟩ := ST.out v0 hkv _ w5 ha
     refine hK.out _ _ (fun _ h => by cases h) ?_
     clear hK K
     try simp only [z1, z2, z3, z4, z5, z6, z7, z8]
     have H5 := hide hfin
     clear hfin ha HC ST CC hkv h0
     refine wpAnyL_free (i := 11) (v := .pointer (some ⟨b, 0, none⟩)) rfl (by kernel_rfl) (by kernel_rfl) (by kernel_rfl) (fun _ _ _ h => h) (Or.inl ⟨by rfl, fun w _ => by go_simp⟩) ?_
     try simp only [z1, z2, z3, z4, z5, z6, z7, z8]
     refine wpAnyL_free (i := 12) (v := .pointer (some ⟨b, 2, none⟩)) rfl (by kernel_rfl) (by kernel_rfl) (by kernel_rfl) (fun _ _ _ h => h) (Or.inl ⟨by rfl, fun w _ => by go_simp⟩) ?_
     try simp only [z1, z2, z3, z4, z5, z6, z7, z8]
     refine wpAnyL_one (i := 13) (by kernel_rfl) rfl (fun K hK => ?_)
     rw [if_pos (by rfl)]
     go_simp
     refine hK.out _ _ (fun _ h => by cases h) ?_
     clear hK K
     try simp only [z1, z2, z3, z4, z5, z6, z7, z8]
     refine wpAnyL_done (by kernel_rfl) ?_ _
     go_wp2
     go_roundw
     case rel => exact ⟨k + 1, U - u, by omega, by omega, by go_num, by go_num, hide ⟨_, _, H5.out⟩⟩
     case measure => simp [intOf]; omega
    | cut a =>
     simp only [encCh] at hcell
     simp only [chFunc, chVal, Ch.units] at HC hmn hcu
     replace hmn : min (U : Int) 1 = (u : Int) := by have := hmn; omega
     have hm : ∀ w : World, (method 326 148 (.agg #[.int .i64 a]) "freight/disk.units").run Tryz.prog w = .ok (161, .agg #[.int .i64 a]) w := fun _ => by kernel_rfl
     have hmn : ∀ w : World, (nilAhead 326 148 (.agg #[.int .i64 a]) "freight/disk.units").run Tryz.prog w = .ok (some false) w := fun _ => by kernel_rfl
     have hp2 : ∀ w : World, (method 326 148 (.agg #[.int .i64 a]) "freight/disk.apply").run Tryz.prog w = .ok (160, .agg #[.int .i64 a]) w := fun _ => by kernel_rfl
     have hp2n : ∀ w : World, (nilAhead 326 148 (.agg #[.int .i64 a]) "freight/disk.apply").run Tryz.prog w = .ok (some false) w := fun _ => by kernel_rfl
     go_upto_region 7 with (first
      | (go_at_call 161; refine (cutUnits_ok a _).mono ?_; rintro e w4 ⟨rfl, hk4⟩)
      | (refine wpList_minRun _ rfl _ _ 3 rfl _ _ rfl rfl _ (min_run _ _ _ hmn _) ?_))
     have hc2 := CC.out w4 hk4
     refine wp_region_late (fun w' => Kept [] w4 w') (fun i => i == 10 || i == 13) (by kernel_rfl) ?_
     have h0 : Kept [] w4 w4.drew := (Kept.refl [] w4).drew
     generalize World.drew w4 = v0 at h0 ⊢
     refine wpAnyL_free (i := 0) (v := .pointer (some ⟨b, 0, none⟩)) rfl (by kernel_rfl) (by kernel_rfl) (by kernel_rfl) (fun _ _ _ h => h) (Or.inl ⟨by rfl, fun w _ => by go_simp⟩) ?_
     try simp only [z1, z2, z3, z4, z5, z6, z7, z8]
     refine wpAnyL_free (i := 1) (v := .iface 148 (.agg #[.int .i64 a])) rfl (by kernel_rfl) (by kernel_rfl) (by kernel_rfl) (fun _ _ _ h => h) (Or.inl ⟨by rfl, fun w _ => by go_simp⟩) ?_
     try simp only [z1, z2, z3, z4, z5, z6, z7, z8]
     refine wpAnyL_free (i := 2) (v := .pointer (some ⟨b, 0, none⟩)) rfl (by kernel_rfl) (by kernel_rfl) (by kernel_rfl) (fun _ _ _ h => h) (Or.inl ⟨by rfl, fun w _ => by go_simp⟩) ?_
     try simp only [z1, z2, z3, z4, z5, z6, z7, z8]
     refine wpAnyL_free (i := 3) (v := .pointer (some ⟨b, 0, none⟩)) rfl (by kernel_rfl) (by kernel_rfl) (by kernel_rfl) (fun _ _ _ h => h) (Or.inl ⟨by rfl, fun w _ => by go_simp⟩) ?_
     try simp only [z1, z2, z3, z4, z5, z6, z7, z8]
     refine wpAnyL_free (i := 4) (v := .pointer (some ⟨b, 2, none⟩)) rfl (by kernel_rfl) (by kernel_rfl) (by kernel_rfl) (fun _ _ _ h => h) (Or.inl ⟨by rfl, fun w _ => by go_simp⟩) ?_
     try simp only [z1, z2, z3, z4, z5, z6, z7, z8]
     refine wpAnyL_take (i := 5) (v := .slice so B.length sc) rfl (by kernel_rfl) (by kernel_rfl) (by kernel_rfl) (by kernel_rfl) (by kernel_rfl) (fun _ _ _ h => h) (Or.inl ⟨by rfl, fun w hSw => by have c := Kept.cellOf hSw hc2 (by simp); go_simp⟩) h0 ?_
     try simp only [z1, z2, z3, z4, z5, z6, z7, z8]
     refine wpAnyL_free (i := 6) (v := .int .i64 u) rfl (by kernel_rfl) (by kernel_rfl) (by kernel_rfl) (fun _ _ _ h => h) (Or.inl ⟨by rfl, fun w _ => by go_simp⟩) ?_
     try simp only [z1, z2, z3, z4, z5, z6, z7, z8]
     refine wpAnyL_free (i := 7) (v := .func (Fn.method "freight/disk.apply") #[.iface 148 (.agg #[.int .i64 a])] #[]) rfl (by kernel_rfl) (by kernel_rfl) (by kernel_rfl) (fun _ _ _ h => h) (Or.inl ⟨by rfl, fun w _ => by go_simp⟩) ?_
     try simp only [z1, z2, z3, z4, z5, z6, z7, z8]
     refine wpAnyL_free (i := 8) (v := .func (Fn.method "freight/disk.apply") #[.iface 148 (.agg #[.int .i64 a])] #[]) rfl (by kernel_rfl) (by kernel_rfl) (by kernel_rfl) (fun _ _ _ h => h) (Or.inl ⟨by rfl, fun w _ => by go_simp⟩) ?_
     try simp only [z1, z2, z3, z4, z5, z6, z7, z8]
     refine wpAnyL_free (i := 9) (v := .iface 148 (.agg #[.int .i64 a])) rfl (by kernel_rfl) (by kernel_rfl) (by kernel_rfl) (fun _ _ _ h => h) (Or.inl ⟨by rfl, fun w _ => by go_simp⟩) ?_
     try simp only [z1, z2, z3, z4, z5, z6, z7, z8]
     have hkv : Kept [] wr v0 := hk4.trans h0 (by simp)
     refine wpAnyL_one (i := 10) (by kernel_rfl) rfl (fun K hK => ?_)
     rw [if_pos (by rfl)]
     go_simp
     refine (HC.out v0 hkv).mono ?_
     rintro e w5 ⟨v', rfl, ha⟩
     obtain ⟨vo, vc, rfl, _⟩ := ha.1.shape
     obtain ⟨k2, k3, hfin⟩ := ST.out v0 hkv _ w5 ha
     refine hK.out _ _ (fun _ h => by cases h) ?_
     clear hK K
     try simp only [z1, z2, z3, z4, z5, z6, z7, z8]
     have H5 := hide hfin
     clear hfin ha HC ST CC hkv h0
     refine wpAnyL_free (i := 11) (v := .pointer (some ⟨b, 0, none⟩)) rfl (by kernel_rfl) (by kernel_rfl) (by kernel_rfl) (fun _ _ _ h => h) (Or.inl ⟨by rfl, fun w _ => by go_simp⟩) ?_
     try simp only [z1, z2, z3, z4, z5, z6, z7, z8]
     refine wpAnyL_free (i := 12) (v := .pointer (some ⟨b, 2, none⟩)) rfl (by kernel_rfl) (by kernel_rfl) (by kernel_rfl) (fun _ _ _ h => h) (Or.inl ⟨by rfl, fun w _ => by go_simp⟩) ?_
     try simp only [z1, z2, z3, z4, z5, z6, z7, z8]
     refine wpAnyL_one (i := 13) (by kernel_rfl) rfl (fun K hK => ?_)
     rw [if_pos (by rfl)]
     go_simp
     refine hK.out _ _ (fun _ h => by cases h) ?_
     clear hK K
     try simp only [z1, z2, z3, z4, z5, z6, z7, z8]
     refine wpAnyL_done (by kernel_rfl) ?_ _
     go_wp2
     go_roundw
     case rel => exact ⟨k + 1, U - u, by omega, by omega, by go_num, by go_num, hide ⟨_, _, H5.out⟩⟩
     case measure => simp [intOf]; omega
  ·have hkL : k = L := by omega
   subst hkL
   have hX : B = X := by have := hR.torn; rw [List.drop_of_length_le (by rw [HL.out]; exact Nat.le_refl _)] at this; exact this
   have hT : Th0 wr b (.slice ro k rc) sv' ⟨t.safe, t.row, B⟩ := ⟨hR.cells, by have := hR.row; rw [HL.out] at this; simpa [HL.out] using this, hR.shown⟩
   have hsy := thingSync_ok b _ _ _ wr hT
   have HCS : Hid (∀ w', Mv wr w' b (.slice ro k rc) sv' (Th.sync ⟨t.safe, t.row, B⟩) → Mv w w' b (.slice ro k rc) sv ⟨X, [], X⟩) := fun w' hm => Cr.fin hblt hR hX hm
   clear hT hR hX
   go_wp2_with (go_at_call 15; have Ha := hsy; refine hsy.mono ?_; rintro e w4 ⟨rfl, hm4⟩; clear Ha hsy)
   first | refine bodyPost_end (results_none rfl _ _ _) rfl ?_ | refine bodyPost_ret (results_none rfl _ _ _) rfl ?_
   refine ⟨rfl, ?_⟩
   rw [HL.out, HX.out]
   exact HCS.out _ hm4
end

end Go.Proofs.YteckiednnaianaaGreat
