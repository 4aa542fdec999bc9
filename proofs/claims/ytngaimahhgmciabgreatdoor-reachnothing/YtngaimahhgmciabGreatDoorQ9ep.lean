/-
  Need of any source for no results: the source is not asked. (Written by tools/q9e.py: texts of K9h to K9t of which a source's Get is left out.)
-/
import Derived.Test.YtngaimahhgmciabGreatDoorNpp
namespace Go.Proofs.YtngaimahhgmciabGreatDoor
open Go.RowKit Go.Lib Go.Sort
set_option linter.unusedVariables false
set_option linter.unusedSimpArgs false

/-- What of a source stands while it is not asked. -/
structure SK (G : List (List UInt8) → (Nat → Prop) → World → Prop) : Prop where
  lim : ∀ {asked : List (List UInt8)} {o : Nat → Prop} {w : World}, G asked o w → ∀ b, o b → b < w.heap.size
  keep : ∀ {asked : List (List UInt8)} {o : Nat → Prop} {w w' : World}, G asked o w → Kp (fun b => ¬ o b) w w' → G asked o w'
/-- A source that has no blocks of its own. -/
def GN (_ : List (List UInt8)) (o : Nat → Prop) (_ : World) : Prop := ∀ b, ¬ o b
theorem skN : SK GN := ⟨fun h b hb => (h b hb).elim, fun h _ => h⟩
section
variable {w0 : World} {o0 : Nat → Prop} {wb : World} {ub : Nat → Prop} {T : TypeId} {sv : Value} {G : List (List UInt8) → (Nat → Prop) → World → Prop} {w w' w1 : World} {P : Nat} {x : Wfd} {ord A N L B : List (List UInt8)} {F : List (List UInt8 × List (List UInt8))} {V : List Value} {o : Nat → Prop} {s : Ws} {br : Nat} {K : List (List UInt8)}
theorem Wx.keptK (S : SK G) (h : Wx w0 o0 wb ub T sv G w P x ord A N L B F V o) (hk : Kept [] w w') : Wx w0 o0 wb ub T sv G w' P x ord A N L B F V o :=
  ⟨h.wk.kept hk, S.keep h.src (Kp.ofKept hk (by simp)), h.isrc, h.offP, h.offm, h.offr, h.offg, h.o0r, h.kp.trans (Kp.ofKept (o := fun _ => False) hk (by simp)) (fun _ h => h.elim), h.kb.trans (Kp.ofKept (o := fun _ => False) hk (by simp)) (fun _ h => h.elim), h.ubr, hk.cellOf h.gl (by simp), h.tabs.kept hk (by simp), h.top⟩
theorem Wz.keptK (S : SK G) (h : Wz w0 o0 wb ub T sv G P x s w) (hk : Kept [] w w') : Wz w0 o0 wb ub T sv G P x s w' := by
  obtain ⟨F, V, o, h1, h2⟩ := h
  exact ⟨F, V, o, h1.keptK S hk, h2⟩
theorem Wz.rebaseK (S : SK G) (h : Wz w0 o0 wb ub T sv G P x s w) (hk : Kept [] w w1) :
    ∃ ft : Nat → Prop, (∀ b, ft b → b < w.heap.size) ∧ Wz w0 o0 w1 ft T sv G P x s w1 ∧ ∀ s' w', Wz w0 o0 w1 ft T sv G P x s' w' → Wz w0 o0 wb ub T sv G P x s' w' ∧ Kp ft w1 w' := by
  obtain ⟨F, V, o, h1, h2⟩ := h
  refine ⟨fun b => o b ∨ b ∈ x.maps ∨ ∃ j, j < F.length ∧ (V.getD j unitv).ownBlock = some b, fun b hb => ?_, ?_, fun s' w' h' => ?_⟩
  · rcases hb with hb | hb | ⟨j, hj, hb⟩
    · exact S.lim h1.src b hb
    · obtain ⟨es, c, e⟩ := h1.wk.map_at hb; exact (Array.getElem?_eq_some_iff.1 e).1
    · obtain ⟨cs, hc⟩ := own_row (h1.wk.rows j hj) hb; exact (Array.getElem?_eq_some_iff.1 hc).1
  · have h3 := h1.keptK S hk
    exact ⟨F, V, o, ⟨h3.wk, h3.src, h3.isrc, h3.offP, h3.offm, h3.offr, h3.offg, h3.o0r, h3.kp, ⟨rfl, rfl, rfl, Nat.le_refl _, fun _ _ _ => rfl⟩, fun b hb => .inl hb, h3.gl, h3.tabs, h3.top⟩, h2⟩
  · obtain ⟨F', V', o', g1, g2⟩ := h'
    have h3 := h1.keptK S hk
    refine ⟨⟨F', V', o', ⟨g1.wk, g1.src, g1.isrc, g1.offP, g1.offm, g1.offr, g1.offg, g1.o0r, g1.kp, h3.kb.trans g1.kb (fun i hi hlt => ?_), fun b hb => ?_, g1.gl, g1.tabs, g1.top⟩, g2⟩, g1.kb⟩
    · rcases h1.ubr i hi with h4 | h4
      · exact h4
      · omega
    · rcases g1.ubr b hb with h4 | h4
      · exact h1.ubr b h4
      · exact .inr (Nat.le_trans h3.kb.size h4)
theorem Wz.beginK (S : SK G) {ord : List (List UInt8)} {o : Nat → Prop} (hG : G ord o w) (gl : GlE w) (tabs : Tabs w) (offg : ∀ b, b < 4 → ¬ o b) (hk : Kept [] w w') (row : w'.heap[P]? = some (.cells x.cells 80 (0, 0))) {N : List (List UInt8)} (a : Is w' x.bA []) (n : Is w' x.bN N) (l : Is w' x.bL []) (b : Is w' x.bB []) (fo : Im w' x.bF [] []) (hd : x.maps.Nodup) (hP : w.heap.size ≤ P) (hm : ∀ g ∈ x.maps, w.heap.size ≤ g) (hs : x.src = .iface T sv) :
    Wz w o w' (fun b => o b ∨ b ∈ x.maps) T sv G P x ⟨ord, [], N, [], [], fun _ => []⟩ w' := by
  refine ⟨[], [], o, ⟨⟨row, a, n, l, b, fo, fun j hj => absurd hj (by simp), fun j k _ hk => absurd hk (by simp), hd, hP, hm⟩, S.keep hG (Kp.ofKept hk (by simp)), hs, fun h => ?_, fun g hg h => ?_, fun j hj => absurd hj (by simp), offg, fun b hb => .inl hb, Kp.ofKept hk (by simp), ⟨rfl, rfl, rfl, Nat.le_refl _, fun _ _ _ => rfl⟩, fun b hb => ?_, hk.cellOf gl (by simp), tabs.kept hk (by simp), tabs.big⟩, fun q => rfl, fun q _ => rfl, fun q => by simp⟩
  · have := S.lim hG _ h; omega
  · have := S.lim hG _ h; have := hm g hg; omega
  · rcases hb with hb | hb | ⟨j, hj, _⟩
    · exact .inl (.inl hb)
    · exact .inl (.inr hb)
    · exact absurd hj (by simp)

theorem Fr.nextK (S : SK G) (h : Wz w0 o0 wb ub T sv G P x s w) (hk : Kept [] w w') (hb : w.heap.size ≤ br) (hs : Is w' br K) : Fr w0 o0 T sv G P x s br K w' := by
  obtain ⟨ft, h1, h2, _⟩ := h.rebaseK S hk
  exact ⟨w', ft, h2, hs, fun h => by have := h1 _ h; omega⟩
theorem Fr.deepenK (S : SK G) (h : Fr w0 o0 T sv G P x s br K w) : Fr w0 o0 T sv G P { x with deep := .map (some br) } s br K (w.setCell ⟨P, 6, none⟩ (.map (some br))) := by
  have his := h.is
  obtain ⟨wb, ub, ⟨F, V, o, h1, h2⟩, h3, h4⟩ := h
  have hk : Kept [P] w (w.setCell ⟨P, 6, none⟩ (.map (some br))) := (Kept.refl [P] w).setCell (by simp) _
  have hrow : (w.setCell ⟨P, 6, none⟩ (.map (some br))).heap[P]? = some (.cells ({ x with deep := .map (some br) } : Wfd).cells 80 (0, 0)) := by
    rw [heap_setCell_same _ _ _ _ _ _ h1.wk.row]
    rfl
  generalize w.setCell ⟨P, 6, none⟩ (.map (some br)) = w9 at hk hrow ⊢
  have hm : ∀ g ∈ x.maps, w9.heap[g]? = w.heap[g]? := fun g hg => by
    obtain ⟨es, c, e⟩ := h1.wk.map_at hg
    exact hk.block g (Array.getElem?_eq_some_iff.1 e).1 (by simp; exact fun e => h1.wk.neP hg e.symm)
  have hrw : ∀ j, j < F.length → (V.getD j unitv).ownBlock ≠ some P := fun j hj => own_ne_walk (h1.wk.rows j hj) h1.wk.row
  have hbp : br ≠ P := by
    intro e
    obtain ⟨es, c, e1, _⟩ := his
    rw [e, h1.wk.row] at e1
    cases e1
  have hPl := h1.wk.lo.1
  have htp := h1.top
  have hwk : Wk w0 w9 P { x with deep := .map (some br) } s.A s.N s.L s.B F V :=
    ⟨hrow, Im.same h1.wk.a (hm _ (by simp [Wfd.maps])), Im.same h1.wk.n (hm _ (by simp [Wfd.maps])), Im.same h1.wk.l (hm _ (by simp [Wfd.maps])), Im.same h1.wk.b (hm _ (by simp [Wfd.maps])), Im.same h1.wk.f (hm _ (by simp [Wfd.maps])), fun j hj => (h1.wk.rows j hj).kept hk (fun q hq hm => hrw j hj (by simp at hm; rw [← hm]; exact hq)), h1.wk.apart, h1.wk.dist, h1.wk.lo⟩
  refine ⟨w9, fun b => o b ∨ b ∈ x.maps ∨ ∃ j, j < F.length ∧ (V.getD j unitv).ownBlock = some b, ⟨F, V, o, ⟨hwk, S.keep h1.src (Kp.ofKept hk (fun b hb _ => by simp at hb; subst hb; exact h1.offP)), h1.isrc, h1.offP, h1.offm, h1.offr, h1.offg, h1.o0r, h1.kp.trans (Kp.ofKept (o := fun b => b = P) hk (by simp)) (fun i e hi => by omega), ⟨rfl, rfl, rfl, Nat.le_refl _, fun _ _ _ => rfl⟩, fun b hb => .inl hb, hk.cellOf h1.gl (by simp; omega), h1.tabs.kept hk (by simp; omega), h1.top⟩, h2⟩, ?_, fun hb => ?_⟩
  · exact Im.same his (hk.block br his.lt (by simpa using hbp))
  · rcases h1.ubr br hb with h5 | h5
    · exact h4 h5
    · have := h3.lt; omega
end
theorem Wz.begin4K {T : TypeId} {sv : Value} {G : List (List UInt8) → (Nat → Prop) → World → Prop} (S : SK G) (op : List UInt8) {ord : List (List UInt8)} {o : Nat → Prop} {w w2 : World} (hG : G ord o w) (gl : GlE w) (tabs : Tabs w) (offg : ∀ b, b < 4 → ¬ o b) {bN : Nat} {N : List (List UInt8)} (hN : Is w2 bN N) (hk : Kept [] (w.alloc (.map #[] 0)) w2) (hb : (w.alloc (.map #[] 0)).heap.size ≤ bN) :
    Kept [] w (begW w2 (wfd0 op T sv w.heap.size bN w2.heap.size)) ∧ Wz w o (begW w2 (wfd0 op T sv w.heap.size bN w2.heap.size)) (fun b => o b ∨ b ∈ (wfd0 op T sv w.heap.size bN w2.heap.size).maps) T sv G (w2.heap.size + 1 + 1 + 1) (wfd0 op T sv w.heap.size bN w2.heap.size) ⟨ord, [], N, [], [], fun _ => []⟩ (begW w2 (wfd0 op T sv w.heap.size bN w2.heap.size)) := by
  obtain ⟨x, hx⟩ : ∃ x, x = wfd0 op T sv w.heap.size bN w2.heap.size := ⟨_, rfl⟩
  have e1 := szal w (.map #[] 0)
  have e2 := szal w2 (.map #[] 0)
  have e3 := szal (w2.alloc (.map #[] 0)) (.map #[] 0)
  have e4 := szal ((w2.alloc (.map #[] 0)).alloc (.map #[] 0)) (.map #[] 0)
  have hs := hk.size
  have hlN := hN.lt
  have k1 : Kept [] w (w.alloc (.map #[] 0)) := (Kept.refl [] w).alloc _
  have k2 : Kept [] w2 (w2.alloc (.map #[] 0)) := (Kept.refl [] w2).alloc _
  have k3 : Kept [] (w2.alloc (.map #[] 0)) ((w2.alloc (.map #[] 0)).alloc (.map #[] 0)) := (Kept.refl [] _).alloc _
  have k4 : Kept [] ((w2.alloc (.map #[] 0)).alloc (.map #[] 0)) (((w2.alloc (.map #[] 0)).alloc (.map #[] 0)).alloc (.map #[] 0)) := (Kept.refl [] _).alloc _
  have k5 : Kept [] (((w2.alloc (.map #[] 0)).alloc (.map #[] 0)).alloc (.map #[] 0)) (begW w2 x) := (Kept.refl [] _).alloc _
  have k25 : Kept [] w2 (begW w2 x) := ((k2.trans k3 (by simp)).trans k4 (by simp)).trans k5 (by simp)
  have k05 : Kept [] w (begW w2 x) := (k1.trans hk (by simp)).trans k25 (by simp)
  have hA : Is (begW w2 x) w.heap.size [] := Is.kept (Is.kept (show Is _ _ _ from new_im w) hk (by simp)) k25 (by simp)
  have hL : Is (begW w2 x) w2.heap.size [] := Is.kept (show Is _ _ _ from new_im w2) ((k3.trans k4 (by simp)).trans k5 (by simp)) (by simp)
  have hB : Is (begW w2 x) (w2.heap.size + 1) [] := by
    have := Is.kept (show Is _ _ _ from new_im (w2.alloc (.map #[] 0))) (k4.trans k5 (by simp)) (by simp)
    rwa [e2] at this
  have hF : Im (begW w2 x) (w2.heap.size + 1 + 1) [] [] := by
    have := Im.kept (new_im ((w2.alloc (.map #[] 0)).alloc (.map #[] 0))) k5 (by simp)
    rwa [e3, e2] at this
  have hrow : (begW w2 x).heap[w2.heap.size + 1 + 1 + 1]? = some (.cells x.cells 80 (0, 0)) := by
    have := new_atK (((w2.alloc (.map #[] 0)).alloc (.map #[] 0)).alloc (.map #[] 0)) (.cells x.cells 80)
    rwa [e4, e3, e2] at this
  rw [← hx]
  refine ⟨k05, Wz.beginK S hG gl tabs offg k05 hrow (by rw [hx]; rw [hx] at hA; exact hA) (by rw [hx]; rw [hx] at k25; exact hN.kept k25 (by simp)) (by rw [hx]; rw [hx] at hL; exact hL) (by rw [hx]; rw [hx] at hB; exact hB) (by rw [hx]; rw [hx] at hF; exact hF) ?_ ?_ ?_ (by rw [hx]; rfl)⟩
  · rw [hx]
    simp only [wfd0, Wfd.maps, List.nodup_cons, List.mem_cons, List.mem_nil_iff, or_false, not_or, List.nodup_nil, and_true, not_false_eq_true]
    omega
  · omega
  · intro g hg
    rw [hx] at hg
    simp only [wfd0, Wfd.maps, List.mem_cons, List.mem_nil_iff, or_false] at hg
    omega


set_option maxHeartbeats 3200000 in
set_option maxRecDepth 100000 in
theorem atrees_nil9 (P br : Nat) (w : World) (hs : Is w br []) :
    Calls Tryz.prog 32 #[.pointer (some ⟨P, 0, none⟩), .map (some br)] w fun e w' => e = .returned .nilIface ∧ Kept [] w w' := by
  have hri := rising_ok br [] w hs (by simp)
  go_enter Tryz.func32, Tryz.ntmps32
  go_wp2_with (go_at_call 25; refine hri.mono ?_; rintro e w1 ⟨v, R, rfl, hov, hpm, hup, hk1⟩; obtain ⟨ao, c, hvv, hcc⟩ := own_shape hov.1; subst hvv; have HPM := hide hpm; have HK1 := hide hk1; clear hri hov hpm hup hk1 hcc)
  obtain ⟨n, hn⟩ : ∃ n, R.length = n := ⟨_, rfl⟩
  have hn0 : n = 0 := by rw [← hn, HPM.out.length_eq]; rfl
  rw [hn, hn0]
  clear hn hn0 HPM
  go_loopw [13] (fun y wr => y = .int .i64 0 ∧ wr = w1) (fun y wr => 0)
  case atStart => exact ⟨rfl, rfl⟩
  case round =>
    obtain ⟨hy, hw⟩ := hrel
    subst hy
    obtain rfl := hw.symm
    go_wp2
    go_ret
    exact ⟨rfl, HK1.out⟩
set_option maxHeartbeats 3200000 in
set_option maxRecDepth 100000 in
theorem aothers_nil9 (P b : Nat) (w : World) (c3 : w.cell? ⟨P, 3, none⟩ = some (.map (some b))) (hs : Is w b []) :
    Calls Tryz.prog 34 #[.pointer (some ⟨P, 0, none⟩)] w fun e w' => e = .returned .nilIface ∧ Kept [] w w' := by
  have hri := rising_ok b [] w hs (by simp)
  clear hs
  go_enter Tryz.func34, Tryz.ntmps34
  go_wp2_with (go_at_call 25; refine hri.mono ?_; rintro e w1 ⟨v, R, rfl, hov, hpm, hup, hk1⟩; obtain ⟨ao, c, hvv, hcc⟩ := own_shape hov.1; subst hvv; have HPM := hide hpm; have HK1 := hide hk1; clear hri hov hpm hup hk1 hcc c3)
  obtain ⟨n, hn⟩ : ∃ n, R.length = n := ⟨_, rfl⟩
  have hn0 : n = 0 := by rw [← hn, HPM.out.length_eq]; rfl
  rw [hn, hn0]
  clear hn hn0 HPM
  go_loopw [14] (fun y wr => y = .int .i64 0 ∧ wr = w1) (fun y wr => 0)
  case atStart => exact ⟨rfl, rfl⟩
  case round =>
    obtain ⟨hy, hw⟩ := hrel
    subst hy
    obtain rfl := hw.symm
    go_wp2
    go_ret
    exact ⟨rfl, HK1.out⟩

def s09 : Ws := ⟨[], [], [], [], [], fun _ => []⟩
set_option maxHeartbeats 3200000 in
set_option maxRecDepth 100000 in
theorem follow_none9 (T : TypeId) (sv : Value) (op : List UInt8) (c : Nat) (w : World) (gl : GlE w) (tabs : Tabs w) :
    Calls Tryz.prog 22 #[.string ⟨op.toArray⟩, .iface T sv, .slice none 0 c] w fun e w' => Fol w (fun _ => False) op T sv (fun _ _ _ => False) GN (none, s09, []) e w' := by
  have hmk : ∀ W : World, (Instr.makeMap 77 none).run Tryz.prog W = .ok (.map (some W.heap.size)) (W.alloc (.map #[] 0)) := fun _ => rfl
  have hmf : ∀ W : World, (Instr.makeMap 78 none).run Tryz.prog W = .ok (.map (some W.heap.size)) (W.alloc (.map #[] 0)) := fun _ => rfl
  have hro : ∀ W : World, Calls Tryz.prog 31 #[.slice none 0 c] W fun e w' => ∃ b', e = .returned (.map (some b')) ∧ Is w' b' [] ∧ Kept [] W w' ∧ W.heap.size ≤ b' := fun W => roots_ok none 0 c [] W rfl (fun i hi => absurd hi (by simp)) (by omega) (fun h => absurd rfl h)
  have HRO := hide hro
  have HB := hide (And.intro gl tabs)
  clear hro gl tabs
  obtain ⟨w1, hw1⟩ : ∃ w1, w1 = w.alloc (.map #[] 0) := ⟨_, rfl⟩
  have hk1 : Kept [] w w1 := by rw [hw1]; exact (Kept.refl [] w).alloc _
  have hr1 := HRO.out w1
  rw [hw1] at hr1
  go_enter Tryz.func22, Tryz.ntmps22
  go_upto_region 3 with (fail)
  go_upto_region 4 with (first
    | (go_at_call 31; refine hr1.mono ?_; rintro e w2 ⟨bN, rfl, hsN, hk2, hbN⟩; have HN2 := hide (And.intro hsN (And.intro hk2 hbN)); clear hr1 hsN hk2 hbN))
  have hbg := Wz.begin4K (T := T) (sv := sv) skN op (ord := []) (o := fun _ => False) (fun _ h => h) HB.out.1 HB.out.2 (fun _ _ h => h) HN2.out.1 HN2.out.2.1 HN2.out.2.2
  have HZ0 := hide hbg.2
  have hr2 := HRO.out (begW w2 (wfd0 op T sv w.heap.size bN w2.heap.size))
  show Code.wp _ _ _ _ (begW w2 (wfd0 op T sv w.heap.size bN w2.heap.size))
  clear hbg hmk hmf hk1 hw1 HN2
  obtain ⟨x, hx⟩ : ∃ x, wfd0 op T sv w.heap.size bN w2.heap.size = x := ⟨_, rfl⟩
  have HX : Hid (x.op = op ∧ x.deep = .map none) := hide (by rw [← hx]; exact ⟨rfl, rfl⟩)
  rw [hx] at HZ0 hr2 ⊢
  generalize begW w2 x = w3 at HZ0 hr2 ⊢
  generalize w2.heap.size + 1 + 1 + 1 = P at HZ0 ⊢
  clear hx
  go_upto_region 5 with (first
    | (go_at_call 31; refine hr2.mono ?_; rintro e w4 ⟨br, rfl, hsR, hk4, hbr⟩; have HF4 := hide (Fr.nextK skN HZ0.out hk4 hbr hsR); clear hr2 hsR hk4 hbr HZ0))
  have HF5 : Hid (Fr w (fun _ => False) T sv GN P x s09 br [] w4) := hide HF4.out
  clear HRO HB HF4
  go_wp2
  go_loopw [9, 26] (fun z y wr => ∃ (k b : Nat), k ≤ 6 ∧ y = .int .i64 k ∧ z = .map (some b) ∧ Hid (Fr w (fun _ => False) T sv GN P x s09 b [] wr)) (fun z y wr => 6 - (intOf y).toNat)
  case atStart => exact ⟨0, br, by omega, rfl, rfl, HF5⟩
  case round =>
    clear HF5
    obtain ⟨k, b, hk, rfl, rfl, HFR⟩ := hrel
    obtain ⟨wb, ub, hz, hsb, hub⟩ := HFR.out
    have HZ := hide hz
    clear hz hsb hub
    by_cases hlt : k < 6
    · have hat := atrees_nil9 P b wr HFR.out.is
      go_upto_region 10 with (go_at_call 32; refine hat.mono ?_; rintro e w5 ⟨rfl, hk5⟩; have H5 := hide (HZ.out.keptK skN hk5); have HI5 := hide (HFR.out.is.kept hk5 (by simp)); clear hat hk5)
      have hnx := znext_ok H5.out b [] HI5.out
      go_wp2_with (go_at_call 33; refine hnx.mono ?_; rintro e w6 ⟨b', K', rfl, g1, g2, g3, g4⟩; have H6 := hide (And.intro (Fr.nextK skN H5.out g3 g4 g1) g2); clear hnx g1 g2 g3 g4)
      go_roundw
      case rel =>
        refine ⟨k + 1, b', by omega, by go_num, rfl, hide ?_⟩
        have e0 : K' = [] := List.eq_nil_iff_forall_not_mem.2 (fun q hq => by
          obtain ⟨i, hi, _⟩ := (H6.out.2 q).1 hq
          cases hi)
        rw [← e0]
        exact H6.out.1
      case measure => simp [intOf]; omega
    · have c6 := HZ.out.cell6
      have f6 : wr.frozen? ⟨P, 6, none⟩ = false := by obtain ⟨F, V, o9, h1, _⟩ := HZ.out; exact frozen_of_row _ _ _ _ _ h1.wk.row
      rw [HX.out.2] at c6
      obtain ⟨wb6, ub6, hz6, hsb6, hub6⟩ := Fr.deepenK skN HFR.out
      have HB6 := hide (And.intro hsb6 hub6)
      have HZ6 := hide hz6
      obtain ⟨F, V, o9, h1, _⟩ := hz6
      have c3 := h1.wk.cell 3
      have hao := aothers_nil9 P x.bN _ c3 h1.wk.n
      clear hsb6 hub6 HZ HFR h1 c3
      go_wp2_with (go_at_call 34; refine hao.mono ?_; rintro e w5 ⟨rfl, hk5⟩; have H5 := hide (HZ6.out.keptK skN hk5); clear hao hk5)
      go_ret2
      exact .inr ⟨P, { x with deep := .map (some b) }, b, [], rfl, rfl, HX.out.1, rfl, rfl, wb6, ub6, H5.out, HB6.out.1, HB6.out.2⟩

/-- Need of any source for no results. -/
theorem need_none9 (T : TypeId) (sv : Value) (c : Nat) (w : World) (gl : GlE w) (tabs : Tabs w) :
    Calls Tryz.prog 9 #[.iface T sv, .slice none 0 c] w fun e w' => ∃ ao d, e = .returned (.tuple #[.slice ao 0 d, .nilIface]) ∧ Kept [] w w' := by
  refine (need_of (f := fun _ => .lack) (fn := 0) (rv := sv) (follow_none9 T sv opNeed c w gl tabs) [] (fun q hq => by cases hq) ⟨fun q hq => (by cases hq), fun q hq => (by cases hq)⟩ (fun q hq => by cases hq) (by simp)).mono ?_
  intro e w' h
  have hp : picks s09.B [] s09.L = none := rfl
  rcases h with ⟨i, eb, ev, P, x, wb, ub, h1, _⟩ | ⟨cd, i, eb, w1, P, x, wb, ub, h1, h2, _⟩ | ⟨v, w1, P, x, wb, ub, h1, h2, rfl, h4, h5, h6, h7⟩
  · cases h1
  · exact absurd (h2.symm.trans hp) (by simp)
  · obtain ⟨ao, d, e, _⟩ := own_shape h4.1
    refine ⟨ao, d, by rw [e]; rfl, ?_⟩
    obtain ⟨F, V, o, g, _⟩ := h7
    have k := g.kp.trans (Kp.ofKept (o := fun _ => False) h6 (by simp)) (fun _ h => h.elim)
    exact ⟨k.os, k.tape, k.output, k.size, fun i hi _ => k.block i hi (fun h => h)⟩
end Go.Proofs.YtngaimahhgmciabGreatDoor
