/-
  Contract: walk.ask. (Written by tools/k9h.py.)
-/
import Derived.Test.YtngaimahhgmciabGreatDoorK9xv
namespace Go.Proofs.YtngaimahhgmciabGreatDoor
open Go.RowKit Go.Lib Go.Sort
set_option linter.unusedVariables false
set_option linter.unusedSimpArgs false

section
variable {w0 : World} {o0 : Nat → Prop} {wb : World} {ub : Nat → Prop} {T : TypeId} {sv : Value} {fn : Nat} {rv : Value} {f : List UInt8 → An} {Er : List UInt8 → World → Value → Prop} {G : List (List UInt8) → (Nat → Prop) → World → Prop} {w w' : World} {P : Nat} {x : Wfd} {ord A N L B : List (List UInt8)} {F : List (List UInt8 × List (List UInt8))} {V : List Value} {o : Nat → Prop}

theorem Wx.kept (S : Src T sv fn rv f Er G) (h : Wx w0 o0 wb ub T sv G w P x ord A N L B F V o) (hk : Kept [] w w') : Wx w0 o0 wb ub T sv G w' P x ord A N L B F V o :=
  ⟨h.wk.kept hk, S.keep h.src (Kp.ofKept hk (by simp)), h.isrc, h.offP, h.offm, h.offr, h.offg, h.o0r, h.kp.trans (Kp.ofKept (o := fun _ => False) hk (by simp)) (fun _ h => h.elim), h.kb.trans (Kp.ofKept (o := fun _ => False) hk (by simp)) (fun _ h => h.elim), h.ubr, hk.cellOf h.gl (by simp), h.tabs.kept hk (by simp), h.top⟩
theorem Wx.one (S : Src T sv fn rv f Er G) (h : Wx w0 o0 wb ub T sv G w P x ord A N L B F V o) {g : Nat} (hg : g ∈ x.maps) (hk : Kept [g] w w') {A' N' L' B' : List (List UInt8)} (hw : Wk w0 w' P x A' N' L' B' F V) : Wx w0 o0 wb ub T sv G w' P x ord A' N' L' B' F V o := by
  have hlo := h.wk.lo.2 g hg
  have htp := h.top
  exact ⟨hw, S.keep h.src (Kp.ofKept hk (fun b hb _ => by simp at hb; subst hb; exact ⟨h.offm b hg, Nat.le_trans htp hlo⟩)), h.isrc, h.offP, h.offm, h.offr, h.offg, h.o0r, h.kp.trans (Kp.ofKept (o := fun b => b = g) hk (by simp)) (fun i e hi => by omega), h.kb.trans (Kp.ofKept (o := fun b => b = g) hk (by simp)) (fun i e hi => by have e : i = g := e; subst e; rcases h.ubr i (.inr (.inl hg)) with h1 | h1; exact h1; omega), h.ubr, hk.cellOf h.gl (by simp; omega), h.tabs.kept hk (by simp; omega), h.top⟩
theorem Wx.got (S : Src T sv fn rv f Er G) (h : Wx w0 o0 wb ub T sv G w P x ord A N L B F V o) {i : List UInt8} {o' : Nat → Prop} (hG : G (ord ++ [i]) o' w') (ho : ∀ b, o' b → o b ∨ w.heap.size ≤ b) (hk : Kp o w w') : Wx w0 o0 wb ub T sv G w' P x (ord ++ [i]) A N L B F V o' := by
  have hP := h.wk.ltP
  have hm : ∀ g ∈ x.maps, g < w.heap.size := fun g hg => by obtain ⟨es, c, e⟩ := h.wk.map_at hg; exact (Array.getElem?_eq_some_iff.1 e).1
  have hr : ∀ j, j < F.length → ∀ g, (V.getD j unitv).ownBlock = some g → g < w.heap.size := fun j hj g hg => by
    rcases (h.wk.rows j hj).1.2 with ⟨e, _⟩ | ⟨q, cap, cur, e, _, hh, _⟩
    · rw [e] at hg; cases hg
    · rw [e] at hg
      simp only [Value.ownBlock, Option.some.injEq] at hg
      subst hg
      exact (Array.getElem?_eq_some_iff.1 hh).1
  have hs := h.kp.size
  have htp := h.top
  have no : ∀ b, b < w.heap.size → ¬ o b → ¬ o' b := fun b hb hn h' => by rcases ho b h' with h1 | h1; exact hn h1; omega
  refine ⟨h.wk.keepO hk.block h.offP h.offm h.offr, hG, h.isrc, no P hP h.offP, fun g hg => no g (hm g hg) (h.offm g hg), fun j hj g hg => no g (hr j hj g hg) (h.offr j hj g hg), fun b hb => no b (by omega) (h.offg b hb), fun b hb => ?_, h.kp.trans hk (fun i hi hlt => by rcases h.o0r i hi with h1 | h1; exact h1; omega), h.kb.trans hk (fun i hi hlt => by rcases h.ubr i (.inl hi) with h1 | h1; exact h1; omega), fun b hb => (by
    rcases hb with hb | hb
    · rcases ho b hb with h1 | h1
      · exact h.ubr b (.inl h1)
      · exact .inr (Nat.le_trans h.kb.size h1)
    · exact h.ubr b (.inr hb)), hk.cell h.gl (h.offg _ (show 0 < 4 by decide)), ?_, h.top⟩
  · rcases ho b hb with h1 | h1
    · exact h.o0r b h1
    · exact .inr (by omega)
  · exact h.tabs.of (fun p hp => by rw [World.cell?_of_block (w := w) (hk.block p.block (by have := h.tabs.big; omega) (h.offg _ hp))])
end

theorem ids_one {w : World} {g : Nat} {i : List UInt8} (hi : i.length = 32) (h : w.heap[g]? = some (.cells (bys i).toArray 36 (0, 0))) : Ids w (some ⟨g, 0, none⟩) [i] := by
  refine ⟨fun k hk => ⟨g, 0, rfl, ?_⟩, by simpa using hi⟩
  obtain rfl : k = 0 := by simpa using hk
  exact row_rangeK h

/-- What the question for an id reads. -/
structure Rq (P bx : Nat) (T : TypeId) (sv : Value) (i : List UInt8) (w : World) : Prop where
  src : w.cell? ⟨P, 1, none⟩ = some (.iface T sv)
  id : w.rangeAt bx 0 (bys i)

set_option maxHeartbeats 3200000 in
set_option maxRecDepth 100000 in
theorem ask_lack {w0 : World} {o0 : Nat → Prop} {wb : World} {ub : Nat → Prop} {T : TypeId} {sv : Value} {fn : Nat} {rv : Value} {f : List UInt8 → An} {Er : List UInt8 → World → Value → Prop} {G : List (List UInt8) → (Nat → Prop) → World → Prop} {w : World} {P : Nat} {x : Wfd} {ord A N L B : List (List UInt8)} {F : List (List UInt8 × List (List UInt8))} {V : List Value} {o : Nat → Prop} (S : Src T sv fn rv f Er G) (h : Wx w0 o0 wb ub T sv G w P x ord A N L B F V o) (i : List UInt8) (hi : i.length = 32) (hf : f i = .lack) (hol : ord.length ≤ 4398046511104) :
    Calls Tryz.prog 46 #[.pointer (some ⟨P, 0, none⟩), .agg (bys i).toArray] w fun e w' => ∃ o', e = .returned (.tuple #[.slice none 0 0, .bool false, .nilIface]) ∧ Wx w0 o0 wb ub T sv G w' P x (ord ++ [i]) (insI A i) N (insI L i) B F V o' := by
  obtain ⟨w1, hw1⟩ : ∃ w1, w1 = w.alloc (.cells (bys i).toArray 36) := ⟨_, rfl⟩
  have hk1 : Kept [] w w1 := by rw [hw1]; exact (Kept.refl [] w).alloc _
  have hrx : w1.rangeAt w.heap.size 0 (bys i) := by rw [hw1]; exact row_rangeK (new_atK _ _)
  have hrow1 : w1.heap[w.heap.size]? = some (.cells (bys i).toArray 36 (0, 0)) := by rw [hw1]; exact new_atK _ _
  have h1 := h.kept S hk1
  have hil := idl i hi
  have m1 := S.meth
  have m2 := S.nila
  have m3 := S.enter
  have hPb : P ≠ x.bA := h.wk.neP (by simp [Wfd.maps])
  have hbb : w.heap.size ≠ x.bA := fun e => by obtain ⟨es, c, e2⟩ := h.wk.map_at (g := x.bA) (by simp [Wfd.maps]); have := (Array.getElem?_eq_some_iff.1 e2).1; omega
  have hnb : ¬ o w.heap.size := fun hb => by have := S.lim h.src _ hb; omega
  clear h hk1
  go_enter Tryz.func46, Tryz.ntmps46
  go_upto_region 1 with (fail)
  rw [← hw1]
  clear hw1
  generalize w.heap.size = bx at *
  have cF : w1.cell? ⟨P, 2, none⟩ = some (.map (some x.bA)) := h1.wk.cell 2
  have HSKhv : Hid (Kept [] w1 w1.drew) := hide ((Kept.refl [] w1).drew)
  refine wp_region_held_drew (S := fun w' => Kept [x.bA] w1 w') (by kernel_rfl) ((Kept.refl [x.bA] w1).drew) (fun hv0 => ?_)
  generalize World.drew w1 = v0 at hv0 HSKhv ⊢
  refine wpAnyH_take (i := 0) (v := .pointer (some ⟨P, 0, none⟩)) rfl (by kernel_rfl) (by kernel_rfl) (by kernel_rfl) (fun _ _ _ h => h) (Or.inl ⟨by rfl, fun w hSw => by go_simp⟩) hv0 ?_
  try simp only [List.getElem_toArray, List.getElem_cons_zero, List.getElem_cons_succ, Act.put, List.setIfInBounds_toArray, List.set_cons_zero, List.set_cons_succ]
  refine wpAnyH_take (i := 1) (v := .pointer (some ⟨P, 0, none⟩)) rfl (by kernel_rfl) (by kernel_rfl) (by kernel_rfl) (fun _ _ _ h => h) (Or.inl ⟨by rfl, fun w hSw => by go_simp⟩) hv0 ?_
  try simp only [List.getElem_toArray, List.getElem_cons_zero, List.getElem_cons_succ, Act.put, List.setIfInBounds_toArray, List.set_cons_zero, List.set_cons_succ]
  refine wpAnyH_take (i := 2) (v := .pointer (some ⟨P, 2, none⟩)) rfl (by kernel_rfl) (by kernel_rfl) (by kernel_rfl) (fun _ _ _ h => h) (Or.inl ⟨by rfl, fun w hSw => by go_simp⟩) hv0 ?_
  try simp only [List.getElem_toArray, List.getElem_cons_zero, List.getElem_cons_succ, Act.put, List.setIfInBounds_toArray, List.set_cons_zero, List.set_cons_succ]
  refine wpAnyH_take (i := 3) (v := .map (some x.bA)) rfl (by kernel_rfl) (by kernel_rfl) (by kernel_rfl) (fun _ _ _ h => h) (Or.inl ⟨by rfl, fun w hSw => by have c0 := Kept.cellOf hSw cF (by simpa using hPb); go_simp⟩) hv0 ?_
  try simp only [List.getElem_toArray, List.getElem_cons_zero, List.getElem_cons_succ, Act.put, List.setIfInBounds_toArray, List.set_cons_zero, List.set_cons_succ]
  refine wpAnyH_take (i := 4) (v := .agg (bys i).toArray) rfl (by kernel_rfl) (by kernel_rfl) (by kernel_rfl) (fun _ _ _ h => h) (yieldsIf_load_mid (by rfl) 36 (.tmp 3) rfl bx 0 rfl (bys i) _ (fun w hSw j v hv => Kept.cellOf hSw (hrx j v hv) (by simpa using hbb)) Tryz.underlying36 rfl hil) hv0 ?_
  try simp only [List.getElem_toArray, List.getElem_cons_zero, List.getElem_cons_succ, Act.put, List.setIfInBounds_toArray, List.set_cons_zero, List.set_cons_succ]
  refine wpAnyH_ready (rs := [5]) (by kernel_rfl) (by simp) (AllReadyH.cons (i := 5) rfl (fun K hK => ?_) AllReadyH.nil)
  rw [if_pos (by rfl)]
  refine wp_buildI (.tmp 13) rfl i rfl hi ?_
  refine hK.out _ _ (hv0.alloc _) (fun hv1 => ?_)
  clear hK K
  try simp only [List.getElem_toArray, List.getElem_cons_zero, List.getElem_cons_succ, Act.put, List.setIfInBounds_toArray, List.set_cons_zero, List.set_cons_succ]
  have halhv : (v0.alloc (.cells (bys i).toArray 36)).heap[v0.heap.size]? = some (.cells (bys i).toArray 36 (0, 0)) := new_atK _ _
  have HShv : Hid (Is (v0.alloc (.cells (bys i).toArray 36)) x.bA A) := hide (Is.kept h1.wk.a (HSKhv.out.alloc _) (by simp))
  refine wpAnyH_ready (rs := [6]) (by kernel_rfl) (by simp) (AllReadyH.cons (i := 6) rfl (fun K hK => ?_) AllReadyH.nil)
  rw [if_pos (by rfl)]
  go_simp
  refine (sadd_ok x.bA (some ⟨v0.heap.size, 0, none⟩) 1 1 A [i] _ HShv.out rfl (ids_one hi halhv) (by omega)).mono ?_
  rintro e v2 ⟨rfl, hs2hv, hk2hv⟩
  refine hK.out _ _ (hv1.trans hk2hv (fun j hj _ => hj)) (fun hv2 => ?_)
  clear hK K
  try simp only [List.getElem_toArray, List.getElem_cons_zero, List.getElem_cons_succ, Act.put, List.setIfInBounds_toArray, List.set_cons_zero, List.set_cons_succ]
  refine wpAnyH_done (by kernel_rfl) ?_ _
  have HX2 : Hid (Wx w0 o0 wb ub T sv G v2 P x ord (insI A i) N L B F V o) := hide (h1.one S (by simp [Wfd.maps]) hv2 (h1.wk.setA hv2 hs2hv))
  have HR2 : Hid (v2.rangeAt bx 0 (bys i)) := hide (fun j v hv => hv2.cellOf (hrx j v hv) (by simpa using hbb))
  clear h1 hrx hrow1 cF hs2hv hk2hv HShv HSKhv halhv hv0 hv1 hv2 hPb hbb
  go_upto_region 2 with (fail)
  have hrx := HR2.out
  have cS : v2.cell? ⟨P, 1, none⟩ = some (.iface T sv) := (HX2.out.wk.cell 1).trans (by simp [Wfd.cells, HX2.out.isrc])
  have HSKu : Hid (Kept [] v2 v2.drew) := hide ((Kept.refl [] v2).drew)
  refine wp_region_held_drew (S := (Rq P bx T sv i)) (by kernel_rfl) ⟨(Kept.refl [] v2).drew.cellOf cS (by simp), fun j v hv => (Kept.refl [] v2).drew.cellOf (hrx j v hv) (by simp)⟩ (fun hu0 => ?_)
  generalize World.drew v2 = u0 at hu0 HSKu ⊢
  refine wpAnyH_take (i := 0) (v := .pointer (some ⟨P, 0, none⟩)) rfl (by kernel_rfl) (by kernel_rfl) (by kernel_rfl) (fun _ _ _ h => h) (Or.inl ⟨by rfl, fun w hSw => by go_simp⟩) hu0 ?_
  try simp only [List.getElem_toArray, List.getElem_cons_zero, List.getElem_cons_succ, Act.put, List.setIfInBounds_toArray, List.set_cons_zero, List.set_cons_succ]
  refine wpAnyH_take (i := 1) (v := .pointer (some ⟨P, 0, none⟩)) rfl (by kernel_rfl) (by kernel_rfl) (by kernel_rfl) (fun _ _ _ h => h) (Or.inl ⟨by rfl, fun w hSw => by go_simp⟩) hu0 ?_
  try simp only [List.getElem_toArray, List.getElem_cons_zero, List.getElem_cons_succ, Act.put, List.setIfInBounds_toArray, List.set_cons_zero, List.set_cons_succ]
  refine wpAnyH_take (i := 2) (v := .pointer (some ⟨P, 1, none⟩)) rfl (by kernel_rfl) (by kernel_rfl) (by kernel_rfl) (fun _ _ _ h => h) (Or.inl ⟨by rfl, fun w hSw => by go_simp⟩) hu0 ?_
  try simp only [List.getElem_toArray, List.getElem_cons_zero, List.getElem_cons_succ, Act.put, List.setIfInBounds_toArray, List.set_cons_zero, List.set_cons_succ]
  refine wpAnyH_take (i := 3) (v := .iface T sv) rfl (by kernel_rfl) (by kernel_rfl) (by kernel_rfl) (fun _ _ _ h => h) (Or.inl ⟨by rfl, fun w hSw => by have c0 := hSw.src; go_simp⟩) hu0 ?_
  try simp only [List.getElem_toArray, List.getElem_cons_zero, List.getElem_cons_succ, Act.put, List.setIfInBounds_toArray, List.set_cons_zero, List.set_cons_succ]
  refine wpAnyH_take (i := 4) (v := .agg (bys i).toArray) rfl (by kernel_rfl) (by kernel_rfl) (by kernel_rfl) (fun _ _ _ h => h) (yieldsIf_load_mid (by rfl) 36 (.tmp 3) rfl bx 0 rfl (bys i) _ (fun w hSw => hSw.id) Tryz.underlying36 rfl hil) hu0 ?_
  try simp only [List.getElem_toArray, List.getElem_cons_zero, List.getElem_cons_succ, Act.put, List.setIfInBounds_toArray, List.set_cons_zero, List.set_cons_succ]
  have hx3 := HX2.out.kept S HSKu.out
  have hget := S.get ord o u0 i hi hol hx3.gl hx3.src
  refine wpAnyH_ready (rs := [5]) (by kernel_rfl) (by simp) (AllReadyH.cons (i := 5) rfl (fun K hK => ?_) AllReadyH.nil)
  rw [if_pos (by rfl)]
  go_simp
  refine hget.mono ?_
  rintro e u1 ⟨v, ev, o', rfl, hG, ho, hkp, hans⟩
  rw [hf] at hans
  have hu1' : Rq P bx T sv i u1 := ⟨hkp.cell hu0.src hx3.offP, fun j v hv => hkp.cell (hu0.id j v hv) hnb⟩
  have HX3 := hide (hx3.got S hG ho hkp)
  have HR3 : Hid (u1.rangeAt bx 0 (bys i)) := hide hu1'.id
  have HBX : Hid (bx < u1.heap.size) := hide (World.block_lt_of_cell? _ _ (hu1'.id 0 _ (bys_at (by omega))))
  obtain ⟨⟨T', u', rfl⟩, hte⟩ := hans
  refine hK.out _ _ hu1' (fun hu1 => ?_)
  clear hK K hget hG ho hkp hx3 HX2 HR2 hrx cS hu0 hu1' hnb
  try simp only [List.getElem_toArray, List.getElem_cons_zero, List.getElem_cons_succ, Act.put, List.setIfInBounds_toArray, List.set_cons_zero, List.set_cons_succ]
  refine wpAnyH_take (i := 6) (v := .tuple #[v, .iface T' u']) rfl (by kernel_rfl) (by kernel_rfl) (by kernel_rfl) (fun _ _ _ h => h) (Or.inl ⟨by rfl, fun w hSw => by go_simp⟩) hu1 ?_
  try simp only [List.getElem_toArray, List.getElem_cons_zero, List.getElem_cons_succ, Act.put, List.setIfInBounds_toArray, List.set_cons_zero, List.set_cons_succ]
  refine wpAnyH_take (i := 7) (v := v) rfl (by kernel_rfl) (by kernel_rfl) (by kernel_rfl) (fun _ _ _ h => h) (Or.inl ⟨by rfl, fun w hSw => by go_simp⟩) hu1 ?_
  try simp only [List.getElem_toArray, List.getElem_cons_zero, List.getElem_cons_succ, Act.put, List.setIfInBounds_toArray, List.set_cons_zero, List.set_cons_succ]
  refine wpAnyH_take (i := 8) (v := .iface T' u') rfl (by kernel_rfl) (by kernel_rfl) (by kernel_rfl) (fun _ _ _ h => h) (Or.inl ⟨by rfl, fun w hSw => by go_simp⟩) hu1 ?_
  try simp only [List.getElem_toArray, List.getElem_cons_zero, List.getElem_cons_succ, Act.put, List.setIfInBounds_toArray, List.set_cons_zero, List.set_cons_succ]
  refine wpAnyH_take (i := 9) (v := v) rfl (by kernel_rfl) (by kernel_rfl) (by kernel_rfl) (fun _ _ _ h => h) (Or.inl ⟨by rfl, fun w hSw => by go_simp⟩) hu1 ?_
  try simp only [List.getElem_toArray, List.getElem_cons_zero, List.getElem_cons_succ, Act.put, List.setIfInBounds_toArray, List.set_cons_zero, List.set_cons_succ]
  refine wpAnyH_take (i := 10) (v := .iface T' u') rfl (by kernel_rfl) (by kernel_rfl) (by kernel_rfl) (fun _ _ _ h => h) (Or.inl ⟨by rfl, fun w hSw => by go_simp⟩) hu1 ?_
  try simp only [List.getElem_toArray, List.getElem_cons_zero, List.getElem_cons_succ, Act.put, List.setIfInBounds_toArray, List.set_cons_zero, List.set_cons_succ]
  refine wpAnyH_done (by kernel_rfl) ?_ _
  clear hu1
  go_upto_region 7 with (go_at_call 54; refine hte.mono ?_; rintro e y1 ⟨rfl, hky⟩; have HX4 := hide (HX3.out.kept S hky); have HR4 : Hid (y1.rangeAt bx 0 (bys i)) := hide (fun j v hv => hky.cellOf (HR3.out j v hv) (by simp)); have HBX4 : Hid (bx < y1.heap.size) := hide (Nat.lt_of_lt_of_le HBX.out hky.size); clear hte hky)
  clear HX3 HR3 HBX
  have hrx := HR4.out
  have hPb : P ≠ x.bL := HX4.out.wk.neP (by simp [Wfd.maps])
  have hbb : bx ≠ x.bL := fun e => by
    obtain ⟨es, c, e2⟩ := HX4.out.wk.map_at (g := x.bL) (by simp [Wfd.maps])
    have := hrx 0 _ (bys_at (by omega))
    rw [e] at this
    simp [World.cell?, e2] at this
  have cF : y1.cell? ⟨P, 4, none⟩ = some (.map (some x.bL)) := HX4.out.wk.cell 4
  have HSKhz : Hid (Kept [] y1 y1.drew) := hide ((Kept.refl [] y1).drew)
  refine wp_region_held_drew (S := fun w' => Kept [x.bL] y1 w') (by kernel_rfl) ((Kept.refl [x.bL] y1).drew) (fun hz0 => ?_)
  generalize World.drew y1 = z0 at hz0 HSKhz ⊢
  refine wpAnyH_take (i := 0) (v := .pointer (some ⟨P, 0, none⟩)) rfl (by kernel_rfl) (by kernel_rfl) (by kernel_rfl) (fun _ _ _ h => h) (Or.inl ⟨by rfl, fun w hSw => by go_simp⟩) hz0 ?_
  try simp only [List.getElem_toArray, List.getElem_cons_zero, List.getElem_cons_succ, Act.put, List.setIfInBounds_toArray, List.set_cons_zero, List.set_cons_succ]
  refine wpAnyH_take (i := 1) (v := .pointer (some ⟨P, 0, none⟩)) rfl (by kernel_rfl) (by kernel_rfl) (by kernel_rfl) (fun _ _ _ h => h) (Or.inl ⟨by rfl, fun w hSw => by go_simp⟩) hz0 ?_
  try simp only [List.getElem_toArray, List.getElem_cons_zero, List.getElem_cons_succ, Act.put, List.setIfInBounds_toArray, List.set_cons_zero, List.set_cons_succ]
  refine wpAnyH_take (i := 2) (v := .pointer (some ⟨P, 4, none⟩)) rfl (by kernel_rfl) (by kernel_rfl) (by kernel_rfl) (fun _ _ _ h => h) (Or.inl ⟨by rfl, fun w hSw => by go_simp⟩) hz0 ?_
  try simp only [List.getElem_toArray, List.getElem_cons_zero, List.getElem_cons_succ, Act.put, List.setIfInBounds_toArray, List.set_cons_zero, List.set_cons_succ]
  refine wpAnyH_take (i := 3) (v := .map (some x.bL)) rfl (by kernel_rfl) (by kernel_rfl) (by kernel_rfl) (fun _ _ _ h => h) (Or.inl ⟨by rfl, fun w hSw => by have c0 := Kept.cellOf hSw cF (by simpa using hPb); go_simp⟩) hz0 ?_
  try simp only [List.getElem_toArray, List.getElem_cons_zero, List.getElem_cons_succ, Act.put, List.setIfInBounds_toArray, List.set_cons_zero, List.set_cons_succ]
  refine wpAnyH_take (i := 4) (v := .agg (bys i).toArray) rfl (by kernel_rfl) (by kernel_rfl) (by kernel_rfl) (fun _ _ _ h => h) (yieldsIf_load_mid (by rfl) 36 (.tmp 3) rfl bx 0 rfl (bys i) _ (fun w hSw j v hv => Kept.cellOf hSw (hrx j v hv) (by simpa using hbb)) Tryz.underlying36 rfl hil) hz0 ?_
  try simp only [List.getElem_toArray, List.getElem_cons_zero, List.getElem_cons_succ, Act.put, List.setIfInBounds_toArray, List.set_cons_zero, List.set_cons_succ]
  refine wpAnyH_ready (rs := [5]) (by kernel_rfl) (by simp) (AllReadyH.cons (i := 5) rfl (fun K hK => ?_) AllReadyH.nil)
  rw [if_pos (by rfl)]
  refine wp_buildI (.tmp 42) rfl i rfl hi ?_
  refine hK.out _ _ (hz0.alloc _) (fun hz1 => ?_)
  clear hK K
  try simp only [List.getElem_toArray, List.getElem_cons_zero, List.getElem_cons_succ, Act.put, List.setIfInBounds_toArray, List.set_cons_zero, List.set_cons_succ]
  have halhz : (z0.alloc (.cells (bys i).toArray 36)).heap[z0.heap.size]? = some (.cells (bys i).toArray 36 (0, 0)) := new_atK _ _
  have HShz : Hid (Is (z0.alloc (.cells (bys i).toArray 36)) x.bL L) := hide (Is.kept HX4.out.wk.l (HSKhz.out.alloc _) (by simp))
  refine wpAnyH_ready (rs := [6]) (by kernel_rfl) (by simp) (AllReadyH.cons (i := 6) rfl (fun K hK => ?_) AllReadyH.nil)
  rw [if_pos (by rfl)]
  go_simp
  refine (sadd_ok x.bL (some ⟨z0.heap.size, 0, none⟩) 1 1 L [i] _ HShz.out rfl (ids_one hi halhz) (by omega)).mono ?_
  rintro e z2 ⟨rfl, hs2hz, hk2hz⟩
  refine hK.out _ _ (hz1.trans hk2hz (fun j hj _ => hj)) (fun hz2 => ?_)
  clear hK K
  try simp only [List.getElem_toArray, List.getElem_cons_zero, List.getElem_cons_succ, Act.put, List.setIfInBounds_toArray, List.set_cons_zero, List.set_cons_succ]
  refine wpAnyH_done (by kernel_rfl) ?_ _
  have HX5 := hide (HX4.out.one S (g := x.bL) (by simp [Wfd.maps]) hz2 (HX4.out.wk.setL hz2 hs2hz))
  clear HX4 HR4 HBX4 hrx hPb hbb cF hs2hz hk2hz HShz HSKhz halhz hz0 hz1 hz2
  go_wp2
  go_ret3
  exact ⟨_, rfl, HX5.out⟩

set_option maxHeartbeats 3200000 in
set_option maxRecDepth 100000 in
theorem ask_fail {w0 : World} {o0 : Nat → Prop} {wb : World} {ub : Nat → Prop} {T : TypeId} {sv : Value} {fn : Nat} {rv : Value} {f : List UInt8 → An} {Er : List UInt8 → World → Value → Prop} {G : List (List UInt8) → (Nat → Prop) → World → Prop} {w : World} {P : Nat} {x : Wfd} {ord A N L B : List (List UInt8)} {F : List (List UInt8 × List (List UInt8))} {V : List Value} {o : Nat → Prop} (S : Src T sv fn rv f Er G) (h : Wx w0 o0 wb ub T sv G w P x ord A N L B F V o) (i : List UInt8) (hi : i.length = 32) (hf : f i = .fail) (hol : ord.length ≤ 4398046511104) :
    Calls Tryz.prog 46 #[.pointer (some ⟨P, 0, none⟩), .agg (bys i).toArray] w fun e w' => ∃ eb ev o', e = .returned (.tuple #[.slice none 0 0, .bool false, faultV eb]) ∧ FltAt w' eb x.op i ev ∧ Er i w' ev ∧ Wx w0 o0 wb ub T sv G w' P x (ord ++ [i]) (insI A i) N L B F V o' := by
  obtain ⟨w1, hw1⟩ : ∃ w1, w1 = w.alloc (.cells (bys i).toArray 36) := ⟨_, rfl⟩
  have hk1 : Kept [] w w1 := by rw [hw1]; exact (Kept.refl [] w).alloc _
  have hrx : w1.rangeAt w.heap.size 0 (bys i) := by rw [hw1]; exact row_rangeK (new_atK _ _)
  have hrow1 : w1.heap[w.heap.size]? = some (.cells (bys i).toArray 36 (0, 0)) := by rw [hw1]; exact new_atK _ _
  have h1 := h.kept S hk1
  have hil := idl i hi
  have m1 := S.meth
  have m2 := S.nila
  have m3 := S.enter
  have hPb : P ≠ x.bA := h.wk.neP (by simp [Wfd.maps])
  have hbb : w.heap.size ≠ x.bA := fun e => by obtain ⟨es, c, e2⟩ := h.wk.map_at (g := x.bA) (by simp [Wfd.maps]); have := (Array.getElem?_eq_some_iff.1 e2).1; omega
  have hnb : ¬ o w.heap.size := fun hb => by have := S.lim h.src _ hb; omega
  clear h hk1
  go_enter Tryz.func46, Tryz.ntmps46
  go_upto_region 1 with (fail)
  rw [← hw1]
  clear hw1
  generalize w.heap.size = bx at *
  have cF : w1.cell? ⟨P, 2, none⟩ = some (.map (some x.bA)) := h1.wk.cell 2
  have HSKhv : Hid (Kept [] w1 w1.drew) := hide ((Kept.refl [] w1).drew)
  refine wp_region_held_drew (S := fun w' => Kept [x.bA] w1 w') (by kernel_rfl) ((Kept.refl [x.bA] w1).drew) (fun hv0 => ?_)
  generalize World.drew w1 = v0 at hv0 HSKhv ⊢
  refine wpAnyH_take (i := 0) (v := .pointer (some ⟨P, 0, none⟩)) rfl (by kernel_rfl) (by kernel_rfl) (by kernel_rfl) (fun _ _ _ h => h) (Or.inl ⟨by rfl, fun w hSw => by go_simp⟩) hv0 ?_
  try simp only [List.getElem_toArray, List.getElem_cons_zero, List.getElem_cons_succ, Act.put, List.setIfInBounds_toArray, List.set_cons_zero, List.set_cons_succ]
  refine wpAnyH_take (i := 1) (v := .pointer (some ⟨P, 0, none⟩)) rfl (by kernel_rfl) (by kernel_rfl) (by kernel_rfl) (fun _ _ _ h => h) (Or.inl ⟨by rfl, fun w hSw => by go_simp⟩) hv0 ?_
  try simp only [List.getElem_toArray, List.getElem_cons_zero, List.getElem_cons_succ, Act.put, List.setIfInBounds_toArray, List.set_cons_zero, List.set_cons_succ]
  refine wpAnyH_take (i := 2) (v := .pointer (some ⟨P, 2, none⟩)) rfl (by kernel_rfl) (by kernel_rfl) (by kernel_rfl) (fun _ _ _ h => h) (Or.inl ⟨by rfl, fun w hSw => by go_simp⟩) hv0 ?_
  try simp only [List.getElem_toArray, List.getElem_cons_zero, List.getElem_cons_succ, Act.put, List.setIfInBounds_toArray, List.set_cons_zero, List.set_cons_succ]
  refine wpAnyH_take (i := 3) (v := .map (some x.bA)) rfl (by kernel_rfl) (by kernel_rfl) (by kernel_rfl) (fun _ _ _ h => h) (Or.inl ⟨by rfl, fun w hSw => by have c0 := Kept.cellOf hSw cF (by simpa using hPb); go_simp⟩) hv0 ?_
  try simp only [List.getElem_toArray, List.getElem_cons_zero, List.getElem_cons_succ, Act.put, List.setIfInBounds_toArray, List.set_cons_zero, List.set_cons_succ]
  refine wpAnyH_take (i := 4) (v := .agg (bys i).toArray) rfl (by kernel_rfl) (by kernel_rfl) (by kernel_rfl) (fun _ _ _ h => h) (yieldsIf_load_mid (by rfl) 36 (.tmp 3) rfl bx 0 rfl (bys i) _ (fun w hSw j v hv => Kept.cellOf hSw (hrx j v hv) (by simpa using hbb)) Tryz.underlying36 rfl hil) hv0 ?_
  try simp only [List.getElem_toArray, List.getElem_cons_zero, List.getElem_cons_succ, Act.put, List.setIfInBounds_toArray, List.set_cons_zero, List.set_cons_succ]
  refine wpAnyH_ready (rs := [5]) (by kernel_rfl) (by simp) (AllReadyH.cons (i := 5) rfl (fun K hK => ?_) AllReadyH.nil)
  rw [if_pos (by rfl)]
  refine wp_buildI (.tmp 13) rfl i rfl hi ?_
  refine hK.out _ _ (hv0.alloc _) (fun hv1 => ?_)
  clear hK K
  try simp only [List.getElem_toArray, List.getElem_cons_zero, List.getElem_cons_succ, Act.put, List.setIfInBounds_toArray, List.set_cons_zero, List.set_cons_succ]
  have halhv : (v0.alloc (.cells (bys i).toArray 36)).heap[v0.heap.size]? = some (.cells (bys i).toArray 36 (0, 0)) := new_atK _ _
  have HShv : Hid (Is (v0.alloc (.cells (bys i).toArray 36)) x.bA A) := hide (Is.kept h1.wk.a (HSKhv.out.alloc _) (by simp))
  refine wpAnyH_ready (rs := [6]) (by kernel_rfl) (by simp) (AllReadyH.cons (i := 6) rfl (fun K hK => ?_) AllReadyH.nil)
  rw [if_pos (by rfl)]
  go_simp
  refine (sadd_ok x.bA (some ⟨v0.heap.size, 0, none⟩) 1 1 A [i] _ HShv.out rfl (ids_one hi halhv) (by omega)).mono ?_
  rintro e v2 ⟨rfl, hs2hv, hk2hv⟩
  refine hK.out _ _ (hv1.trans hk2hv (fun j hj _ => hj)) (fun hv2 => ?_)
  clear hK K
  try simp only [List.getElem_toArray, List.getElem_cons_zero, List.getElem_cons_succ, Act.put, List.setIfInBounds_toArray, List.set_cons_zero, List.set_cons_succ]
  refine wpAnyH_done (by kernel_rfl) ?_ _
  have HX2 : Hid (Wx w0 o0 wb ub T sv G v2 P x ord (insI A i) N L B F V o) := hide (h1.one S (by simp [Wfd.maps]) hv2 (h1.wk.setA hv2 hs2hv))
  have HR2 : Hid (v2.rangeAt bx 0 (bys i)) := hide (fun j v hv => hv2.cellOf (hrx j v hv) (by simpa using hbb))
  clear h1 hrx hrow1 cF hs2hv hk2hv HShv HSKhv halhv hv0 hv1 hv2 hPb hbb
  go_upto_region 2 with (fail)
  have hrx := HR2.out
  have cS : v2.cell? ⟨P, 1, none⟩ = some (.iface T sv) := (HX2.out.wk.cell 1).trans (by simp [Wfd.cells, HX2.out.isrc])
  have HSKu : Hid (Kept [] v2 v2.drew) := hide ((Kept.refl [] v2).drew)
  refine wp_region_held_drew (S := (Rq P bx T sv i)) (by kernel_rfl) ⟨(Kept.refl [] v2).drew.cellOf cS (by simp), fun j v hv => (Kept.refl [] v2).drew.cellOf (hrx j v hv) (by simp)⟩ (fun hu0 => ?_)
  generalize World.drew v2 = u0 at hu0 HSKu ⊢
  refine wpAnyH_take (i := 0) (v := .pointer (some ⟨P, 0, none⟩)) rfl (by kernel_rfl) (by kernel_rfl) (by kernel_rfl) (fun _ _ _ h => h) (Or.inl ⟨by rfl, fun w hSw => by go_simp⟩) hu0 ?_
  try simp only [List.getElem_toArray, List.getElem_cons_zero, List.getElem_cons_succ, Act.put, List.setIfInBounds_toArray, List.set_cons_zero, List.set_cons_succ]
  refine wpAnyH_take (i := 1) (v := .pointer (some ⟨P, 0, none⟩)) rfl (by kernel_rfl) (by kernel_rfl) (by kernel_rfl) (fun _ _ _ h => h) (Or.inl ⟨by rfl, fun w hSw => by go_simp⟩) hu0 ?_
  try simp only [List.getElem_toArray, List.getElem_cons_zero, List.getElem_cons_succ, Act.put, List.setIfInBounds_toArray, List.set_cons_zero, List.set_cons_succ]
  refine wpAnyH_take (i := 2) (v := .pointer (some ⟨P, 1, none⟩)) rfl (by kernel_rfl) (by kernel_rfl) (by kernel_rfl) (fun _ _ _ h => h) (Or.inl ⟨by rfl, fun w hSw => by go_simp⟩) hu0 ?_
  try simp only [List.getElem_toArray, List.getElem_cons_zero, List.getElem_cons_succ, Act.put, List.setIfInBounds_toArray, List.set_cons_zero, List.set_cons_succ]
  refine wpAnyH_take (i := 3) (v := .iface T sv) rfl (by kernel_rfl) (by kernel_rfl) (by kernel_rfl) (fun _ _ _ h => h) (Or.inl ⟨by rfl, fun w hSw => by have c0 := hSw.src; go_simp⟩) hu0 ?_
  try simp only [List.getElem_toArray, List.getElem_cons_zero, List.getElem_cons_succ, Act.put, List.setIfInBounds_toArray, List.set_cons_zero, List.set_cons_succ]
  refine wpAnyH_take (i := 4) (v := .agg (bys i).toArray) rfl (by kernel_rfl) (by kernel_rfl) (by kernel_rfl) (fun _ _ _ h => h) (yieldsIf_load_mid (by rfl) 36 (.tmp 3) rfl bx 0 rfl (bys i) _ (fun w hSw => hSw.id) Tryz.underlying36 rfl hil) hu0 ?_
  try simp only [List.getElem_toArray, List.getElem_cons_zero, List.getElem_cons_succ, Act.put, List.setIfInBounds_toArray, List.set_cons_zero, List.set_cons_succ]
  have hx3 := HX2.out.kept S HSKu.out
  have hget := S.get ord o u0 i hi hol hx3.gl hx3.src
  refine wpAnyH_ready (rs := [5]) (by kernel_rfl) (by simp) (AllReadyH.cons (i := 5) rfl (fun K hK => ?_) AllReadyH.nil)
  rw [if_pos (by rfl)]
  go_simp
  refine hget.mono ?_
  rintro e u1 ⟨v, ev, o', rfl, hG, ho, hkp, hans⟩
  rw [hf] at hans
  have hu1' : Rq P bx T sv i u1 := ⟨hkp.cell hu0.src hx3.offP, fun j v hv => hkp.cell (hu0.id j v hv) hnb⟩
  have HX3 := hide (hx3.got S hG ho hkp)
  have HR3 : Hid (u1.rangeAt bx 0 (bys i)) := hide hu1'.id
  have HBX : Hid (bx < u1.heap.size) := hide (World.block_lt_of_cell? _ _ (hu1'.id 0 _ (bys_at (by omega))))
  obtain ⟨⟨T', u', rfl⟩, her, hte⟩ := hans
  have HER := hide her
  clear her
  refine hK.out _ _ hu1' (fun hu1 => ?_)
  clear hK K hget hG ho hkp hx3 HX2 HR2 hrx cS hu0 hu1' hnb
  try simp only [List.getElem_toArray, List.getElem_cons_zero, List.getElem_cons_succ, Act.put, List.setIfInBounds_toArray, List.set_cons_zero, List.set_cons_succ]
  refine wpAnyH_take (i := 6) (v := .tuple #[v, .iface T' u']) rfl (by kernel_rfl) (by kernel_rfl) (by kernel_rfl) (fun _ _ _ h => h) (Or.inl ⟨by rfl, fun w hSw => by go_simp⟩) hu1 ?_
  try simp only [List.getElem_toArray, List.getElem_cons_zero, List.getElem_cons_succ, Act.put, List.setIfInBounds_toArray, List.set_cons_zero, List.set_cons_succ]
  refine wpAnyH_take (i := 7) (v := v) rfl (by kernel_rfl) (by kernel_rfl) (by kernel_rfl) (fun _ _ _ h => h) (Or.inl ⟨by rfl, fun w hSw => by go_simp⟩) hu1 ?_
  try simp only [List.getElem_toArray, List.getElem_cons_zero, List.getElem_cons_succ, Act.put, List.setIfInBounds_toArray, List.set_cons_zero, List.set_cons_succ]
  refine wpAnyH_take (i := 8) (v := .iface T' u') rfl (by kernel_rfl) (by kernel_rfl) (by kernel_rfl) (fun _ _ _ h => h) (Or.inl ⟨by rfl, fun w hSw => by go_simp⟩) hu1 ?_
  try simp only [List.getElem_toArray, List.getElem_cons_zero, List.getElem_cons_succ, Act.put, List.setIfInBounds_toArray, List.set_cons_zero, List.set_cons_succ]
  refine wpAnyH_take (i := 9) (v := v) rfl (by kernel_rfl) (by kernel_rfl) (by kernel_rfl) (fun _ _ _ h => h) (Or.inl ⟨by rfl, fun w hSw => by go_simp⟩) hu1 ?_
  try simp only [List.getElem_toArray, List.getElem_cons_zero, List.getElem_cons_succ, Act.put, List.setIfInBounds_toArray, List.set_cons_zero, List.set_cons_succ]
  refine wpAnyH_take (i := 10) (v := .iface T' u') rfl (by kernel_rfl) (by kernel_rfl) (by kernel_rfl) (fun _ _ _ h => h) (Or.inl ⟨by rfl, fun w hSw => by go_simp⟩) hu1 ?_
  try simp only [List.getElem_toArray, List.getElem_cons_zero, List.getElem_cons_succ, Act.put, List.setIfInBounds_toArray, List.set_cons_zero, List.set_cons_succ]
  refine wpAnyH_done (by kernel_rfl) ?_ _
  clear hu1
  go_upto_region 6 with (go_at_call 54; refine hte.mono ?_; rintro e y1 ⟨rfl, hky⟩; have HX4 := hide (HX3.out.kept S hky); have HER4 := hide (S.erk HER.out hky); have HR4 : Hid (y1.rangeAt bx 0 (bys i)) := hide (fun j v hv => hky.cellOf (HR3.out j v hv) (by simp)); clear hte hky)
  clear HX3 HR3 HBX HER
  have hrx := HR4.out
  have cF : y1.cell? ⟨P, 0, none⟩ = some (.string ⟨x.op.toArray⟩) := HX4.out.wk.cell 0
  have HSKy : Hid (Kept [] y1 y1.drew) := hide ((Kept.refl [] y1).drew)
  refine wp_region_held_drew (S := fun w' => Kept [] y1 w') (by kernel_rfl) ((Kept.refl [] y1).drew) (fun hz0 => ?_)
  generalize World.drew y1 = z0 at hz0 HSKy ⊢
  refine wpAnyH_take (i := 0) (v := .pointer (some ⟨P, 0, none⟩)) rfl (by kernel_rfl) (by kernel_rfl) (by kernel_rfl) (fun _ _ _ h => h) (Or.inl ⟨by rfl, fun w hSw => by go_simp⟩) hz0 ?_
  try simp only [List.getElem_toArray, List.getElem_cons_zero, List.getElem_cons_succ, Act.put, List.setIfInBounds_toArray, List.set_cons_zero, List.set_cons_succ]
  refine wpAnyH_take (i := 1) (v := .pointer (some ⟨P, 0, none⟩)) rfl (by kernel_rfl) (by kernel_rfl) (by kernel_rfl) (fun _ _ _ h => h) (Or.inl ⟨by rfl, fun w hSw => by go_simp⟩) hz0 ?_
  try simp only [List.getElem_toArray, List.getElem_cons_zero, List.getElem_cons_succ, Act.put, List.setIfInBounds_toArray, List.set_cons_zero, List.set_cons_succ]
  refine wpAnyH_take (i := 2) (v := .pointer (some ⟨P, 0, none⟩)) rfl (by kernel_rfl) (by kernel_rfl) (by kernel_rfl) (fun _ _ _ h => h) (Or.inl ⟨by rfl, fun w hSw => by go_simp⟩) hz0 ?_
  try simp only [List.getElem_toArray, List.getElem_cons_zero, List.getElem_cons_succ, Act.put, List.setIfInBounds_toArray, List.set_cons_zero, List.set_cons_succ]
  refine wpAnyH_take (i := 3) (v := .string ⟨x.op.toArray⟩) rfl (by kernel_rfl) (by kernel_rfl) (by kernel_rfl) (fun _ _ _ h => h) (Or.inl ⟨by rfl, fun w hSw => by have c0 := Kept.cellOf hSw cF (by simp); go_simp⟩) hz0 ?_
  try simp only [List.getElem_toArray, List.getElem_cons_zero, List.getElem_cons_succ, Act.put, List.setIfInBounds_toArray, List.set_cons_zero, List.set_cons_succ]
  refine wpAnyH_take (i := 4) (v := .agg (bys i).toArray) rfl (by kernel_rfl) (by kernel_rfl) (by kernel_rfl) (fun _ _ _ h => h) (yieldsIf_load_mid (by rfl) 36 (.tmp 3) rfl bx 0 rfl (bys i) _ (fun w hSw j v hv => Kept.cellOf hSw (hrx j v hv) (by simp)) Tryz.underlying36 rfl hil) hz0 ?_
  try simp only [List.getElem_toArray, List.getElem_cons_zero, List.getElem_cons_succ, Act.put, List.setIfInBounds_toArray, List.set_cons_zero, List.set_cons_succ]
  refine wpAnyH_take (i := 5) (v := .iface T' u') rfl (by kernel_rfl) (by kernel_rfl) (by kernel_rfl) (fun _ _ _ h => h) (Or.inl ⟨by rfl, fun w hSw => by go_simp⟩) hz0 ?_
  try simp only [List.getElem_toArray, List.getElem_cons_zero, List.getElem_cons_succ, Act.put, List.setIfInBounds_toArray, List.set_cons_zero, List.set_cons_succ]
  refine wpAnyH_ready (rs := [6]) (by kernel_rfl) (by simp) (AllReadyH.cons (i := 6) rfl (fun K hK => ?_) AllReadyH.nil)
  rw [if_pos (by rfl)]
  go_simp
  refine (rfault_ok x.op i hi T' u' _).mono ?_
  rintro e z1 ⟨eb, rfl, hfl, hkf, _⟩
  have HFL := hide hfl
  clear hfl
  refine hK.out _ _ (hz0.trans hkf (by simp)) (fun hz1 => ?_)
  clear hK K
  try simp only [List.getElem_toArray, List.getElem_cons_zero, List.getElem_cons_succ, Act.put, List.setIfInBounds_toArray, List.set_cons_zero, List.set_cons_succ]
  have HX5 := hide (HX4.out.kept S hz1)
  have HER5 := hide (S.erk HER4.out hz1)
  refine wpAnyH_take (i := 7) (v := .slice none 0 0) rfl (by kernel_rfl) (by kernel_rfl) (by kernel_rfl) (fun _ _ _ h => h) (Or.inl ⟨by rfl, fun w hSw => by go_simp⟩) hz1 ?_
  try simp only [List.getElem_toArray, List.getElem_cons_zero, List.getElem_cons_succ, Act.put, List.setIfInBounds_toArray, List.set_cons_zero, List.set_cons_succ]
  refine wpAnyH_take (i := 8) (v := .bool false) rfl (by kernel_rfl) (by kernel_rfl) (by kernel_rfl) (fun _ _ _ h => h) (Or.inl ⟨by rfl, fun w hSw => by go_simp⟩) hz1 ?_
  try simp only [List.getElem_toArray, List.getElem_cons_zero, List.getElem_cons_succ, Act.put, List.setIfInBounds_toArray, List.set_cons_zero, List.set_cons_succ]
  refine wpAnyH_take (i := 9) (v := faultV eb) rfl (by kernel_rfl) (by kernel_rfl) (by kernel_rfl) (fun _ _ _ h => h) (Or.inl ⟨by rfl, fun w hSw => by go_simp⟩) hz1 ?_
  try simp only [List.getElem_toArray, List.getElem_cons_zero, List.getElem_cons_succ, Act.put, List.setIfInBounds_toArray, List.set_cons_zero, List.set_cons_succ]
  refine wpAnyH_done (by kernel_rfl) ?_ _
  go_wp2
  go_ret3
  exact ⟨_, _, _, rfl, HFL.out, HER5.out, HX5.out⟩

set_option maxHeartbeats 3200000 in
set_option maxRecDepth 100000 in
theorem ask_data {w0 : World} {o0 : Nat → Prop} {wb : World} {ub : Nat → Prop} {T : TypeId} {sv : Value} {fn : Nat} {rv : Value} {f : List UInt8 → An} {Er : List UInt8 → World → Value → Prop} {G : List (List UInt8) → (Nat → Prop) → World → Prop} {w : World} {P : Nat} {x : Wfd} {ord A N L B : List (List UInt8)} {F : List (List UInt8 × List (List UInt8))} {V : List Value} {o : Nat → Prop} (S : Src T sv fn rv f Er G) (h : Wx w0 o0 wb ub T sv G w P x ord A N L B F V o) (i : List UInt8) (hi : i.length = 32) (xs : List UInt8) (hf : f i = .data xs) (hol : ord.length ≤ 4398046511104) :
    Calls Tryz.prog 46 #[.pointer (some ⟨P, 0, none⟩), .agg (bys i).toArray] w fun e w' => ∃ ao n c o', e = .returned (.tuple #[.slice ao n c, .bool true, .nilIface]) ∧ (xs.length = n ∧ n ≤ 140737488355328 ∧ Sl w' ao xs ∧ (ao = none → xs = [] ∧ c = 0)) ∧ Wx w0 o0 wb ub T sv G w' P x (ord ++ [i]) (insI A i) N L B F V o' := by
  obtain ⟨w1, hw1⟩ : ∃ w1, w1 = w.alloc (.cells (bys i).toArray 36) := ⟨_, rfl⟩
  have hk1 : Kept [] w w1 := by rw [hw1]; exact (Kept.refl [] w).alloc _
  have hrx : w1.rangeAt w.heap.size 0 (bys i) := by rw [hw1]; exact row_rangeK (new_atK _ _)
  have hrow1 : w1.heap[w.heap.size]? = some (.cells (bys i).toArray 36 (0, 0)) := by rw [hw1]; exact new_atK _ _
  have h1 := h.kept S hk1
  have hil := idl i hi
  have m1 := S.meth
  have m2 := S.nila
  have m3 := S.enter
  have hPb : P ≠ x.bA := h.wk.neP (by simp [Wfd.maps])
  have hbb : w.heap.size ≠ x.bA := fun e => by obtain ⟨es, c, e2⟩ := h.wk.map_at (g := x.bA) (by simp [Wfd.maps]); have := (Array.getElem?_eq_some_iff.1 e2).1; omega
  have hnb : ¬ o w.heap.size := fun hb => by have := S.lim h.src _ hb; omega
  clear h hk1
  go_enter Tryz.func46, Tryz.ntmps46
  go_upto_region 1 with (fail)
  rw [← hw1]
  clear hw1
  generalize w.heap.size = bx at *
  have cF : w1.cell? ⟨P, 2, none⟩ = some (.map (some x.bA)) := h1.wk.cell 2
  have HSKhv : Hid (Kept [] w1 w1.drew) := hide ((Kept.refl [] w1).drew)
  refine wp_region_held_drew (S := fun w' => Kept [x.bA] w1 w') (by kernel_rfl) ((Kept.refl [x.bA] w1).drew) (fun hv0 => ?_)
  generalize World.drew w1 = v0 at hv0 HSKhv ⊢
  refine wpAnyH_take (i := 0) (v := .pointer (some ⟨P, 0, none⟩)) rfl (by kernel_rfl) (by kernel_rfl) (by kernel_rfl) (fun _ _ _ h => h) (Or.inl ⟨by rfl, fun w hSw => by go_simp⟩) hv0 ?_
  try simp only [List.getElem_toArray, List.getElem_cons_zero, List.getElem_cons_succ, Act.put, List.setIfInBounds_toArray, List.set_cons_zero, List.set_cons_succ]
  refine wpAnyH_take (i := 1) (v := .pointer (some ⟨P, 0, none⟩)) rfl (by kernel_rfl) (by kernel_rfl) (by kernel_rfl) (fun _ _ _ h => h) (Or.inl ⟨by rfl, fun w hSw => by go_simp⟩) hv0 ?_
  try simp only [List.getElem_toArray, List.getElem_cons_zero, List.getElem_cons_succ, Act.put, List.setIfInBounds_toArray, List.set_cons_zero, List.set_cons_succ]
  refine wpAnyH_take (i := 2) (v := .pointer (some ⟨P, 2, none⟩)) rfl (by kernel_rfl) (by kernel_rfl) (by kernel_rfl) (fun _ _ _ h => h) (Or.inl ⟨by rfl, fun w hSw => by go_simp⟩) hv0 ?_
  try simp only [List.getElem_toArray, List.getElem_cons_zero, List.getElem_cons_succ, Act.put, List.setIfInBounds_toArray, List.set_cons_zero, List.set_cons_succ]
  refine wpAnyH_take (i := 3) (v := .map (some x.bA)) rfl (by kernel_rfl) (by kernel_rfl) (by kernel_rfl) (fun _ _ _ h => h) (Or.inl ⟨by rfl, fun w hSw => by have c0 := Kept.cellOf hSw cF (by simpa using hPb); go_simp⟩) hv0 ?_
  try simp only [List.getElem_toArray, List.getElem_cons_zero, List.getElem_cons_succ, Act.put, List.setIfInBounds_toArray, List.set_cons_zero, List.set_cons_succ]
  refine wpAnyH_take (i := 4) (v := .agg (bys i).toArray) rfl (by kernel_rfl) (by kernel_rfl) (by kernel_rfl) (fun _ _ _ h => h) (yieldsIf_load_mid (by rfl) 36 (.tmp 3) rfl bx 0 rfl (bys i) _ (fun w hSw j v hv => Kept.cellOf hSw (hrx j v hv) (by simpa using hbb)) Tryz.underlying36 rfl hil) hv0 ?_
  try simp only [List.getElem_toArray, List.getElem_cons_zero, List.getElem_cons_succ, Act.put, List.setIfInBounds_toArray, List.set_cons_zero, List.set_cons_succ]
  refine wpAnyH_ready (rs := [5]) (by kernel_rfl) (by simp) (AllReadyH.cons (i := 5) rfl (fun K hK => ?_) AllReadyH.nil)
  rw [if_pos (by rfl)]
  refine wp_buildI (.tmp 13) rfl i rfl hi ?_
  refine hK.out _ _ (hv0.alloc _) (fun hv1 => ?_)
  clear hK K
  try simp only [List.getElem_toArray, List.getElem_cons_zero, List.getElem_cons_succ, Act.put, List.setIfInBounds_toArray, List.set_cons_zero, List.set_cons_succ]
  have halhv : (v0.alloc (.cells (bys i).toArray 36)).heap[v0.heap.size]? = some (.cells (bys i).toArray 36 (0, 0)) := new_atK _ _
  have HShv : Hid (Is (v0.alloc (.cells (bys i).toArray 36)) x.bA A) := hide (Is.kept h1.wk.a (HSKhv.out.alloc _) (by simp))
  refine wpAnyH_ready (rs := [6]) (by kernel_rfl) (by simp) (AllReadyH.cons (i := 6) rfl (fun K hK => ?_) AllReadyH.nil)
  rw [if_pos (by rfl)]
  go_simp
  refine (sadd_ok x.bA (some ⟨v0.heap.size, 0, none⟩) 1 1 A [i] _ HShv.out rfl (ids_one hi halhv) (by omega)).mono ?_
  rintro e v2 ⟨rfl, hs2hv, hk2hv⟩
  refine hK.out _ _ (hv1.trans hk2hv (fun j hj _ => hj)) (fun hv2 => ?_)
  clear hK K
  try simp only [List.getElem_toArray, List.getElem_cons_zero, List.getElem_cons_succ, Act.put, List.setIfInBounds_toArray, List.set_cons_zero, List.set_cons_succ]
  refine wpAnyH_done (by kernel_rfl) ?_ _
  have HX2 : Hid (Wx w0 o0 wb ub T sv G v2 P x ord (insI A i) N L B F V o) := hide (h1.one S (by simp [Wfd.maps]) hv2 (h1.wk.setA hv2 hs2hv))
  have HR2 : Hid (v2.rangeAt bx 0 (bys i)) := hide (fun j v hv => hv2.cellOf (hrx j v hv) (by simpa using hbb))
  clear h1 hrx hrow1 cF hs2hv hk2hv HShv HSKhv halhv hv0 hv1 hv2 hPb hbb
  go_upto_region 2 with (fail)
  have hrx := HR2.out
  have cS : v2.cell? ⟨P, 1, none⟩ = some (.iface T sv) := (HX2.out.wk.cell 1).trans (by simp [Wfd.cells, HX2.out.isrc])
  have HSKu : Hid (Kept [] v2 v2.drew) := hide ((Kept.refl [] v2).drew)
  refine wp_region_held_drew (S := (Rq P bx T sv i)) (by kernel_rfl) ⟨(Kept.refl [] v2).drew.cellOf cS (by simp), fun j v hv => (Kept.refl [] v2).drew.cellOf (hrx j v hv) (by simp)⟩ (fun hu0 => ?_)
  generalize World.drew v2 = u0 at hu0 HSKu ⊢
  refine wpAnyH_take (i := 0) (v := .pointer (some ⟨P, 0, none⟩)) rfl (by kernel_rfl) (by kernel_rfl) (by kernel_rfl) (fun _ _ _ h => h) (Or.inl ⟨by rfl, fun w hSw => by go_simp⟩) hu0 ?_
  try simp only [List.getElem_toArray, List.getElem_cons_zero, List.getElem_cons_succ, Act.put, List.setIfInBounds_toArray, List.set_cons_zero, List.set_cons_succ]
  refine wpAnyH_take (i := 1) (v := .pointer (some ⟨P, 0, none⟩)) rfl (by kernel_rfl) (by kernel_rfl) (by kernel_rfl) (fun _ _ _ h => h) (Or.inl ⟨by rfl, fun w hSw => by go_simp⟩) hu0 ?_
  try simp only [List.getElem_toArray, List.getElem_cons_zero, List.getElem_cons_succ, Act.put, List.setIfInBounds_toArray, List.set_cons_zero, List.set_cons_succ]
  refine wpAnyH_take (i := 2) (v := .pointer (some ⟨P, 1, none⟩)) rfl (by kernel_rfl) (by kernel_rfl) (by kernel_rfl) (fun _ _ _ h => h) (Or.inl ⟨by rfl, fun w hSw => by go_simp⟩) hu0 ?_
  try simp only [List.getElem_toArray, List.getElem_cons_zero, List.getElem_cons_succ, Act.put, List.setIfInBounds_toArray, List.set_cons_zero, List.set_cons_succ]
  refine wpAnyH_take (i := 3) (v := .iface T sv) rfl (by kernel_rfl) (by kernel_rfl) (by kernel_rfl) (fun _ _ _ h => h) (Or.inl ⟨by rfl, fun w hSw => by have c0 := hSw.src; go_simp⟩) hu0 ?_
  try simp only [List.getElem_toArray, List.getElem_cons_zero, List.getElem_cons_succ, Act.put, List.setIfInBounds_toArray, List.set_cons_zero, List.set_cons_succ]
  refine wpAnyH_take (i := 4) (v := .agg (bys i).toArray) rfl (by kernel_rfl) (by kernel_rfl) (by kernel_rfl) (fun _ _ _ h => h) (yieldsIf_load_mid (by rfl) 36 (.tmp 3) rfl bx 0 rfl (bys i) _ (fun w hSw => hSw.id) Tryz.underlying36 rfl hil) hu0 ?_
  try simp only [List.getElem_toArray, List.getElem_cons_zero, List.getElem_cons_succ, Act.put, List.setIfInBounds_toArray, List.set_cons_zero, List.set_cons_succ]
  have hx3 := HX2.out.kept S HSKu.out
  have hget := S.get ord o u0 i hi hol hx3.gl hx3.src
  refine wpAnyH_ready (rs := [5]) (by kernel_rfl) (by simp) (AllReadyH.cons (i := 5) rfl (fun K hK => ?_) AllReadyH.nil)
  rw [if_pos (by rfl)]
  go_simp
  refine hget.mono ?_
  rintro e u1 ⟨v, ev, o', rfl, hG, ho, hkp, hans⟩
  rw [hf] at hans
  have hu1' : Rq P bx T sv i u1 := ⟨hkp.cell hu0.src hx3.offP, fun j v hv => hkp.cell (hu0.id j v hv) hnb⟩
  have HX3 := hide (hx3.got S hG ho hkp)
  have HR3 : Hid (u1.rangeAt bx 0 (bys i)) := hide hu1'.id
  have HBX : Hid (bx < u1.heap.size) := hide (World.block_lt_of_cell? _ _ (hu1'.id 0 _ (bys_at (by omega))))
  obtain ⟨rfl, ao, n, c, rfl, hd1, hd2, hd3, hd4⟩ := hans
  have HD := hide (And.intro hd1 (And.intro hd2 (And.intro hd3 hd4)))
  clear hd1 hd2 hd3 hd4
  refine hK.out _ _ hu1' (fun hu1 => ?_)
  clear hK K hget hG ho hkp hx3 HX2 HR2 hrx cS hu0 hu1' hnb
  try simp only [List.getElem_toArray, List.getElem_cons_zero, List.getElem_cons_succ, Act.put, List.setIfInBounds_toArray, List.set_cons_zero, List.set_cons_succ]
  refine wpAnyH_take (i := 6) (v := .tuple #[.slice ao n c, .nilIface]) rfl (by kernel_rfl) (by kernel_rfl) (by kernel_rfl) (fun _ _ _ h => h) (Or.inl ⟨by rfl, fun w hSw => by go_simp⟩) hu1 ?_
  try simp only [List.getElem_toArray, List.getElem_cons_zero, List.getElem_cons_succ, Act.put, List.setIfInBounds_toArray, List.set_cons_zero, List.set_cons_succ]
  refine wpAnyH_take (i := 7) (v := .slice ao n c) rfl (by kernel_rfl) (by kernel_rfl) (by kernel_rfl) (fun _ _ _ h => h) (Or.inl ⟨by rfl, fun w hSw => by go_simp⟩) hu1 ?_
  try simp only [List.getElem_toArray, List.getElem_cons_zero, List.getElem_cons_succ, Act.put, List.setIfInBounds_toArray, List.set_cons_zero, List.set_cons_succ]
  refine wpAnyH_take (i := 8) (v := .nilIface) rfl (by kernel_rfl) (by kernel_rfl) (by kernel_rfl) (fun _ _ _ h => h) (Or.inl ⟨by rfl, fun w hSw => by go_simp⟩) hu1 ?_
  try simp only [List.getElem_toArray, List.getElem_cons_zero, List.getElem_cons_succ, Act.put, List.setIfInBounds_toArray, List.set_cons_zero, List.set_cons_succ]
  refine wpAnyH_take (i := 9) (v := .slice ao n c) rfl (by kernel_rfl) (by kernel_rfl) (by kernel_rfl) (fun _ _ _ h => h) (Or.inl ⟨by rfl, fun w hSw => by go_simp⟩) hu1 ?_
  try simp only [List.getElem_toArray, List.getElem_cons_zero, List.getElem_cons_succ, Act.put, List.setIfInBounds_toArray, List.set_cons_zero, List.set_cons_succ]
  refine wpAnyH_take (i := 10) (v := .nilIface) rfl (by kernel_rfl) (by kernel_rfl) (by kernel_rfl) (fun _ _ _ h => h) (Or.inl ⟨by rfl, fun w hSw => by go_simp⟩) hu1 ?_
  try simp only [List.getElem_toArray, List.getElem_cons_zero, List.getElem_cons_succ, Act.put, List.setIfInBounds_toArray, List.set_cons_zero, List.set_cons_succ]
  refine wpAnyH_done (by kernel_rfl) ?_ _
  clear hu1
  go_wp2
  go_ret3
  exact ⟨_, _, _, _, rfl, HD.out, HX3.out⟩


end Go.Proofs.YtngaimahhgmciabGreatDoor
