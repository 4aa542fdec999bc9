/-
  Contract: walk.read. (Written by tools/k9j.py.)
-/
import Derived.Test.YtngaimahhgmciabGreatDoorK9iv
import Derived.Test.YtngaimahhgmciabGreatDoorNnv
namespace Go.Proofs.YtngaimahhgmciabGreatDoor
open Go.RowKit Go.Lib Go.Sort
set_option linter.unusedVariables false
set_option linter.unusedSimpArgs false

theorem Wx.refold {w0 : World} {o0 : Nat → Prop} {wb : World} {ub : Nat → Prop} {T : TypeId} {sv : Value} {fn : Nat} {rv : Value} {f : List UInt8 → An} {Er : List UInt8 → World → Value → Prop} {G : List (List UInt8) → (Nat → Prop) → World → Prop} {w : World} {P : Nat} {x : Wfd} {ord A N L B : List (List UInt8)} {F : List (List UInt8 × List (List UInt8))} {V : List Value} {o : Nat → Prop} {F' : List (List UInt8 × List (List UInt8))} {V' : List Value} {w' : World} (S : Src T sv fn rv f Er G) (h : Wx w0 o0 wb ub T sv G w P x ord A N L B F V o) {l : List Nat} (hk : Kept l w w') (hl : ∀ g ∈ l, w0.heap.size ≤ g ∧ ¬ o g) (hw : Wk w0 w' P x A N L B F' V') (hV : ∀ j, j < F'.length → ∀ g, (V'.getD j unitv).ownBlock = some g → ¬ o g) (hlf : ∀ g ∈ l, g = x.bF ∨ ∃ j, j < F.length ∧ (V.getD j unitv).ownBlock = some g) (hVf : ∀ j, j < F'.length → ∀ g, (V'.getD j unitv).ownBlock = some g → (∃ k, k < F.length ∧ (V.getD k unitv).ownBlock = some g) ∨ w.heap.size ≤ g) : Wx w0 o0 wb ub T sv G w' P x ord A N L B F' V' o := by
  have htp := h.top
  exact ⟨hw, S.keep h.src (Kp.ofKept hk (fun b hb _ => ⟨(hl b hb).2, Nat.le_trans h.top (hl b hb).1⟩)), h.isrc, h.offP, h.offm, hV, h.offg, h.o0r, h.kp.trans (Kp.ofKept (o := fun b => b ∈ l) hk (fun b hb _ => hb)) (fun i hi hlt => by have := (hl i hi).1; omega), h.kb.trans (Kp.ofKept (o := fun b => b ∈ l) hk (fun b hb _ => hb)) (fun i hi hlt => by
    have hf : i ∈ x.maps ∨ ∃ j, j < F.length ∧ (V.getD j unitv).ownBlock = some i := by
      rcases hlf i hi with h1 | h1
      · exact .inl (by rw [h1]; simp [Wfd.maps])
      · exact .inr h1
    rcases h.ubr i (.inr hf) with h1 | h1
    · exact h1
    · omega), fun b hb => (by
    rcases hb with hb | hb | ⟨j, hj, hb⟩
    · exact h.ubr b (.inl hb)
    · exact h.ubr b (.inr (.inl hb))
    · rcases hVf j hj b hb with h1 | h1
      · exact h.ubr b (.inr (.inr h1))
      · exact .inr (Nat.le_trans h.kb.size h1)), hk.cellOf h.gl (fun hm => by have h5 : w0.heap.size ≤ 0 := (hl _ hm).1; omega), h.tabs.kept hk (fun i hi => by have := (hl i hi).1; omega), h.top⟩

/-- The ids of the folders among entries. -/
def fldsE (E : List Ent) : List (List UInt8) := (E.filter (fun e => e.kind == 3)).map (·.id)
theorem fldsE_snoc (E : List Ent) (k : Nat) (hk : k < E.length) : fldsE (E.take (k + 1)) = fldsE (E.take k) ++ (if ((E.getD k ent0).kind == 3) = true then [(E.getD k ent0).id] else []) := by
  have e : E.getD k ent0 = E[k] := by simp [List.getElem?_eq_getElem hk]
  rw [List.take_succ_eq_append_getElem hk, e]
  unfold fldsE
  rw [List.filter_append, List.map_append]
  by_cases h : (E[k].kind == 3) = true
  · simp [h]
  · simp [h]
theorem ids_snoc (N : List (List UInt8)) (E : List Ent) (k : Nat) (hk : k < E.length) : insA N ((E.take (k + 1)).map (·.id)) = insI (insA N ((E.take k).map (·.id))) (E.getD k ent0).id := by
  have e : E.getD k ent0 = E[k] := by simp [List.getElem?_eq_getElem hk]
  rw [List.take_succ_eq_append_getElem hk, e]
  unfold insA
  rw [List.map_append, List.foldl_append]
  rfl

theorem parse_lenK {xs : List UInt8} {E : List Ent} (h : Tn.parse xs = some E) : E.length ≤ 32 := by
  by_cases hh : xs.length < 2 ∨ Tn.by' xs 0 ≠ 84 ∨ 32 < Tn.by' xs 1
  · rw [Tn.parse_head hh] at h; cases h
  · rw [Tn.parse_count hh] at h
    obtain ⟨p, hp, h2⟩ := Option.bind_eq_some_iff.1 h
    by_cases hc : p.2 = xs.length ∧ Tn.isTree p.1 = true
    · rw [if_pos hc] at h2
      injection h2 with h2
      rw [← h2]
      exact Tn.isTree_len hc.2
    · rw [if_neg hc] at h2; cases h2
theorem start_fg {F : List (List UInt8 × List (List UInt8))} {i : List UInt8} (h : fget F i = []) (E : List Ent) (z : List UInt8) : fget F z = if z = i then fldsE (E.take 0) else fget F z := by
  by_cases e : z = i
  · subst e; rw [if_pos rfl, h]; rfl
  · rw [if_neg e]
theorem fldsE_len (E : List Ent) : (fldsE E).length ≤ E.length := by
  unfold fldsE
  rw [List.length_map]
  exact List.length_filter_le _ _
theorem new_sz (w : World) (o : Obj) : (w.alloc o).heap.size = w.heap.size + 1 := by
  show (w.heap.push o).size = _
  simp
theorem wp_mapEntry9 {P : Program} {o : Oper} {a : Act} {w : World} {K : Act → World → Prop} {Q : Exit → Act → World → Prop} (t : TypeId) (m x : Operand) (ho : o.op = .mapEntry t m x) (vm vx : Value) (hm : a.eval m = vm) (hx : a.eval x = vx) (v : Value) (w' : World) (hrun : (Instr.mapEntry t vm vx).run P w = .ok v w') (hK : K (a.put o.dst v) w') : o.wp P a w K Q := by
  unfold Oper.wp
  simp [execOp, ho, hm, hx, hrun, Result.andThen]
  exact hK
theorem wp_entryStore9 {P : Program} {o : Oper} {a : Act} {w : World} {K : Act → World → Prop} {Q : Exit → Act → World → Prop} (t : TypeId) (m s x : Operand) (ho : o.op = .entryStore t m s x) (vm vs vx : Value) (hm : a.eval m = vm) (hs : a.eval s = vs) (hx : a.eval x = vx) (w' : World) (hrun : (Instr.entryStore t vm vs vx).run P w = .ok () w') (hK : K (a.put o.dst undef) w') : o.wp P a w K Q := by
  unfold Oper.wp
  simp [execOp, ho, hm, hs, hx, hrun, Result.andThen]
  exact hK
theorem ent_id {w : World} {g : Nat} {e : Ent} {t : TypeId} (h : w.heap[g]? = some (.cells e.cells.toArray t (0, 0))) : w.rangeAt g 2 (bys e.id) := fun j v hv => by
  rw [cell_of_row _ _ _ _ _ _ h]
  have : e.cells = .string ⟨e.name.toArray⟩ :: .int .i64 e.kind :: bys e.id := rfl
  rw [List.getElem?_toArray, this, show 2 + j = j + 1 + 1 by omega]
  simpa using hv
/-- What the folders' entry reads. -/
structure Rf (P bx G : Nat) (bF : Nat) (i k : List UInt8) (w : World) : Prop where
  f : w.cell? ⟨P, 7, none⟩ = some (.map (some bF))
  id : w.rangeAt bx 0 (bys i)
  en : w.rangeAt G 2 (bys k)
theorem Rf.kept {P bx G bF : Nat} {i k : List UInt8} {w w' : World} {l : List Nat} (h : Rf P bx G bF i k w) (hk : Kept l w w') (h1 : P ∉ l) (h2 : bx ∉ l) (h3 : G ∉ l) : Rf P bx G bF i k w' :=
  ⟨hk.cellOf h.f h1, fun j v hv => hk.cellOf (h.id j v hv) h2, fun j v hv => hk.cellOf (h.en j v hv) h3⟩
theorem OwnE.keptT {l : List Nat} {w w' : World} {base : Nat} {v : Value} {L : List Ent} (h : OwnE w base v L) (hk : Kept l w w') (hn : ∀ g ∈ l, (∃ es c, w.heap[g]? = some (.map es c)) ∨ (∃ cs, w.heap[g]? = some (.cells cs 36 (0, 0))) ∨ w.heap.size ≤ g) : OwnE w' base v L := h.kept hk (fun g hg hm => by
  rcases h.1.2 with ⟨e, _⟩ | ⟨q, cap, cur, e, _, hh, _⟩
  · rw [e] at hg; cases hg
  · rw [e] at hg
    simp only [Value.ownBlock, Option.some.injEq] at hg
    subst hg
    rcases hn q hm with ⟨es, c, h1⟩ | ⟨cs, h1⟩ | h1
    · rw [h1] at hh; cases hh
    · rw [h1] at hh; injection hh with hh; injection hh with _ hh _; exact absurd hh (by decide)
    · have := (Array.getElem?_eq_some_iff.1 hh).1; omega)
theorem own_row {w : World} {base g : Nat} {v : Value} {C : List (List UInt8)} (h : OwnI w base v C) (hg : v.ownBlock = some g) : ∃ cs, w.heap[g]? = some (.cells cs 36 (0, 0)) := by
  rcases h.1.2 with ⟨e, _⟩ | ⟨q, cap, cur, e, _, hh, _⟩
  · rw [e] at hg; cases hg
  · rw [e] at hg
    simp only [Value.ownBlock, Option.some.injEq] at hg
    subst hg
    exact ⟨_, hh⟩

set_option maxHeartbeats 3200000 in
set_option maxRecDepth 100000 in
theorem wread_bad {w0 : World} {o0 : Nat → Prop} {wb : World} {ub : Nat → Prop} {T : TypeId} {sv : Value} {fn : Nat} {rv : Value} {f : List UInt8 → An} {Er : List UInt8 → World → Value → Prop} {G : List (List UInt8) → (Nat → Prop) → World → Prop} {w : World} {P : Nat} {x : Wfd} {ord A N L B : List (List UInt8)} {F : List (List UInt8 × List (List UInt8))} {V : List Value} {o : Nat → Prop} (S : Src T sv fn rv f Er G) (h : Wx w0 o0 wb ub T sv G w P x ord A N L B F V o) (i : List UInt8) (hii : i.length = 32) (ao : Option Addr) (n c : Nat) (xs : List UInt8) (hn : xs.length = n) (hm : n ≤ 140737488355328) (hs : Sl w ao xs) (h0 : ao = none → xs = [] ∧ c = 0) (hp : Tn.parse xs = none) :
    Calls Tryz.prog 47 #[.pointer (some ⟨P, 0, none⟩), .agg (bys i).toArray, .slice ao n c] w fun e w' => e = .returned (.tuple #[]) ∧ Wx w0 o0 wb ub T sv G w' P x ord A N L (insI B i) F V o := by
  obtain ⟨w1, hw1⟩ : ∃ w1, w1 = w.alloc (.cells (bys i).toArray 36) := ⟨_, rfl⟩
  have hk1 : Kept [] w w1 := by rw [hw1]; exact (Kept.refl [] w).alloc _
  have hrow1 : w1.heap[w.heap.size]? = some (.cells (bys i).toArray 36 (0, 0)) := by rw [hw1]; exact new_atK _ _
  have h1 := h.kept S hk1
  have hil := idl i hii
  have hpa := parse_ok ao n c xs w1 hn hm (hs.kept hk1 (by simp)) h0 h1.tabs
  rw [hp] at hpa
  have HNV : Hid (∀ j, j < F.length → ∀ g, (V.getD j unitv).ownBlock = some g → g ≠ w.heap.size) := hide (fun j hj g hg e => by
    rcases (h.wk.rows j hj).1.2 with ⟨e2, _⟩ | ⟨q, cap, cur, e2, _, hh, _⟩
    · rw [e2] at hg; cases hg
    · rw [e2] at hg
      simp only [Value.ownBlock, Option.some.injEq] at hg
      subst hg
      have := (Array.getElem?_eq_some_iff.1 hh).1
      omega)
  have hbnd : ∀ g ∈ x.maps, w.heap.size ≠ g := fun g hg e => by obtain ⟨es, c, e2⟩ := h.wk.map_at hg; have := (Array.getElem?_eq_some_iff.1 e2).1; omega
  have HBD := hide hbnd
  have HPX : Hid (P ≠ w.heap.size) := hide (by have := h.wk.ltP; omega)
  clear h hk1 hs h0 hn hm hbnd hp
  go_enter Tryz.func47, Tryz.ntmps47
  go_upto_region 1 with (fail)
  rw [← hw1]
  clear hw1
  generalize w.heap.size = bx at *
  go_upto_region 2 with (go_at_call 55; refine hpa.mono ?_; rintro e w2 ⟨⟨v, rfl, hoe⟩, hb2⟩; have HOE := hide hoe; have hk2 := Kept.of_below hb2; have HX2 := hide (h1.kept S hk2); have HR2 : Hid (w2.heap[bx]? = some (.cells (bys i).toArray 36 (0, 0))) := hide (by rw [hk2.block bx (Array.getElem?_eq_some_iff.1 hrow1).1 (by simp)]; exact hrow1); clear hpa hoe hb2 hk2)
  clear h1 hrow1
  rw [show Tn.code false = 70 from rfl]
  go_upto_region 3 with (fail)
  have hrx := row_rangeK HR2.out
  have hPb : P ≠ x.bB := HX2.out.wk.neP (by simp [Wfd.maps])
  have hbb : bx ≠ x.bB := HBD.out _ (by simp [Wfd.maps])
  have cF : w2.cell? ⟨P, 5, none⟩ = some (.map (some x.bB)) := HX2.out.wk.cell 5
  have hii2 := hii
  have HSKhv : Hid (Kept [] w2 w2.drew) := hide ((Kept.refl [] w2).drew)
  refine wp_region_held_drew (S := fun w' => Kept [x.bB] w2 w') (by kernel_rfl) ((Kept.refl [x.bB] w2).drew) (fun hv0 => ?_)
  generalize World.drew w2 = v0 at hv0 HSKhv ⊢
  refine wpAnyH_take (i := 0) (v := .pointer (some ⟨P, 0, none⟩)) rfl (by kernel_rfl) (by kernel_rfl) (by kernel_rfl) (fun _ _ _ h => h) (Or.inl ⟨by rfl, fun w hSw => by go_simp⟩) hv0 ?_
  try simp only [List.getElem_toArray, List.getElem_cons_zero, List.getElem_cons_succ, Act.put, List.setIfInBounds_toArray, List.set_cons_zero, List.set_cons_succ]
  refine wpAnyH_take (i := 1) (v := .pointer (some ⟨P, 0, none⟩)) rfl (by kernel_rfl) (by kernel_rfl) (by kernel_rfl) (fun _ _ _ h => h) (Or.inl ⟨by rfl, fun w hSw => by go_simp⟩) hv0 ?_
  try simp only [List.getElem_toArray, List.getElem_cons_zero, List.getElem_cons_succ, Act.put, List.setIfInBounds_toArray, List.set_cons_zero, List.set_cons_succ]
  refine wpAnyH_take (i := 2) (v := .pointer (some ⟨P, 5, none⟩)) rfl (by kernel_rfl) (by kernel_rfl) (by kernel_rfl) (fun _ _ _ h => h) (Or.inl ⟨by rfl, fun w hSw => by go_simp⟩) hv0 ?_
  try simp only [List.getElem_toArray, List.getElem_cons_zero, List.getElem_cons_succ, Act.put, List.setIfInBounds_toArray, List.set_cons_zero, List.set_cons_succ]
  refine wpAnyH_take (i := 3) (v := .map (some x.bB)) rfl (by kernel_rfl) (by kernel_rfl) (by kernel_rfl) (fun _ _ _ h => h) (Or.inl ⟨by rfl, fun w hSw => by have c0 := Kept.cellOf hSw cF (by simpa using hPb); go_simp⟩) hv0 ?_
  try simp only [List.getElem_toArray, List.getElem_cons_zero, List.getElem_cons_succ, Act.put, List.setIfInBounds_toArray, List.set_cons_zero, List.set_cons_succ]
  refine wpAnyH_take (i := 4) (v := .agg (bys i).toArray) rfl (by kernel_rfl) (by kernel_rfl) (by kernel_rfl) (fun _ _ _ h => h) (yieldsIf_load_mid (by rfl) 36 (.tmp 4) rfl bx 0 rfl (bys i) _ (fun w hSw j v hv => Kept.cellOf hSw (hrx j v hv) (by simpa using hbb)) Tryz.underlying36 rfl hil) hv0 ?_
  try simp only [List.getElem_toArray, List.getElem_cons_zero, List.getElem_cons_succ, Act.put, List.setIfInBounds_toArray, List.set_cons_zero, List.set_cons_succ]
  refine wpAnyH_ready (rs := [5]) (by kernel_rfl) (by simp) (AllReadyH.cons (i := 5) rfl (fun K hK => ?_) AllReadyH.nil)
  rw [if_pos (by rfl)]
  refine wp_buildI (.tmp 21) rfl i rfl hii ?_
  refine hK.out _ _ (hv0.alloc _) (fun hv1 => ?_)
  clear hK K
  try simp only [List.getElem_toArray, List.getElem_cons_zero, List.getElem_cons_succ, Act.put, List.setIfInBounds_toArray, List.set_cons_zero, List.set_cons_succ]
  have halhv : (v0.alloc (.cells (bys i).toArray 36)).heap[v0.heap.size]? = some (.cells (bys i).toArray 36 (0, 0)) := new_atK _ _
  have HShv : Hid (Is (v0.alloc (.cells (bys i).toArray 36)) x.bB B) := hide (Is.kept HX2.out.wk.b (HSKhv.out.alloc _) (by simp))
  refine wpAnyH_ready (rs := [6]) (by kernel_rfl) (by simp) (AllReadyH.cons (i := 6) rfl (fun K hK => ?_) AllReadyH.nil)
  rw [if_pos (by rfl)]
  go_simp
  refine (sadd_ok x.bB (some ⟨v0.heap.size, 0, none⟩) 1 1 B [i] _ HShv.out rfl (ids_one hii halhv) (by omega)).mono ?_
  rintro e v2 ⟨rfl, hs2hv, hk2hv⟩
  refine hK.out _ _ (hv1.trans hk2hv (fun j hj _ => hj)) (fun hv2 => ?_)
  clear hK K
  try simp only [List.getElem_toArray, List.getElem_cons_zero, List.getElem_cons_succ, Act.put, List.setIfInBounds_toArray, List.set_cons_zero, List.set_cons_succ]
  refine wpAnyH_done (by kernel_rfl) ?_ _
  have HX5 := hide (HX2.out.one S (g := x.bB) (by simp [Wfd.maps]) hv2 (HX2.out.wk.setB hv2 hs2hv))
  clear HX2 HR2 hrx hPb hbb cF hs2hv hk2hv HShv HSKhv halhv hv0 hv1 hv2
  go_wp2
  first | refine bodyPost_end (results_none rfl _ _ _) rfl ?_ | refine bodyPost_ret (results_none rfl _ _ _) rfl ?_
  exact ⟨rfl, HX5.out⟩

set_option maxHeartbeats 3200000 in
set_option maxRecDepth 100000 in
theorem wread_ok {w0 : World} {o0 : Nat → Prop} {wb : World} {ub : Nat → Prop} {T : TypeId} {sv : Value} {fn : Nat} {rv : Value} {f : List UInt8 → An} {Er : List UInt8 → World → Value → Prop} {G : List (List UInt8) → (Nat → Prop) → World → Prop} {w : World} {P : Nat} {x : Wfd} {ord A N L B : List (List UInt8)} {F : List (List UInt8 × List (List UInt8))} {V : List Value} {o : Nat → Prop} (S : Src T sv fn rv f Er G) (h : Wx w0 o0 wb ub T sv G w P x ord A N L B F V o) (i : List UInt8) (hii : i.length = 32) (ao : Option Addr) (n c : Nat) (xs : List UInt8) (hn : xs.length = n) (hm : n ≤ 140737488355328) (hs : Sl w ao xs) (h0 : ao = none → xs = [] ∧ c = 0) (E : List Ent) (hp : Tn.parse xs = some E) (hfi : fget F i = []) :
    Calls Tryz.prog 47 #[.pointer (some ⟨P, 0, none⟩), .agg (bys i).toArray, .slice ao n c] w fun e w' => e = .returned (.tuple #[]) ∧ ∃ F' V', Wx w0 o0 wb ub T sv G w' P x ord A (insA N (E.map (·.id))) L B F' V' o ∧ ∀ z, fget F' z = if z = i then fldsE E else fget F z := by
  obtain ⟨w1, hw1⟩ : ∃ w1, w1 = w.alloc (.cells (bys i).toArray 36) := ⟨_, rfl⟩
  have hk1 : Kept [] w w1 := by rw [hw1]; exact (Kept.refl [] w).alloc _
  have hrow1 : w1.heap[w.heap.size]? = some (.cells (bys i).toArray 36 (0, 0)) := by rw [hw1]; exact new_atK _ _
  have h1 := h.kept S hk1
  have hil := idl i hii
  have hpa := parse_ok ao n c xs w1 hn hm (hs.kept hk1 (by simp)) h0 h1.tabs
  rw [hp] at hpa
  have HPX2 := hide hp
  have HFI := hide hfi
  clear hfi
  have HNV : Hid (∀ j, j < F.length → ∀ g, (V.getD j unitv).ownBlock = some g → g ≠ w.heap.size) := hide (fun j hj g hg e => by
    rcases (h.wk.rows j hj).1.2 with ⟨e2, _⟩ | ⟨q, cap, cur, e2, _, hh, _⟩
    · rw [e2] at hg; cases hg
    · rw [e2] at hg
      simp only [Value.ownBlock, Option.some.injEq] at hg
      subst hg
      have := (Array.getElem?_eq_some_iff.1 hh).1
      omega)
  have hbnd : ∀ g ∈ x.maps, w.heap.size ≠ g := fun g hg e => by obtain ⟨es, c, e2⟩ := h.wk.map_at hg; have := (Array.getElem?_eq_some_iff.1 e2).1; omega
  have HBD := hide hbnd
  have HPX : Hid (P ≠ w.heap.size) := hide (by have := h.wk.ltP; omega)
  clear h hk1 hs h0 hn hm hbnd hp
  go_enter Tryz.func47, Tryz.ntmps47
  go_upto_region 1 with (fail)
  rw [← hw1]
  clear hw1
  generalize w.heap.size = bx at *
  go_upto_region 2 with (go_at_call 55; refine hpa.mono ?_; rintro e w2 ⟨⟨v, rfl, hoe⟩, hb2⟩; have HOE := hide hoe; have hk2 := Kept.of_below hb2; have HX2 := hide (h1.kept S hk2); have HR2 : Hid (w2.heap[bx]? = some (.cells (bys i).toArray 36 (0, 0))) := hide (by rw [hk2.block bx (Array.getElem?_eq_some_iff.1 hrow1).1 (by simp)]; exact hrow1); clear hpa hoe hb2 hk2)
  clear h1 hrow1
  rw [show Tn.code true = 0 from rfl]
  obtain ⟨ea, ec, hve, hel, hen, heb⟩ := HOE.out.ents
  have hve0 : v = .slice ea E.length ec := hve
  subst hve0
  obtain ⟨w1s, hw1s⟩ : ∃ s, s = w1.heap.size := ⟨_, rfl⟩
  rw [← hw1s] at HOE
  have hbxl : bx < w2.heap.size := (Array.getElem?_eq_some_iff.1 HR2.out).1
  have HE32 : Hid (E.length ≤ 32) := hide (parse_lenK HPX2.out)
  clear hve hel hen heb hw1s
  have hz := Tryz.zeroEntry
  obtain ⟨m, hm⟩ : ∃ m, E.length = m := ⟨_, rfl⟩
  have HM := hide hm
  rw [hm] at HOE ⊢
  have hm32 : m ≤ 32 := by rw [← hm]; exact HE32.out
  clear hm
  go_wp2
  go_loopw [26] (fun y wr => ∃ (q : Nat) (F' : List (List UInt8 × List (List UInt8))) (V' : List Value), q ≤ m ∧ y = .int .i64 q ∧ Hid (Wx w0 o0 wb ub T sv G wr P x ord A (insA N ((E.take q).map (·.id))) L B F' V' o ∧ (∀ z, fget F' z = if z = i then fldsE (E.take q) else fget F z) ∧ OwnE wr w1s (.slice ea m ec) E ∧ wr.heap[bx]? = some (.cells (bys i).toArray 36 (0, 0)) ∧ ∀ j, j < F'.length → ∀ g, (V'.getD j unitv).ownBlock = some g → g ≠ bx)) (fun y wr => m - (intOf y).toNat)
  case atStart => exact ⟨0, F, V, Nat.zero_le _, rfl, hide ⟨HX2.out, fun z => start_fg HFI.out E z, HOE.out, HR2.out, HNV.out⟩⟩
  case round =>
    clear HX2 HR2 HNV HOE
    obtain ⟨q, F', V', hq, rfl, HI⟩ := hrel
    by_cases hlt : q < m
    · have hql : q < E.length := by rw [HM.out]; exact hlt
      obtain ⟨a1, c1, hve, hjk1, hens, hjk2⟩ := HI.out.2.2.1.ents
      injection hve with hve1 hve2 hve3
      clear hve2 hve3 hjk1 hjk2
      subst hve1
      obtain ⟨g, off, hea, hrg, hok⟩ := hens q hql
      subst hea
      have HIDK := hide (ids_snoc N E q hql)
      have HFLD := hide (fldsE_snoc E q hql)
      generalize E.getD q ent0 = en at *
      have hik : en.id.length = 32 := hok.idl
      have hil4 : (Tryz.prog.info? 45).map (·.size) = some en.cells.length := by rw [hok.len]; exact Tryz.infoEntry
      have hia4 : (Tryz.prog.info? 45).map (·.size) = some en.cells.toArray.size := by rw [ent_size hok]; exact Tryz.infoEntry
      have hzs4 := zero_size hok
      have hal4 := ent_all en
      have hnz4 := new_zero wr
      have HWK := hide (Kept.of_below (withEnt_below wr en))
      have HGR0 := hide (withEnt_row wr en)
      go_upto_region 7 with (first | refine wpList_load_mid rfl 45 (.tmp 28) rfl g (off + q * 34) rfl en.cells _ hrg Tryz.underlying45 rfl hil4 ?_ | refine wpList_store_rowTo rfl 45 (.tmp 9) (.tmp 29) rfl rfl wr.heap.size en.cells.toArray rfl rfl 45 zeroE hnz4 hia4 hzs4 hal4 ?_)
      have hW : (wr.alloc (.cells zeroE 45)).setRow wr.heap.size en.cells.toArray = withEnt wr en := rfl
      rw [hW]
      clear hrg hil4 hia4 hzs4 hal4 hnz4 hW hens hql hok
      have HXW := hide (HI.out.1.kept S HWK.out)
      have HOEW := hide (HI.out.2.2.1.kept HWK.out (by simp))
      have HBLW : Hid (bx < wr.heap.size) := hide (Array.getElem?_eq_some_iff.1 HI.out.2.2.2.1).1
      have HRBW : Hid ((withEnt wr en).heap[bx]? = some (.cells (bys i).toArray 36 (0, 0))) := hide (by rw [HWK.out.block bx HBLW.out (by simp)]; exact HI.out.2.2.2.1)
      have HNF := hide HI.out.2.2.2.2
      have HFG := hide HI.out.2.1
      have hGm : ∀ g ∈ x.maps, wr.heap.size ≠ g := fun g hg e => by obtain ⟨es, c, e2⟩ := HI.out.1.wk.map_at hg; have := (Array.getElem?_eq_some_iff.1 e2).1; omega
      have HPG : Hid (P ≠ wr.heap.size) := hide (by have := HI.out.1.wk.ltP; omega)
      have HBG : Hid (bx ≠ wr.heap.size) := hide (by have := HBLW.out; omega)
      clear HI
      generalize withEnt wr en = W9 at *
      generalize wr.heap.size = G9 at *
      have hrk := ent_id HGR0.out
      obtain ⟨k, hk⟩ : ∃ k, en.id = k := ⟨_, rfl⟩
      rw [hk] at hrk hik HIDK HFLD
      have hilk := idl k hik
      have hPb : P ≠ x.bN := HXW.out.wk.neP (by simp [Wfd.maps])
      have hGb : G9 ≠ x.bN := hGm _ (by simp [Wfd.maps])
      have cF : W9.cell? ⟨P, 3, none⟩ = some (.map (some x.bN)) := HXW.out.wk.cell 3
      have HSKhz : Hid (Kept [] W9 W9.drew) := hide ((Kept.refl [] W9).drew)
      refine wp_region_held_drew (S := fun w' => Kept [x.bN] W9 w') (by kernel_rfl) ((Kept.refl [x.bN] W9).drew) (fun hz0 => ?_)
      generalize World.drew W9 = z0 at hz0 HSKhz ⊢
      refine wpAnyH_take (i := 0) (v := .pointer (some ⟨P, 0, none⟩)) rfl (by kernel_rfl) (by kernel_rfl) (by kernel_rfl) (fun _ _ _ h => h) (Or.inl ⟨by rfl, fun w hSw => by go_simp⟩) hz0 ?_
      try simp only [List.getElem_toArray, List.getElem_cons_zero, List.getElem_cons_succ, Act.put, List.setIfInBounds_toArray, List.set_cons_zero, List.set_cons_succ]
      refine wpAnyH_take (i := 1) (v := .pointer (some ⟨P, 0, none⟩)) rfl (by kernel_rfl) (by kernel_rfl) (by kernel_rfl) (fun _ _ _ h => h) (Or.inl ⟨by rfl, fun w hSw => by go_simp⟩) hz0 ?_
      try simp only [List.getElem_toArray, List.getElem_cons_zero, List.getElem_cons_succ, Act.put, List.setIfInBounds_toArray, List.set_cons_zero, List.set_cons_succ]
      refine wpAnyH_take (i := 2) (v := .pointer (some ⟨P, 3, none⟩)) rfl (by kernel_rfl) (by kernel_rfl) (by kernel_rfl) (fun _ _ _ h => h) (Or.inl ⟨by rfl, fun w hSw => by go_simp⟩) hz0 ?_
      try simp only [List.getElem_toArray, List.getElem_cons_zero, List.getElem_cons_succ, Act.put, List.setIfInBounds_toArray, List.set_cons_zero, List.set_cons_succ]
      refine wpAnyH_take (i := 3) (v := .map (some x.bN)) rfl (by kernel_rfl) (by kernel_rfl) (by kernel_rfl) (fun _ _ _ h => h) (Or.inl ⟨by rfl, fun w hSw => by have c0 := Kept.cellOf hSw cF (by simpa using hPb); go_simp⟩) hz0 ?_
      try simp only [List.getElem_toArray, List.getElem_cons_zero, List.getElem_cons_succ, Act.put, List.setIfInBounds_toArray, List.set_cons_zero, List.set_cons_succ]
      refine wpAnyH_take (i := 4) (v := .pointer (some ⟨G9, 2, none⟩)) rfl (by kernel_rfl) (by kernel_rfl) (by kernel_rfl) (fun _ _ _ h => h) (Or.inl ⟨by rfl, fun w hSw => by go_simp⟩) hz0 ?_
      try simp only [List.getElem_toArray, List.getElem_cons_zero, List.getElem_cons_succ, Act.put, List.setIfInBounds_toArray, List.set_cons_zero, List.set_cons_succ]
      refine wpAnyH_take (i := 5) (v := .agg (bys k).toArray) rfl (by kernel_rfl) (by kernel_rfl) (by kernel_rfl) (fun _ _ _ h => h) (yieldsIf_load_mid (by rfl) 36 (.tmp 34) rfl G9 2 rfl (bys k) _ (fun w hSw j v hv => Kept.cellOf hSw (hrk j v hv) (by simpa using hGb)) Tryz.underlying36 rfl hilk) hz0 ?_
      try simp only [List.getElem_toArray, List.getElem_cons_zero, List.getElem_cons_succ, Act.put, List.setIfInBounds_toArray, List.set_cons_zero, List.set_cons_succ]
      refine wpAnyH_ready (rs := [6]) (by kernel_rfl) (by simp) (AllReadyH.cons (i := 6) rfl (fun K hK => ?_) AllReadyH.nil)
      rw [if_pos (by rfl)]
      refine wp_buildI (.tmp 35) rfl k rfl hik ?_
      refine hK.out _ _ (hz0.alloc _) (fun hz1 => ?_)
      clear hK K
      try simp only [List.getElem_toArray, List.getElem_cons_zero, List.getElem_cons_succ, Act.put, List.setIfInBounds_toArray, List.set_cons_zero, List.set_cons_succ]
      have halhz : (z0.alloc (.cells (bys k).toArray 36)).heap[z0.heap.size]? = some (.cells (bys k).toArray 36 (0, 0)) := new_atK _ _
      have HShz : Hid (Is (z0.alloc (.cells (bys k).toArray 36)) x.bN (insA N ((E.take q).map (·.id)))) := hide (Is.kept HXW.out.wk.n (HSKhz.out.alloc _) (by simp))
      refine wpAnyH_ready (rs := [7]) (by kernel_rfl) (by simp) (AllReadyH.cons (i := 7) rfl (fun K hK => ?_) AllReadyH.nil)
      rw [if_pos (by rfl)]
      go_simp
      refine (sadd_ok x.bN (some ⟨z0.heap.size, 0, none⟩) 1 1 (insA N ((E.take q).map (·.id))) [k] _ HShz.out rfl (ids_one hik halhz) (by omega)).mono ?_
      rintro e z2 ⟨rfl, hs2hz, hk2hz⟩
      refine hK.out _ _ (hz1.trans hk2hz (fun j hj _ => hj)) (fun hz2 => ?_)
      clear hK K
      try simp only [List.getElem_toArray, List.getElem_cons_zero, List.getElem_cons_succ, Act.put, List.setIfInBounds_toArray, List.set_cons_zero, List.set_cons_succ]
      refine wpAnyH_done (by kernel_rfl) ?_ _
      have HXz : Hid (Wx w0 o0 wb ub T sv G z2 P x ord A (insA N ((E.take (q + 1)).map (·.id))) L B F' V' o) := hide (by rw [HIDK.out]; exact HXW.out.one S (g := x.bN) (by simp [Wfd.maps]) hz2 (HXW.out.wk.setN hz2 hs2hz))
      have HOEz : Hid (OwnE z2 w1s (.slice (some ⟨g, off, none⟩) m ec) E) := hide (HOEW.out.keptT hz2 (fun g hg => by simp at hg; subst hg; obtain ⟨es, c, e2⟩ := HXW.out.wk.map_at (g := x.bN) (by simp [Wfd.maps]); exact .inl ⟨es, c, e2⟩))
      have HRBz : Hid (z2.heap[bx]? = some (.cells (bys i).toArray 36 (0, 0))) := hide (by rw [hz2.block bx (Array.getElem?_eq_some_iff.1 HRBW.out).1 (by simpa using HBD.out x.bN (by simp [Wfd.maps]))]; exact HRBW.out)
      have HBL : Hid (bx < z2.heap.size) := hide (Array.getElem?_eq_some_iff.1 HRBz.out).1
      have HGR : Hid (z2.heap[G9]? = some (.cells en.cells.toArray 45 (0, 0))) := hide (by rw [hz2.block G9 (Array.getElem?_eq_some_iff.1 HGR0.out).1 (by simpa using hGb)]; exact HGR0.out)
      have HRF : Hid (Rf P bx G9 x.bF i k z2) := hide ⟨HXz.out.wk.cell 7, row_rangeK HRBz.out, by have := ent_id HGR.out; rw [hk] at this; exact this⟩
      have ck : z2.cell? ⟨G9, 1, none⟩ = some (.int .i64 en.kind) := by rw [cell_of_row _ _ _ _ _ _ HGR.out]; rfl
      clear HXW HOEW HRBW HBLW HGR0 HWK hrk hPb hGb cF hs2hz hk2hz HShz HSKhz halhz hz0 hz1 hz2 HIDK hk
      by_cases hk3 : (en.kind == 3) = true
      · have HK3 := hide hk3
        go_upto_region 9 with (fail)
        clear ck hk3
        have HSKy : Hid (Kept [] z2 z2.drew) := hide ((Kept.refl [] z2).drew)
        refine wp_region_held_drew (S := (Rf P bx G9 x.bF i k)) (by kernel_rfl) (HRF.out.kept ((Kept.refl [] z2).drew) (by simp) (by simp) (by simp)) (fun hy0 => ?_)
        generalize World.drew z2 = y0 at hy0 HSKy ⊢
        refine wpAnyH_take (i := 0) (v := .pointer (some ⟨P, 0, none⟩)) rfl (by kernel_rfl) (by kernel_rfl) (by kernel_rfl) (fun _ _ _ h => h) (Or.inl ⟨by rfl, fun w hSw => by go_simp⟩) hy0 ?_
        try simp only [List.getElem_toArray, List.getElem_cons_zero, List.getElem_cons_succ, Act.put, List.setIfInBounds_toArray, List.set_cons_zero, List.set_cons_succ]
        refine wpAnyH_take (i := 1) (v := .pointer (some ⟨P, 0, none⟩)) rfl (by kernel_rfl) (by kernel_rfl) (by kernel_rfl) (fun _ _ _ h => h) (Or.inl ⟨by rfl, fun w hSw => by go_simp⟩) hy0 ?_
        try simp only [List.getElem_toArray, List.getElem_cons_zero, List.getElem_cons_succ, Act.put, List.setIfInBounds_toArray, List.set_cons_zero, List.set_cons_succ]
        refine wpAnyH_take (i := 2) (v := .pointer (some ⟨P, 7, none⟩)) rfl (by kernel_rfl) (by kernel_rfl) (by kernel_rfl) (fun _ _ _ h => h) (Or.inl ⟨by rfl, fun w hSw => by go_simp⟩) hy0 ?_
        try simp only [List.getElem_toArray, List.getElem_cons_zero, List.getElem_cons_succ, Act.put, List.setIfInBounds_toArray, List.set_cons_zero, List.set_cons_succ]
        refine wpAnyH_take (i := 3) (v := .map (some x.bF)) rfl (by kernel_rfl) (by kernel_rfl) (by kernel_rfl) (fun _ _ _ h => h) (Or.inl ⟨by rfl, fun w hSw => by have c0 := hSw.f; go_simp⟩) hy0 ?_
        try simp only [List.getElem_toArray, List.getElem_cons_zero, List.getElem_cons_succ, Act.put, List.setIfInBounds_toArray, List.set_cons_zero, List.set_cons_succ]
        refine wpAnyH_take (i := 4) (v := .agg (bys i).toArray) rfl (by kernel_rfl) (by kernel_rfl) (by kernel_rfl) (fun _ _ _ h => h) (yieldsIf_load_mid (by rfl) 36 (.tmp 4) rfl bx 0 rfl (bys i) _ (fun w hSw => hSw.id) Tryz.underlying36 rfl hil) hy0 ?_
        try simp only [List.getElem_toArray, List.getElem_cons_zero, List.getElem_cons_succ, Act.put, List.setIfInBounds_toArray, List.set_cons_zero, List.set_cons_succ]
        refine wpAnyH_take (i := 5) (v := .pointer (some ⟨G9, 2, none⟩)) rfl (by kernel_rfl) (by kernel_rfl) (by kernel_rfl) (fun _ _ _ h => h) (Or.inl ⟨by rfl, fun w hSw => by go_simp⟩) hy0 ?_
        try simp only [List.getElem_toArray, List.getElem_cons_zero, List.getElem_cons_succ, Act.put, List.setIfInBounds_toArray, List.set_cons_zero, List.set_cons_succ]
        refine wpAnyH_take (i := 6) (v := .agg (bys k).toArray) rfl (by kernel_rfl) (by kernel_rfl) (by kernel_rfl) (fun _ _ _ h => h) (yieldsIf_load_mid (by rfl) 36 (.tmp 47) rfl G9 2 rfl (bys k) _ (fun w hSw => hSw.en) Tryz.underlying36 rfl hilk) hy0 ?_
        try simp only [List.getElem_toArray, List.getElem_cons_zero, List.getElem_cons_succ, Act.put, List.setIfInBounds_toArray, List.set_cons_zero, List.set_cons_succ]
        refine wpAnyH_ready (rs := [7]) (by kernel_rfl) (by simp) (AllReadyH.cons (i := 7) rfl (fun K hK => ?_) AllReadyH.nil)
        rw [if_pos (by rfl)]
        refine wp_buildI (.tmp 48) rfl k rfl hik ?_
        refine hK.out _ _ (hy0.kept ((Kept.refl [] y0).alloc _) (by simp) (by simp) (by simp)) (fun hy1 => ?_)
        clear hK K
        try simp only [List.getElem_toArray, List.getElem_cons_zero, List.getElem_cons_succ, Act.put, List.setIfInBounds_toArray, List.set_cons_zero, List.set_cons_succ]
        have hyk : Kept [] z2 (y0.alloc (.cells (bys k).toArray 36)) := HSKy.out.alloc _
        have hyx := HXz.out.kept S hyk
        have hyn : (y0.alloc (.cells (bys k).toArray 36)).heap[y0.heap.size]? = some (.cells (bys k).toArray 36 (0, 0)) := new_atK _ _
        have hy0s : z2.heap.size ≤ y0.heap.size := HSKy.out.size
        have hvlt : ∀ j, j < F'.length → ∀ g, (V'.getD j unitv).ownBlock = some g → g < z2.heap.size := fun j hj g hg => by obtain ⟨cs, hc⟩ := own_row (HXz.out.wk.rows j hj) hg; exact (Array.getElem?_eq_some_iff.1 hc).1
        obtain ⟨vo, st, y2, v9, y3, y4, F2, V2, hrA, hrB, hrC, hwk2, hfg2, l, ⟨hkl2, hkl3, hkl⟩, hll, hV2⟩ := hyx.wk.adds hyx.kp.size i hii k hik y0.heap.size hyn (by have := HXz.out.kp.size; omega) (fun j hj e => by have := hvlt j hj _ e; omega) (by rw [HFG.out i, if_pos rfl]; have := fldsE_len (E.take q); have := HE32.out; have h77 : (E.take q).length ≤ E.length := List.length_take_le' q E; omega)
        have hln : ∀ g ∈ l, g ≠ P ∧ g ≠ bx ∧ g ≠ G9 ∧ w0.heap.size ≤ g ∧ ¬ o g := fun g hg => by
          obtain ⟨c1, c2 | ⟨j, hj, c2⟩⟩ := hll g hg
          · subst c2
            exact ⟨fun e => hyx.wk.neP (by simp [Wfd.maps]) e.symm, fun e => HBD.out x.bF (by simp [Wfd.maps]) e.symm, fun e => hGm x.bF (by simp [Wfd.maps]) e.symm, c1, hyx.offm _ (by simp [Wfd.maps])⟩
          · obtain ⟨cs, hc⟩ := own_row (HXz.out.wk.rows j hj) c2
            refine ⟨fun e => ?_, HNF.out j hj g c2, fun e => ?_, c1, hyx.offr j hj g c2⟩
            · rw [e, HXz.out.wk.row] at hc; injection hc with hc; injection hc with _ hc _; exact absurd hc (by decide)
            · rw [e, HGR.out] at hc; injection hc with hc; injection hc with _ hc _; exact absurd hc (by decide)
        have HX9 := hide (hyx.refold S hkl (fun g hg => ⟨(hln g hg).2.2.2.1, (hln g hg).2.2.2.2⟩) hwk2 (fun j hj g hg => by
          rcases hV2 j hj g hg with ⟨k2, hk2, c2⟩ | c2
          · exact hyx.offr k2 hk2 g c2
          · exact fun ho => by have := S.lim hyx.src g ho; omega) (fun g hg => (hll g hg).2) hV2)
        have HNF2 : Hid (∀ j, j < F2.length → ∀ g, (V2.getD j unitv).ownBlock = some g → g ≠ bx) := hide (fun j hj g hg => by
          rcases hV2 j hj g hg with ⟨k2, hk2, c2⟩ | c2
          · exact HNF.out k2 hk2 g c2
          · have := HBL.out; have := (new_sz y0 (.cells (bys k).toArray 36)); omega)
        have HOE9 : Hid (OwnE y4 w1s (.slice (some ⟨g, off, none⟩) m ec) E) := hide ((HOEz.out.kept hyk (by simp)).keptT hkl (fun g hg => by
          obtain ⟨c1, c2 | ⟨j, hj, c2⟩⟩ := hll g hg
          · subst c2; obtain ⟨es, c, e2⟩ := hyx.wk.map_at (g := x.bF) (by simp [Wfd.maps]); exact .inl ⟨es, c, e2⟩
          · obtain ⟨cs, hc⟩ := own_row (hyx.wk.rows j hj) c2; exact .inr (.inl ⟨cs, hc⟩)))
        have HRB9 : Hid (y4.heap[bx]? = some (.cells (bys i).toArray 36 (0, 0))) := hide (by
          have hbz : (y0.alloc (.cells (bys k).toArray 36)).heap[bx]? = some (.cells (bys i).toArray 36 (0, 0)) := by rw [hyk.block bx HBL.out (by simp)]; exact HRBz.out
          rw [hkl.block bx (Array.getElem?_eq_some_iff.1 hbz).1 (fun hm => (hln bx hm).2.1 rfl)]; exact hbz)
        have HFG9 : Hid (∀ z, fget F2 z = if z = i then fldsE (E.take (q + 1)) else fget F z) := hide (fun z => by
          rw [hfg2 z]
          by_cases e : z = i
          · rw [if_pos e, if_pos e, HFG.out i, if_pos rfl, HFLD.out, if_pos HK3.out]
          · rw [if_neg e, if_neg e, HFG.out z, if_neg e])
        have hyR : Rf P bx G9 x.bF i k y4 := hy1.kept hkl (fun hm => (hln P hm).1 rfl) (fun hm => (hln bx hm).2.1 rfl) (fun hm => (hln G9 hm).2.2.1 rfl)
        refine wpAnyH_ready (rs := [8]) (by kernel_rfl) (by simp) (AllReadyH.cons (i := 8) rfl (fun K hK => ?_) AllReadyH.nil)
        rw [if_pos (by rfl)]
        refine wp_mapEntry9 78 (.tmp 44) (.tmp 45) rfl (.map (some x.bF)) (.agg (bys i).toArray) rfl rfl _ y2 hrA ?_
        refine hK.out _ _ (hy1.kept hkl2 (fun hm => (hln P hm).1 rfl) (fun hm => (hln bx hm).2.1 rfl) (fun hm => (hln G9 hm).2.2.1 rfl)) (fun hy2 => ?_)
        clear hK K
        try simp only [List.getElem_toArray, List.getElem_cons_zero, List.getElem_cons_succ, Act.put, List.setIfInBounds_toArray, List.set_cons_zero, List.set_cons_succ]
        refine wpAnyH_take (i := 9) (v := vo) rfl (by kernel_rfl) (by kernel_rfl) (by kernel_rfl) (fun _ _ _ h => h) (Or.inl ⟨by rfl, fun w hSw => by go_simp⟩) hy2 ?_
        try simp only [List.getElem_toArray, List.getElem_cons_zero, List.getElem_cons_succ, Act.put, List.setIfInBounds_toArray, List.set_cons_zero, List.set_cons_succ]
        refine wpAnyH_take (i := 11) (v := goInt st) rfl (by kernel_rfl) (by kernel_rfl) (by kernel_rfl) (fun _ _ _ h => h) (Or.inl ⟨by rfl, fun w hSw => by go_simp⟩) hy2 ?_
        try simp only [List.getElem_toArray, List.getElem_cons_zero, List.getElem_cons_succ, Act.put, List.setIfInBounds_toArray, List.set_cons_zero, List.set_cons_succ]
        refine wpAnyH_ready (rs := [10]) (by kernel_rfl) (by simp) (AllReadyH.cons (i := 10) rfl (fun K hK => ?_) AllReadyH.nil)
        rw [if_pos (by rfl)]
        refine wp_append_run (.tmp 46) (.tmp 49) 28 28 rfl vo (.slice (some ⟨y0.heap.size, 0, none⟩) 1 1) rfl rfl v9 y3 hrB ?_
        refine hK.out _ _ (hy1.kept hkl3 (fun hm => (hln P hm).1 rfl) (fun hm => (hln bx hm).2.1 rfl) (fun hm => (hln G9 hm).2.2.1 rfl)) (fun hy3 => ?_)
        clear hK K
        try simp only [List.getElem_toArray, List.getElem_cons_zero, List.getElem_cons_succ, Act.put, List.setIfInBounds_toArray, List.set_cons_zero, List.set_cons_succ]
        refine wpAnyH_ready (rs := [12]) (by kernel_rfl) (by simp) (AllReadyH.cons (i := 12) rfl (fun K hK => ?_) AllReadyH.nil)
        rw [if_pos (by rfl)]
        refine wp_entryStore9 78 (.tmp 44) (.tmp 52) (.tmp 51) rfl (.map (some x.bF)) (goInt st) v9 rfl rfl rfl y4 hrC ?_
        refine hK.out _ _ hyR (fun hy4 => ?_)
        clear hK K
        try simp only [List.getElem_toArray, List.getElem_cons_zero, List.getElem_cons_succ, Act.put, List.setIfInBounds_toArray, List.set_cons_zero, List.set_cons_succ]
        refine wpAnyH_done (by kernel_rfl) ?_ _
        go_wp2
        go_roundw
        case rel => exact ⟨q + 1, F2, V2, by omega, by go_num, hide ⟨HX9.out, HFG9.out, HOE9.out, HRB9.out, HNF2.out⟩⟩
        case measure => simp [intOf]; omega
      · have hk3' : (en.kind == 3) = false := by simpa using hk3
        have HFG9 : Hid (∀ z, fget F' z = if z = i then fldsE (E.take (q + 1)) else fget F z) := hide (fun z => by
          rw [HFG.out z, HFLD.out, if_neg hk3, List.append_nil])
        clear hk3
        go_wp2
        go_roundw
        case rel => exact ⟨q + 1, F', V', by omega, by go_num, hide ⟨HXz.out, HFG9.out, HOEz.out, HRBz.out, HNF.out⟩⟩
        case measure => simp [intOf]; omega
    · go_wp2
      first | refine bodyPost_end (results_none rfl _ _ _) rfl ?_ | refine bodyPost_ret (results_none rfl _ _ _) rfl ?_
      have : E.take q = E := List.take_of_length_le (by have := HM.out; omega)
      have h9 := HI.out
      rw [this] at h9
      exact ⟨rfl, F', V', h9.1, h9.2.1⟩

end Go.Proofs.YtngaimahhgmciabGreatDoor
