import Derived.Test.YtodihkdmneihiaaGreatDoorGtp
import Derived.Test.YtodihkdmneihiaaGreatDoorGnp
import Derived.Maps.OwnSet
namespace Go.Proofs.YtodihkdmneihiaaGreatDoor
section
open Go.RowKit Dsk
set_option linter.unusedVariables false
set_option linter.unusedSimpArgs false
theorem wpList_minRun {ops : Array Oper} {rest : List Oper} {o : Oper} {a : Act} {Q : Exit → Act → World → Prop} {P : Program} (w : World) (hgd : o.guard = none) (s x : Operand) (t : TypeId) (ho : o.op = .call { callee := .builtin .min, args := #[s, x], argTypes := #[t, t] }) (vs vx : Value) (hs : a.eval s = vs) (hx : a.eval x = vx) (v' : Value)
  (hrun : ∀ W, (Builtin.min_ #[t, t] o.type #[vs, vx]).run P W = .ok v' W) (hK : wpList P ops Q rest (a.put o.dst v') w) : wpList P ops Q (o :: rest) a w := by
 refine wpList_plain hgd fun K' hK' => ?_
 unfold Oper.wp execOp
 simp only [ho, resolve, invoke, builtin, Sem.run_bind, Sem.run_pure, Result.andThen_ok, List.map_toArray, List.map_cons, List.map_nil, hs, hx, hrun]
 exact hK' _ _ hK
theorem min_run (a b c : Int) (h : min a b = c) (ty : TypeId) (W : World) : (Builtin.min_ #[3, 3] ty #[.int .i64 a, .int .i64 b]).run Tryz.prog W = .ok (.int .i64 c) W := by
 rw [← h]
 have : (if b < a then b else a) = min a b := by split <;> omega
 simp [Builtin.min_, Builtin.min2, this]
structure Cr (w wr : World) (b : Nat) (rv sv : Value) (t : Th) (X : By) (k U M : Nat) (sv' : Value) (B : By) : Prop where
 cells : wr.heap[b]? = some (.cells #[encStr t.safe, rv, sv'] 122 (0, 0))
 row : wr.ownsRow 0 189 1 rv t.row.length (t.row.map encCh)
 shown : OwnB wr sv' B.length B
 keep : Keep (thF b rv sv) w wr
 new : ∀ g, sv'.ownBlock = some g → w.heap.size ≤ g
 torn : Dsk.torn B (t.row.drop k) U = X
 fits : U ≠ 0 → Dsk.fits B (t.row.drop k)
 le : B.length + unitsOf (t.row.drop k) ≤ M ∨ U = 0
theorem Cr.fin {w wr w' : World} {b : Nat} {rv sv sv' : Value} {t : Th} {X B : By} {k U M : Nat} (hb : b < w.heap.size) (h : Cr w wr b rv sv t X k U M sv' B) (hX : B = X) (hm : Mv wr w' b rv sv' ⟨B, [], B⟩) : Mv w w' b rv sv ⟨X, [], X⟩ := by
 obtain ⟨rv2, sv2, h0, hk, hr, hs⟩ := hm
 subst hX
 have hsz := h.keep.size
 refine ⟨rv2, sv2, h0, h.keep.trans hk (fun i hi hlt => ?_), fun g hg => ?_, fun g hg => ?_⟩
 ·rcases hi with e | e | e
  ·exact .inl e
  ·exact .inr (.inl e)
  ·have := h.new i e; omega
 ·rcases hr g hg with e | e
  ·exact .inl e
  ·exact .inr (by omega)
 ·rcases hs g hg with e | e
  ·exact .inr (h.new g e)
  ·exact .inr (by omega)
theorem Cr.step {w wr w3 : World} {b : Nat} {rv sv sv' v' : Value} {t : Th} {X B : By} {k U M : Nat} {c : Ch} (hb : b < w.heap.size) (h : Cr w wr b rv sv t X k U M sv' B) (hU : U ≠ 0) (hc : t.row[k]? = some c) (ha : Applied wr w3 sv' v' (c.apply B (min U c.units))) :
  w3.cell? ⟨b, 2, none⟩ = some sv' ∧ w3.frozen? ⟨b, 2, none⟩ = false ∧ Cr w (w3.setCell ⟨b, 2, none⟩ v') b rv sv t X (k + 1) (U - min U c.units) M v' (c.apply B (min U c.units)) := by
 have hlt : k < t.row.length := (List.getElem?_eq_some_iff.1 hc).1
 have hd : t.row.drop k = c :: t.row.drop (k + 1) := by
  rw [List.drop_eq_getElem_cons hlt]
  congr 1
  exact (List.getElem?_eq_some_iff.1 hc).2
 have hK3 := ha.2.1
 have hne : ∀ k, sv'.ownBlock = some k → k ≠ b := fun k hk e => by have := h.new k hk; omega
 have hQ3 := hK3.heapOf h.cells (fun e => hne b e rfl)
 have hsz := h.keep.size
 have hnew : ∀ g, v'.ownBlock = some g → w.heap.size ≤ g := fun g hg => by
  rcases ha.2.2 g hg with e | e
  ·exact h.new g e
  ·omega
 have hK4 : Keep (· = b) w3 (w3.setCell ⟨b, 2, none⟩ v') := (Keep.refl (· = b) w3).setCell (p := ⟨b, 2, none⟩) (fun _ => rfl) _
 have hor := h.le
 have hf := h.fits hU
 rw [hd] at hf hor
 have ht := h.torn
 rw [hd] at ht
 simp only [Dsk.torn, if_neg hU] at ht
 simp only [unitsOf] at hor
 have hal := c.apply_len B (min U c.units) hf.1
 refine ⟨by rw [cell_of_row w3 b 2 _ _ _ hQ3]; rfl, frozen_of_row w3 b 2 _ _ hQ3, heap_setCell_same w3 b 2 _ _ _ hQ3, ?_, ha.1.keep hK4 (fun g hg e => by have := hnew g hg; omega), ?_, hnew, ht, fun h0 => ?_, ?_⟩
 ·exact own_keeps (own_keeps h.row hK3 (fun g hg e => OwnB.two h.row h.shown (by decide) g hg e)) hK4 (fun g hg e => own_ne h.row h.cells (by decide) (by rw [hg, e]))
 ·exact (h.keep.trans hK3 (fun i e hi => by have := h.new i e; omega)).trans hK4 (fun i e _ => .inl e)
 ·have : min U c.units = c.units := by omega
  rw [this]
  exact hf.2
 ·left
  rcases hor with h1 | h1
  ·omega
  ·exact absurd h1 hU
set_option maxHeartbeats 1600000 in
set_option maxRecDepth 100000 in
theorem thingCrash_ok (p : Int) (b : Nat) (rv sv : Value) (t : Th) (w : World) (h : Th0 w b rv sv t) (hok : t.ok) (hb : t.safe.length + unitsOf t.row + t.row.length < 1073741824) (hp : (Lit.int .i64 p).wf = true) :
  Calls Tryz.prog 88 #[.pointer (some ⟨b, 0, none⟩), .int .i64 p] w fun e w' => e = .returned (.tuple #[]) ∧ Mv w w' b rv sv (t.crash p) := by
 obtain ⟨ro, rc, rfl, hrc⟩ := own_shape h.row
 have hrl := rnd_le p (unitsOf t.row)
 have hun := thingUnits_ok b _ sv t w h (by omega)
 have hrd := fun W => round_ok p (unitsOf t.row) W hp (by omega)
 unfold Th.crash
 generalize rnd p (unitsOf t.row) = U0 at hrl hrd ⊢
 have hblt := h.lt
 have HT := hide (And.intro h hok)
 have HRD := hide hrd
 clear hrd h hok
 go_enter Tryz.func88, Tryz.ntmps88
 go_upto_region 1 with (first
  | (go_at_call 114; have Ha := hun; refine hun.mono ?_; rintro e w1 ⟨rfl, hk1⟩; have H1 := hide (And.intro hk1 (HT.out.1.kept hk1)); clear Ha hun hk1)
  | (go_at_call 111; refine (HRD.out _).mono ?_; rintro e w' ⟨rfl, rfl⟩))
 obtain ⟨hk1, hT1⟩ := H1.out
 have c0 := hT1.c0
 obtain ⟨v2, w2, hcv, hO2, hk2, hb2, c2, hv2⟩ := run_of_str w' t.safe (by omega)
 subst hv2
 have hT2 := hT1.kept hk2
 have d2 := hT2.c2
 have f2 := hT2.fr 2
 have HCR : Hid (Cr w (w2.setCell ⟨b, 2, none⟩ (.slice (some ⟨w'.heap.size, 0, none⟩) t.safe.length c2)) b (.slice ro t.row.length rc) sv t (torn t.safe t.row U0) 0 U0 (t.safe.length + unitsOf t.row) (.slice (some ⟨w'.heap.size, 0, none⟩) t.safe.length c2) t.safe) := by
  have hK : Keep (· = b) w2 (w2.setCell ⟨b, 2, none⟩ (.slice (some ⟨w'.heap.size, 0, none⟩) t.safe.length c2)) := (Keep.refl (· = b) w2).setCell (p := ⟨b, 2, none⟩) (fun _ => rfl) _
  have hs1 := hk1.size
  refine ⟨heap_setCell_same w2 b 2 _ _ _ hT2.cells, own_keeps hT2.row hK (fun g hg e => hT2.rb (by rw [hg, e])), hO2.keep hK (fun g hg e => ?_), ((Keep.ofNone hk1).trans (Keep.ofNone (F := fun _ => False) hk2) (fun _ h _ => h.elim)).trans hK (fun i e _ => .inl e), fun g hg => ?_, rfl, fun _ => HT.out.2.1, .inl (Nat.le_refl _)⟩
  ·rw [hb2] at hg; injection hg with hg; omega
  ·rw [hb2] at hg; injection hg with hg; omega
 have e1 : (w2.setCell ⟨b, 2, none⟩ (.slice (some ⟨w'.heap.size, 0, none⟩) t.safe.length c2)).cell? ⟨b, 1, none⟩ = some (.slice ro t.row.length rc) := by
  rw [cell_of_row _ b 1 _ _ _ HCR.out.cells]; rfl
 clear hT1 hT2 hO2 hk2 hb2 hk1 H1
 generalize hw3 : w2.setCell ⟨b, 2, none⟩ (.slice (some ⟨w'.heap.size, 0, none⟩) t.safe.length c2) = w3 at HCR e1
 go_upto_region 2 with (fail)
 try rw [hw3]
 clear hw3 hcv c0 d2 f2
 go_wp2
 generalize Value.slice (some ⟨w'.heap.size, 0, none⟩) t.safe.length c2 = sv0 at HCR ⊢
 generalize hL : t.row.length = L at *
 generalize hX : torn t.safe t.row U0 = X at *
 obtain ⟨M, hM⟩ : ∃ M, M = t.safe.length + unitsOf t.row := ⟨_, rfl⟩
 rw [← hM] at HCR
 have HX := hide hX
 have HL := hide hL
 have hMb : M + L < 1073741824 := by omega
 clear hX hM e1 hL
 go_loopw [25, 4, 6] (fun i u _ wr => ∃ k U : Nat, k ≤ L ∧ U ≤ U0 ∧ i = .int .i64 k ∧ u = .int .i64 U ∧ Hid (∃ sv' B, Cr w wr b (.slice ro L rc) sv t X k U M sv' B)) (fun i _ _ wr => L - (intOf i).toNat)
 case atStart => exact ⟨0, U0, by omega, Nat.le_refl _, rfl, rfl, hide ⟨_, _, HCR.out⟩⟩
 case round =>
  clear HCR
  obtain ⟨k, U, hk, hUle, rfl, rfl, HR⟩ := hrel
  obtain ⟨sv', B, hR⟩ := HR.out
  clear HR
  by_cases hlt : k < L
  ·obtain ⟨c, hc⟩ : ∃ c, t.row[k]? = some c := ⟨t.row[k]'(by have := HL.out; omega), List.getElem?_eq_getElem (by have := HL.out; omega)⟩
   obtain ⟨g, hg⟩ : ∃ g, ro = some ⟨g, 0, none⟩ := by
    rcases hR.row.2 with ⟨e, e2⟩ | ⟨g, cap, cur, e, _⟩
    ·have := HL.out; omega
    ·injection e with e _ _; exact ⟨g, e⟩
   subst hg
   have hcell : wr.cell? ⟨g, k, none⟩ = some (encCh c) := by
    have := hR.row.cells (g := g) rfl k (encCh c) (by simp [hc])
    rwa [add0] at this
   by_cases hU : U = 0
   ·subst hU
    have hX : B = X := by have := hR.torn; rw [torn_zero] at this; exact this
    have hT : Th0 wr b (.slice (some ⟨g, 0, none⟩) L rc) sv' ⟨t.safe, t.row, B⟩ := ⟨hR.cells, by have := hR.row; rw [HL.out] at this; simpa [HL.out] using this, hR.shown⟩
    have hsy := thingSync_ok b _ _ _ wr hT
    have HCS : Hid (∀ w', Mv wr w' b (.slice (some ⟨g, 0, none⟩) L rc) sv' (Th.sync ⟨t.safe, t.row, B⟩) → Mv w w' b (.slice (some ⟨g, 0, none⟩) L rc) sv ⟨X, [], X⟩) := fun w' hm => Cr.fin hblt hR hX hm
    clear hT hR hc hX
    cases c <;> simp only [encCh] at hcell <;> (
     go_wp2_with (go_at_call 81; have Ha := hsy; refine hsy.mono ?_; rintro e w4 ⟨rfl, hm4⟩; clear Ha hsy)
     first | refine bodyPost_end (results_none rfl _ _ _) rfl ?_ | refine bodyPost_ret (results_none rfl _ _ _) rfl ?_
     refine ⟨rfl, ?_⟩
     rw [HL.out, HX.out]
     exact HCS.out _ hm4)
   ·obtain ⟨so, sc, rfl, _, _, _, _⟩ := hR.shown.shape
    have hd : t.row.drop k = c :: t.row.drop (k + 1) := by
     rw [List.drop_eq_getElem_cons (by have := HL.out; omega)]
     congr 1
     exact (List.getElem?_eq_some_iff.1 hc).2
    have hBn : B.length + c.units ≤ 1073741824 := by
     rcases hR.le with h1 | h1
     ·rw [hd] at h1; simp only [unitsOf] at h1; omega
     ·exact absurd h1 hU
    have hpl : c.place ≤ B.length := by have := hR.fits hU; rw [hd] at this; exact this.1
    have HC : Hid (∀ v, Kept [] wr v → Calls Tryz.prog (chFunc c) #[chVal c, .slice so B.length sc, .int .i64 (min U c.units : Nat)] v fun e w' => ∃ v', e = .returned v' ∧ Applied v w' (.slice so B.length sc) v' (c.apply B (min U c.units))) := fun v hv =>
     chApply_ok c (min U c.units) B.length sc so B v (hR.shown.kept hv) hpl (Nat.min_le_right _ _) hBn
    have CK : Hid (∀ v, Kept [] wr v → Cr w v b (.slice (some ⟨g, 0, none⟩) L rc) sv t X k U M (.slice so B.length sc) B) := fun v hv => ⟨by rw [hv.block b (Nat.lt_of_lt_of_le hblt hR.keep.size) (by simp)]; exact hR.cells, own_keeps hR.row (Keep.ofNone (F := fun _ => False) hv) (fun _ _ h => h), hR.shown.kept hv, hR.keep.trans (Keep.ofNone (F := fun _ => False) hv) (fun _ h _ => h.elim), hR.new, hR.torn, hR.fits, hR.le⟩
    have ST : Hid (∀ v, Kept [] wr v → ∀ v' w3, Applied v w3 (.slice so B.length sc) v' (c.apply B (min U c.units)) → w3.cell? ⟨b, 2, none⟩ = some (.slice so B.length sc) ∧ w3.frozen? ⟨b, 2, none⟩ = false ∧ Cr w (w3.setCell ⟨b, 2, none⟩ v') b (.slice (some ⟨g, 0, none⟩) L rc) sv t X (k + 1) (U - min U c.units) M v' (c.apply B (min U c.units))) := fun v hv v' w3 ha =>
     Cr.step hblt (CK.out v hv) hU hc ha
    have hcu : c.units < 1073741824 + 1 := by omega
    have hUne : (U : Int) ≠ 0 := by omega
    have hmn : min (U : Int) (c.units : Int) = ((min U c.units : Nat) : Int) := by omega
    have hmu : min U c.units ≤ U := Nat.min_le_left _ _
    have CC : Hid (∀ v, Kept [] wr v → v.cell? ⟨b, 2, none⟩ = some (.slice so B.length sc)) := fun v hv => by rw [cell_of_row v b 2 _ _ _ (CK.out v hv).cells]; rfl
    generalize min U c.units = u at HC ST hmn hmu
    clear hR hd hBn hpl hc CK
    cases c with
    | wr a d =>
     simp only [encCh] at hcell
     simp only [chFunc, chVal, Ch.units] at HC hmn hcu
     skip
     have hm : ∀ w : World, (method 367 187 (.agg #[.int .i64 a, encStr d]) "freight/disk.units").run Tryz.prog w = .ok (176, .agg #[.int .i64 a, encStr d]) w := fun _ => by kernel_rfl
     have hmn : ∀ w : World, (nilAhead 367 187 (.agg #[.int .i64 a, encStr d]) "freight/disk.units").run Tryz.prog w = .ok (some false) w := fun _ => by kernel_rfl
     have hp2 : ∀ w : World, (method 367 187 (.agg #[.int .i64 a, encStr d]) "freight/disk.apply").run Tryz.prog w = .ok (175, .agg #[.int .i64 a, encStr d]) w := fun _ => by kernel_rfl
     have hp2n : ∀ w : World, (nilAhead 367 187 (.agg #[.int .i64 a, encStr d]) "freight/disk.apply").run Tryz.prog w = .ok (some false) w := fun _ => by kernel_rfl
     go_upto_region 7 with (first
      | (go_at_call 176; refine (writeUnits_ok a d _).mono ?_; rintro e w4 ⟨rfl, hk4⟩)
      | (refine wpList_minRun _ rfl _ _ 3 rfl _ _ rfl rfl _ (min_run _ _ _ hmn _) ?_))
     have hc2 := CC.out w4 hk4
     refine wp_region_late (fun w' => Kept [] w4 w') (fun i => i == 10 || i == 13) (by kernel_rfl) ?_
     have h0 : Kept [] w4 w4.drew := (Kept.refl [] w4).drew
     generalize World.drew w4 = v0 at h0 ⊢
     refine wpAnyL_free (i := 0) (v := .pointer (some ⟨b, 0, none⟩)) rfl (by kernel_rfl) (by kernel_rfl) (by kernel_rfl) (fun _ _ _ h => h) (Or.inl ⟨by rfl, fun w _ => by go_simp⟩) ?_
     try simp only [z1, z2, z3, z4, z5, z6, z7, z8]
     refine wpAnyL_free (i := 1) (v := .iface 187 (.agg #[.int .i64 a, encStr d])) rfl (by kernel_rfl) (by kernel_rfl) (by kernel_rfl) (fun _ _ _ h => h) (Or.inl ⟨by rfl, fun w _ => by go_simp⟩) ?_
     try simp only [z1, z2, z3, z4, z5, z6, z7, z8]
     refine wpAnyL_free (i := 2) (v := .pointer (some ⟨b, 0, none⟩)) rfl (by kernel_rfl) (by kernel_rfl) (by kernel_rfl) (fun _ _ _ h => h) (Or.inl ⟨by rfl, fun w _ => by go_simp⟩) ?_
     try simp only [z1, z2, z3, z4, z5, z6, z7, z8]
     refine wpAnyL_free (i := 3) (v := .pointer (some ⟨b, 0, none⟩)) rfl (by kernel_rfl) (by kernel_rfl) (by kernel_rfl) (fun _ _ _ h => h) (Or.inl ⟨by rfl, fun w _ => by go_simp⟩) ?_
     try simp only [z1, z2, z3, z4, z5, z6, z7, z8]
     refine wpAnyL_free (i := 4) (v := .pointer (some ⟨b, 2, none⟩)) rfl (by kernel_rfl) (by kernel_rfl) (by kernel_rfl) (fun _ _ _ h => h) (Or.inl ⟨by rfl, fun w _ => by go_simp⟩) ?_
     try simp only [z1, z2, z3, z4, z5, z6, z7, z8]
     refine wpAnyL_take (i := 5) (v := .slice so B.length sc) rfl (by kernel_rfl) (by kernel_rfl) (by kernel_rfl) (by kernel_rfl) (by kernel_rfl) (fun _ _ _ h => h) (Or.inl ⟨by rfl, fun w hSw => by have c := Kept.cellOf hSw hc2 (by simp); go_simp⟩) h0 ?_
     try simp only [z1, z2, z3, z4, z5, z6, z7, z8]
     refine wpAnyL_free (i := 6) (v := .int .i64 u) rfl (by kernel_rfl) (by kernel_rfl) (by kernel_rfl) (fun _ _ _ h => h) (Or.inl ⟨by rfl, fun w _ => by go_simp⟩) ?_
     try simp only [z1, z2, z3, z4, z5, z6, z7, z8]
     refine wpAnyL_free (i := 7) (v := .func (Fn.method "freight/disk.apply") #[.iface 187 (.agg #[.int .i64 a, encStr d])] #[]) rfl (by kernel_rfl) (by kernel_rfl) (by kernel_rfl) (fun _ _ _ h => h) (Or.inl ⟨by rfl, fun w _ => by go_simp⟩) ?_
     try simp only [z1, z2, z3, z4, z5, z6, z7, z8]
     refine wpAnyL_free (i := 8) (v := .func (Fn.method "freight/disk.apply") #[.iface 187 (.agg #[.int .i64 a, encStr d])] #[]) rfl (by kernel_rfl) (by kernel_rfl) (by kernel_rfl) (fun _ _ _ h => h) (Or.inl ⟨by rfl, fun w _ => by go_simp⟩) ?_
     try simp only [z1, z2, z3, z4, z5, z6, z7, z8]
     refine wpAnyL_free (i := 9) (v := .iface 187 (.agg #[.int .i64 a, encStr d])) rfl (by kernel_rfl) (by kernel_rfl) (by kernel_rfl) (fun _ _ _ h => h) (Or.inl ⟨by rfl, fun w _ => by go_simp⟩) ?_
     try simp only [z1, z2, z3, z4, z5, z6, z7, z8]
     have hkv : Kept [] wr v0 := hk4.trans h0 (by simp)
     refine wpAnyL_one (i := 10) (by kernel_rfl) rfl (fun K hK => ?_)
     rw [if_pos (by rfl)]
     go_simp
     refine (HC.out v0 hkv).mono ?_
     rintro e w5 ⟨v', rfl, ha⟩
     obtain ⟨vo, vc, rfl, _⟩ := ha.1.shape
     obtain ⟨k2, k3, hfin⟩ := ST.out v0 hkv _ w5 ha
     refine hK.out _ _ (fun _ h => by cases h) ?_
     clear hK K
     try simp only [z1, z2, z3, z4, z5, z6, z7, z8]
     have H5 := hide hfin
     clear hfin ha HC ST CC hkv h0
     refine wpAnyL_free (i := 11) (v := .pointer (some ⟨b, 0, none⟩)) rfl (by kernel_rfl) (by kernel_rfl) (by kernel_rfl) (fun _ _ _ h => h) (Or.inl ⟨by rfl, fun w _ => by go_simp⟩) ?_
     try simp only [z1, z2, z3, z4, z5, z6, z7, z8]
     refine wpAnyL_free (i := 12) (v := .pointer (some ⟨b, 2, none⟩)) rfl (by kernel_rfl) (by kernel_rfl) (by kernel_rfl) (fun _ _ _ h => h) (Or.inl ⟨by rfl, fun w _ => by go_simp⟩) ?_
     try simp only [z1, z2, z3, z4, z5, z6, z7, z8]
     refine wpAnyL_one (i := 13) (by kernel_rfl) rfl (fun K hK => ?_)
     rw [if_pos (by rfl)]
     go_simp
     refine hK.out _ _ (fun _ h => by cases h) ?_
     clear hK K
     try simp only [z1, z2, z3, z4, z5, z6, z7, z8]
     refine wpAnyL_done (by kernel_rfl) ?_ _
     go_wp2
     go_roundw
     case rel => exact ⟨k + 1, U - u, by omega, by omega, by go_num, by go_num, hide ⟨_, _, H5.out⟩⟩
     case measure => simp [intOf]; omega
    | cut a =>
     simp only [encCh] at hcell
     simp only [chFunc, chVal, Ch.units] at HC hmn hcu
     replace hmn : min (U : Int) 1 = (u : Int) := by have := hmn; omega
     have hm : ∀ w : World, (method 367 142 (.agg #[.int .i64 a]) "freight/disk.units").run Tryz.prog w = .ok (169, .agg #[.int .i64 a]) w := fun _ => by kernel_rfl
     have hmn : ∀ w : World, (nilAhead 367 142 (.agg #[.int .i64 a]) "freight/disk.units").run Tryz.prog w = .ok (some false) w := fun _ => by kernel_rfl
     have hp2 : ∀ w : World, (method 367 142 (.agg #[.int .i64 a]) "freight/disk.apply").run Tryz.prog w = .ok (168, .agg #[.int .i64 a]) w := fun _ => by kernel_rfl
     have hp2n : ∀ w : World, (nilAhead 367 142 (.agg #[.int .i64 a]) "freight/disk.apply").run Tryz.prog w = .ok (some false) w := fun _ => by kernel_rfl
     go_upto_region 7 with (first
      | (go_at_call 169; refine (cutUnits_ok a _).mono ?_; rintro e w4 ⟨rfl, hk4⟩)
      | (refine wpList_minRun _ rfl _ _ 3 rfl _ _ rfl rfl _ (min_run _ _ _ hmn _) ?_))
     have hc2 := CC.out w4 hk4
     refine wp_region_late (fun w' => Kept [] w4 w') (fun i => i == 10 || i == 13) (by kernel_rfl) ?_
     have h0 : Kept [] w4 w4.drew := (Kept.refl [] w4).drew
     generalize World.drew w4 = v0 at h0 ⊢
     refine wpAnyL_free (i := 0) (v := .pointer (some ⟨b, 0, none⟩)) rfl (by kernel_rfl) (by kernel_rfl) (by kernel_rfl) (fun _ _ _ h => h) (Or.inl ⟨by rfl, fun w _ => by go_simp⟩) ?_
     try simp only [z1, z2, z3, z4, z5, z6, z7, z8]
     refine wpAnyL_free (i := 1) (v := .iface 142 (.agg #[.int .i64 a])) rfl (by kernel_rfl) (by kernel_rfl) (by kernel_rfl) (fun _ _ _ h => h) (Or.inl ⟨by rfl, fun w _ => by go_simp⟩) ?_
     try simp only [z1, z2, z3, z4, z5, z6, z7, z8]
     refine wpAnyL_free (i := 2) (v := .pointer (some ⟨b, 0, none⟩)) rfl (by kernel_rfl) (by kernel_rfl) (by kernel_rfl) (fun _ _ _ h => h) (Or.inl ⟨by rfl, fun w _ => by go_simp⟩) ?_
     try simp only [z1, z2, z3, z4, z5, z6, z7, z8]
     refine wpAnyL_free (i := 3) (v := .pointer (some ⟨b, 0, none⟩)) rfl (by kernel_rfl) (by kernel_rfl) (by kernel_rfl) (fun _ _ _ h => h) (Or.inl ⟨by rfl, fun w _ => by go_simp⟩) ?_
     try simp only [z1, z2, z3, z4, z5, z6, z7, z8]
     refine wpAnyL_free (i := 4) (v := .pointer (some ⟨b, 2, none⟩)) rfl (by kernel_rfl) (by kernel_rfl) (by kernel_rfl) (fun _ _ _ h => h) (Or.inl ⟨by rfl, fun w _ => by go_simp⟩) ?_
     try simp only [z1, z2, z3, z4, z5, z6, z7, z8]
     refine wpAnyL_take (i := 5) (v := .slice so B.length sc) rfl (by kernel_rfl) (by kernel_rfl) (by kernel_rfl) (by kernel_rfl) (by kernel_rfl) (fun _ _ _ h => h) (Or.inl ⟨by rfl, fun w hSw => by have c := Kept.cellOf hSw hc2 (by simp); go_simp⟩) h0 ?_
     try simp only [z1, z2, z3, z4, z5, z6, z7, z8]
     refine wpAnyL_free (i := 6) (v := .int .i64 u) rfl (by kernel_rfl) (by kernel_rfl) (by kernel_rfl) (fun _ _ _ h => h) (Or.inl ⟨by rfl, fun w _ => by go_simp⟩) ?_
     try simp only [z1, z2, z3, z4, z5, z6, z7, z8]
     refine wpAnyL_free (i := 7) (v := .func (Fn.method "freight/disk.apply") #[.iface 142 (.agg #[.int .i64 a])] #[]) rfl (by kernel_rfl) (by kernel_rfl) (by kernel_rfl) (fun _ _ _ h => h) (Or.inl ⟨by rfl, fun w _ => by go_simp⟩) ?_
     try simp only [z1, z2, z3, z4, z5, z6, z7, z8]
     refine wpAnyL_free (i := 8) (v := .func (Fn.method "freight/disk.apply") #[.iface 142 (.agg #[.int .i64 a])] #[]) rfl (by kernel_rfl) (by kernel_rfl) (by kernel_rfl) (fun _ _ _ h => h) (Or.inl ⟨by rfl, fun w _ => by go_simp⟩) ?_
     try simp only [z1, z2, z3, z4, z5, z6, z7, z8]
     refine wpAnyL_free (i := 9) (v := .iface 142 (.agg #[.int .i64 a])) rfl (by kernel_rfl) (by kernel_rfl) (by kernel_rfl) (fun _ _ _ h => h) (Or.inl ⟨by rfl, fun w _ => by go_simp⟩) ?_
     try simp only [z1, z2, z3, z4, z5, z6, z7, z8]
     have hkv : Kept [] wr v0 := hk4.trans h0 (by simp)
     refine wpAnyL_one (i := 10) (by kernel_rfl) rfl (fun K hK => ?_)
     rw [if_pos (by rfl)]
     go_simp
     refine (HC.out v0 hkv).mono ?_
     rintro e w5 ⟨v', rfl, ha⟩
     obtain ⟨vo, vc, rfl, _⟩ := ha.1.shape
     obtain ⟨k2, k3, hfin⟩ := ST.out v0 hkv _ w5 ha
     refine hK.out _ _ (fun _ h => by cases h) ?_
     clear hK K
     try simp only [z1, z2, z3, z4, z5, z6, z7, z8]
     have H5 := hide hfin
     clear hfin ha HC ST CC hkv h0
     refine wpAnyL_free (i := 11) (v := .pointer (some ⟨b, 0, none⟩)) rfl (by kernel_rfl) (by kernel_rfl) (by kernel_rfl) (fun _ _ _ h => h) (Or.inl ⟨by rfl, fun w _ => by go_simp⟩) ?_
     try simp only [z1, z2, z3, z4, z5, z6, z7, z8]
     refine wpAnyL_free (i := 12) (v := .pointer (some ⟨b, 2, none⟩)) rfl (by kernel_rfl) (by kernel_rfl) (by kernel_rfl) (fun _ _ _ h => h) (Or.inl ⟨by rfl, fun w _ => by go_simp⟩) ?_
     try simp only [z1, z2, z3, z4, z5, z6, z7, z8]
     refine wpAnyL_one (i := 13) (by kernel_rfl) rfl (fun K hK => ?_)
     rw [if_pos (by rfl)]
     go_simp
     refine hK.out _ _ (fun _ h => by cases h) ?_
     clear hK K
     try simp only [z1, z2, z3, z4, z5, z6, z7, z8]
     refine wpAnyL_done (by kernel_rfl) ?_ _
     go_wp2
     go_roundw
     case rel => exact ⟨k + 1, U - u, by omega, by omega, by go_num, by go_num, hide ⟨_, _, H5.out⟩⟩
     case measure => simp [intOf]; omega
  ·have hkL : k = L := by omega
   subst hkL
   have hX : B = X := by have := hR.torn; rw [List.drop_of_length_le (by rw [HL.out]; exact Nat.le_refl _)] at this; exact this
   have hT : Th0 wr b (.slice ro k rc) sv' ⟨t.safe, t.row, B⟩ := ⟨hR.cells, by have := hR.row; rw [HL.out] at this; simpa [HL.out] using this, hR.shown⟩
   have hsy := thingSync_ok b _ _ _ wr hT
   have HCS : Hid (∀ w', Mv wr w' b (.slice ro k rc) sv' (Th.sync ⟨t.safe, t.row, B⟩) → Mv w w' b (.slice ro k rc) sv ⟨X, [], X⟩) := fun w' hm => Cr.fin hblt hR hX hm
   clear hT hR hX
   go_wp2_with (go_at_call 81; have Ha := hsy; refine hsy.mono ?_; rintro e w4 ⟨rfl, hm4⟩; clear Ha hsy)
   first | refine bodyPost_end (results_none rfl _ _ _) rfl ?_ | refine bodyPost_ret (results_none rfl _ _ _) rfl ?_
   refine ⟨rfl, ?_⟩
   rw [HL.out, HX.out]
   exact HCS.out _ hm4
end

section
open Go.RowKit Dsk
set_option linter.unusedVariables false
set_option linter.unusedSimpArgs false
theorem Tryz.keyed : Maps.Keyed Tryz.prog 9 := Maps.string_keyed Tryz.underlying9
theorem key_str (n : By) (hn : n.length ≤ maxLen) : keyOf Tryz.prog 9 (encStr n) = some (.string n) := by
 have := WideMaps.keyOf_string_mk (P := Tryz.prog) Tryz.underlying9 (s := ⟨n.toArray⟩) (by simpa [ByteArray.size] using hn)
 simpa using this
theorem Mp.look {w : World} {b : Nat} {A : Nat → Nat} {l : Nm} (h : Mp w b A l) (n : By) (hn : n.length ≤ maxLen) :
  (Instr.lookup 92 (.map (some b)) (encStr n) false).run Tryz.prog w = .ok (match l.get n with | some k => .pointer (some ⟨A k, 0, none⟩) | none => .pointer none) w := by
 obtain ⟨v, ps, hrun, hv⟩ := h.lookup Tryz.keyed Tryz.underlying92 (z := .pointer none) (by kernel_rfl) (zd := .nil) (zp := []) rfl (key_str n hn)
 rw [hrun]
 rw [nmD_at] at hv
 cases hg : l.get n with
 | none => rw [hg] at hv; rw [ptrElem_nil_inv hv]
 | some k => rw [hg] at hv; rw [ptrElem_some_inv hv]
set_option maxRecDepth 100000 in
theorem Mp.put {w : World} {b : Nat} {A : Nat → Nat} {l : Nm} (h : Mp w b A l) (n : By) (k : Nat) (hn : n.length ≤ maxLen) (hl : l.length < maxLen) :
  ∃ w', (Instr.mapUpdate 92 (.map (some b)) (encStr n) (.pointer (some ⟨A k, 0, none⟩))).run Tryz.prog w = .ok () w' ∧ Mp w' b A (l.put n k) ∧ Keep (· = b) w w' := by
 obtain ⟨w', hrun, h1, h2⟩ := h.update Tryz.keyed Tryz.underlying92 hl (key_str n hn) (val := .pointer (some ⟨A k, 0, none⟩)) (d := .lit (.int .i64 (A k))) (ps := []) rfl
 rw [nmD_put] at h1
 exact ⟨w', hrun, Mp.of h1, (Keep.refl _ w).grown h2 (fun j e _ => by injection e with e; exact e.symm)⟩
set_option maxRecDepth 100000 in
theorem Mp.del {w : World} {b : Nat} {A : Nat → Nat} {l : Nm} (h : Mp w b A l) (n : By) (hn : n.length ≤ maxLen) (ty : TypeId) :
  ∃ w', (Builtin.delete_ #[92, 9] ty #[.map (some b), encStr n]).run Tryz.prog w = .ok (.tuple #[]) w' ∧ Mp w' b A (l.del n) ∧ Keep (· = b) w w' := by
 obtain ⟨w', hrun, h1, h2⟩ := World.ownsMap.drop h Tryz.keyed Tryz.underlying92 (key_str n hn) ty
 rw [nmD_del] at h1
 exact ⟨w', hrun, Mp.of h1, (Keep.refl _ w).grown h2.grown (fun j e _ => by injection e with e; exact e.symm)⟩
def ncFunc : Nc → Nat
 | .mk _ _ => 167
 | .gv _ _ => 170
 | .tk _ => 171
def ncVal (A : Nat → Nat) : Nc → Value
 | .mk n k => .agg #[encStr n, .pointer (some ⟨A k, 0, none⟩)]
 | .gv f t => .agg #[encStr f, encStr t]
 | .tk n => .agg #[encStr n]
set_option maxHeartbeats 800000 in
set_option maxRecDepth 100000 in
theorem mkApply_ok (n : By) (k b : Nat) (A : Nat → Nat) (l : Nm) (w : World) (h : Mp w b A l) (hn : n.length ≤ 112) (hl : l.length < 1073741824) :
  Calls Tryz.prog 167 #[.agg #[encStr n, .pointer (some ⟨A k, 0, none⟩)], .map (some b)] w fun e w' => e = .returned (.tuple #[]) ∧ Mp w' b A (l.put n k) ∧ Keep (· = b) w w' := by
 have hk0 : Keep (· = b) w (w.alloc (.cells #[encStr n, .pointer (some ⟨A k, 0, none⟩)] 124)) := (Keep.refl _ w).alloc _
 have h0 : Mp (w.alloc (.cells #[encStr n, .pointer (some ⟨A k, 0, none⟩)] 124)) b A l := World.ownsMap.alloc h _
 obtain ⟨w1, hrun, h1, hk1⟩ := h0.put n k (by unfold maxLen; omega) (by unfold maxLen; omega)
 have H1 := hide (And.intro h1 (hk0.trans hk1 (fun i e _ => e)))
 clear h1 hk1 hk0 h0 h
 go_enter Tryz.func167, Tryz.ntmps167
 go_wp2
 first | refine bodyPost_end (results_none rfl _ _ _) rfl ?_ | refine bodyPost_ret (results_none rfl _ _ _) rfl ?_
 exact ⟨rfl, H1.out⟩
set_option maxHeartbeats 800000 in
set_option maxRecDepth 100000 in
theorem tkApply_ok (n : By) (b : Nat) (A : Nat → Nat) (l : Nm) (w : World) (h : Mp w b A l) (hn : n.length ≤ 112) :
  Calls Tryz.prog 171 #[.agg #[encStr n], .map (some b)] w fun e w' => e = .returned (.tuple #[]) ∧ Mp w' b A (l.del n) ∧ Keep (· = b) w w' := by
 have hk0 : Keep (· = b) w (w.alloc (.cells #[encStr n] 149)) := (Keep.refl _ w).alloc _
 have h0 : Mp (w.alloc (.cells #[encStr n] 149)) b A l := World.ownsMap.alloc h _
 have hd := fun ty => h0.del n (by unfold maxLen; omega) ty
 go_enter Tryz.func171, Tryz.ntmps171
 obtain ⟨w1, hrun, h1, hk1⟩ := hd 0
 have H1 := hide (And.intro h1 (hk0.trans hk1 (fun i e _ => e)))
 clear h1 hk1 hk0 h0 h hd
 go_wp2
 first | refine bodyPost_end (results_none rfl _ _ _) rfl ?_ | refine bodyPost_ret (results_none rfl _ _ _) rfl ?_
 exact ⟨rfl, H1.out⟩
set_option maxHeartbeats 800000 in
set_option maxRecDepth 100000 in
theorem gvApply_ok (f t : By) (k b : Nat) (A : Nat → Nat) (l : Nm) (w : World) (h : Mp w b A l) (hg : l.get f = some k) (hf : f.length ≤ 112) (ht : t.length ≤ 112) (hl : l.length < 1073741824) :
  Calls Tryz.prog 170 #[.agg #[encStr f, encStr t], .map (some b)] w fun e w' => e = .returned (.tuple #[]) ∧ Mp w' b A ((l.put t k).del f) ∧ Keep (· = b) w w' := by
 have hb : b < w.heap.size := World.ownsMap.lt h
 have hk0 : Keep (· = b) w (w.alloc (.cells #[encStr f, encStr t] 147)) := (Keep.refl _ w).alloc _
 have h0 : Mp (w.alloc (.cells #[encStr f, encStr t] 147)) b A l := World.ownsMap.alloc h _
 have hc0 : (w.alloc (.cells #[encStr f, encStr t] 147)).cell? ⟨w.heap.size, 0, none⟩ = some (encStr f) := by simp
 have hlk := h0.look f (by unfold maxLen; omega)
 rw [hg] at hlk
 obtain ⟨w1, hrun, h1, hk1⟩ := h0.put t k (by unfold maxLen; omega) (by unfold maxLen; omega)
 have hc1 : w1.cell? ⟨w.heap.size, 0, none⟩ = some (encStr f) := hk1.cellOf hc0 (by show ¬ w.heap.size = b; omega)
 obtain ⟨w2, hrun2, h2, hk2⟩ := h1.del f (by unfold maxLen; omega) 0
 have H2 := hide (And.intro h2 ((hk0.trans hk1 (fun i e _ => e)).trans hk2 (fun i e _ => e)))
 clear h1 hk1 hk0 h0 h h2 hk2 hc0
 go_enter Tryz.func170, Tryz.ntmps170
 go_wp2
 first | refine bodyPost_end (results_none rfl _ _ _) rfl ?_ | refine bodyPost_ret (results_none rfl _ _ _) rfl ?_
 exact ⟨rfl, H2.out⟩
def ncShort : Nc → Prop
 | .mk n _ => n.length ≤ 112
 | .gv f t => f.length ≤ 112 ∧ t.length ≤ 112
 | .tk n => n.length ≤ 112
theorem ncApply_ok (c : Nc) (b : Nat) (A : Nat → Nat) (l : Nm) (w : World) (h : Mp w b A l) (hok : c.ok l) (hs : ncShort c) (hl : l.length < 1073741824) :
  Calls Tryz.prog (ncFunc c) #[ncVal A c, .map (some b)] w fun e w' => e = .returned (.tuple #[]) ∧ Mp w' b A (c.apply l) ∧ Keep (· = b) w w' := by
 cases c with
 | mk n k => exact mkApply_ok n k b A l w h hs hl
 | gv f t =>
  obtain ⟨_, k, hg⟩ := hok
  have := gvApply_ok f t k b A l w h hg hs.1 hs.2 hl
  have e : (Nc.gv f t).apply l = (l.put t k).del f := by simp only [Nc.apply, hg]
  rw [e]
  exact this
 | tk n => exact tkApply_ok n b A l w h hs
end

end Go.Proofs.YtodihkdmneihiaaGreatDoor
