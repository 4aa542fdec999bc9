import Derived.Test.YtodihkdmneihiaaGreatDoorGnp
import Derived.Laws.BytesString
namespace Go.Proofs.YtodihkdmneihiaaGreatDoor
section
open Go.RowKit Dsk
set_option linter.unusedVariables false
set_option linter.unusedSimpArgs false
theorem Tryz.strTo (W : World) (d : By) (m : Nat) (hm : m ≤ d.length) : (Instr.slice 9 (.string ⟨d.toArray⟩) none (some (.int .i64 m)) none).run Tryz.prog W = .ok (.string ⟨(d.take m).toArray⟩) W := by
 rw [run_slice_string_h (P := Tryz.prog) W 9 ⟨d.toArray⟩ Tryz.underlying9 .i64 m (by omega) (by rw [str_size]; omega)]
 congr 2
 apply ByteArray.ext
 simp [ByteArray.data_extract]
theorem Tryz.strFrom (W : World) (d : By) (m : Nat) (hm : m ≤ d.length) : (Instr.slice 9 (.string ⟨d.toArray⟩) (some (.int .i64 m)) none none).run Tryz.prog W = .ok (.string ⟨(d.drop m).toArray⟩) W := by
 rw [run_slice_string_l (P := Tryz.prog) W 9 ⟨d.toArray⟩ Tryz.underlying9 .i64 m (by omega) (by rw [str_size]; omega)]
 congr 2
 apply ByteArray.ext
 simp [ByteArray.data_extract, str_size]
 exact List.take_of_length_le (by simp)
set_option maxHeartbeats 800000 in
set_option maxRecDepth 100000 in
theorem writeUnits_ok (a : Nat) (d : By) (w : World) : Calls Tryz.prog 176 #[.agg #[.int .i64 a, encStr d]] w fun e w' => e = .returned (.int .i64 d.length) ∧ Kept [] w w' := by
 have hs := str_size d
 have hK := hide ((Kept.refl [] w).alloc (.cells #[.int .i64 a, encStr d] 187))
 go_enter Tryz.func176, Tryz.ntmps176
 go_wp2
 go_ret
 exact ⟨rfl, hK.out⟩
set_option maxHeartbeats 800000 in
set_option maxRecDepth 100000 in
theorem cutUnits_ok (a : Nat) (w : World) : Calls Tryz.prog 169 #[.agg #[.int .i64 a]] w fun e w' => e = .returned (.int .i64 1) ∧ Kept [] w w' := by
 have hK := hide ((Kept.refl [] w).alloc (.cells #[.int .i64 a] 142))
 go_enter Tryz.func169, Tryz.ntmps169
 go_wp2
 go_ret
 exact ⟨rfl, hK.out⟩
set_option maxHeartbeats 800000 in
set_option maxRecDepth 100000 in
theorem cutApply_ok (a u n cap : Nat) (so : Option Addr) (w : World) (ha : a ≤ n) (hn : n ≤ cap) (hb : cap ≤ maxLen) : Calls Tryz.prog 168 #[.agg #[.int .i64 a], .slice so n cap, .int .i64 u] w fun e w' => e = .returned (.slice so a cap) ∧ Kept [] w w' := by
 have hK := hide ((Kept.refl [] w).alloc (.cells #[.int .i64 a] 142))
 have hcut := fun W => Tryz.cutTo W so n cap a (by omega)
 go_enter Tryz.func168, Tryz.ntmps168
 go_wp2
 go_ret
 exact ⟨rfl, hK.out⟩
theorem wr_apply (xs d : By) (a u m : Nat) (ha : a ≤ xs.length) (hu : u ≤ d.length) (hm : m = min u (xs.length - a)) : over xs a ((d.take u).take m) ++ (d.take u).drop m = (Ch.wr a d).apply xs u := by
 unfold over
 simp only [Ch.apply]
 have hl : (d.take u).length = u := by simp; omega
 by_cases h : u ≤ xs.length - a
 ·have : m = u := by omega
  subst this
  rw [List.take_of_length_le (l := List.take m d) (by omega), List.drop_of_length_le (l := List.take m d) (by omega), List.append_nil]
 ·have : m = xs.length - a := by omega
  have h1 : ((d.take u).take m).length = m := by simp; omega
  rw [h1, hl, List.drop_of_length_le (l := xs) (by omega), List.drop_of_length_le (l := xs) (by omega), List.append_nil, List.append_nil, List.append_assoc, List.take_append_drop]
def Applied (w w' : World) (v v' : Value) (ys : By) : Prop :=
 OwnB w' v' ys.length ys ∧ Keep (fun k => v.ownBlock = some k) w w' ∧ (∀ g, v'.ownBlock = some g → v.ownBlock = some g ∨ w.heap.size ≤ g)
theorem Applied.lt {w w' : World} {v v' : Value} {ys : By} (h : Applied w w' v v' ys) {g : Nat} (hg : v'.ownBlock = some g) : g < w'.heap.size := h.1.lt hg
set_option maxHeartbeats 1600000 in
set_option maxRecDepth 100000 in
theorem writeApply_ok (a u n cap : Nat) (d xs : By) (so : Option Addr) (w : World) (hown : OwnB w (.slice so n cap) n xs) (ha : a ≤ n) (hu : u ≤ d.length) (hb : n + d.length ≤ 1073741824) :
  Calls Tryz.prog 175 #[.agg #[.int .i64 a, encStr d], .slice so n cap, .int .i64 u] w fun e w' => ∃ v', e = .returned v' ∧ Applied w w' (.slice so n cap) v' ((Ch.wr a d).apply xs u) := by
 have hxl : xs.length = n := hown.1
 have hnc : n ≤ cap := by obtain ⟨_, _, e, h, _⟩ := hown.shape; injection e with _ _ e3; omega
 obtain ⟨w0, hw0⟩ : ∃ w0, w0 = w.alloc (.cells #[.int .i64 a, encStr d] 187) := ⟨_, rfl⟩
 have hk0 : Kept [] w w0 := by rw [hw0]; exact (Kept.refl [] w).alloc _
 have hb0 : w0.heap[w.heap.size]? = some (.cells #[.int .i64 a, encStr d] 187 (0, 0)) := by rw [hw0]; exact (MapKept.heap_alloc w _).1
 have hown0 : OwnB w0 (.slice so n cap) n xs := hown.kept hk0
 obtain ⟨D, hD⟩ : ∃ D, D = d.take u := ⟨_, rfl⟩
 have hDl : D.length = u := by rw [hD]; simp; omega
 obtain ⟨m, hm⟩ : ∃ m, m = min u (xs.length - a) := ⟨_, rfl⟩
 obtain ⟨so', hc1, hc2⟩ := Tryz.cutFrom w0 so n cap a ha
 have hst := fun W => Tryz.strTo W d u hu
 rw [← hD] at hst
 have hsf := fun W => Tryz.strFrom W D m (by omega)
 have hcopy : ∃ w1, (Builtin.copy_ #[28, 9] 3 #[.slice so' (n - a) (cap - a), encStr D]).run Tryz.prog w0 = .ok (.int .i64 m) w1 ∧ OwnB w1 (.slice so n cap) n (over xs a (D.take m)) ∧ Keep (fun k => (Value.slice so n cap).ownBlock = some k) w0 w1 := by
  by_cases h0 : m = 0
  ·refine ⟨w0, ?_, ?_, Keep.refl _ _⟩
   ·rw [h0]; exact run_copy_no w0 so' (n - a) (cap - a) D 3 (by omega)
   ·rw [h0, List.take_zero, over_nil]; exact hown0
  ·obtain ⟨g, hg⟩ : ∃ g, so = some ⟨g, 0, none⟩ := by
    rcases hown.2 with ⟨e, e2⟩ | ⟨g, cap', cur, fr, e, _⟩
    ·omega
    ·injection e with e _ _; exact ⟨g, e⟩
   subst hg
   rw [hc2 g rfl (by omega)]
   obtain ⟨w1, h1, h2, h3⟩ := run_copy_str w0 g cap n a m xs D (cap - a) 3 hown0 ha (by omega) (by omega)
   exact ⟨w1, h1, h2, (Keep.refl _ w0).grown h3 (fun k e _ => e)⟩
 obtain ⟨w1, hcr, hown1, hk1⟩ := hcopy
 have happ := fun ty => run_app_str w1 (.slice so n cap) n (over xs a (D.take m)) (D.drop m) hown1 ty (by simp; omega)
 obtain ⟨v2, w2, har, hown2, hg2, hl2⟩ := happ 28
 have hfin : over xs a (D.take m) ++ D.drop m = (Ch.wr a d).apply xs u := by rw [hD]; exact wr_apply xs d a u m (by omega) hu hm
 have hso : ∀ k, (Value.slice so n cap).ownBlock = some k → k < w.heap.size := fun k hk => hown.lt hk
 have FIN : Hid (Applied w w2 (.slice so n cap) v2 ((Ch.wr a d).apply xs u)) := by
  rw [hfin] at hown2
  have hl : n + (D.drop m).length = ((Ch.wr a d).apply xs u).length := by
   have := hown2.1
   omega
  rw [hl] at hown2
  refine ⟨hown2, ((Keep.ofNone hk0).trans hk1 (fun i e _ => e)).trans ((Keep.refl (fun k => (Value.slice so n cap).ownBlock = some k) w1).grown hg2 (fun k e _ => e)) (fun i e _ => e), fun g hg => ?_⟩
  rcases hl2 with e | e
  ·rw [hg] at e; exact .inl e.symm
  ·rw [hg] at e
   injection e with e
   have := hk0.size
   have := hk1.size
   exact .inr (by omega)
 have e0 : w1.cell? ⟨w.heap.size, 0, none⟩ = some (.int .i64 a) := by
  refine hk1.cellOf (by rw [cell_of_row w0 _ 0 _ _ _ hb0]; rfl) (fun h => ?_)
  have := hso _ h
  simp at this
 have hmD : m ≤ D.length := by omega
 clear hown2 hg2 hl2 hfin happ hown1 hk1 hown0 hown hc2 hm hk0 hD hxl hDl hso
 go_enter Tryz.func175, Tryz.ntmps175
 go_upto_region 1 with (fail)
 rw [← hw0]
 have i0 : w0.cell? ⟨w.heap.size, 0, none⟩ = some (.int .i64 a) := by rw [cell_of_row w0 _ 0 _ _ _ hb0]; rfl
 have i1 : w0.cell? ⟨w.heap.size, 1, none⟩ = some (encStr d) := by rw [cell_of_row w0 _ 1 _ _ _ hb0]; rfl
 clear hb0 hw0
 go_wp2_with (first
  | (at_builtin; have Ha := hcr; refine Lib.wpList_copy_run _ rfl _ _ 28 9 rfl _ _ rfl rfl hcr ?_; clear Ha hcr)
  | (at_builtin; refine wpList_app_run rfl _ _ 28 9 rfl _ _ rfl rfl _ _ har ?_))
 go_ret
 exact ⟨v2, rfl, FIN.out⟩
end

section
open Go.RowKit Dsk
set_option linter.unusedVariables false
set_option linter.unusedSimpArgs false
theorem Tryz.infoBc : (Tryz.prog.info? 189).map (fun i => (i.zero, i.size, i.bytes)) = some (some .nilIface, 1, 16) := by kernel_rfl
theorem encCh_one (c : Ch) : (encCh c).oneCell' = true := by cases c <;> rfl
structure Th0 (w : World) (b : Nat) (rv sv : Value) (t : Th) : Prop where
 cells : w.heap[b]? = some (.cells #[encStr t.safe, rv, sv] 122 (0, 0))
 row : w.ownsRow 0 189 1 rv t.row.length (t.row.map encCh)
 shown : OwnB w sv t.shown.length t.shown
theorem ThAt.th0 {w : World} {o : Lab} {l b : Nat} {rv sv : Value} {t : Th} (h : ThAt w o l b rv sv t) : Th0 w b rv sv t := ⟨h.cells, h.row, h.shown⟩
def Loc (w : World) (v v' : Value) : Prop := ∀ g, v'.ownBlock = some g → v.ownBlock = some g ∨ w.heap.size ≤ g
def thF (b : Nat) (rv sv : Value) : Nat → Prop := fun k => k = b ∨ rv.ownBlock = some k ∨ sv.ownBlock = some k
def Mv (w w' : World) (b : Nat) (rv sv : Value) (t : Th) : Prop := ∃ rv' sv', Th0 w' b rv' sv' t ∧ Keep (thF b rv sv) w w' ∧ Loc w rv rv' ∧ Loc w sv sv'
theorem Th0.keep {F : Nat → Prop} {w w' : World} {b : Nat} {rv sv : Value} {t : Th} (h : Th0 w b rv sv t) (hk : Keep F w w') (hF : ∀ k, thF b rv sv k → ¬ F k) : Th0 w' b rv sv t :=
 ⟨hk.heapOf h.cells (hF b (.inl rfl)), own_keeps h.row hk (fun g hg => hF g (.inr (.inl hg))), h.shown.keep hk (fun g hg => hF g (.inr (.inr hg)))⟩
theorem Th0.kept {w w' : World} {b : Nat} {rv sv : Value} {t : Th} (h : Th0 w b rv sv t) (hk : Kept [] w w') : Th0 w' b rv sv t := h.keep (Keep.ofNone (F := fun _ => False) hk) (fun _ _ h => h)
theorem Th0.lt {w : World} {b : Nat} {rv sv : Value} {t : Th} (h : Th0 w b rv sv t) : b < w.heap.size := (Array.getElem?_eq_some_iff.1 h.cells).1
theorem Th0.c0 {w : World} {b : Nat} {rv sv : Value} {t : Th} (h : Th0 w b rv sv t) : w.cell? ⟨b, 0, none⟩ = some (encStr t.safe) := by rw [cell_of_row w b 0 _ _ _ h.cells]; rfl
theorem Th0.c1 {w : World} {b : Nat} {rv sv : Value} {t : Th} (h : Th0 w b rv sv t) : w.cell? ⟨b, 1, none⟩ = some rv := by rw [cell_of_row w b 1 _ _ _ h.cells]; rfl
theorem Th0.c2 {w : World} {b : Nat} {rv sv : Value} {t : Th} (h : Th0 w b rv sv t) : w.cell? ⟨b, 2, none⟩ = some sv := by rw [cell_of_row w b 2 _ _ _ h.cells]; rfl
theorem Th0.fr {w : World} {b : Nat} {rv sv : Value} {t : Th} (h : Th0 w b rv sv t) (j : Nat) : w.frozen? ⟨b, j, none⟩ = false := frozen_of_row w b j _ _ h.cells
theorem own_two {w : World} {B B' s s' : Nat} {e e' : TypeId} {v v' : Value} {n n' : Nat} {xs xs' : List Value} (h : w.ownsRow B e s v n xs) (h' : w.ownsRow B' e' s' v' n' xs') (he : e ≠ e') (k : Nat) (hk : v.ownBlock = some k) : v'.ownBlock ≠ some k := by
 intro hk'
 rcases h.2 with ⟨rfl, _⟩ | ⟨g, cap, cur, rfl, _, hg, _⟩
 ·simp [Value.ownBlock] at hk
 simp only [Value.ownBlock, Option.some.injEq] at hk
 subst hk
 exact own_ne h' hg he hk'
theorem Th0.rb {w : World} {b : Nat} {rv sv : Value} {t : Th} (h : Th0 w b rv sv t) : rv.ownBlock ≠ some b := own_ne h.row h.cells (by decide)
theorem Th0.sb {w : World} {b : Nat} {rv sv : Value} {t : Th} (h : Th0 w b rv sv t) : sv.ownBlock ≠ some b := h.shown.ne h.cells (by decide)
theorem ThAt.moved {w w' : World} {o : Lab} {l b : Nat} {rv sv : Value} {t t' : Th} (h : ThAt w o l b rv sv t) (hm : Mv w w' b rv sv t') : Tg w' (o.ext w w' l) l b t' ∧ Keep (fun k => o k = l) w w' := by
 obtain ⟨rv', sv', h0, hk, hr, hs⟩ := hm
 have hold : ∀ g, g < w.heap.size → o g = l → o.ext w w' l g = l := fun g hg e => by rw [Lab.ext_old hg]; exact e
 refine ⟨⟨rv', sv', h0.cells, h0.row, h0.shown, hold b h.lt h.lb, fun g hg => ?_, fun g hg => ?_⟩, hk.mono (fun k hk _ => ?_)⟩
 ·rcases hr g hg with e | e
  ·exact hold g (h.row.lt g e).2 (h.lr g e)
  ·exact Lab.ext_new e (h0.row.lt g hg).2
 ·rcases hs g hg with e | e
  ·exact hold g (h.shown.lt e) (h.ls g e)
  ·exact Lab.ext_new e (h0.shown.lt hg)
 ·rcases hk with rfl | e | e
  ·exact h.lb
  ·exact h.lr k e
  ·exact h.ls k e
set_option maxHeartbeats 1600000 in
set_option maxRecDepth 100000 in
theorem thingUnits_ok (b : Nat) (rv sv : Value) (t : Th) (w : World) (h : Th0 w b rv sv t) (hb : unitsOf t.row + t.row.length ≤ 1073741824) :
  Calls Tryz.prog 114 #[.pointer (some ⟨b, 0, none⟩)] w fun e w' => e = .returned (.int .i64 (unitsOf t.row)) ∧ Kept [] w w' := by
 obtain ⟨ro, rc, rfl, hrc⟩ := own_shape h.row
 have c1 := h.c1
 have HW : Hid (∀ w', Kept [] w w' → Th0 w' b (.slice ro t.row.length rc) sv t) := fun w' hk => h.kept hk
 have HB := hide hb
 clear h
 go_enter Tryz.func114, Tryz.ntmps114
 go_wp2
 generalize hL : t.row.length = L at *
 go_loopw [11, 3, 5] (fun i s _ wr => ∃ k : Nat, k ≤ L ∧ i = .int .i64 k ∧ s = .int .i64 (unitsOf (t.row.take k)) ∧ Hid (Kept [] w wr)) (fun i _ _ wr => L - (intOf i).toNat)
 case atStart => exact ⟨0, by omega, rfl, rfl, hide (Kept.refl _ _)⟩
 case round =>
  obtain ⟨k, hk, rfl, rfl, HK⟩ := hrel
  have hT := HW.out wr HK.out
  by_cases hlt : k < L
  ·obtain ⟨c, hc⟩ : ∃ c, t.row[k]? = some c := ⟨t.row[k]'(by omega), List.getElem?_eq_getElem (by omega)⟩
   obtain ⟨g, hg⟩ : ∃ g, ro = some ⟨g, 0, none⟩ := by
    rcases hT.row.2 with ⟨e, e2⟩ | ⟨g, cap, cur, e, _⟩
    ·omega
    ·injection e with e _ _; exact ⟨g, e⟩
   subst hg
   have hcell : wr.cell? ⟨g, k, none⟩ = some (encCh c) := by
    have := hT.row.cells (g := g) rfl k (encCh c) (by simp [hc])
    rwa [add0] at this
   have HU : Hid (unitsOf (t.row.take (k + 1)) = unitsOf (t.row.take k) + c.units) := by
    rw [List.take_add_one, hc]
    exact unitsOf_snoc _ _
   have hle : unitsOf (t.row.take (k + 1)) ≤ unitsOf t.row := by
    have h1 : unitsOf (t.row.take (k + 1) ++ t.row.drop (k + 1)) = unitsOf (t.row.take (k + 1)) + unitsOf (t.row.drop (k + 1)) := by
     generalize t.row.take (k + 1) = X
     generalize t.row.drop (k + 1) = Y
     induction X with
     | nil => simp [unitsOf]
     | cons x r ih => simp only [List.cons_append, unitsOf, ih]; omega
    rw [List.take_append_drop] at h1
    omega
   have hU1 : unitsOf (t.row.take k) + c.units ≤ 1073741824 := by have := HB.out; rw [← HU.out]; omega
   clear hT hc hle c1
   generalize unitsOf (t.row.take k) = U at HU hU1
   cases c with
   | wr a d =>
    simp only [encCh] at hcell
    simp only [Ch.units] at HU hU1
    have hm : ∀ w : World, (method 367 187 (.agg #[.int .i64 a, encStr d]) "freight/disk.units").run Tryz.prog w = .ok (176, .agg #[.int .i64 a, encStr d]) w := fun _ => by kernel_rfl
    have hmn : ∀ w : World, (nilAhead 367 187 (.agg #[.int .i64 a, encStr d]) "freight/disk.units").run Tryz.prog w = .ok (some false) w := fun _ => by kernel_rfl
    go_wp2_with (go_at_call 176; refine (writeUnits_ok a d _).mono ?_; rintro e w3 ⟨rfl, hk3⟩; have H3 := hide (HK.out.trans hk3 (by simp)); clear hk3 HK)
    go_roundw
    case rel => exact ⟨k + 1, by omega, by go_num, by rw [HU.out]; go_num, H3⟩
    case measure => simp [intOf]; omega
   | cut a =>
    simp only [encCh] at hcell
    simp only [Ch.units] at HU hU1
    have hm : ∀ w : World, (method 367 142 (.agg #[.int .i64 a]) "freight/disk.units").run Tryz.prog w = .ok (169, .agg #[.int .i64 a]) w := fun _ => by kernel_rfl
    have hmn : ∀ w : World, (nilAhead 367 142 (.agg #[.int .i64 a]) "freight/disk.units").run Tryz.prog w = .ok (some false) w := fun _ => by kernel_rfl
    go_wp2_with (go_at_call 169; refine (cutUnits_ok a _).mono ?_; rintro e w3 ⟨rfl, hk3⟩; have H3 := hide (HK.out.trans hk3 (by simp)); clear hk3 HK)
    go_roundw
    case rel => exact ⟨k + 1, by omega, by go_num, by rw [HU.out]; go_num, H3⟩
    case measure => simp [intOf]; omega
  ·have hkL : k = L := by omega
   have HE : Hid (t.row.take k = t.row) := hide (List.take_of_length_le (by omega))
   clear hT c1 hkL
   go_wp2
   go_ret
   exact ⟨by rw [HE.out]; rfl, HK.out⟩
end

section
open Go.RowKit Dsk
set_option linter.unusedVariables false
set_option linter.unusedSimpArgs false
theorem loc_refl (w : World) (v : Value) : Loc w v v := fun g hg => .inl hg
theorem loc_nil (w : World) (v : Value) : Loc w v (.slice none 0 0) := fun g hg => by simp [Value.ownBlock] at hg
set_option maxHeartbeats 800000 in
set_option maxRecDepth 100000 in
theorem thingSync_ok (b : Nat) (rv sv : Value) (t : Th) (w : World) (h : Th0 w b rv sv t) :
  Calls Tryz.prog 81 #[.pointer (some ⟨b, 0, none⟩)] w fun e w' => e = .returned (.tuple #[]) ∧ Mv w w' b rv sv t.sync := by
 have c0 := h.c0
 have c2 := h.c2
 have f0 := h.fr 0
 have hcv := run_to_str w sv _ _ h.shown
 have hQ1 := heap_setCell_same w b 0 _ _ (encStr t.shown) h.cells
 have c1 : (w.setCell ⟨b, 0, none⟩ (encStr t.shown)).cell? ⟨b, 1, none⟩ = some rv := by rw [cell_of_row _ b 1 _ _ _ hQ1]; rfl
 have f1 : (w.setCell ⟨b, 0, none⟩ (encStr t.shown)).frozen? ⟨b, 1, none⟩ = false := frozen_of_row _ b 1 _ _ hQ1
 have FIN : Hid (Mv w ((w.setCell ⟨b, 0, none⟩ (encStr t.shown)).setCell ⟨b, 1, none⟩ (.slice none 0 0)) b rv sv t.sync) := by
  have hK : Keep (· = b) w ((w.setCell ⟨b, 0, none⟩ (encStr t.shown)).setCell ⟨b, 1, none⟩ (.slice none 0 0)) := ((Keep.refl (· = b) w).setCell (p := ⟨b, 0, none⟩) (fun _ => rfl) _).setCell (p := ⟨b, 1, none⟩) (fun _ => rfl) _
  exact ⟨.slice none 0 0, sv, ⟨heap_setCell_same _ b 1 _ _ _ hQ1, World.ownsRow_nil _ _ _ _, h.shown.keep hK (fun g hg e => h.sb (by rw [hg, e]))⟩, hK.mono (fun k e _ => .inl e), loc_nil _ _, loc_refl _ _⟩
 clear h hQ1
 go_enter Tryz.func81, Tryz.ntmps81
 go_wp2
 first | refine bodyPost_end (results_none rfl _ _ _) rfl ?_ | refine bodyPost_ret (results_none rfl _ _ _) rfl ?_
 exact ⟨rfl, FIN.out⟩
def chFunc : Ch → Nat
 | .wr _ _ => 175
 | .cut _ => 168
def chVal : Ch → Value
 | .wr a d => .agg #[.int .i64 a, encStr d]
 | .cut a => .agg #[.int .i64 a]
theorem chApply_ok (c : Ch) (u n cap : Nat) (so : Option Addr) (xs : By) (w : World) (h : OwnB w (.slice so n cap) n xs) (hp : c.place ≤ n) (hu : u ≤ c.units) (hb : n + c.units ≤ 1073741824) :
  Calls Tryz.prog (chFunc c) #[chVal c, .slice so n cap, .int .i64 u] w fun e w' => ∃ v', e = .returned v' ∧ Applied w w' (.slice so n cap) v' (c.apply xs u) := by
 cases c with
 | wr a d => exact writeApply_ok a u n cap d xs so w h hp hu hb
 | cut a =>
  have hxl := h.1
  obtain ⟨_, _, e, hn, hc, _⟩ := h.shape
  injection e with _ _ e3
  subst e3
  refine (cutApply_ok a u n cap so w hp hn hc).mono fun e w' ⟨he, hk⟩ => ⟨_, he, ?_, Keep.ofNone hk, fun g hg => .inl (by cases so <;> simp_all [Value.ownBlock])⟩
  have h2 := own_cut (h.kept hk) a hp
  have hl : ((Ch.cut a).apply xs u).length = a := by simp only [Ch.apply, List.length_take]; have : a ≤ n := hp; omega
  rw [hl]
  exact h2
set_option maxHeartbeats 1600000 in
set_option maxRecDepth 100000 in
theorem thingChange_ok (c : Ch) (b : Nat) (rv sv : Value) (t : Th) (w : World) (h : Th0 w b rv sv t) (hp : c.place ≤ t.shown.length) (hb : t.shown.length + c.units + t.row.length < 1073741824) :
  Calls Tryz.prog 78 #[.pointer (some ⟨b, 0, none⟩), encCh c] w fun e w' => e = .returned (.tuple #[]) ∧ Mv w w' b rv sv (t.change c) := by
 obtain ⟨ro, rc, rfl, hrc⟩ := own_shape h.row
 obtain ⟨so, sc, rfl, hsc, hscm, hs0, hs1⟩ := h.shown.shape
 obtain ⟨g, c2, w1, hrun, ho1, hk1, hg1, hlt1⟩ := run_app (P := Tryz.prog) w 120 120 189 Tryz.underlying120 Tryz.infoBc rfl (by decide) _ t.row.length _ h.row [encCh c] rfl (by simp [encCh_one]) (by unfold maxLen; omega) (by omega)
 have hK1 := hk1 (fun k => (Value.slice ro t.row.length rc).ownBlock = some k) (fun k e => e)
 have hQ1 := hK1.heapOf h.cells h.rb
 have hgb : g ≠ b := by rcases hg1 with e | e; exact fun e2 => h.rb (by rw [← e, e2]); have := h.lt; omega
 have hS1 := h.shown.keep hK1 (fun k hk hk2 => OwnB.two h.row h.shown (by decide) k hk2 hk)
 obtain ⟨w2, hw2⟩ : ∃ w2, w2 = w1.setCell ⟨b, 1, none⟩ (.slice (some ⟨g, 0, none⟩) (t.row.length + 1) c2) := ⟨_, rfl⟩
 have hK2 : Keep (· = b) w1 w2 := by rw [hw2]; exact (Keep.refl (· = b) w1).setCell (p := ⟨b, 1, none⟩) (fun _ => rfl) _
 have hQ2 : w2.heap[b]? = some (.cells #[encStr t.safe, .slice (some ⟨g, 0, none⟩) (t.row.length + 1) c2, .slice so t.shown.length sc] 122 (0, 0)) := by rw [hw2]; exact heap_setCell_same w1 b 1 _ _ _ hQ1
 have hS2 := hS1.keep hK2 (fun k hk e => h.sb (by rw [hk, e]))
 have ho2 := own_keeps ho1 hK2 (fun k e e2 => by simp only [Value.ownBlock, Option.some.injEq] at e; exact hgb (by rw [e, e2]))
 have c1 := h.c1
 have d1 : w1.cell? ⟨b, 1, none⟩ = some (.slice ro t.row.length rc) := by rw [cell_of_row w1 b 1 _ _ _ hQ1]; rfl
 have f1 : w1.frozen? ⟨b, 1, none⟩ = false := frozen_of_row w1 b 1 _ _ hQ1
 have d2 : w2.cell? ⟨b, 2, none⟩ = some (.slice so t.shown.length sc) := by rw [cell_of_row w2 b 2 _ _ _ hQ2]; rfl
 have hK02 : Keep (thF b (.slice ro t.row.length rc) (.slice so t.shown.length sc)) w w2 := (hK1.mono (fun k e _ => .inr (.inl e))).trans hK2 (fun k e _ => .inl e)
 have hbw2 : b < w2.heap.size := (Array.getElem?_eq_some_iff.1 hQ2).1
 -- behind the call of apply, in world v
 have AP : Hid (∀ v, Kept [] w2 v → ∀ v' w3, Applied v w3 (.slice so t.shown.length sc) v' (c.apply t.shown c.units) → w3.cell? ⟨b, 2, none⟩ = some (.slice so t.shown.length sc) ∧ w3.frozen? ⟨b, 2, none⟩ = false ∧ Mv w (w3.setCell ⟨b, 2, none⟩ v') b (.slice ro t.row.length rc) (.slice so t.shown.length sc) (t.change c)) := by
  intro v hv v' w3 ha
  have hK3 : Keep (fun k => (Value.slice so t.shown.length sc).ownBlock = some k) w2 w3 := (Keep.ofNone hv).trans ha.2.1 (fun i e _ => e)
  have hQ3 := hK3.heapOf hQ2 (fun e => h.sb e)
  have hbv : b < v.heap.size := Nat.lt_of_lt_of_le hbw2 hv.size
  have hne : ∀ k, v'.ownBlock = some k → k ≠ b := fun k hk e => by
   rcases ha.2.2 k hk with e2 | e2
   ·exact h.sb (by rw [e2, e])
   ·omega
  have hK4 : Keep (· = b) w3 (w3.setCell ⟨b, 2, none⟩ v') := (Keep.refl (· = b) w3).setCell (p := ⟨b, 2, none⟩) (fun _ => rfl) _
  refine ⟨by rw [cell_of_row w3 b 2 _ _ _ hQ3]; rfl, frozen_of_row w3 b 2 _ _ hQ3, .slice (some ⟨g, 0, none⟩) (t.row.length + 1) c2, v', ⟨heap_setCell_same w3 b 2 _ _ _ hQ3, ?_, ha.1.keep hK4 hne⟩, (hK02.trans hK3 (fun i e _ => .inr (.inr e))).trans hK4 (fun i e _ => .inl e), ?_, ?_⟩
  ·have h3 := own_keeps (own_keeps ho2 hK3 (fun k hk e => OwnB.two ho2 hS2 (by decide) k hk e)) hK4 (fun k e e2 => by simp only [Value.ownBlock, Option.some.injEq] at e; exact hgb (by rw [e, e2]))
   have e1 : (t.change c).row.length = t.row.length + 1 := by simp [Th.change]
   have e2 : (t.change c).row.map encCh = t.row.map encCh ++ [encCh c] := by simp [Th.change]
   rw [e1, e2]
   exact h3
  ·intro k e
   simp only [Value.ownBlock, Option.some.injEq] at e
   subst e
   rcases hg1 with e | e
   ·exact .inl e.symm
   ·exact .inr e
  ·intro k e
   have := hK02.size
   have := hv.size
   rcases ha.2.2 k e with e2 | e2
   ·exact .inl e2
   ·exact .inr (by omega)
 have HC : Hid (∀ v, Kept [] w2 v → Calls Tryz.prog (chFunc c) #[chVal c, .slice so t.shown.length sc, .int .i64 c.units] v fun e w' => ∃ v', e = .returned v' ∧ Applied v w' (.slice so t.shown.length sc) v' (c.apply t.shown c.units)) := fun v hv =>
  chApply_ok c c.units t.shown.length sc so t.shown v (hS2.kept hv) hp (Nat.le_refl _) (by omega)
 clear hS2 ho2 hQ2 hS1 hQ1 hK1 hK2 ho1 hk1 h hg1 hgb hK02 hrc hsc hscm hs0 hs1 hlt1 hp
 cases c with
 | wr a d =>
  simp only [encCh] at hrun ⊢
  simp only [Ch.units, chFunc, chVal] at HC AP
  have hm : ∀ w : World, (method 367 187 (.agg #[.int .i64 a, encStr d]) "freight/disk.units").run Tryz.prog w = .ok (176, .agg #[.int .i64 a, encStr d]) w := fun _ => by kernel_rfl
  have hmn : ∀ w : World, (nilAhead 367 187 (.agg #[.int .i64 a, encStr d]) "freight/disk.units").run Tryz.prog w = .ok (some false) w := fun _ => by kernel_rfl
  have hp : ∀ w : World, (method 367 187 (.agg #[.int .i64 a, encStr d]) "freight/disk.apply").run Tryz.prog w = .ok (175, .agg #[.int .i64 a, encStr d]) w := fun _ => by kernel_rfl
  have hpn : ∀ w : World, (nilAhead 367 187 (.agg #[.int .i64 a, encStr d]) "freight/disk.apply").run Tryz.prog w = .ok (some false) w := fun _ => by kernel_rfl
  go_enter Tryz.func78, Tryz.ntmps78
  go_wp2_with (at_builtin; refine wpList_app_run rfl _ _ 120 120 rfl _ _ rfl rfl _ _ hrun ?_)
  rw [← hw2]
  clear hw2 hrun
  refine wp_region_late (fun w' => Kept [] w2 w') (fun i => i == 11 || i == 14) (by kernel_rfl) ?_
  have h0 : Kept [] w2 w2.drew := (Kept.refl [] w2).drew
  generalize World.drew w2 = v0 at h0 ⊢
  refine wpAnyL_free (i := 0) (v := .pointer (some ⟨b, 0, none⟩)) rfl (by kernel_rfl) (by kernel_rfl) (by kernel_rfl) (fun _ _ _ h => h) (Or.inl ⟨by rfl, fun w _ => by go_simp⟩) ?_
  try simp only [z1, z2, z3, z4, z5, z6, z7, z8]
  refine wpAnyL_free (i := 1) (v := .iface 187 (.agg #[.int .i64 a, encStr d])) rfl (by kernel_rfl) (by kernel_rfl) (by kernel_rfl) (fun _ _ _ h => h) (Or.inl ⟨by rfl, fun w _ => by go_simp⟩) ?_
  try simp only [z1, z2, z3, z4, z5, z6, z7, z8]
  refine wpAnyL_free (i := 2) (v := .pointer (some ⟨b, 0, none⟩)) rfl (by kernel_rfl) (by kernel_rfl) (by kernel_rfl) (fun _ _ _ h => h) (Or.inl ⟨by rfl, fun w _ => by go_simp⟩) ?_
  try simp only [z1, z2, z3, z4, z5, z6, z7, z8]
  refine wpAnyL_free (i := 3) (v := .pointer (some ⟨b, 0, none⟩)) rfl (by kernel_rfl) (by kernel_rfl) (by kernel_rfl) (fun _ _ _ h => h) (Or.inl ⟨by rfl, fun w _ => by go_simp⟩) ?_
  try simp only [z1, z2, z3, z4, z5, z6, z7, z8]
  refine wpAnyL_free (i := 4) (v := .pointer (some ⟨b, 2, none⟩)) rfl (by kernel_rfl) (by kernel_rfl) (by kernel_rfl) (fun _ _ _ h => h) (Or.inl ⟨by rfl, fun w _ => by go_simp⟩) ?_
  try simp only [z1, z2, z3, z4, z5, z6, z7, z8]
  refine wpAnyL_take (i := 5) (v := .slice so t.shown.length sc) rfl (by kernel_rfl) (by kernel_rfl) (by kernel_rfl) (by kernel_rfl) (by kernel_rfl) (fun _ _ _ h => h) (Or.inl ⟨by rfl, fun w hSw => by have c := Kept.cellOf hSw d2 (by simp); go_simp⟩) h0 ?_
  try simp only [z1, z2, z3, z4, z5, z6, z7, z8]
  refine wpAnyL_free (i := 6) (v := .iface 187 (.agg #[.int .i64 a, encStr d])) rfl (by kernel_rfl) (by kernel_rfl) (by kernel_rfl) (fun _ _ _ h => h) (Or.inl ⟨by rfl, fun w _ => by go_simp⟩) ?_
  try simp only [z1, z2, z3, z4, z5, z6, z7, z8]
  refine wpAnyL_free (i := 8) (v := .func (Fn.method "freight/disk.apply") #[.iface 187 (.agg #[.int .i64 a, encStr d])] #[]) rfl (by kernel_rfl) (by kernel_rfl) (by kernel_rfl) (fun _ _ _ h => h) (Or.inl ⟨by rfl, fun w _ => by go_simp⟩) ?_
  try simp only [z1, z2, z3, z4, z5, z6, z7, z8]
  refine wpAnyL_free (i := 9) (v := .func (Fn.method "freight/disk.apply") #[.iface 187 (.agg #[.int .i64 a, encStr d])] #[]) rfl (by kernel_rfl) (by kernel_rfl) (by kernel_rfl) (fun _ _ _ h => h) (Or.inl ⟨by rfl, fun w _ => by go_simp⟩) ?_
  try simp only [z1, z2, z3, z4, z5, z6, z7, z8]
  refine wpAnyL_free (i := 10) (v := .iface 187 (.agg #[.int .i64 a, encStr d])) rfl (by kernel_rfl) (by kernel_rfl) (by kernel_rfl) (fun _ _ _ h => h) (Or.inl ⟨by rfl, fun w _ => by go_simp⟩) ?_
  try simp only [z1, z2, z3, z4, z5, z6, z7, z8]
  refine wpAnyL_one (i := 7) (by kernel_rfl) rfl (fun K hK => ?_)
  rw [if_pos (by rfl)]
  go_simp
  refine (writeUnits_ok a d _).mono ?_
  rintro e v1 ⟨rfl, hq⟩
  have h1 : Kept [] w2 v1 := h0.trans hq (by simp)
  refine hK.out _ _ (fun _ _ => h1) ?_
  clear hK K hq h0
  try simp only [z1, z2, z3, z4, z5, z6, z7, z8]
  refine wpAnyL_one (i := 11) (by kernel_rfl) rfl (fun K hK => ?_)
  rw [if_pos (by rfl)]
  go_simp
  refine (HC.out v1 h1).mono ?_
  rintro e w3 ⟨v', rfl, ha⟩
  obtain ⟨vo, vc, rfl, _⟩ := ha.1.shape
  obtain ⟨k2, k3, FIN⟩ := AP.out v1 h1 _ w3 ha
  refine hK.out _ _ (fun _ h => by cases h) ?_
  clear hK K ha h1 AP HC
  try simp only [z1, z2, z3, z4, z5, z6, z7, z8]
  have HF := hide FIN
  clear FIN
  refine wpAnyL_free (i := 12) (v := .pointer (some ⟨b, 0, none⟩)) rfl (by kernel_rfl) (by kernel_rfl) (by kernel_rfl) (fun _ _ _ h => h) (Or.inl ⟨by rfl, fun w _ => by go_simp⟩) ?_
  try simp only [z1, z2, z3, z4, z5, z6, z7, z8]
  refine wpAnyL_free (i := 13) (v := .pointer (some ⟨b, 2, none⟩)) rfl (by kernel_rfl) (by kernel_rfl) (by kernel_rfl) (fun _ _ _ h => h) (Or.inl ⟨by rfl, fun w _ => by go_simp⟩) ?_
  try simp only [z1, z2, z3, z4, z5, z6, z7, z8]
  refine wpAnyL_one (i := 14) (by kernel_rfl) rfl (fun K hK => ?_)
  rw [if_pos (by rfl)]
  go_simp
  refine hK.out _ _ (fun _ h => by cases h) ?_
  clear hK K
  try simp only [z1, z2, z3, z4, z5, z6, z7, z8]
  refine wpAnyL_done (by kernel_rfl) ?_ _
  first | refine bodyPost_end (results_none rfl _ _ _) rfl ?_ | refine bodyPost_ret (results_none rfl _ _ _) rfl ?_
  exact ⟨rfl, HF.out⟩
 | cut a =>
  simp only [encCh] at hrun ⊢
  simp only [Ch.units, chFunc, chVal] at HC AP
  have hm : ∀ w : World, (method 367 142 (.agg #[.int .i64 a]) "freight/disk.units").run Tryz.prog w = .ok (169, .agg #[.int .i64 a]) w := fun _ => by kernel_rfl
  have hmn : ∀ w : World, (nilAhead 367 142 (.agg #[.int .i64 a]) "freight/disk.units").run Tryz.prog w = .ok (some false) w := fun _ => by kernel_rfl
  have hp : ∀ w : World, (method 367 142 (.agg #[.int .i64 a]) "freight/disk.apply").run Tryz.prog w = .ok (168, .agg #[.int .i64 a]) w := fun _ => by kernel_rfl
  have hpn : ∀ w : World, (nilAhead 367 142 (.agg #[.int .i64 a]) "freight/disk.apply").run Tryz.prog w = .ok (some false) w := fun _ => by kernel_rfl
  go_enter Tryz.func78, Tryz.ntmps78
  go_wp2_with (at_builtin; refine wpList_app_run rfl _ _ 120 120 rfl _ _ rfl rfl _ _ hrun ?_)
  rw [← hw2]
  clear hw2 hrun
  refine wp_region_late (fun w' => Kept [] w2 w') (fun i => i == 11 || i == 14) (by kernel_rfl) ?_
  have h0 : Kept [] w2 w2.drew := (Kept.refl [] w2).drew
  generalize World.drew w2 = v0 at h0 ⊢
  refine wpAnyL_free (i := 0) (v := .pointer (some ⟨b, 0, none⟩)) rfl (by kernel_rfl) (by kernel_rfl) (by kernel_rfl) (fun _ _ _ h => h) (Or.inl ⟨by rfl, fun w _ => by go_simp⟩) ?_
  try simp only [z1, z2, z3, z4, z5, z6, z7, z8]
  refine wpAnyL_free (i := 1) (v := .iface 142 (.agg #[.int .i64 a])) rfl (by kernel_rfl) (by kernel_rfl) (by kernel_rfl) (fun _ _ _ h => h) (Or.inl ⟨by rfl, fun w _ => by go_simp⟩) ?_
  try simp only [z1, z2, z3, z4, z5, z6, z7, z8]
  refine wpAnyL_free (i := 2) (v := .pointer (some ⟨b, 0, none⟩)) rfl (by kernel_rfl) (by kernel_rfl) (by kernel_rfl) (fun _ _ _ h => h) (Or.inl ⟨by rfl, fun w _ => by go_simp⟩) ?_
  try simp only [z1, z2, z3, z4, z5, z6, z7, z8]
  refine wpAnyL_free (i := 3) (v := .pointer (some ⟨b, 0, none⟩)) rfl (by kernel_rfl) (by kernel_rfl) (by kernel_rfl) (fun _ _ _ h => h) (Or.inl ⟨by rfl, fun w _ => by go_simp⟩) ?_
  try simp only [z1, z2, z3, z4, z5, z6, z7, z8]
  refine wpAnyL_free (i := 4) (v := .pointer (some ⟨b, 2, none⟩)) rfl (by kernel_rfl) (by kernel_rfl) (by kernel_rfl) (fun _ _ _ h => h) (Or.inl ⟨by rfl, fun w _ => by go_simp⟩) ?_
  try simp only [z1, z2, z3, z4, z5, z6, z7, z8]
  refine wpAnyL_take (i := 5) (v := .slice so t.shown.length sc) rfl (by kernel_rfl) (by kernel_rfl) (by kernel_rfl) (by kernel_rfl) (by kernel_rfl) (fun _ _ _ h => h) (Or.inl ⟨by rfl, fun w hSw => by have c := Kept.cellOf hSw d2 (by simp); go_simp⟩) h0 ?_
  try simp only [z1, z2, z3, z4, z5, z6, z7, z8]
  refine wpAnyL_free (i := 6) (v := .iface 142 (.agg #[.int .i64 a])) rfl (by kernel_rfl) (by kernel_rfl) (by kernel_rfl) (fun _ _ _ h => h) (Or.inl ⟨by rfl, fun w _ => by go_simp⟩) ?_
  try simp only [z1, z2, z3, z4, z5, z6, z7, z8]
  refine wpAnyL_free (i := 8) (v := .func (Fn.method "freight/disk.apply") #[.iface 142 (.agg #[.int .i64 a])] #[]) rfl (by kernel_rfl) (by kernel_rfl) (by kernel_rfl) (fun _ _ _ h => h) (Or.inl ⟨by rfl, fun w _ => by go_simp⟩) ?_
  try simp only [z1, z2, z3, z4, z5, z6, z7, z8]
  refine wpAnyL_free (i := 9) (v := .func (Fn.method "freight/disk.apply") #[.iface 142 (.agg #[.int .i64 a])] #[]) rfl (by kernel_rfl) (by kernel_rfl) (by kernel_rfl) (fun _ _ _ h => h) (Or.inl ⟨by rfl, fun w _ => by go_simp⟩) ?_
  try simp only [z1, z2, z3, z4, z5, z6, z7, z8]
  refine wpAnyL_free (i := 10) (v := .iface 142 (.agg #[.int .i64 a])) rfl (by kernel_rfl) (by kernel_rfl) (by kernel_rfl) (fun _ _ _ h => h) (Or.inl ⟨by rfl, fun w _ => by go_simp⟩) ?_
  try simp only [z1, z2, z3, z4, z5, z6, z7, z8]
  refine wpAnyL_one (i := 7) (by kernel_rfl) rfl (fun K hK => ?_)
  rw [if_pos (by rfl)]
  go_simp
  refine (cutUnits_ok a _).mono ?_
  rintro e v1 ⟨rfl, hq⟩
  have h1 : Kept [] w2 v1 := h0.trans hq (by simp)
  refine hK.out _ _ (fun _ _ => h1) ?_
  clear hK K hq h0
  try simp only [z1, z2, z3, z4, z5, z6, z7, z8]
  refine wpAnyL_one (i := 11) (by kernel_rfl) rfl (fun K hK => ?_)
  rw [if_pos (by rfl)]
  go_simp
  refine (HC.out v1 h1).mono ?_
  rintro e w3 ⟨v', rfl, ha⟩
  obtain ⟨vo, vc, rfl, _⟩ := ha.1.shape
  obtain ⟨k2, k3, FIN⟩ := AP.out v1 h1 _ w3 ha
  refine hK.out _ _ (fun _ h => by cases h) ?_
  clear hK K ha h1 AP HC
  try simp only [z1, z2, z3, z4, z5, z6, z7, z8]
  have HF := hide FIN
  clear FIN
  refine wpAnyL_free (i := 12) (v := .pointer (some ⟨b, 0, none⟩)) rfl (by kernel_rfl) (by kernel_rfl) (by kernel_rfl) (fun _ _ _ h => h) (Or.inl ⟨by rfl, fun w _ => by go_simp⟩) ?_
  try simp only [z1, z2, z3, z4, z5, z6, z7, z8]
  refine wpAnyL_free (i := 13) (v := .pointer (some ⟨b, 2, none⟩)) rfl (by kernel_rfl) (by kernel_rfl) (by kernel_rfl) (fun _ _ _ h => h) (Or.inl ⟨by rfl, fun w _ => by go_simp⟩) ?_
  try simp only [z1, z2, z3, z4, z5, z6, z7, z8]
  refine wpAnyL_one (i := 14) (by kernel_rfl) rfl (fun K hK => ?_)
  rw [if_pos (by rfl)]
  go_simp
  refine hK.out _ _ (fun _ h => by cases h) ?_
  clear hK K
  try simp only [z1, z2, z3, z4, z5, z6, z7, z8]
  refine wpAnyL_done (by kernel_rfl) ?_ _
  first | refine bodyPost_end (results_none rfl _ _ _) rfl ?_ | refine bodyPost_ret (results_none rfl _ _ _) rfl ?_
  exact ⟨rfl, HF.out⟩
end

end Go.Proofs.YtodihkdmneihiaaGreatDoor
