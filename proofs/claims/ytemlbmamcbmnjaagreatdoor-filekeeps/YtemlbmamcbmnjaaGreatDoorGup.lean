/-
  Contracts: thing.units, thing.sync, thing.change. (Written by tools/gu.py.)
-/
import Derived.Test.YtemlbmamcbmnjaaGreatDoorGtp
import Derived.Laws.BytesString
namespace Go.Proofs.YtemlbmamcbmnjaaGreatDoor
open Go.RowKit Dsk
set_option linter.unusedVariables false
set_option linter.unusedSimpArgs false

theorem Tryz.infoBc : (Tryz.prog.info? 183).map (fun i => (i.zero, i.size, i.bytes)) = some (some .nilIface, 1, 16) := by kernel_rfl
theorem encCh_one (c : Ch) : (encCh c).oneCell' = true := by cases c <;> rfl

/-- A thing in memory, whoever owns it. -/
structure Th0 (w : World) (b : Nat) (rv sv : Value) (t : Th) : Prop where
  cells : w.heap[b]? = some (.cells #[encStr t.safe, rv, sv] 108 (0, 0))
  row : w.ownsRow 0 183 1 rv t.row.length (t.row.map encCh)
  shown : OwnB w sv t.shown.length t.shown
theorem ThAt.th0 {w : World} {o : Lab} {l b : Nat} {rv sv : Value} {t : Th} (h : ThAt w o l b rv sv t) : Th0 w b rv sv t := ⟨h.cells, h.row, h.shown⟩
/-- Where a row lies behind a call: where it lay, or in a new block. -/
def Loc (w : World) (v v' : Value) : Prop := ∀ g, v'.ownBlock = some g → v.ownBlock = some g ∨ w.heap.size ≤ g
def thF (b : Nat) (rv sv : Value) : Nat → Prop := fun k => k = b ∨ rv.ownBlock = some k ∨ sv.ownBlock = some k
/-- A thing behind a call. -/
def Mv (w w' : World) (b : Nat) (rv sv : Value) (t : Th) : Prop := ∃ rv' sv', Th0 w' b rv' sv' t ∧ Keep (thF b rv sv) w w' ∧ Loc w rv rv' ∧ Loc w sv sv'
theorem Th0.keep {F : Nat → Prop} {w w' : World} {b : Nat} {rv sv : Value} {t : Th} (h : Th0 w b rv sv t) (hk : Keep F w w') (hF : ∀ k, thF b rv sv k → ¬ F k) : Th0 w' b rv sv t :=
  ⟨hk.heapOf h.cells (hF b (.inl rfl)), own_keeps h.row hk (fun g hg => hF g (.inr (.inl hg))), h.shown.keep hk (fun g hg => hF g (.inr (.inr hg)))⟩
theorem Th0.kept {w w' : World} {b : Nat} {rv sv : Value} {t : Th} (h : Th0 w b rv sv t) (hk : Kept [] w w') : Th0 w' b rv sv t := h.keep (Keep.ofNone (F := fun _ => False) hk) (fun _ _ h => h)
theorem Th0.lt {w : World} {b : Nat} {rv sv : Value} {t : Th} (h : Th0 w b rv sv t) : b < w.heap.size := (Array.getElem?_eq_some_iff.1 h.cells).1
theorem Th0.c0 {w : World} {b : Nat} {rv sv : Value} {t : Th} (h : Th0 w b rv sv t) : w.cell? ⟨b, 0, none⟩ = some (encStr t.safe) := by rw [cell_of_row w b 0 _ _ _ h.cells]; rfl
theorem Th0.c1 {w : World} {b : Nat} {rv sv : Value} {t : Th} (h : Th0 w b rv sv t) : w.cell? ⟨b, 1, none⟩ = some rv := by rw [cell_of_row w b 1 _ _ _ h.cells]; rfl
theorem Th0.c2 {w : World} {b : Nat} {rv sv : Value} {t : Th} (h : Th0 w b rv sv t) : w.cell? ⟨b, 2, none⟩ = some sv := by rw [cell_of_row w b 2 _ _ _ h.cells]; rfl
theorem Th0.fr {w : World} {b : Nat} {rv sv : Value} {t : Th} (h : Th0 w b rv sv t) (j : Nat) : w.frozen? ⟨b, j, none⟩ = false := frozen_of_row w b j _ _ h.cells
/-- Rows of two types lie in two blocks. -/
theorem own_two {w : World} {B B' s s' : Nat} {e e' : TypeId} {v v' : Value} {n n' : Nat} {xs xs' : List Value} (h : w.ownsRow B e s v n xs) (h' : w.ownsRow B' e' s' v' n' xs') (he : e ≠ e') (k : Nat) (hk : v.ownBlock = some k) : v'.ownBlock ≠ some k := by
  intro hk'
  rcases h.2 with ⟨rfl, _⟩ | ⟨g, cap, cur, rfl, _, hg, _⟩
  · simp [Value.ownBlock] at hk
  simp only [Value.ownBlock, Option.some.injEq] at hk
  subst hk
  exact own_ne h' hg he hk'
theorem Th0.rb {w : World} {b : Nat} {rv sv : Value} {t : Th} (h : Th0 w b rv sv t) : rv.ownBlock ≠ some b := own_ne h.row h.cells (by decide)
theorem Th0.sb {w : World} {b : Nat} {rv sv : Value} {t : Th} (h : Th0 w b rv sv t) : sv.ownBlock ≠ some b := h.shown.ne h.cells (by decide)

/-- Labels behind a call. -/
theorem ThAt.moved {w w' : World} {o : Lab} {l b : Nat} {rv sv : Value} {t t' : Th} (h : ThAt w o l b rv sv t) (hm : Mv w w' b rv sv t') : Tg w' (o.ext w w' l) l b t' ∧ Keep (fun k => o k = l) w w' := by
  obtain ⟨rv', sv', h0, hk, hr, hs⟩ := hm
  have hold : ∀ g, g < w.heap.size → o g = l → o.ext w w' l g = l := fun g hg e => by rw [Lab.ext_old hg]; exact e
  refine ⟨⟨rv', sv', h0.cells, h0.row, h0.shown, hold b h.lt h.lb, fun g hg => ?_, fun g hg => ?_⟩, hk.mono (fun k hk _ => ?_)⟩
  · rcases hr g hg with e | e
    · exact hold g (h.row.lt g e).2 (h.lr g e)
    · exact Lab.ext_new e (h0.row.lt g hg).2
  · rcases hs g hg with e | e
    · exact hold g (h.shown.lt e) (h.ls g e)
    · exact Lab.ext_new e (h0.shown.lt hg)
  · rcases hk with rfl | e | e
    · exact h.lb
    · exact h.lr k e
    · exact h.ls k e

set_option maxHeartbeats 1600000 in
set_option maxRecDepth 100000 in
theorem thingUnits_ok (b : Nat) (rv sv : Value) (t : Th) (w : World) (h : Th0 w b rv sv t) (hb : unitsOf t.row + t.row.length ≤ 1073741824) :
    Calls Tryz.prog 112 #[.pointer (some ⟨b, 0, none⟩)] w fun e w' => e = .returned (.int .i64 (unitsOf t.row)) ∧ Kept [] w w' := by
  obtain ⟨ro, rc, rfl, hrc⟩ := own_shape h.row
  have c1 := h.c1
  have HW : Hid (∀ w', Kept [] w w' → Th0 w' b (.slice ro t.row.length rc) sv t) := fun w' hk => h.kept hk
  have HB := hide hb
  clear h
  go_enter Tryz.func112, Tryz.ntmps112
  go_wp2
  generalize hL : t.row.length = L at *
  go_loopw [11, 3, 5] (fun i s _ wr => ∃ k : Nat, k ≤ L ∧ i = .int .i64 k ∧ s = .int .i64 (unitsOf (t.row.take k)) ∧ Hid (Kept [] w wr)) (fun i _ _ wr => L - (intOf i).toNat)
  case atStart => exact ⟨0, by omega, rfl, rfl, hide (Kept.refl _ _)⟩
  case round =>
    obtain ⟨k, hk, rfl, rfl, HK⟩ := hrel
    have hT := HW.out wr HK.out
    by_cases hlt : k < L
    · obtain ⟨c, hc⟩ : ∃ c, t.row[k]? = some c := ⟨t.row[k]'(by omega), List.getElem?_eq_getElem (by omega)⟩
      obtain ⟨g, hg⟩ : ∃ g, ro = some ⟨g, 0, none⟩ := by
        rcases hT.row.2 with ⟨e, e2⟩ | ⟨g, cap, cur, e, _⟩
        · omega
        · injection e with e _ _; exact ⟨g, e⟩
      subst hg
      have hcell : wr.cell? ⟨g, k, none⟩ = some (encCh c) := by
        have := hT.row.cells (g := g) rfl k (encCh c) (by simp [hc])
        rwa [add0] at this
      have HU : Hid (unitsOf (t.row.take (k + 1)) = unitsOf (t.row.take k) + c.units) := by
        rw [List.take_add_one, hc]
        exact unitsOf_snoc _ _
      have hle : unitsOf (t.row.take (k + 1)) ≤ unitsOf t.row := by
        have h1 : unitsOf (t.row.take (k + 1) ++ t.row.drop (k + 1)) = unitsOf (t.row.take (k + 1)) + unitsOf (t.row.drop (k + 1)) := by
          generalize t.row.take (k + 1) = X
          generalize t.row.drop (k + 1) = Y
          induction X with
          | nil => simp [unitsOf]
          | cons x r ih => simp only [List.cons_append, unitsOf, ih]; omega
        rw [List.take_append_drop] at h1
        omega
      have hU1 : unitsOf (t.row.take k) + c.units ≤ 1073741824 := by have := HB.out; rw [← HU.out]; omega
      clear hT hc hle c1
      generalize unitsOf (t.row.take k) = U at HU hU1
      cases c with
      | wr a d =>
        simp only [encCh] at hcell
        simp only [Ch.units] at HU hU1
        have hm : ∀ w : World, (method 377 205 (.agg #[.int .i64 a, encStr d]) "freight/disk.units").run Tryz.prog w = .ok (185, .agg #[.int .i64 a, encStr d]) w := fun _ => by kernel_rfl
        have hmn : ∀ w : World, (nilAhead 377 205 (.agg #[.int .i64 a, encStr d]) "freight/disk.units").run Tryz.prog w = .ok (some false) w := fun _ => by kernel_rfl
        go_wp2_with (go_at_call 185; refine (writeUnits_ok a d _).mono ?_; rintro e w3 ⟨rfl, hk3⟩; have H3 := hide (HK.out.trans hk3 (by simp)); clear hk3 HK)
        go_roundw
        case rel => exact ⟨k + 1, by omega, by go_num, by rw [HU.out]; go_num, H3⟩
        case measure => simp [intOf]; omega
      | cut a =>
        simp only [encCh] at hcell
        simp only [Ch.units] at HU hU1
        have hm : ∀ w : World, (method 377 159 (.agg #[.int .i64 a]) "freight/disk.units").run Tryz.prog w = .ok (178, .agg #[.int .i64 a]) w := fun _ => by kernel_rfl
        have hmn : ∀ w : World, (nilAhead 377 159 (.agg #[.int .i64 a]) "freight/disk.units").run Tryz.prog w = .ok (some false) w := fun _ => by kernel_rfl
        go_wp2_with (go_at_call 178; refine (cutUnits_ok a _).mono ?_; rintro e w3 ⟨rfl, hk3⟩; have H3 := hide (HK.out.trans hk3 (by simp)); clear hk3 HK)
        go_roundw
        case rel => exact ⟨k + 1, by omega, by go_num, by rw [HU.out]; go_num, H3⟩
        case measure => simp [intOf]; omega
    · have hkL : k = L := by omega
      have HE : Hid (t.row.take k = t.row) := hide (List.take_of_length_le (by omega))
      clear hT c1 hkL
      go_wp2
      go_ret
      exact ⟨by rw [HE.out]; rfl, HK.out⟩
end Go.Proofs.YtemlbmamcbmnjaaGreatDoor
