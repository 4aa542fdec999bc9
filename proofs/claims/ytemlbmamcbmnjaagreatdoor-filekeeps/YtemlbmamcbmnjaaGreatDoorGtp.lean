/-
  Contracts: write.units, cut.units, cut.apply, write.apply.
-/
import Derived.Test.YtemlbmamcbmnjaaGreatDoorGsp
namespace Go.Proofs.YtemlbmamcbmnjaaGreatDoor
open Go.RowKit Dsk
set_option linter.unusedVariables false
set_option linter.unusedSimpArgs false

theorem Tryz.strTo (W : World) (d : By) (m : Nat) (hm : m ≤ d.length) : (Instr.slice 9 (.string ⟨d.toArray⟩) none (some (.int .i64 m)) none).run Tryz.prog W = .ok (.string ⟨(d.take m).toArray⟩) W := by
  rw [run_slice_string_h (P := Tryz.prog) W 9 ⟨d.toArray⟩ Tryz.underlying9 .i64 m (by omega) (by rw [str_size]; omega)]
  congr 2
  apply ByteArray.ext
  simp [ByteArray.data_extract]
theorem Tryz.strFrom (W : World) (d : By) (m : Nat) (hm : m ≤ d.length) : (Instr.slice 9 (.string ⟨d.toArray⟩) (some (.int .i64 m)) none none).run Tryz.prog W = .ok (.string ⟨(d.drop m).toArray⟩) W := by
  rw [run_slice_string_l (P := Tryz.prog) W 9 ⟨d.toArray⟩ Tryz.underlying9 .i64 m (by omega) (by rw [str_size]; omega)]
  congr 2
  apply ByteArray.ext
  simp [ByteArray.data_extract, str_size]
  exact List.take_of_length_le (by simp)

set_option maxHeartbeats 800000 in
set_option maxRecDepth 100000 in
theorem writeUnits_ok (a : Nat) (d : By) (w : World) : Calls Tryz.prog 185 #[.agg #[.int .i64 a, encStr d]] w fun e w' => e = .returned (.int .i64 d.length) ∧ Kept [] w w' := by
  have hs := str_size d
  have hK := hide ((Kept.refl [] w).alloc (.cells #[.int .i64 a, encStr d] 205))
  go_enter Tryz.func185, Tryz.ntmps185
  go_wp2
  go_ret
  exact ⟨rfl, hK.out⟩
set_option maxHeartbeats 800000 in
set_option maxRecDepth 100000 in
theorem cutUnits_ok (a : Nat) (w : World) : Calls Tryz.prog 178 #[.agg #[.int .i64 a]] w fun e w' => e = .returned (.int .i64 1) ∧ Kept [] w w' := by
  have hK := hide ((Kept.refl [] w).alloc (.cells #[.int .i64 a] 159))
  go_enter Tryz.func178, Tryz.ntmps178
  go_wp2
  go_ret
  exact ⟨rfl, hK.out⟩
set_option maxHeartbeats 800000 in
set_option maxRecDepth 100000 in
theorem cutApply_ok (a u n cap : Nat) (so : Option Addr) (w : World) (ha : a ≤ n) (hn : n ≤ cap) (hb : cap ≤ maxLen) : Calls Tryz.prog 177 #[.agg #[.int .i64 a], .slice so n cap, .int .i64 u] w fun e w' => e = .returned (.slice so a cap) ∧ Kept [] w w' := by
  have hK := hide ((Kept.refl [] w).alloc (.cells #[.int .i64 a] 159))
  have hcut := fun W => Tryz.cutTo W so n cap a (by omega)
  go_enter Tryz.func177, Tryz.ntmps177
  go_wp2
  go_ret
  exact ⟨rfl, hK.out⟩

theorem wr_apply (xs d : By) (a u m : Nat) (ha : a ≤ xs.length) (hu : u ≤ d.length) (hm : m = min u (xs.length - a)) : over xs a ((d.take u).take m) ++ (d.take u).drop m = (Ch.wr a d).apply xs u := by
  unfold over
  simp only [Ch.apply]
  have hl : (d.take u).length = u := by simp; omega
  by_cases h : u ≤ xs.length - a
  · have : m = u := by omega
    subst this
    rw [List.take_of_length_le (l := List.take m d) (by omega), List.drop_of_length_le (l := List.take m d) (by omega), List.append_nil]
  · have : m = xs.length - a := by omega
    have h1 : ((d.take u).take m).length = m := by simp; omega
    rw [h1, hl, List.drop_of_length_le (l := xs) (by omega), List.drop_of_length_le (l := xs) (by omega), List.append_nil, List.append_nil, List.append_assoc, List.take_append_drop]

/-- What apply leaves: a row of its own in the same block, or in a new one. -/
def Applied (w w' : World) (v v' : Value) (ys : By) : Prop :=
  OwnB w' v' ys.length ys ∧ Keep (fun k => v.ownBlock = some k) w w' ∧ (∀ g, v'.ownBlock = some g → v.ownBlock = some g ∨ w.heap.size ≤ g)
theorem Applied.lt {w w' : World} {v v' : Value} {ys : By} (h : Applied w w' v v' ys) {g : Nat} (hg : v'.ownBlock = some g) : g < w'.heap.size := h.1.lt hg

set_option maxHeartbeats 1600000 in
set_option maxRecDepth 100000 in
theorem writeApply_ok (a u n cap : Nat) (d xs : By) (so : Option Addr) (w : World) (hown : OwnB w (.slice so n cap) n xs) (ha : a ≤ n) (hu : u ≤ d.length) (hb : n + d.length ≤ 1073741824) :
    Calls Tryz.prog 184 #[.agg #[.int .i64 a, encStr d], .slice so n cap, .int .i64 u] w fun e w' => ∃ v', e = .returned v' ∧ Applied w w' (.slice so n cap) v' ((Ch.wr a d).apply xs u) := by
  have hxl : xs.length = n := hown.1
  have hnc : n ≤ cap := by obtain ⟨_, _, e, h, _⟩ := hown.shape; injection e with _ _ e3; omega
  obtain ⟨w0, hw0⟩ : ∃ w0, w0 = w.alloc (.cells #[.int .i64 a, encStr d] 205) := ⟨_, rfl⟩
  have hk0 : Kept [] w w0 := by rw [hw0]; exact (Kept.refl [] w).alloc _
  have hb0 : w0.heap[w.heap.size]? = some (.cells #[.int .i64 a, encStr d] 205 (0, 0)) := by rw [hw0]; exact (MapKept.heap_alloc w _).1
  have hown0 : OwnB w0 (.slice so n cap) n xs := hown.kept hk0
  obtain ⟨D, hD⟩ : ∃ D, D = d.take u := ⟨_, rfl⟩
  have hDl : D.length = u := by rw [hD]; simp; omega
  obtain ⟨m, hm⟩ : ∃ m, m = min u (xs.length - a) := ⟨_, rfl⟩
  obtain ⟨so', hc1, hc2⟩ := Tryz.cutFrom w0 so n cap a ha
  have hst := fun W => Tryz.strTo W d u hu
  rw [← hD] at hst
  have hsf := fun W => Tryz.strFrom W D m (by omega)
  have hcopy : ∃ w1, (Builtin.copy_ #[28, 9] 3 #[.slice so' (n - a) (cap - a), encStr D]).run Tryz.prog w0 = .ok (.int .i64 m) w1 ∧ OwnB w1 (.slice so n cap) n (over xs a (D.take m)) ∧ Keep (fun k => (Value.slice so n cap).ownBlock = some k) w0 w1 := by
    by_cases h0 : m = 0
    · refine ⟨w0, ?_, ?_, Keep.refl _ _⟩
      · rw [h0]; exact run_copy_no w0 so' (n - a) (cap - a) D 3 (by omega)
      · rw [h0, List.take_zero, over_nil]; exact hown0
    · obtain ⟨g, hg⟩ : ∃ g, so = some ⟨g, 0, none⟩ := by
        rcases hown.2 with ⟨e, e2⟩ | ⟨g, cap', cur, fr, e, _⟩
        · omega
        · injection e with e _ _; exact ⟨g, e⟩
      subst hg
      rw [hc2 g rfl (by omega)]
      obtain ⟨w1, h1, h2, h3⟩ := run_copy_str w0 g cap n a m xs D (cap - a) 3 hown0 ha (by omega) (by omega)
      exact ⟨w1, h1, h2, (Keep.refl _ w0).grown h3 (fun k e _ => e)⟩
  obtain ⟨w1, hcr, hown1, hk1⟩ := hcopy
  have happ := fun ty => run_app_str w1 (.slice so n cap) n (over xs a (D.take m)) (D.drop m) hown1 ty (by simp; omega)
  obtain ⟨v2, w2, har, hown2, hg2, hl2⟩ := happ 28
  have hfin : over xs a (D.take m) ++ D.drop m = (Ch.wr a d).apply xs u := by rw [hD]; exact wr_apply xs d a u m (by omega) hu hm
  have hso : ∀ k, (Value.slice so n cap).ownBlock = some k → k < w.heap.size := fun k hk => hown.lt hk
  have FIN : Hid (Applied w w2 (.slice so n cap) v2 ((Ch.wr a d).apply xs u)) := by
    rw [hfin] at hown2
    have hl : n + (D.drop m).length = ((Ch.wr a d).apply xs u).length := by
      have := hown2.1
      omega
    rw [hl] at hown2
    refine ⟨hown2, ((Keep.ofNone hk0).trans hk1 (fun i e _ => e)).trans ((Keep.refl (fun k => (Value.slice so n cap).ownBlock = some k) w1).grown hg2 (fun k e _ => e)) (fun i e _ => e), fun g hg => ?_⟩
    rcases hl2 with e | e
    · rw [hg] at e; exact .inl e.symm
    · rw [hg] at e
      injection e with e
      have := hk0.size
      have := hk1.size
      exact .inr (by omega)
  have e0 : w1.cell? ⟨w.heap.size, 0, none⟩ = some (.int .i64 a) := by
    refine hk1.cellOf (by rw [cell_of_row w0 _ 0 _ _ _ hb0]; rfl) (fun h => ?_)
    have := hso _ h
    simp at this
  have hmD : m ≤ D.length := by omega
  clear hown2 hg2 hl2 hfin happ hown1 hk1 hown0 hown hc2 hm hk0 hD hxl hDl hso
  go_enter Tryz.func184, Tryz.ntmps184
  go_upto_region 1 with (fail)
  rw [← hw0]
  have i0 : w0.cell? ⟨w.heap.size, 0, none⟩ = some (.int .i64 a) := by rw [cell_of_row w0 _ 0 _ _ _ hb0]; rfl
  have i1 : w0.cell? ⟨w.heap.size, 1, none⟩ = some (encStr d) := by rw [cell_of_row w0 _ 1 _ _ _ hb0]; rfl
  clear hb0 hw0
  go_wp2_with (first
    | (at_builtin; have Ha := hcr; refine Lib.wpList_copy_run _ rfl _ _ 28 9 rfl _ _ rfl rfl hcr ?_; clear Ha hcr)
    | (at_builtin; refine wpList_app_run rfl _ _ 28 9 rfl _ _ rfl rfl _ _ har ?_))
  go_ret
  exact ⟨v2, rfl, FIN.out⟩
end Go.Proofs.YtemlbmamcbmnjaaGreatDoor
