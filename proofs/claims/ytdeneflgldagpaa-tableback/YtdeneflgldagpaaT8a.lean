/-
  Contracts: freightref8.Order; copy of results; freightlaw8.same.
-/
import Derived.Test.YtdeneflgldagpaaZf
import Derived.WalkArith
namespace Go.Proofs.Ytdeneflgldagpaa
open Go.RowKit Go.Sort
set_option linter.unusedVariables false
set_option linter.unusedSimpArgs false

theorem cmp_at : ∀ (i : Nat) (A B : List UInt8), A.take i = B.take i → i < A.length → i < B.length → (A.getD i 0 < B.getD i 0 → Lib.compareBytes A B = -1) ∧ (B.getD i 0 < A.getD i 0 → Lib.compareBytes A B = 1) := by
  intro i
  induction i with
  | zero =>
    intro A B _ hA hB
    cases A with
    | nil => simp at hA
    | cons x A =>
      cases B with
      | nil => simp at hB
      | cons y B =>
        simp only [List.getD, List.getElem?_cons_zero, Option.getD_some]
        refine ⟨fun h => by unfold Lib.compareBytes; simp [h], fun h => ?_⟩
        have h2 : ¬ x < y := fun h' => UInt8.lt_irrefl x (UInt8.lt_trans h' h)
        unfold Lib.compareBytes; simp [h, h2]
  | succ i ih =>
    intro A B h hA hB
    cases A with
    | nil => simp at hA
    | cons x A =>
      cases B with
      | nil => simp at hB
      | cons y B =>
        simp only [List.take_succ_cons, List.cons.injEq] at h
        obtain ⟨rfl, h⟩ := h
        have := ih A B h (by simpa using hA) (by simpa using hB)
        simp only [List.getD, List.getElem?_cons_succ] at this ⊢
        unfold Lib.compareBytes
        simp only [UInt8.lt_irrefl, if_false]
        exact this
theorem take_snoc' (l : List UInt8) (d : UInt8) (k : Nat) (h : k < l.length) : l.take (k + 1) = l.take k ++ [l.getD k d] := by
  rw [List.take_succ_eq_append_getElem h]
  simp [List.getElem?_eq_getElem h]

set_option maxHeartbeats 1600000 in
set_option maxRecDepth 100000 in
theorem order_ok (A B : List UInt8) (w : World) (hA : A.length = 32) (hB : B.length = 32) :
    Calls Try.prog 38 #[.agg (bys A).toArray, .agg (bys B).toArray] w fun e w' => e = .returned (.int .i64 (Lib.compareBytes A B)) ∧ Kept [] w w' := by
  obtain ⟨W0, hW0⟩ : ∃ W0, (w.alloc (.cells (bys A).toArray 37)).alloc (.cells (bys B).toArray 37) = W0 := ⟨_, rfl⟩
  have HK0 : Hid (Kept [] w W0) := by rw [← hW0]; exact ((Kept.refl [] w).alloc _).alloc _
  have HA : Hid (∀ i, i < 32 → W0.cell? ⟨w.heap.size, i, none⟩ = some (.int .u8 (A.getD i 0).toNat)) := by
    intro i hi
    have h1 : W0.heap[w.heap.size]? = some (.cells (bys A).toArray 37) := by rw [← hW0, heap_old (by simp)]; exact heap_new w _
    rw [cell_of_row _ _ _ _ _ _ h1]
    simpa using bys_at (xs := A) (j := i) (by omega)
  have HB : Hid (∀ i, i < 32 → W0.cell? ⟨w.heap.size + 1, i, none⟩ = some (.int .u8 (B.getD i 0).toNat)) := by
    intro i hi
    have h1 := heap_new (w.alloc (.cells (bys A).toArray 37)) (.cells (bys B).toArray 37)
    rw [hW0, show (w.alloc (.cells (bys A).toArray 37)).heap.size = w.heap.size + 1 by simp] at h1
    rw [cell_of_row _ _ _ _ _ _ h1]
    simpa using bys_at (xs := B) (j := i) (by omega)
  have HLA := hide hA
  have HLB := hide hB
  clear hA hB
  go_enter Try.func38, Try.ntmps38
  go_wp2
  clear hW0
  obtain ⟨ga, hga⟩ : ∃ ga, w.heap.size = ga := ⟨_, rfl⟩
  rw [hga] at HA HB ⊢
  clear hga
  go_loopw [5] (fun x wr => ∃ k : Nat, k ≤ 32 ∧ x = .int .i64 k ∧ Hid (A.take k = B.take k) ∧ Hid (Kept [] W0 wr)) (fun x wr => 32 - (intOf x).toNat)
  case atStart => exact ⟨0, Nat.zero_le _, rfl, by show _ = _; simp, Kept.refl _ _⟩
  case round =>
    obtain ⟨k, hk, rfl, HE, HK⟩ := hrel
    by_cases hlt : k < 32
    · have e1 := HK.out.cellOf (HA.out k hlt) (by simp)
      have e2 := HK.out.cellOf (HB.out k hlt) (by simp)
      have HC := hide (cmp_at k A B HE.out (by rw [HLA.out]; exact hlt) (by rw [HLB.out]; exact hlt))
      have tA := hide (take_snoc' A 0 k (by rw [HLA.out]; exact hlt))
      have tB := hide (take_snoc' B 0 k (by rw [HLB.out]; exact hlt))
      generalize A.getD k 0 = x at *
      generalize B.getD k 0 = y at *
      have hx : x.toNat < 256 := UInt8.toNat_lt _
      have hy : y.toNat < 256 := UInt8.toNat_lt _
      by_cases h1 : x < y
      · have hxy : (x.toNat : Int) < (y.toNat : Int) := by have := UInt8.lt_iff_toNat_lt.1 h1; omega
        have HR := hide (HC.out.1 h1)
        clear HC h1
        generalize x.toNat = c at *
        generalize y.toNat = d at *
        go_wp2
        go_quiet (fail)
        go_wp2
        go_ret
        exact ⟨by rw [HR.out]; rfl, (HK0.out.trans HK.out (by simp)).drewN _⟩
      · have hxy : ¬ (x.toNat : Int) < (y.toNat : Int) := by have := mt UInt8.lt_iff_toNat_lt.2 h1; omega
        by_cases h2 : y < x
        · have hyx : (y.toNat : Int) < (x.toNat : Int) := by have := UInt8.lt_iff_toNat_lt.1 h2; omega
          have HR := hide (HC.out.2 h2)
          clear HC h1 h2
          generalize x.toNat = c at *
          generalize y.toNat = d at *
          go_wp2
          go_quiet (fail)
          go_wp2
          go_quiet (fail)
          go_wp2
          go_ret
          exact ⟨by rw [HR.out]; rfl, ((HK0.out.trans HK.out (by simp)).drewN _).drewN _⟩
        · have hyx : ¬ (y.toNat : Int) < (x.toNat : Int) := by have := mt UInt8.lt_iff_toNat_lt.2 h2; omega
          have HXY : Hid (x = y) := by show x = y; exact UInt8.le_antisymm (UInt8.not_lt.1 h2) (UInt8.not_lt.1 h1)
          clear HC h1 h2
          generalize x.toNat = c at *
          generalize y.toNat = d at *
          go_wp2
          go_quiet (fail)
          go_wp2
          go_quiet (fail)
          go_wp2
          go_roundw
          case rel => exact ⟨k + 1, by omega, by go_num, by show _ = _; rw [tA.out, tB.out, HE.out, HXY.out], HK.out.drewN _⟩
          case measure => simp [intOf]; omega
    · have HAB : Hid (Lib.compareBytes A B = 0) := by
        have := HE.out
        rw [List.take_of_length_le (by rw [HLA.out]; omega), List.take_of_length_le (by rw [HLB.out]; omega)] at this
        show _ = _
        rw [this]
        exact cmp_self _
      go_wp2
      go_ret
      exact ⟨by rw [HAB.out]; rfl, HK0.out.trans HK.out (by simp)⟩

/-- copy(results, more), of as many. -/
theorem run_copyR (w : World) (g n c c2 : Nat) (ty : TypeId) (ao : Option Addr) (L M R : List Res) (hL : L.length = n) (hM : M.length = n) (h : Ress w (some ⟨g, 0, none⟩) (L ++ R)) (ht : w.there g 0 ((n + R.length) * 65)) (hm : Ress w ao M) :
    ∃ w', (Builtin.copy_ #[22, 22] ty #[.slice (some ⟨g, 0, none⟩) n c, .slice ao n c2]).run Try.prog w = .ok (.int .i64 n) w' ∧ Ress w' (some ⟨g, 0, none⟩) (M ++ R) ∧ w'.there g 0 ((n + R.length) * 65) ∧ Kept [g] w w' := by
  obtain ⟨i0, hi, hz0, hz1, hz2⟩ := info_parts Try.infoRes
  by_cases h0 : M = []
  · subst h0
    obtain rfl : n = 0 := hM.symm
    obtain rfl : L = [] := List.eq_nil_of_length_eq_zero hL
    refine ⟨w, ?_, h, ht, Kept.refl _ _⟩
    have hl : ∀ (x : Addr), (loadCells x 0).run Try.prog w = .ok #[] w := fun x => by simpa using run_loadCells_list (P := Try.prog) w x [] (by simp)
    cases ao <;> simp [Builtin.copy_, run_underlying Try.underlying22, Builtin.lenOf, Builtin.firstCells, sizeOf, typeInfo, hi, storeCells, hl, goInt]
  · obtain ⟨b, o, rfl, _, _⟩ := hm.open h0
    have hrl : (rows M).length = n * 65 := by rw [rows_len, hM]
    have hl := run_loadCells_list (P := Try.prog) w ⟨b, o, none⟩ (rows M) (fun j v hv => by rw [Addr.add_mid]; exact hm.cells hv)
    have hst := run_storeCells_cells (P := Try.prog) g 0 (rows M) 0 w (fun j hj => by simpa using (ht j (by rw [hrl] at hj; omega)).1) (fun j hj => by simpa using (ht j (by rw [hrl] at hj; omega)).2) (rows_one M)
    rw [hrl] at hl
    refine ⟨w.setCells g 0 (rows M), ?_, ?_, World.there_setCells ht g 0 (rows M), kept_setCells (by simp) _ _ _ (Kept.refl _ _)⟩
    · simp [Builtin.copy_, run_underlying Try.underlying22, Builtin.lenOf, Builtin.firstCells, sizeOf, typeInfo, hi, hz1, hl, hst, goInt]
    · intro i hi2
      have hi3 : i < n + R.length := by simpa [hM] using hi2
      refine ⟨g, 0, rfl, fun j v hv => ?_⟩
      have hj : j < 65 := by have := (List.getElem?_eq_some_iff.1 hv).1; rwa [Res.len] at this
      rw [Nat.zero_add]
      by_cases hin : i < n
      · have e1 : (M ++ R).getD i res0 = M.getD i res0 := by simp only [List.getD]; rw [List.getElem?_append_left (by omega)]
        rw [e1] at hv
        have h1 := rows_at i j v (by omega) hv
        have h2 := World.cell?_setCells_in g (rows M) 0 w (fun j hj => by simpa using (ht j (by rw [hrl] at hj; omega)).1) (i * 65 + j) (by rw [hrl]; omega)
        rw [Nat.zero_add] at h2
        rw [h2]
        rw [List.getElem?_eq_getElem (by rw [hrl]; omega)] at h1
        exact h1
      · have e1 : (M ++ R).getD i res0 = (L ++ R).getD i res0 := by simp only [List.getD]; rw [List.getElem?_append_right (by omega), List.getElem?_append_right (by omega), hM, hL]
        rw [e1] at hv
        rw [World.cell?_setCells_out g (rows M) 0 w _ (fun _ _ => .inr (by rw [hrl]; simp; omega))]
        obtain ⟨b', o', e', hr⟩ := h i (by simp [hL]; exact hi3)
        cases e'
        have := hr j v hv
        rwa [Nat.zero_add] at this
end Go.Proofs.Ytdeneflgldagpaa
