/-
  Contracts: digest.Compare, freightref2.Compare.
-/
import Derived.Test.YtbpdmfhkaodeeaaDx1
import Derived.Deep.QuietTactic
import Derived.BigQuiet
namespace Go.Proofs.Ytbpdmfhkaodeeaa
open Go.RowKit
set_option linter.unusedVariables false
set_option linter.unusedSimpArgs false

/-- Which of two rows is ahead. -/
def cmp : List UInt8 → List UInt8 → Int
  | a :: xs, b :: ys => if a.toNat < b.toNat then -1 else if b.toNat < a.toNat then 1 else cmp xs ys
  | _, _ => 0
theorem cmp_drop (a b : List UInt8) (i : Nat) (ha : i < a.length) (hb : i < b.length) :
    cmp (a.drop i) (b.drop i) = if (a.getD i 0).toNat < (b.getD i 0).toNat then -1 else if (b.getD i 0).toNat < (a.getD i 0).toNat then 1 else cmp (a.drop (i + 1)) (b.drop (i + 1)) := by
  rw [List.drop_eq_getElem_cons ha, List.drop_eq_getElem_cons hb, cmp]
  simp [List.getElem?_eq_getElem ha, List.getElem?_eq_getElem hb]

set_option maxHeartbeats 400000 in
set_option maxRecDepth 100000 in
theorem compare_ok (a b : List UInt8) (ha : a.length = 32) (hb : b.length = 32) (w : World) :
    Calls Try.prog 24 #[.agg (bys a).toArray, .agg (bys b).toArray] w fun e w' => e = .returned (.int .i64 (cmp a b)) ∧ Below w.heap.size w w' := by
  obtain ⟨A, hA⟩ : ∃ r, r = w.heap.size := ⟨_, rfl⟩
  obtain ⟨B, hB⟩ : ∃ r, r = w.heap.size + 1 := ⟨_, rfl⟩
  have h1 := heap_alloc2_old w (.cells (bys a).toArray 33) (.cells (bys b).toArray 33)
  have h2 := heap_alloc2_new w (.cells (bys a).toArray 33) (.cells (bys b).toArray 33)
  have HC : Hid (∀ i, i < 32 → ((w.alloc (.cells (bys a).toArray 33)).alloc (.cells (bys b).toArray 33)).cell? ⟨A, i, none⟩ = some (.int .u8 (a.getD i 0).toNat) ∧ ((w.alloc (.cells (bys a).toArray 33)).alloc (.cells (bys b).toArray 33)).cell? ⟨B, i, none⟩ = some (.int .u8 (b.getD i 0).toNat)) := fun i hi => by
    rw [hA, hB]
    exact ⟨by rw [cell_of_row _ _ _ _ _ _ h1, List.getElem?_toArray, bys_at (by omega)], by rw [cell_of_row _ _ _ _ _ _ h2, List.getElem?_toArray, bys_at (by omega)]⟩
  have HBL : Hid (Below w.heap.size w ((w.alloc (.cells (bys a).toArray 33)).alloc (.cells (bys b).toArray 33))) := ((Below.refl _ _).alloc (Nat.le_refl _) _).alloc (by simp) _
  go_enter Try.func24, Try.ntmps24
  go_wp2
  rw [← hB, ← hA]
  clear hA hB h1 h2
  generalize (w.alloc _).alloc _ = w1 at HC HBL ⊢
  go_loopw [5, 6] (fun _ i wr => ∃ k : Nat, k ≤ 32 ∧ i = .int .i64 k ∧ Hid (cmp a b = cmp (a.drop k) (b.drop k)) ∧ Hid (∃ n, wr = w1.drewN n)) (fun _ i wr => 32 - (intOf i).toNat)
  case atStart => exact ⟨0, by omega, rfl, rfl, ⟨0, rfl⟩⟩
  case round =>
    obtain ⟨k, hk, rfl, HM, HE⟩ := hrel
    have HB : Hid (∀ n, Below w.heap.size w (wr.drewN n)) := fun n => by
      obtain ⟨m, hm⟩ := HE.out
      rw [hm]
      exact ⟨HBL.out.os, HBL.out.tape, HBL.out.output, HBL.out.size, HBL.out.block⟩
    by_cases hlt : k < 32
    · have ca : wr.cell? ⟨A, k, none⟩ = some (.int .u8 (a.getD k 0).toNat) := by obtain ⟨n, hn⟩ := HE.out; rw [hn]; exact (HC.out k hlt).1
      have cb : wr.cell? ⟨B, k, none⟩ = some (.int .u8 (b.getD k 0).toNat) := by obtain ⟨n, hn⟩ := HE.out; rw [hn]; exact (HC.out k hlt).2
      have HD : Hid (cmp a b = if (a.getD k 0).toNat < (b.getD k 0).toNat then -1 else if (b.getD k 0).toNat < (a.getD k 0).toNat then 1 else cmp (a.drop (k + 1)) (b.drop (k + 1))) := HM.out.trans (cmp_drop a b k (by omega) (by omega))
      clear HM
      generalize (a.getD k 0).toNat = x at ca HD
      generalize (b.getD k 0).toNat = y at cb HD
      have lk : (k : Int) < 32 := by omega
      have hd32 : decide ((k : Int) < 32) = true := by simp; omega
      have HE1 : Hid (∀ n, ∃ m, wr.drewN n = w1.drewN m) := fun n => by obtain ⟨m, hm⟩ := HE.out; exact ⟨m + n, by rw [hm, World.drewN_drewN]⟩
      by_cases h1 : x < y
      · have HX : Hid (cmp a b = -1) := by rw [HD.out, if_pos h1]; exact rfl
        have g1 : decide ((x : Int) < (y : Int)) = true := by simp; omega
        go_wp2
        go_quiet (fail)
        go_wp2
        go_ret
        exact ⟨by rw [HX.out]; rfl, HB.out nq⟩
      · have g1 : decide ((x : Int) < (y : Int)) = false := by simp; omega
        by_cases h2 : y < x
        · have HX : Hid (cmp a b = 1) := by rw [HD.out, if_neg h1, if_pos h2]; exact rfl
          have g2 : decide ((y : Int) < (x : Int)) = true := by simp; omega
          go_wp2
          go_quiet (fail)
          go_wp2
          go_quiet (fail)
          go_wp2
          go_ret
          exact ⟨by rw [HX.out]; rfl, by rw [World.drewN_drewN]; exact HB.out _⟩
        · have HX : Hid (cmp a b = cmp (a.drop (k + 1)) (b.drop (k + 1))) := by rw [HD.out, if_neg h1, if_neg h2]; exact rfl
          have g2 : decide ((y : Int) < (x : Int)) = false := by simp; omega
          go_wp2
          go_quiet (fail)
          go_wp2
          go_quiet (fail)
          go_wp2
          go_roundw
          case rel => exact ⟨k + 1, by omega, by go_num, HX, HE1.out _⟩
          case measure => simp [intOf]; omega
    · obtain rfl : k = 32 := by omega
      have HX : Hid (cmp a b = 0) := by
        show cmp a b = 0
        rw [HM.out, List.drop_of_length_le (by omega)]; rfl
      have HB0 := HB.out 0
      go_wp2
      go_ret
      exact ⟨by rw [HX.out]; rfl, HB0⟩
set_option maxHeartbeats 400000 in
set_option maxRecDepth 100000 in
theorem rcompare_ok (a b : List UInt8) (ha : a.length = 32) (hb : b.length = 32) (w : World) :
    Calls Try.prog 25 #[.agg (bys a).toArray, .agg (bys b).toArray] w fun e w' => e = .returned (.int .i64 (cmp a b)) ∧ Below w.heap.size w w' := by
  obtain ⟨A, hA⟩ : ∃ r, r = w.heap.size := ⟨_, rfl⟩
  obtain ⟨B, hB⟩ : ∃ r, r = w.heap.size + 1 := ⟨_, rfl⟩
  have h1 := heap_alloc2_old w (.cells (bys a).toArray 33) (.cells (bys b).toArray 33)
  have h2 := heap_alloc2_new w (.cells (bys a).toArray 33) (.cells (bys b).toArray 33)
  have HC : Hid (∀ i, i < 32 → ((w.alloc (.cells (bys a).toArray 33)).alloc (.cells (bys b).toArray 33)).cell? ⟨A, i, none⟩ = some (.int .u8 (a.getD i 0).toNat) ∧ ((w.alloc (.cells (bys a).toArray 33)).alloc (.cells (bys b).toArray 33)).cell? ⟨B, i, none⟩ = some (.int .u8 (b.getD i 0).toNat)) := fun i hi => by
    rw [hA, hB]
    exact ⟨by rw [cell_of_row _ _ _ _ _ _ h1, List.getElem?_toArray, bys_at (by omega)], by rw [cell_of_row _ _ _ _ _ _ h2, List.getElem?_toArray, bys_at (by omega)]⟩
  have HBL : Hid (Below w.heap.size w ((w.alloc (.cells (bys a).toArray 33)).alloc (.cells (bys b).toArray 33))) := ((Below.refl _ _).alloc (Nat.le_refl _) _).alloc (by simp) _
  go_enter Try.func25, Try.ntmps25
  go_wp2
  rw [← hB, ← hA]
  clear hA hB h1 h2
  generalize (w.alloc _).alloc _ = w1 at HC HBL ⊢
  go_loopw [5] (fun i wr => ∃ k : Nat, k ≤ 32 ∧ i = .int .i64 k ∧ Hid (cmp a b = cmp (a.drop k) (b.drop k)) ∧ Hid (∃ n, wr = w1.drewN n)) (fun i wr => 32 - (intOf i).toNat)
  case atStart => exact ⟨0, by omega, rfl, rfl, ⟨0, rfl⟩⟩
  case round =>
    obtain ⟨k, hk, rfl, HM, HE⟩ := hrel
    have HB : Hid (∀ n, Below w.heap.size w (wr.drewN n)) := fun n => by
      obtain ⟨m, hm⟩ := HE.out
      rw [hm]
      exact ⟨HBL.out.os, HBL.out.tape, HBL.out.output, HBL.out.size, HBL.out.block⟩
    by_cases hlt : k < 32
    · have ca : wr.cell? ⟨A, k, none⟩ = some (.int .u8 (a.getD k 0).toNat) := by obtain ⟨n, hn⟩ := HE.out; rw [hn]; exact (HC.out k hlt).1
      have cb : wr.cell? ⟨B, k, none⟩ = some (.int .u8 (b.getD k 0).toNat) := by obtain ⟨n, hn⟩ := HE.out; rw [hn]; exact (HC.out k hlt).2
      have HD : Hid (cmp a b = if (a.getD k 0).toNat < (b.getD k 0).toNat then -1 else if (b.getD k 0).toNat < (a.getD k 0).toNat then 1 else cmp (a.drop (k + 1)) (b.drop (k + 1))) := HM.out.trans (cmp_drop a b k (by omega) (by omega))
      clear HM
      generalize (a.getD k 0).toNat = x at ca HD
      generalize (b.getD k 0).toNat = y at cb HD
      have lk : (k : Int) < 32 := by omega
      have hd32 : decide ((k : Int) < 32) = true := by simp; omega
      have HE1 : Hid (∀ n, ∃ m, wr.drewN n = w1.drewN m) := fun n => by obtain ⟨m, hm⟩ := HE.out; exact ⟨m + n, by rw [hm, World.drewN_drewN]⟩
      by_cases h1 : x < y
      · have HX : Hid (cmp a b = -1) := by rw [HD.out, if_pos h1]; exact rfl
        have g1 : decide ((x : Int) < (y : Int)) = true := by simp; omega
        go_wp2
        go_quiet (fail)
        go_wp2
        go_ret
        exact ⟨by rw [HX.out]; rfl, HB.out nq⟩
      · have g1 : decide ((x : Int) < (y : Int)) = false := by simp; omega
        by_cases h2 : y < x
        · have HX : Hid (cmp a b = 1) := by rw [HD.out, if_neg h1, if_pos h2]; exact rfl
          have g2 : decide ((y : Int) < (x : Int)) = true := by simp; omega
          go_wp2
          go_quiet (fail)
          go_wp2
          go_quiet (fail)
          go_wp2
          go_ret
          exact ⟨by rw [HX.out]; rfl, by rw [World.drewN_drewN]; exact HB.out _⟩
        · have HX : Hid (cmp a b = cmp (a.drop (k + 1)) (b.drop (k + 1))) := by rw [HD.out, if_neg h1, if_neg h2]; exact rfl
          have g2 : decide ((y : Int) < (x : Int)) = false := by simp; omega
          go_wp2
          go_quiet (fail)
          go_wp2
          go_quiet (fail)
          go_wp2
          go_roundw
          case rel => exact ⟨k + 1, by omega, by go_num, HX, HE1.out _⟩
          case measure => simp [intOf]; omega
    · obtain rfl : k = 32 := by omega
      have HX : Hid (cmp a b = 0) := by
        show cmp a b = 0
        rw [HM.out, List.drop_of_length_le (by omega)]; rfl
      have HB0 := HB.out 0
      go_wp2
      go_ret
      exact ⟨by rw [HX.out]; rfl, HB0⟩
end Go.Proofs.Ytbpdmfhkaodeeaa
