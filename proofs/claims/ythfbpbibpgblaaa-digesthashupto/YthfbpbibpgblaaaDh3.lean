/-
  Contracts: digest.ending, digest.inBytes.
-/
import Derived.Test.YthfbpbibpgblaaaDh2
import Derived.Laws.MakeOwn
import Derived.Laws.OwnMore
namespace Go.Proofs.Ythfbpbibpgblaaa
open Go.RowKit
set_option linter.unusedVariables false
set_option linter.unusedSimpArgs false

/-- The last j bytes of a number. -/
def low (B : Nat) : Nat → List UInt8
  | 0 => []
  | j + 1 => UInt8.ofNat (B / 256 ^ j % 256) :: low B j
theorem low_len (B j : Nat) : (low B j).length = j := by induction j with | zero => rfl | succ j ih => simp [low, ih]
theorem low_eight (B : Nat) : low B 8 = Sha.be8 B := rfl
theorem set_low (k : Nat) (L : List UInt8) (v : UInt8) (hk : 1 ≤ k) : ((128 :: List.replicate k 0) ++ L).set k v = (128 :: List.replicate (k - 1) 0) ++ v :: L := by
  obtain ⟨k, rfl⟩ := Nat.exists_eq_add_of_le' hk
  rw [List.cons_append, List.set_cons_succ, List.replicate_succ', List.append_assoc, List.set_append_right _ _ (by simp)]
  simp

theorem Try.infoByte : (Try.prog.info? 5).map (fun i => (i.zero, i.size, i.bytes)) = some (some (.int .u8 0), 1, 1) := by kernel_rfl
theorem Try.makeBytes (W : World) (k : IntKind) (z : Nat) (hz : z ≤ 140737488355328) :
    (Instr.makeSlice 31 (.int k z) (.int k z)).run Try.prog W = .ok (.slice (some ⟨W.heap.size, 0, none⟩) z z) (W.alloc (.cells (bys (List.replicate z 0)).toArray 5)) := by
  obtain ⟨i0, hi, hz0, hz1, hz2⟩ := info_parts Try.infoByte
  have hr := run_make (P := Try.prog) W 31 5 i0 (.int .u8 0) Try.underlying31 hi hz0 k k (z : Int) (z : Int) (by omega) (by omega) (by rw [hz2]; omega) (by omega)
  rw [hr]
  simp only [Int.toNat_natCast]
  have e : madeCells (Value.cells (.int .u8 0)) (z * i0.size) = (bys (List.replicate z 0)).toArray := by
    rw [hz1, Nat.mul_one]
    apply Array.toList_inj.1
    show (madeCells #[.int .u8 0] z).toList = _
    rw [toList_madeCells_one]
    simp [bys]
  rw [e]

/-- A row of bytes alone in its block. -/
structure Blk (w : World) (g : Nat) (R : List UInt8) : Prop where
  row : w.heap[g]? = some (.cells (bys R).toArray 5 (0, 0))
theorem Blk.lt {w : World} {g : Nat} {R : List UInt8} (h : Blk w g R) : g < w.heap.size := (Array.getElem?_eq_some_iff.1 h.row).1
theorem Blk.cell {w : World} {g : Nat} {R : List UInt8} (h : Blk w g R) (i : Nat) (hi : i < R.length) : w.cell? ⟨g, i, none⟩ = some (.int .u8 (R.getD i 0).toNat) := by
  rw [cell_of_row _ _ _ _ _ _ h.row, List.getElem?_toArray, bys_at hi]
theorem Blk.frozen {w : World} {g : Nat} {R : List UInt8} (h : Blk w g R) (i : Nat) : w.frozen? ⟨g, i, none⟩ = false := frozen_of_row _ _ _ _ _ h.row
theorem Blk.set {w : World} {g : Nat} {R : List UInt8} (h : Blk w g R) (i : Nat) (c : UInt8) : Blk (w.setCell ⟨g, i, none⟩ (.int .u8 c.toNat)) g (R.set i c) := by
  refine ⟨?_⟩
  rw [heap_setCell_same _ _ _ _ _ _ h.row, List.setIfInBounds_toArray, bys_set]
theorem Blk.sl {w : World} {g : Nat} {R : List UInt8} (h : Blk w g R) : Sl w (some ⟨g, 0, none⟩) R := Sl.of fun i hi => by rw [Nat.zero_add]; exact h.cell i hi
theorem Blk.kept {l : List Nat} {w w' : World} {g : Nat} {R : List UInt8} (h : Blk w g R) (hk : Kept l w w') (hn : g ∉ l) : Blk w' g R := ⟨by rw [hk.block g h.lt hn]; exact h.row⟩

theorem u8_mod (n : Nat) : ((UInt8.ofNat (n % 256)).toNat : Int) = (n : Int) % 256 := by
  rw [UInt8.toNat_ofNat']
  simp

set_option maxHeartbeats 400000 in
set_option maxRecDepth 100000 in
theorem ending_ok (n : Nat) (w : World) (hn : n < 18446744073709551616) :
    Calls Try.prog 23 #[.int .u64 n] w fun e w' => e = .returned (.slice (some ⟨w.heap.size, 0, none⟩) (Sha.size n) (Sha.size n)) ∧ Blk w' w.heap.size (Sha.ending n) ∧ Below w.heap.size w w' := by
  have hsz := Sha.size_ge n
  have HE : Hid (Sha.ending n = 128 :: (List.replicate (Sha.size n - 9) 0 ++ Sha.be8 (8 * n % 18446744073709551616))) := rfl
  obtain ⟨B, hB⟩ : ∃ B, B = 8 * n % 18446744073709551616 := ⟨_, rfl⟩
  rw [← hB] at HE
  have eB : (8 * (n : Int)) % 18446744073709551616 = B := by omega
  have eB' : IntKind.u64.wrap (8 * (n : Int)) = B := by rw [IntKind.wrap_u64]; omega
  have hBl : B < 18446744073709551616 := by omega
  obtain ⟨s, hs⟩ : ∃ s, s = n % 64 := ⟨_, rfl⟩
  have hs64 : s < 64 := by omega
  have htm : (n : Int).tmod 64 = (s : Int) := by rw [Int.tmod_eq_emod_of_nonneg (by omega)]; omega
  have hzz : Sha.size n = if 64 - s < 9 then 128 - s else 64 - s := by rw [hs]; rfl
  obtain ⟨z, hz⟩ : ∃ z, z = Sha.size n := ⟨_, rfl⟩
  rw [← hz] at hsz HE hzz ⊢
  have HMK : Hid (∀ W, (Instr.makeSlice 31 (.int .u64 z) (.int .u64 z)).run Try.prog W = .ok (.slice (some ⟨W.heap.size, 0, none⟩) z z) (W.alloc (.cells (bys (List.replicate z 0)).toArray 5))) := fun W => Try.makeBytes W .u64 z (by omega)
  clear hB hs hz
  go_enter Try.func23, Try.ntmps23
  by_cases h9 : 64 - s < 9
  case' pos =>
    rw [if_pos h9] at hzz
    have e1 : (64 : Int) - (s : Int) + 64 = z := by omega
    have e2 : (64 : Int) - (s : Int) < 9 := by omega
    clear hzz
    go_wp2
  case' neg =>
    rw [if_neg h9] at hzz
    have e1 : (64 : Int) - (s : Int) = z := by omega
    have e2 : decide ((z : Int) < 9) = false := by simp; omega
    clear hzz
    go_wp2
  all_goals
    rw [HMK.out w]
    clear HMK e1 e2 htm h9
    obtain ⟨G, hG⟩ : ∃ G, G = w.heap.size := ⟨_, rfl⟩
    have hb1 : Blk (w.alloc (.cells (bys (List.replicate z 0)).toArray 5)) G (List.replicate z 0) := ⟨by rw [hG]; exact heap_alloc_new _ _⟩
    have hB1 : Below w.heap.size w (w.alloc (.cells (bys (List.replicate z 0)).toArray 5)) := (Below.refl _ _).alloc (Nat.le_refl _) _
    rw [← hG]
    have HG : Hid (G = w.heap.size) := hG
    clear hG
    generalize w.alloc _ = w1 at hb1 hB1 ⊢
    have c0 := hb1.cell 0 (by simp; omega)
    have f0 := hb1.frozen 0
    have lz : (0 : Int) < (z : Int) := by omega
    have HB2 : Hid (Blk (w1.setCell ⟨G, 0, none⟩ (.int .u8 128)) G ((128 :: List.replicate (z - 1 - 0) 0) ++ low B 0)) := by
      have := hb1.set 0 128
      show Blk _ _ _
      rw [show (128 :: List.replicate (z - 1 - 0) 0) ++ low B 0 = (List.replicate z 0).set 0 128 by
        obtain ⟨k, rfl⟩ : ∃ k, z = k + 1 := ⟨z - 1, by omega⟩
        simp [low, List.replicate_succ]]
      exact this
    have HB3 : Hid (Below w.heap.size w (w1.setCell ⟨G, 0, none⟩ (.int .u8 128))) := by
      have := HG.out
      exact ⟨hB1.os, hB1.tape, hB1.output, by rw [World.size_setCell]; exact hB1.size, fun k hk => (heap_setCell_other _ _ _ _ (by show k ≠ G; omega)).trans (hB1.block k hk)⟩
    clear hb1 hB1
    generalize (List.replicate z (0 : UInt8)).getD 0 0 = v0 at c0
    go_wp2
    clear c0 f0
    generalize w1.setCell _ _ = w2 at HB2 HB3 ⊢
    go_loopw [5, 6] (fun x i wr => ∃ j : Nat, j ≤ 8 ∧ x = .int .u64 (B / 256 ^ j : Nat) ∧ i = .int .i64 ((z : Int) - 1 - (j : Int)) ∧ Hid (Blk wr G ((128 :: List.replicate (z - 1 - j) 0) ++ low B j) ∧ Below w.heap.size w wr)) (fun x i wr => (intOf i + 9 - (z : Int)).toNat)
    case atStart => exact ⟨0, by omega, by simp, by simp, HB2.out, HB3.out⟩
    case round =>
      clear HB2 HB3
      obtain ⟨j, hj, rfl, rfl, HR⟩ := hrel
      by_cases hlt : j < 8
      · obtain ⟨i, hi⟩ : ∃ i, i = z - 1 - j := ⟨_, rfl⟩
        have ei : (z : Int) - 1 - (j : Int) = i := by omega
        have li : (i : Int) < (z : Int) := by omega
        have hlen : ((128 :: List.replicate (z - 1 - j) 0) ++ low B j).length = z := by simp [low_len]; omega
        have ci := HR.out.1.cell i (by rw [hlen]; omega)
        have fi := HR.out.1.frozen i
        have hge : (z : Int) - 8 ≤ (i : Int) := by omega
        obtain ⟨x, hx⟩ : ∃ x, x = B / 256 ^ j := ⟨_, rfl⟩
        have hxl : x < 18446744073709551616 := by rw [hx]; exact Nat.lt_of_le_of_lt (Nat.div_le_self _ _) hBl
        have e8 : (x : Int) / 256 = (B / 256 ^ (j + 1) : Nat) := by rw [Nat.pow_succ, ← Nat.div_div_eq_div_mul, ← hx]; omega
        have HS : Hid (Blk (wr.setCell ⟨G, i, none⟩ (.int .u8 ((x : Int) % 256))) G ((128 :: List.replicate (z - 1 - (j + 1)) 0) ++ low B (j + 1)) ∧ Below w.heap.size w (wr.setCell ⟨G, i, none⟩ (.int .u8 ((x : Int) % 256)))) := by
          have h1 := HR.out.1.set i (UInt8.ofNat (B / 256 ^ j % 256))
          rw [u8_mod, ← hx, hi, set_low _ _ _ (by omega), ← hi] at h1
          have h2 := HR.out.2
          have := HG.out
          refine ⟨?_, ⟨h2.os, h2.tape, h2.output, by rw [World.size_setCell]; exact h2.size, fun k hk => (heap_setCell_other _ _ _ _ (by show k ≠ G; omega)).trans (h2.block k hk)⟩⟩
          rw [show z - 1 - (j + 1) = i - 1 by omega, low, ← hx]
          exact h1
        rw [ei, ← hx]
        clear HR hlen
        generalize ((128 :: List.replicate (z - 1 - j) 0) ++ low B j).getD i 0 = v at ci
        have HI : Hid (i = z - 1 - j) := hi
        clear hi hx ei
        go_wp2
        go_roundw
        case rel => exact ⟨j + 1, by omega, by first | rfl | rw [e8], by have := HI.out; congr 1; omega, HS.out⟩
        case measure => have := HI.out; simp [intOf]; omega
      · obtain rfl : j = 8 := by omega
        have HFIN : Hid (Blk wr w.heap.size (Sha.ending n) ∧ Below w.heap.size w wr) := by
          have h := HR.out
          refine ⟨?_, h.2⟩
          rw [HE.out, ← low_eight, ← HG.out]
          have := h.1
          rw [show z - 1 - 8 = z - 9 by omega] at this
          exact this
        clear HR
        go_wp2
        go_ret
        exact ⟨by show Ending.returned (.slice (some ⟨G, 0, none⟩) z z) = _; rw [HG.out], HFIN.out⟩
end Go.Proofs.Ythfbpbibpgblaaa
