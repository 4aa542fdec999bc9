/-
  Contracts: code.Writer: Fixed.
-/
import Derived.Test.YtjogfpogdjhglaaDoorWr2
namespace Go.Proofs.YtjogfpogdjhglaaDoor
open Go.RowKit
set_option linter.unusedVariables false
set_option linter.unusedSimpArgs false

set_option maxHeartbeats 800000 in
set_option maxRecDepth 100000 in
theorem wfixed_ok {b : Nat} {bs : List Nat} {ys : List UInt8} {w : World} (hW : Wr w b bs ys) (v n : Nat) (hn1 : 1 ≤ n) (hn4 : n ≤ 4) (hv : v < 256 ^ n) (hsum : ys.length + 4 ≤ 140737488355328) :
    Calls Tryd.prog 16 #[.pointer (some ⟨b, 0, none⟩), .int .i64 v, .int .i64 n] w fun e w' => e = .returned (.tuple #[]) ∧ Wrote w w' b bs (ys ++ Pure.fix v n) := by
  have h0 := hW.cell0
  have H := (show Hid _ from hW)
  clear hW
  have hz0 : v / 2 ^ (8 * n) = 0 := Nat.div_eq_of_lt (by rw [Nat.pow_mul]; exact hv)
  have hz : ((v : Int) / 2 ^ (8 * n) != 0) = false := by
    have : ((v : Int) / 2 ^ (8 * n)) = ((v / 2 ^ (8 * n) : Nat) : Int) := by simp
    rw [this, hz0]; rfl
  have d1 : decide ((n : Int) < 1) = false := by simp; omega
  have d2 : decide (4 < (n : Int)) = false := by simp; omega
  have d3 : decide ((v : Int) < 0) = false := by simp
  have HV : Hid (v < 256 ^ n) := hv
  clear hz0 hv
  go_enter Tryd.func16, Tryd.ntmps16
  go_wp2_with (go_at_call 27; refine (wclosed_ok _ _ h0).mono ?_; rintro e w' ⟨rfl, hw⟩; obtain rfl := hw.symm)
  go_loopw [6] (fun x wr => ∃ (k : Nat) (zs : List UInt8) (bs' : List Nat), x = .int .i64 ((k : Int) - 1) ∧ k ≤ n ∧ Hid (ys ++ Pure.fix v n = zs ++ Pure.fix v k) ∧ zs.length + k ≤ ys.length + 4 ∧ Hid (Wr wr b bs' zs ∧ Kept [b] w wr ∧ ∀ g, g ∈ bs' → g ∈ bs ∨ w.heap.size ≤ g)) (fun x wr => (intOf x + 1).toNat)
  case atStart => exact ⟨n, ys, bs, rfl, Nat.le_refl _, rfl, by omega, H.out, Kept.refl _ _, fun g hg => .inl hg⟩
  case round =>
    clear H h0
    obtain ⟨k, zs, bs', rfl, hk, HE, hlen, HW⟩ := hrel
    cases k with
    | zero =>
      have hfin : Hid (Wrote w wr b bs (ys ++ Pure.fix v n)) := by
        show Wrote _ _ _ _ _
        rw [HE.out]
        simp only [Pure.fix, List.append_nil]
        exact ⟨bs', HW.out⟩
      clear HW
      go_wp2
      go_end0
      exact ⟨rfl, hfin.out⟩
    | succ j =>
      rw [show (((j + 1 : Nat) : Int) - 1) = (j : Int) by omega]
      have HC : Hid (Pure.fix v (j + 1) = UInt8.ofNat (v / 256 ^ j % 256) :: Pure.fix v j) := rfl
      have hcell : (wr.alloc (.cells #[.int .u8 ((v : Int) / 2 ^ (8 * j) % 256)] 5)).cell? ⟨wr.heap.size, 0, none⟩ = some (.int .u8 ((UInt8.ofNat (v / 256 ^ j % 256)).toNat : Nat)) := by
        rw [World.cell?_alloc_new, Pure.toNat_ofNat_small (by omega)]
        have : ((v : Int) / 2 ^ (8 * j) % 256) = ((v / 256 ^ j % 256 : Nat) : Int) := by
          rw [show (256 : Nat) ^ j = 2 ^ (8 * j) by rw [Nat.pow_mul]]
          simp
        rw [this]; rfl
      go_wp2_with (fail)
      refine (put_one b bs' zs (UInt8.ofNat (v / 256 ^ j % 256)) wr.heap.size _ (HW.out.1.alloc _) hcell (by have := HW.out.1.lt; omega) (by omega)).mono ?_
      rintro e w2 ⟨rfl, hwr⟩
      clear hcell
      obtain ⟨bs2, hw2, hk2, hs2⟩ := hwr
      have hfin : Hid (Wr w2 b bs2 (zs ++ [UInt8.ofNat (v / 256 ^ j % 256)]) ∧ Kept [b] w w2 ∧ ∀ g, g ∈ bs2 → g ∈ bs ∨ w.heap.size ≤ g) := by
        refine ⟨hw2, (HW.out.2.1.alloc _).trans hk2 (by simp), fun g hg => ?_⟩
        rcases hs2 g hg with h | h
        · exact HW.out.2.2 g h
        · exact .inr (Nat.le_trans (HW.out.2.1.alloc _).size h)
      clear hw2 hk2 hs2 HW
      go_wp2
      go_roundw
      case rel => exact ⟨j, zs ++ [UInt8.ofNat (v / 256 ^ j % 256)], bs2, by go_num, by omega, by show _ = _; rw [HE.out, HC.out]; simp, by simp; omega, hfin⟩
      case measure => simp [intOf]

set_option maxHeartbeats 800000 in
set_option maxRecDepth 100000 in
theorem wfixed_bad {b : Nat} {bs : List Nat} {ys : List UInt8} {w : World} (hW : Wr w b bs ys) (v n : Int) (hv : n < 1 ∨ 4 < n ∨ v < 0 ∨ (0 ≤ v ∧ 1 ≤ n ∧ n ≤ 4 ∧ 256 ^ n.toNat ≤ v)) :
    Calls Tryd.prog 16 #[.pointer (some ⟨b, 0, none⟩), .int .i64 v, .int .i64 n] w fun e w' => e = .returned (.tuple #[]) ∧ Spoilt w' b ∧ Kept [b] w w' := by
  have h0 := hW.cell0
  have h1 := hW.cell1
  have h67 := hW.cell67
  have f0 := hW.frozen 0
  have f1 := hW.frozen 1
  have hfin : ∀ k n, Spoilt (((w.drewN k).setCell ⟨b, 0, none⟩ (.int .i64 1)).setCell ⟨b, 1, none⟩ n) b := fun k n => by
    unfold Spoilt
    rw [World.cell?_setCell_other _ _ _ _ (by simp)]
    exact World.cell?_setCell_same _ _ _ (u := .int .i64 0) h0
  clear hW
  by_cases c1 : n < 1
  · clear hv
    go_enter Tryd.func16, Tryd.ntmps16
    go_wp2
    go_region_with (go_at_call 28; refine (refuse_ok _ 0 _ _ _ (by simpa using h0) (by simpa using h1) (by simpa using f0) (by simpa using f1)).mono ?_; rintro e w' ⟨rfl, rfl⟩)
    go_wp2
    exact bodyPost_ret (results_none rfl _ _ _) rfl ⟨rfl, hfin 1 _, kept_refused _ _ 1 _ _⟩
  have d1 : decide (n < 1) = false := by simpa using c1
  by_cases c2 : 4 < n
  · clear hv
    go_enter Tryd.func16, Tryd.ntmps16
    go_wp2
    go_region_with (go_at_call 28; refine (refuse_ok _ 0 _ _ _ (by simpa using h0) (by simpa using h1) (by simpa using f0) (by simpa using f1)).mono ?_; rintro e w' ⟨rfl, rfl⟩)
    go_wp2
    exact bodyPost_ret (results_none rfl _ _ _) rfl ⟨rfl, hfin 1 _, kept_refused _ _ 1 _ _⟩
  have d2 : decide (4 < n) = false := by simpa using c2
  by_cases c3 : v < 0
  · clear hv
    go_enter Tryd.func16, Tryd.ntmps16
    go_wp2
    go_region_with (go_at_call 28; refine (refuse_ok _ 0 _ _ _ (by simpa using h0) (by simpa using h1) (by simpa using f0) (by simpa using f1)).mono ?_; rintro e w' ⟨rfl, rfl⟩)
    go_wp2
    exact bodyPost_ret (results_none rfl _ _ _) rfl ⟨rfl, hfin 1 _, kept_refused _ _ 1 _ _⟩
  have d3 : decide (v < 0) = false := by simpa using c3
  obtain ⟨m, rfl⟩ := Int.eq_ofNat_of_zero_le (show 0 ≤ n by omega)
  obtain ⟨x, rfl⟩ := Int.eq_ofNat_of_zero_le (show 0 ≤ v by omega)
  have hbig : 256 ^ m ≤ x := by
    rcases hv with h | h | h | ⟨_, _, _, h⟩
    · omega
    · omega
    · omega
    · rw [Int.toNat_natCast] at h; exact_mod_cast h
  have hz : ((x : Int) / 2 ^ (8 * m) != 0) = true := by
    have h2 : ((x : Int) / 2 ^ (8 * m)) = ((x / 2 ^ (8 * m) : Nat) : Int) := by simp
    have h3 : 0 < x / 2 ^ (8 * m) := Nat.div_pos (by rw [Nat.pow_mul]; exact hbig) (Nat.pow_pos (by omega))
    rw [h2]
    simp only [bne_iff_ne, ne_eq]
    omega
  clear hv hbig
  go_enter Tryd.func16, Tryd.ntmps16
  go_wp2
  go_region_with (go_at_call 28; refine (refuse_ok _ 0 _ _ _ (by simpa using h0) (by simpa using h1) (by simpa using f0) (by simpa using f1)).mono ?_; rintro e w' ⟨rfl, rfl⟩)
  go_wp2
  exact bodyPost_ret (results_none rfl _ _ _) rfl ⟨rfl, hfin 1 _, kept_refused _ _ 1 _ _⟩

end Go.Proofs.YtjogfpogdjhglaaDoor
