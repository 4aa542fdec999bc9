/-
  Contracts: code.Writer: Number, Raw.
-/
import Derived.Test.YtjogfpogdjhglaaDoorWr1
import Derived.Test.YtjogfpogdjhglaaDoorPure2
import Derived.Test.YtjogfpogdjhglaaDoorRd1
import Derived.Deep.RegionWith
namespace Go.Proofs.YtjogfpogdjhglaaDoor
open Go.RowKit
set_option linter.unusedVariables false
set_option linter.unusedSimpArgs false

theorem Wr.cell0 {w : World} {b : Nat} {bs : List Nat} {xs : List UInt8} (h : Wr w b bs xs) : w.cell? ⟨b, 0, none⟩ = some (.int .i64 0) := by
  obtain ⟨q, last, h1, _, _⟩ := h.ex; rw [h1.cell]; rfl
theorem Wr.cell1 {w : World} {b : Nat} {bs : List Nat} {xs : List UInt8} (h : Wr w b bs xs) : w.cell? ⟨b, 1, none⟩ = some (.int .i64 0) := by
  obtain ⟨q, last, h1, _, _⟩ := h.ex; rw [h1.cell]; rfl
theorem Wr.cell67 {w : World} {b : Nat} {bs : List Nat} {xs : List UInt8} (h : Wr w b bs xs) : w.cell? ⟨b, 67, none⟩ = some (.int .i64 xs.length) := by
  obtain ⟨q, last, h1, _, _⟩ := h.ex; rw [h1.cell]; exact wrow_size _ _ _ _ _ h1.len
theorem Wr.frozen {w : World} {b : Nat} {bs : List Nat} {xs : List UInt8} (h : Wr w b bs xs) (j : Nat) : w.frozen? ⟨b, j, none⟩ = false := by
  obtain ⟨q, last, h1, _, _⟩ := h.ex; exact h1.frozen j
theorem Wr.lt {w : World} {b : Nat} {bs : List Nat} {xs : List UInt8} (h : Wr w b bs xs) : b < w.heap.size := World.block_lt_of_cell? _ _ h.cell0
theorem Wr.ltAll {w : World} {b : Nat} {bs : List Nat} {xs : List UInt8} (h : Wr w b bs xs) : ∀ g, g ∈ bs → g < w.heap.size := by
  obtain ⟨q, last, _, _, h3⟩ := h.ex; exact h3.lt
theorem Wr.alloc {w : World} {b : Nat} {bs : List Nat} {xs : List UInt8} (h : Wr w b bs xs) (o : Obj) : Wr (w.alloc o) b bs xs := h.kept ((Kept.refl [] w).alloc o) (by simp) (by simp)
theorem Wr.drewN {w : World} {b : Nat} {bs : List Nat} {xs : List UInt8} (h : Wr w b bs xs) (n : Nat) : Wr (w.drewN n) b bs xs := h.kept ((Kept.refl [] w).drewN n) (by simp) (by simp)

/-- What a call of a Writer leaves. -/
def Wrote (w w' : World) (b : Nat) (bs : List Nat) (xs : List UInt8) : Prop :=
  ∃ bs', Wr w' b bs' xs ∧ Kept [b] w w' ∧ ∀ g, g ∈ bs' → g ∈ bs ∨ w.heap.size ≤ g
/-- A Writer that was refused something. -/
def Spoilt (w : World) (b : Nat) : Prop := w.cell? ⟨b, 0, none⟩ = some (.int .i64 1)

theorem Wrote.trans {w w1 w2 : World} {b : Nat} {bs bs1 : List Nat} {xs : List UInt8} (hk : Kept [b] w w1) (hs : ∀ g, g ∈ bs1 → g ∈ bs ∨ w.heap.size ≤ g) (h : Wrote w1 w2 b bs1 xs) : Wrote w w2 b bs xs := by
  obtain ⟨bs', h1, h2, h3⟩ := h
  refine ⟨bs', h1, hk.trans h2 (by simp), fun g hg => ?_⟩
  rcases h3 g hg with h | h
  · exact hs g h
  · exact .inr (Nat.le_trans hk.size h)

theorem put_one (b : Nat) (bs : List Nat) (ys : List UInt8) (c : UInt8) (g : Nat) (w : World) (hW : Wr w b bs ys) (hc : w.cell? ⟨g, 0, none⟩ = some (.int .u8 c.toNat)) (hg : g ≠ b) (hsum : ys.length < 140737488355328) :
    Calls Tryd.prog 29 #[.pointer (some ⟨b, 0, none⟩), .slice (some ⟨g, 0, none⟩) 1 1] w fun e w' => e = .returned (.tuple #[]) ∧ Wrote w w' b bs (ys ++ [c]) :=
  put_any b bs ys [c] (some ⟨g, 0, none⟩) 1 w hW (Sl.of (fun i hi => by
    obtain rfl : i = 0 := by simpa using hi
    simpa using hc)) (by rintro a ⟨⟩; exact hg) (by simp) (by simp; omega)

set_option maxHeartbeats 800000 in
set_option maxRecDepth 100000 in
theorem wclosed_ok (b : Nat) (w : World) (h0 : w.cell? ⟨b, 0, none⟩ = some (.int .i64 0)) :
    Calls Tryd.prog 27 #[.pointer (some ⟨b, 0, none⟩)] w fun e w' => e = .returned (.bool false) ∧ w' = w := by
  go_enter Tryd.func27, Tryd.ntmps27
  go_wp2
  go_ret
  exact ⟨rfl, rfl⟩

set_option maxHeartbeats 800000 in
set_option maxRecDepth 100000 in
theorem wnumber_bad {b : Nat} {bs : List Nat} {ys : List UInt8} {w : World} (hW : Wr w b bs ys) (v : Int) (hv : v < 0 ∨ 2147483647 < v) :
    Calls Tryd.prog 17 #[.pointer (some ⟨b, 0, none⟩), .int .i64 v] w fun e w' => e = .returned (.tuple #[]) ∧ Spoilt w' b ∧ Kept [b] w w' := by
  have h0 := hW.cell0
  have h1 := hW.cell1
  have h67 := hW.cell67
  have f0 := hW.frozen 0
  have f1 := hW.frozen 1
  have hfin : ∀ k n, Spoilt (((w.drewN k).setCell ⟨b, 0, none⟩ (.int .i64 1)).setCell ⟨b, 1, none⟩ n) b := fun k n => by
    unfold Spoilt
    rw [World.cell?_setCell_other _ _ _ _ (by simp)]
    exact World.cell?_setCell_same _ _ _ (u := .int .i64 0) h0
  clear hW
  rcases hv with hv | hv
  · go_enter Tryd.func17, Tryd.ntmps17
    go_wp2
    go_region_with (go_at_call 28; refine (refuse_ok _ 0 _ _ _ (by simpa using h0) (by simpa using h1) (by simpa using f0) (by simpa using f1)).mono ?_; rintro e w' ⟨rfl, rfl⟩)
    go_wp2
    exact bodyPost_ret (results_none rfl _ _ _) rfl ⟨rfl, hfin 1 _, kept_refused _ _ 1 _ _⟩
  · have hv0 : ¬ v < 0 := by omega
    go_enter Tryd.func17, Tryd.ntmps17
    go_wp2
    go_region_with (go_at_call 28; refine (refuse_ok _ 0 _ _ _ (by simpa using h0) (by simpa using h1) (by simpa using f0) (by simpa using f1)).mono ?_; rintro e w' ⟨rfl, rfl⟩)
    go_wp2
    exact bodyPost_ret (results_none rfl _ _ _) rfl ⟨rfl, hfin 1 _, kept_refused _ _ 1 _ _⟩

set_option maxHeartbeats 800000 in
set_option maxRecDepth 100000 in
theorem wnumber_ok {b : Nat} {bs : List Nat} {ys : List UInt8} {w : World} (hW : Wr w b bs ys) (v : Nat) (hv : v ≤ 2147483647) (hsum : ys.length + 5 ≤ 140737488355328) :
    Calls Tryd.prog 17 #[.pointer (some ⟨b, 0, none⟩), .int .i64 v] w fun e w' => e = .returned (.tuple #[]) ∧ Wrote w w' b bs (ys ++ Pure.enc v) := by
  have h0 := hW.cell0
  have H := (show Hid _ from hW)
  clear hW
  have hel := Pure.enc_len5 hv
  go_enter Tryd.func17, Tryd.ntmps17
  go_wp2_with (go_at_call 27; refine (wclosed_ok _ _ h0).mono ?_; rintro e w' ⟨rfl, hw⟩; obtain rfl := hw.symm)
  go_loopw [1] (fun x wr => ∃ (n : Nat) (zs : List UInt8) (bs' : List Nat), x = .int .i64 n ∧ n ≤ 2147483647 ∧ Hid (ys ++ Pure.enc v = zs ++ Pure.enc n) ∧ zs.length + (Pure.enc n).length ≤ ys.length + 5 ∧ Hid (Wr wr b bs' zs ∧ Kept [b] w wr ∧ ∀ g, g ∈ bs' → g ∈ bs ∨ w.heap.size ≤ g)) (fun x wr => (intOf x).toNat)
  case atStart => exact ⟨v, ys, bs, rfl, hv, rfl, by omega, H.out, Kept.refl _ _, fun g hg => .inl hg⟩
  case round =>
    clear H h0
    obtain ⟨n, zs, bs', rfl, hn, HE, hlen, HW⟩ := hrel
    by_cases h128 : n < 128
    · have hg128 : ¬ ((128 : Int) ≤ (n : Int)) := by omega
      have HC : Hid (Pure.enc n = [UInt8.ofNat n]) := Pure.enc_small h128
      have hl1 : zs.length + 1 ≤ ys.length + 5 := by rw [HC.out] at hlen; simpa using hlen
      clear hlen
      have hcell : (wr.alloc (.cells #[.int .u8 (n : Int)] 5)).cell? ⟨wr.heap.size, 0, none⟩ = some (.int .u8 ((UInt8.ofNat n).toNat : Nat)) := by
        rw [World.cell?_alloc_new, Pure.toNat_ofNat_small (by omega)]; rfl
      go_wp2_with (fail)
      refine (put_one b bs' zs (UInt8.ofNat n) wr.heap.size _ (HW.out.1.alloc _) hcell (by have := HW.out.1.lt; omega) (by omega)).mono ?_
      rintro e w2 ⟨rfl, hwr⟩
      clear hcell
      have hfin : Hid (Wrote w w2 b bs (ys ++ Pure.enc v)) := by
        show Wrote _ _ _ _ _
        rw [HE.out, HC.out]
        exact Wrote.trans (HW.out.2.1.alloc _) HW.out.2.2 hwr
      clear hwr HW
      go_wp2
      go_end0
      exact ⟨rfl, hfin.out⟩
    · have HC : Hid (Pure.enc n = UInt8.ofNat (n % 128 + 128) :: Pure.enc (n / 128)) := Pure.enc_more h128
      have hl1 : zs.length + 1 + (Pure.enc (n / 128)).length ≤ ys.length + 5 := by rw [HC.out] at hlen; simp at hlen; omega
      clear hlen
      have hcell : (wr.alloc (.cells #[.int .u8 ((n : Int) % 128 + 128)] 5)).cell? ⟨wr.heap.size, 0, none⟩ = some (.int .u8 ((UInt8.ofNat (n % 128 + 128)).toNat : Nat)) := by
        rw [World.cell?_alloc_new, Pure.toNat_ofNat_small (by omega)]; rfl
      go_wp2_with (fail)
      refine (put_one b bs' zs (UInt8.ofNat (n % 128 + 128)) wr.heap.size _ (HW.out.1.alloc _) hcell (by have := HW.out.1.lt; omega) (by omega)).mono ?_
      rintro e w2 ⟨rfl, hwr⟩
      clear hcell
      obtain ⟨bs2, hw2, hk2, hs2⟩ := hwr
      have hfin : Hid (Wr w2 b bs2 (zs ++ [UInt8.ofNat (n % 128 + 128)]) ∧ Kept [b] w w2 ∧ ∀ g, g ∈ bs2 → g ∈ bs ∨ w.heap.size ≤ g) := by
        refine ⟨hw2, (HW.out.2.1.alloc _).trans hk2 (by simp), fun g hg => ?_⟩
        rcases hs2 g hg with h | h
        · exact HW.out.2.2 g h
        · exact .inr (Nat.le_trans (HW.out.2.1.alloc _).size h)
      clear hw2 hk2 hs2 HW
      go_wp2
      go_roundw
      case rel => exact ⟨n / 128, zs ++ [UInt8.ofNat (n % 128 + 128)], bs2, by go_num, by omega, by show _ = _; rw [HE.out, HC.out]; simp, by simp; omega, hfin⟩
      case measure => simp [intOf]; omega

end Go.Proofs.YtjogfpogdjhglaaDoor
