/-
  The walk of DigestWidths.
-/
import Derived.Test.YtbpdmfhkaodeeaaDk
import Derived.Test.YtbpdmfhkaodeeaaAd
import Derived.Deep.QuietTactic
import Derived.BigQuiet
namespace Go.Proofs.Ytbpdmfhkaodeeaa
open Go.RowKit
set_option linter.unusedVariables false
set_option linter.unusedSimpArgs false

set_option maxRecDepth 100000 in
theorem round_ok (n : Int) (w : World) (hn : (Lit.int .i64 n).wf = true) :
    Calls Try.prog 26 #[.int .i64 n] w fun e w' => ∃ m : Nat, m < 32 ∧ e = .returned (.int .i64 m) ∧ w' = w := by
  have hb := bounds_i64 hn
  have ht : -32 < n.tmod 32 ∧ n.tmod 32 < 32 := by
    have := Int.tmod_lt_of_pos n (by omega : (0 : Int) < 32)
    have h2 := Int.lt_tmod_of_pos n (by omega : (0 : Int) < 32)
    exact ⟨h2, this⟩
  by_cases h : n.tmod 32 < 0
  · go_enter Try.func26, Try.ntmps26
    go_wp2
    go_ret
    exact ⟨(n.tmod 32 + 32).toNat, by omega, by simp; omega, rfl⟩
  · go_enter Try.func26, Try.ntmps26
    go_wp2
    go_ret
    exact ⟨(n.tmod 32).toNat, by omega, by simp; omega, rfl⟩

theorem ident_at (k : Nat) (h2 : k < 32) (m : List UInt8) (i : Nat) (hi : i < 32) : (Sha.ident (1 + (k : Int)) m).getD i 0 = if i < k + 1 then (Sha.full m).getD i 0 else 0 := by
  have hl := Sha.full_len m
  have e : (1 + (k : Int)).toNat = k + 1 := by omega
  unfold Sha.ident
  rw [if_neg (by omega), e]
  simp only [List.getD_eq_getElem?_getD]
  by_cases h : i < k + 1
  · rw [if_pos h, List.getElem?_append_left (by simp [hl]; omega), List.getElem?_take, if_pos h]
  · rw [if_neg h, List.getElem?_append_right (by simp [hl]; omega), List.getElem?_replicate]
    split <;> rfl

/-- Three arrays in their blocks. -/
structure Wd (w wr : World) (A B F : Nat) (a b f : List UInt8) : Prop where
  a : wr.heap[A]? = some (.cells (bys a).toArray 33 (0, 0))
  b : wr.heap[B]? = some (.cells (bys b).toArray 33 (0, 0))
  f : wr.heap[F]? = some (.cells (bys f).toArray 26 (0, 0))
  below : Below w.heap.size w wr
theorem Wd.drewN {w wr : World} {A B F : Nat} {a b f : List UInt8} (h : Wd w wr A B F a b f) (n : Nat) : Wd w (wr.drewN n) A B F a b f :=
  ⟨h.a, h.b, h.f, ⟨h.below.os, h.below.tape, h.below.output, h.below.size, h.below.block⟩⟩

/-- The one piece, laid into a list. -/
theorem one_piece {w w1 : World} {ao : Option Addr} {n cap : Nat} {xs : List UInt8} (hi : InB w ao n cap xs) (hb : Below w.heap.size w w1) :
    Pcs (w1.alloc (.cells #[.slice ao n cap] 29)) (some ⟨w1.heap.size, 0, none⟩) [⟨ao, cap, xs⟩] ∧ Below w.heap.size w (w1.alloc (.cells #[.slice ao n cap] 29)) := by
  have hn := heap_alloc_new w1 (.cells #[.slice ao n cap] 29)
  have hB2 := hb.alloc hb.size (.cells #[.slice ao n cap] 29)
  refine ⟨fun i h => ?_, hB2⟩
  have h1 : i < 1 := h
  obtain rfl : i = 0 := by omega
  refine ⟨_, _, rfl, by rw [cell_of_row _ _ _ _ _ _ hn]; simp [← hi.len], hi.sl.kept (Kept.of_below hB2) (by simp), by show xs.length ≤ cap; rw [hi.len]; exact hi.le⟩

set_option maxHeartbeats 2000000 in
set_option maxRecDepth 100000 in
theorem widths_law (p q : Int) (ao : Option Addr) (n cap : Nat) (xs : List UInt8) (w : World) (hi : InB w ao n cap xs) (hp : (Lit.int .i64 p).wf = true) (hq : (Lit.int .i64 q).wf = true) :
    Calls Try.prog 8 #[.int .i64 p, .int .i64 q, .slice ao n cap] w fun e w' => e = .returned (.bool true) ∧ Below w.heap.size w w' := by
  have HI : Hid (InB w ao n cap xs) := hi
  have hmx : (joined [⟨ao, cap, xs⟩]).length < 9223372036854775736 := by
    have := hi.len; have := hi.le; have := hi.max
    simp [joined]; omega
  have hz := Try.zeroB32
  have hz2 := Try.zeroID
  have ej : joined [⟨ao, cap, xs⟩] = xs := by simp [joined]
  clear hi
  go_enter Try.func8, Try.ntmps8
  go_wp2_with (fail)
  refine (known_any _).mono ?_
  rintro e w1 ⟨rfl, hB1⟩
  go_wp2_with (fail)
  refine (round_ok p _ hp).mono ?_
  rintro e w2 ⟨P, hP, rfl, hw⟩
  subst hw
  go_wp2_with (fail)
  refine (round_ok q _ hq).mono ?_
  rintro e w3 ⟨Q, hQ, rfl, hw⟩
  subst hw
  clear hp hq
  have HQ : Hid (Q < 32) := hQ
  have HP : Hid (P < 32) := hP
  go_wp2_with (fail)
  have h4 := one_piece HI.out hB1
  generalize World.alloc _ _ = w4 at h4 ⊢
  refine (of_ok (1 + (P : Int)) _ 1 _ w4 (by show 1 ≤ _; omega) h4.1 hmx 1 rfl).mono ?_
  rintro e w5 ⟨rfl, hb⟩
  rw [ej]
  have hB5 := h4.2.trans (hb.mono h4.2.size)
  clear hb h4 hB1
  have hla := Sha.ident_len (1 + (P : Int)) xs
  obtain ⟨a, ha⟩ : ∃ a, a = Sha.ident (1 + (P : Int)) xs := ⟨_, rfl⟩
  have HA : Hid (∀ i, i < 32 → a.getD i 0 = if i < P + 1 then (Sha.full xs).getD i 0 else 0) := fun i h => by rw [ha]; exact ident_at P hP xs i h
  rw [← ha] at hla ⊢
  clear ha
  have ia := Try.infoIDb a hla
  have za := zero_size a hla
  have oa := bys_all a
  have hl5 := laid_new hB5 hB5.size zero32 (bys a).toArray 33
  go_wp2_with (refine wpList_store_rowTo rfl 33 (.tmp 7) (.tmp 22) rfl rfl w5.heap.size (bys a).toArray rfl rfl 33 zero32 (heap_alloc_new _ _) ia za oa ?_)
  have hs6 : ((w5.alloc (.cells zero32 33)).setRow w5.heap.size (bys a).toArray).heap.size = w5.heap.size + 1 := by rw [size_setRow, World.size_alloc]
  obtain ⟨A, hA⟩ : ∃ d, d = w5.heap.size := ⟨_, rfl⟩
  generalize (w5.alloc _).setRow _ _ = w6 at hl5 hs6 ⊢
  rw [← hs6]
  rw [← hA] at hl5 ⊢
  obtain ⟨hA6, hB6⟩ := hl5
  clear hA hs6 hB5 ia za oa
  have h4 := one_piece HI.out hB6
  have hk := (Below.refl w6.heap.size w6).alloc (Nat.le_refl _) (.cells #[.slice ao n cap] 29)
  generalize World.alloc _ _ = w7 at h4 hk ⊢
  refine (of_ok (1 + (Q : Int)) _ 1 _ w7 (by show 1 ≤ _; omega) h4.1 hmx 1 rfl).mono ?_
  rintro e w8 ⟨rfl, hb⟩
  rw [ej]
  have hA8 := later_old hb (later_old hk hA6)
  have hB8 := h4.2.trans (hb.mono h4.2.size)
  clear hb h4 hB6 hk hA6
  have hlb := Sha.ident_len (1 + (Q : Int)) xs
  obtain ⟨b, hb⟩ : ∃ a, a = Sha.ident (1 + (Q : Int)) xs := ⟨_, rfl⟩
  have HBB : Hid (∀ i, i < 32 → b.getD i 0 = if i < Q + 1 then (Sha.full xs).getD i 0 else 0) := fun i h => by rw [hb]; exact ident_at Q HQ.out xs i h
  rw [← hb] at hlb ⊢
  clear hb
  have ib := Try.infoIDb b hlb
  have zb := zero_size b hlb
  have ob := bys_all b
  have hl8 := laid_new hB8 hB8.size zero32 (bys b).toArray 33
  have hA9 := laid_old zero32 (bys b).toArray 33 hA8
  go_wp2_with (refine wpList_store_rowTo rfl 33 (.tmp 8) (.tmp 26) rfl rfl w8.heap.size (bys b).toArray rfl rfl 33 zero32 (heap_alloc_new _ _) ib zb ob ?_)
  have hs9 : ((w8.alloc (.cells zero32 33)).setRow w8.heap.size (bys b).toArray).heap.size = w8.heap.size + 1 := by rw [size_setRow, World.size_alloc]
  obtain ⟨B, hB⟩ : ∃ d, d = w8.heap.size := ⟨_, rfl⟩
  generalize (w8.alloc _).setRow _ _ = w9 at hl8 hs9 hA9 ⊢
  rw [← hs9]
  rw [← hB] at hl8 ⊢
  obtain ⟨hD9, hB9⟩ := hl8
  clear hB hs9 hB8 ib zb ob hA8
  have h4 := one_piece HI.out hB9
  have hk := (Below.refl w9.heap.size w9).alloc (Nat.le_refl _) (.cells #[.slice ao n cap] 29)
  generalize World.alloc _ _ = w10 at h4 hk ⊢
  refine (full_ok _ 1 _ w10 (by show 1 ≤ _; omega) h4.1 hmx 1 rfl).mono ?_
  rintro e w11 ⟨rfl, hb⟩
  rw [ej]
  have hA11 := later_old hb (later_old hk hA9)
  have hD11 := later_old hb (later_old hk hD9)
  have hB11 := h4.2.trans (hb.mono h4.2.size)
  clear hb h4 hB9 hk hA9 hD9
  have hlf := Sha.full_len xs
  generalize Sha.full xs = f at HA HBB hlf ⊢
  have iF := Try.info32b f hlf
  have zF := zero_size f hlf
  have oF := bys_all f
  have hl11 := laid_new hB11 hB11.size zero32 (bys f).toArray 26
  have hA12 := laid_old zero32 (bys f).toArray 26 hA11
  have hD12 := laid_old zero32 (bys f).toArray 26 hD11
  go_wp2_with (refine wpList_store_rowTo rfl 26 (.tmp 9) (.tmp 29) rfl rfl w11.heap.size (bys f).toArray rfl rfl 26 zero32 (heap_alloc_new _ _) iF zF oF ?_)
  obtain ⟨F, hF⟩ : ∃ d, d = w11.heap.size := ⟨_, rfl⟩
  generalize (w11.alloc _).setRow _ _ = w12 at hl11 hA12 hD12 ⊢
  rw [← hF] at hl11 ⊢
  have HW : Hid (Wd w w12 A B F a b f) := ⟨hA12, hD12, hl11.1, hl11.2⟩
  clear hF hl11 hA12 hD12 hA11 hD11 hB11 iF zF oF hmx ej hz hz2
  have HLa : Hid (a.length = 32 ∧ b.length = 32 ∧ f.length = 32) := ⟨hla, hlb, hlf⟩
  clear hla hlb hlf
  go_loopw [10] (fun i wr => ∃ k : Nat, k ≤ 32 ∧ i = .int .i64 k ∧ Hid (∃ n, wr = w12.drewN n)) (fun i wr => 32 - (intOf i).toNat)
  case atStart => exact ⟨0, by omega, rfl, ⟨0, rfl⟩⟩
  case round =>
    obtain ⟨k, hk, rfl, HE⟩ := hrel
    have HWr : Hid (Wd w wr A B F a b f) := by obtain ⟨n, hn⟩ := HE.out; rw [hn]; exact HW.out.drewN n
    by_cases hlt : k < 32
    · have HE1 : Hid (∀ n, Hid (∃ m, wr.drewN n = w12.drewN m)) := fun n => by obtain ⟨m, hm⟩ := HE.out; exact ⟨m + n, by rw [hm, World.drewN_drewN]⟩
      have ca := row_cell HWr.out.a k (by rw [HLa.out.1]; exact hlt)
      have cb := row_cell HWr.out.b k (by rw [HLa.out.2.1]; exact hlt)
      have cf := row_cell HWr.out.f k (by rw [HLa.out.2.2]; exact hlt)
      rw [HA.out k hlt] at ca
      rw [HBB.out k hlt] at cb
      have lk : (k : Int) < 32 := by omega
      have hd32 : decide ((k : Int) < 32) = true := by simp; omega
      by_cases h1 : k < P + 1
      · rw [if_pos h1] at ca
        have g1 : decide ((k : Int) < 1 + (P : Int)) = true := by simp; omega
        have g1' : decide (1 + (P : Int) ≤ (k : Int)) = false := by simp; omega
        have g1p : (k : Int) < 1 + (P : Int) := by omega
        by_cases h2 : k < Q + 1
        · rw [if_pos h2] at cb
          generalize (f.getD k 0).toNat = x at ca cb cf
          have g2 : decide ((k : Int) < 1 + (Q : Int)) = true := by simp; omega
          have g2p : (k : Int) < 1 + (Q : Int) := by omega
          go_wp2
          go_quiet (fail)
          go_wp2
          go_quiet (fail)
          go_wp2
          go_roundw
          case rel => first | exact ⟨k + 1, by omega, by go_num, HE1.out _⟩ | ((repeat apply Exists.intro); exact ⟨⟨k + 1, by omega, by go_num, HE1.out _⟩, rfl⟩)
          case measure => simp [intOf]; omega
        · rw [if_neg h2] at cb
          generalize (f.getD k 0).toNat = x at ca cf
          have g2 : decide ((k : Int) < 1 + (Q : Int)) = false := by simp; omega
          have g2p : ¬ (k : Int) < 1 + (Q : Int) := by omega
          go_wp2
          go_quiet (fail)
          go_wp2
          go_quiet (fail)
          go_wp2
          go_roundw
          case rel => first | exact ⟨k + 1, by omega, by go_num, HE1.out _⟩ | ((repeat apply Exists.intro); exact ⟨⟨k + 1, by omega, by go_num, HE1.out _⟩, rfl⟩)
          case measure => simp [intOf]; omega
      · rw [if_neg h1] at ca
        have g1 : decide ((k : Int) < 1 + (P : Int)) = false := by simp; omega
        have g1' : decide (1 + (P : Int) ≤ (k : Int)) = true := by simp; omega
        have g1p : ¬ (k : Int) < 1 + (P : Int) := by omega
        have ca0 : wr.cell? ⟨A, k, none⟩ = some (.int .u8 0) := ca
        clear ca
        go_wp2
        go_quiet (fail)
        go_wp2
        go_quiet (fail)
        go_wp2
        go_roundw
        case rel => first | exact ⟨k + 1, by omega, by go_num, HE1.out _⟩ | ((repeat apply Exists.intro); exact ⟨⟨k + 1, by omega, by go_num, HE1.out _⟩, rfl⟩)
        case measure => simp [intOf]; omega
    · obtain rfl : k = 32 := by omega
      have HB0 := HWr.out.below
      go_wp2
      go_ret
      exact ⟨rfl, HB0⟩
end Go.Proofs.Ytbpdmfhkaodeeaa
