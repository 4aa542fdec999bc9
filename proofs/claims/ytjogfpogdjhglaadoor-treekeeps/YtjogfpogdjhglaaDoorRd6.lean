/-
  Contracts: code.Reader, Fixed.
-/
import Derived.Test.YtjogfpogdjhglaaDoorRd3
import Derived.Test.YtjogfpogdjhglaaDoorPure
namespace Go.Proofs.YtjogfpogdjhglaaDoor
open Go.RowKit
set_option linter.unusedVariables false

set_option maxHeartbeats 800000 in
set_option maxRecDepth 100000 in
theorem rfixed_low {w : World} {b : Nat} {p : Int} {ao : Option Addr} {cap : Nat} {xs : List UInt8} {at_ : Nat} (h : Rd w b 0 p ao cap xs at_) (n : Int) (hn : n < 1) :
    Calls Tryd.prog 31 #[.pointer (some ⟨b, 0, none⟩), .int .i64 n] w fun e' w' => e' = .returned (.int .i64 0) ∧ Kept [b] w w' ∧ Rd w' b 1 at_ ao cap xs at_ := by
  have h0 := h.c0
  have h1 := h.c1
  have h3 := h.c3
  have hs := h.small
  have hl := h.le
  have hlc := h.lc
  have f0 := h.f0
  have f1 := h.f1
  have H := (show Hid _ from h)
  clear h
  go_enter Tryd.func31, Tryd.ntmps31
  go_wp2
  go_region_with (go_at_call 28; refine (refuse_ok _ p _ _ _ (by simpa using h0) (by simpa using h1) (by simpa using f0) (by simpa using f1)).mono ?_; rintro e w' ⟨rfl, rfl⟩)
  go_wp2
  go_ret
  exact ⟨rfl, kept_refused _ _ 1 _ _, (H.out.drewN 1).refused 1 at_⟩

set_option maxHeartbeats 800000 in
set_option maxRecDepth 100000 in
theorem rfixed_high {w : World} {b : Nat} {p : Int} {ao : Option Addr} {cap : Nat} {xs : List UInt8} {at_ : Nat} (h : Rd w b 0 p ao cap xs at_) (n : Int) (hn : 4 < n) :
    Calls Tryd.prog 31 #[.pointer (some ⟨b, 0, none⟩), .int .i64 n] w fun e' w' => e' = .returned (.int .i64 0) ∧ Kept [b] w w' ∧ Rd w' b 1 at_ ao cap xs at_ := by
  have h0 := h.c0
  have h1 := h.c1
  have h3 := h.c3
  have hs := h.small
  have hl := h.le
  have hlc := h.lc
  have f0 := h.f0
  have f1 := h.f1
  have H := (show Hid _ from h)
  clear h
  go_enter Tryd.func31, Tryd.ntmps31
  go_wp2
  go_region_with (go_at_call 28; refine (refuse_ok _ p _ _ _ (by simpa using h0) (by simpa using h1) (by simpa using f0) (by simpa using f1)).mono ?_; rintro e w' ⟨rfl, rfl⟩)
  go_wp2
  go_ret
  exact ⟨rfl, kept_refused _ _ 1 _ _, (H.out.drewN 1).refused 1 at_⟩

set_option maxHeartbeats 800000 in
set_option maxRecDepth 100000 in
theorem rfixed_short {w : World} {b : Nat} {p : Int} {ao : Option Addr} {cap : Nat} {xs : List UInt8} {at_ : Nat} (h : Rd w b 0 p ao cap xs at_) (n : Int) (hn0 : 1 ≤ n) (hn4 : n ≤ 4) (hn : (xs.length - at_ : Nat) < n) :
    Calls Tryd.prog 31 #[.pointer (some ⟨b, 0, none⟩), .int .i64 n] w fun e' w' => e' = .returned (.int .i64 0) ∧ Kept [b] w w' ∧ Rd w' b 10 at_ ao cap xs at_ := by
  have h0 := h.c0
  have h1 := h.c1
  have h3 := h.c3
  have hs := h.small
  have hl := h.le
  have hlc := h.lc
  have f0 := h.f0
  have f1 := h.f1
  have H := (show Hid _ from h)
  clear h
  go_enter Tryd.func31, Tryd.ntmps31
  go_wp2_with (first | (go_at_call 42; refine (rclosed_ok _ _ h0).mono ?_; rintro e w' ⟨rfl, hw⟩; obtain rfl := hw.symm) | (go_at_call 43; refine (take_short H.out _ _ hn).mono ?_; rintro e w1 ⟨rfl, hk, hr⟩))
  go_loop [5, 32] (fun v i => i = .int .i64 0 ∧ v = .int .i64 0) (fun _ i => 0)
  case atStart => exact ⟨rfl, rfl⟩
  case round =>
    obtain ⟨rfl, rfl⟩ := hrel
    go_wp2
    go_ret
    exact ⟨rfl, hk, hr⟩

set_option maxHeartbeats 800000 in
set_option maxRecDepth 100000 in
theorem rfixed_ok {w : World} {b : Nat} {p : Int} {ao : Option Addr} {cap : Nat} {xs : List UInt8} {at_ : Nat} (h : Rd w b 0 p ao cap xs at_) (n : Nat) (hn0 : 1 ≤ n) (hn4 : n ≤ 4) (hn : n ≤ xs.length - at_) :
    Calls Tryd.prog 31 #[.pointer (some ⟨b, 0, none⟩), .int .i64 n] w fun e' w' => e' = .returned (.int .i64 (Pure.be ((xs.drop at_).take n))) ∧ Kept [b] w w' ∧ Rd w' b 0 p ao cap xs (at_ + n) := by
  have h0 := h.c0
  have h1 := h.c1
  have h3 := h.c3
  have hs := h.small
  have hl := h.le
  have hlc := h.lc
  have f0 := h.f0
  have f1 := h.f1
  have H := (show Hid _ from h)
  clear h
  go_enter Tryd.func31, Tryd.ntmps31
  go_wp2_with (first | (go_at_call 42; refine (rclosed_ok _ _ h0).mono ?_; rintro e w' ⟨rfl, hw⟩; obtain rfl := hw.symm) | (go_at_call 43; refine (take_ok H.out _ _ hn).mono ?_; rintro e w1 ⟨ao1, cap1, rfl, hsl1, hnn1, hsp1, hk1, hr1⟩))
  have hlen : ((xs.drop at_).take n).length = n := by simp; omega
  obtain ⟨ys, hys⟩ : ∃ ys, (xs.drop at_).take n = ys := ⟨_, rfl⟩
  have HY : Hid ((xs.drop at_).take n = ys) := hys
  rw [hys] at hsl1 hlen
  clear hys
  obtain ⟨g, off, hao, hb, hc⟩ := hsl1.open (by rintro rfl; simp at hlen; omega)
  rw [hao]
  clear hsl1 hnn1 hsp1 hao h0 h1 h3 f0 f1
  go_loop [5, 32] (fun v i => ∃ k : Nat, k ≤ n ∧ i = .int .i64 k ∧ v = .int .i64 (Pure.be (ys.take k))) (fun _ i => n - (intOf i).toNat)
  case atStart => exact ⟨0, Nat.zero_le _, rfl, rfl⟩
  case round =>
    obtain ⟨k, hk, rfl, rfl⟩ := hrel
    by_cases hlt : k < n
    · have hcell := hc k (by omega)
      have hcb : (ys.getD k 0).toNat < 256 := UInt8.toNat_lt _
      have hbe := Pure.be_lt (ys.take k)
      have hlk : (ys.take k).length ≤ 3 := by simp; omega
      have hbe3 : Pure.be (ys.take k) < 16777216 := Nat.lt_of_lt_of_le hbe (Nat.pow_le_pow_right (n := 256) (by omega) hlk)
      have HS : Hid (Pure.be (ys.take (k + 1)) = 256 * Pure.be (ys.take k) + (ys.getD k 0).toNat) := by
        show _ = _
        rw [Pure.take_snoc ys 0 k (by omega), Pure.be_snoc]
      clear hbe hlk
      generalize Pure.be (ys.take k) = v at hbe3 HS ⊢
      generalize (ys.getD k 0).toNat = c at hcell hcb HS
      have e1 := Pure.i64_or_join v c (by omega) hcb
      clear hc
      go_wp2
      go_round
      case rel => exact ⟨k + 1, by omega, by go_num, by rw [HS.out]; go_num⟩
      case measure => simp [intOf]; omega
    · have HT : Hid (ys.take k = ys) := List.take_of_length_le (by omega)
      clear hc
      go_wp2
      go_ret
      exact ⟨ret_int (by rw [HY.out, HT.out]), hk1, hr1⟩

end Go.Proofs.YtjogfpogdjhglaaDoor
