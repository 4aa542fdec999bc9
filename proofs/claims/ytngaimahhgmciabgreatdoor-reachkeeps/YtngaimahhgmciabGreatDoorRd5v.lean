import Derived.Test.YtngaimahhgmciabGreatDoorPure2v
import Derived.Test.YtngaimahhgmciabGreatDoorNdv
namespace Go.Proofs.YtngaimahhgmciabGreatDoor
section
open Go.RowKit
set_option linter.unusedVariables false

/-- Reader.Number, its three parts under names. -/
theorem rnumber_as {w : World} {b : Nat} {p : Int} {ao : Option Addr} {cap : Nat} {xs : List UInt8} {at_ : Nat} (h : Rd w b 0 p ao cap xs at_) {v k : Nat} (hr : Pure.num (xs.drop at_) = (v, k, 0)) :
    Calls Tryz.prog 77 #[.pointer (some ⟨b, 0, none⟩)] w fun e' w' => e' = .returned (.int .i64 v) ∧ Kept [b] w w' ∧ Rd w' b 0 p ao cap xs (at_ + k) := by
  refine (rnumber_ok h).mono fun e w' ⟨he, hk, hR⟩ => ?_
  rw [hr] at he hR
  exact ⟨he, hk, hR⟩
theorem rnumber_no {w : World} {b : Nat} {p : Int} {ao : Option Addr} {cap : Nat} {xs : List UInt8} {at_ : Nat} (h : Rd w b 0 p ao cap xs at_) {v k c : Nat} (hr : Pure.num (xs.drop at_) = (v, k, c)) (hc : c ≠ 0) :
    Calls Tryz.prog 77 #[.pointer (some ⟨b, 0, none⟩)] w fun e' w' => e' = .returned (.int .i64 0) ∧ Kept [b] w w' ∧ Rd w' b c at_ ao cap xs at_ := by
  have hf := Pure.num_facts (xs.drop at_)
  rw [hr] at hf
  obtain ⟨rfl, rfl⟩ : v = 0 ∧ k = 0 := by simp only at hf; omega
  refine (rnumber_ok h).mono fun e w' ⟨he, hk, hR⟩ => ?_
  rw [hr] at he hR
  rw [if_neg hc] at hR
  exact ⟨he, hk, hR⟩

set_option maxHeartbeats 800000 in
set_option maxRecDepth 100000 in
theorem text_neg {w : World} {b : Nat} {p : Int} {ao : Option Addr} {cap : Nat} {xs : List UInt8} {at_ : Nat} (h : Rd w b 0 p ao cap xs at_) (most : Int) (hn : most < 0) :
    Calls Tryz.prog 88 #[.pointer (some ⟨b, 0, none⟩), .int .i64 most] w fun e' w' => e' = .returned (.slice none 0 0) ∧ Kept [b] w w' ∧ Rd w' b 1 at_ ao cap xs at_ := by
  have h0 := h.c0
  have h1 := h.c1
  have h3 := h.c3
  have hs := h.small
  have hl := h.le
  have hlc := h.lc
  have f0 := h.f0
  have f1 := h.f1
  have H := (show Hid _ from h)
  clear h
  go_enter Tryz.func88, Tryz.ntmps88
  go_wp2_with (first | (go_at_call 83; refine (rclosed_ok _ _ h0).mono ?_; rintro e w' ⟨rfl, hw⟩; obtain rfl := hw.symm) | (go_at_call 84; refine (refuse_ok _ p _ _ _ h0 h1 f0 f1).mono ?_; rintro e w' ⟨rfl, rfl⟩))
  go_ret
  exact ⟨rfl, kept_refused0 _ _ _ _, H.out.refused 1 at_⟩

set_option maxHeartbeats 800000 in
set_option maxRecDepth 100000 in
theorem text_form {w : World} {b : Nat} {p : Int} {ao : Option Addr} {cap : Nat} {xs : List UInt8} {at_ : Nat} (h : Rd w b 0 p ao cap xs at_) (most : Int) (hn : 0 ≤ most) {v k c : Nat} (hr : Pure.num (xs.drop at_) = (v, k, c)) (hc : c ≠ 0) :
    Calls Tryz.prog 88 #[.pointer (some ⟨b, 0, none⟩), .int .i64 most] w fun e' w' => e' = .returned (.slice none 0 0) ∧ Kept [b] w w' ∧ Rd w' b c at_ ao cap xs at_ := by
  have HR : Hid (Pure.num (xs.drop at_) = (v, k, c)) := hr
  have h0 := h.c0
  have h1 := h.c1
  have h3 := h.c3
  have hs := h.small
  have hl := h.le
  have hlc := h.lc
  have f0 := h.f0
  have f1 := h.f1
  have H := (show Hid _ from h)
  clear h
  clear hr
  have hc1 : ((c : Int) != 0) = true := by simp [hc]
  go_enter Tryz.func88, Tryz.ntmps88
  go_wp2_with (first | (go_at_call 83; refine (rclosed_ok _ _ h0).mono ?_; rintro e w' ⟨rfl, hw⟩; obtain rfl := hw.symm) | (go_at_call 77; refine (rnumber_no H.out HR.out hc).mono ?_; rintro e w1 ⟨rfl, hk1, hr1⟩; have c10 := hr1.c0; have c11 := hr1.c1; have g10 := hr1.f0; have g11 := hr1.f1; have H1 := (show Hid _ from hr1); clear hr1) | (go_at_call 92; refine (spoilt_any _ _ _ c10).mono ?_; rintro e w' ⟨rfl, hw⟩; obtain rfl := hw.symm))
  go_ret
  exact ⟨rfl, hk1, H1.out⟩

set_option maxHeartbeats 800000 in
set_option maxRecDepth 100000 in
theorem text_long {w : World} {b : Nat} {p : Int} {ao : Option Addr} {cap : Nat} {xs : List UInt8} {at_ : Nat} (h : Rd w b 0 p ao cap xs at_) (most : Int) (hn : 0 ≤ most) {v k : Nat} (hr : Pure.num (xs.drop at_) = (v, k, 0)) (hv : most < v) :
    Calls Tryz.prog 88 #[.pointer (some ⟨b, 0, none⟩), .int .i64 most] w fun e' w' => e' = .returned (.slice none 0 0) ∧ Kept [b] w w' ∧ Rd w' b 2 at_ ao cap xs (at_ + k) := by
  have HR : Hid (Pure.num (xs.drop at_) = (v, k, 0)) := hr
  have h0 := h.c0
  have h1 := h.c1
  have h3 := h.c3
  have hs := h.small
  have hl := h.le
  have hlc := h.lc
  have f0 := h.f0
  have f1 := h.f1
  have H := (show Hid _ from h)
  clear h
  clear hr
  go_enter Tryz.func88, Tryz.ntmps88
  go_wp2_with (first | (go_at_call 83; refine (rclosed_ok _ _ h0).mono ?_; rintro e w' ⟨rfl, hw⟩; obtain rfl := hw.symm) | (go_at_call 77; refine (rnumber_as H.out HR.out).mono ?_; rintro e w1 ⟨rfl, hk1, hr1⟩; have c10 := hr1.c0; have c11 := hr1.c1; have g10 := hr1.f0; have g11 := hr1.f1; have H1 := (show Hid _ from hr1); clear hr1) | (go_at_call 92; refine (spoilt_any _ _ _ c10).mono ?_; rintro e w' ⟨rfl, hw⟩; obtain rfl := hw.symm) | (go_at_call 84; refine (refuse_ok _ p _ _ _ c10 c11 g10 g11).mono ?_; rintro e w2 ⟨rfl, rfl⟩))
  go_ret
  exact ⟨rfl, hk1.trans (kept_refused0 _ _ _ _) (by simp), H1.out.refused 2 at_⟩

set_option maxHeartbeats 800000 in
set_option maxRecDepth 100000 in
theorem text_short {w : World} {b : Nat} {p : Int} {ao : Option Addr} {cap : Nat} {xs : List UInt8} {at_ : Nat} (h : Rd w b 0 p ao cap xs at_) (most : Int) (hn : 0 ≤ most) {v k : Nat} (hr : Pure.num (xs.drop at_) = (v, k, 0)) (hv : v ≤ most) (hsh : xs.length - (at_ + k) < v) :
    Calls Tryz.prog 88 #[.pointer (some ⟨b, 0, none⟩), .int .i64 most] w fun e' w' => e' = .returned (.slice none 0 0) ∧ Kept [b] w w' ∧ Rd w' b 10 at_ ao cap xs (at_ + k) := by
  have HR : Hid (Pure.num (xs.drop at_) = (v, k, 0)) := hr
  have h0 := h.c0
  have h1 := h.c1
  have h3 := h.c3
  have hs := h.small
  have hl := h.le
  have hlc := h.lc
  have f0 := h.f0
  have f1 := h.f1
  have H := (show Hid _ from h)
  clear h
  clear hr
  go_enter Tryz.func88, Tryz.ntmps88
  go_wp2_with (first | (go_at_call 83; refine (rclosed_ok _ _ h0).mono ?_; rintro e w' ⟨rfl, hw⟩; obtain rfl := hw.symm) | (go_at_call 77; refine (rnumber_as H.out HR.out).mono ?_; rintro e w1 ⟨rfl, hk1, hr1⟩; have c10 := hr1.c0; have c11 := hr1.c1; have g10 := hr1.f0; have g11 := hr1.f1; have H1 := (show Hid _ from hr1); clear hr1) | (go_at_call 92; refine (spoilt_any _ _ _ c10).mono ?_; rintro e w' ⟨rfl, hw⟩; obtain rfl := hw.symm) | (go_at_call 85; refine (take_short H1.out _ _ (by omega)).mono ?_; rintro e w2 ⟨rfl, hk2, hr2⟩) | (go_at_call 29; refine (clone_nil _).mono ?_; rintro e w' ⟨rfl, hw⟩; obtain rfl := hw.symm))
  go_ret
  exact ⟨rfl, hk1.trans hk2 (by simp), hr2⟩

set_option maxHeartbeats 800000 in
set_option maxRecDepth 100000 in
theorem text_ok {w : World} {b : Nat} {p : Int} {ao : Option Addr} {cap : Nat} {xs : List UInt8} {at_ : Nat} (h : Rd w b 0 p ao cap xs at_) (most : Int) (hn : 0 ≤ most) {v k : Nat} (hr : Pure.num (xs.drop at_) = (v, k, 0)) (hv : v ≤ most) (hsh : v ≤ xs.length - (at_ + k)) :
    Calls Tryz.prog 88 #[.pointer (some ⟨b, 0, none⟩), .int .i64 most] w fun e' w' => ∃ ao' cap', e' = .returned (.slice ao' v cap') ∧ Fresh w w' ao' cap' ((xs.drop (at_ + k)).take v) ∧ Kept [b] w w' ∧ Rd w' b 0 p ao cap xs (at_ + k + v) := by
  have HR : Hid (Pure.num (xs.drop at_) = (v, k, 0)) := hr
  have h0 := h.c0
  have h1 := h.c1
  have h3 := h.c3
  have hs := h.small
  have hl := h.le
  have hlc := h.lc
  have f0 := h.f0
  have f1 := h.f1
  have H := (show Hid _ from h)
  clear h
  clear hr
  go_enter Tryz.func88, Tryz.ntmps88
  go_wp2_with (first | (go_at_call 83; refine (rclosed_ok _ _ h0).mono ?_; rintro e w' ⟨rfl, hw⟩; obtain rfl := hw.symm) | (go_at_call 77; refine (rnumber_as H.out HR.out).mono ?_; rintro e w1 ⟨rfl, hk1, hr1⟩; have c10 := hr1.c0; have c11 := hr1.c1; have g10 := hr1.f0; have g11 := hr1.f1; have H1 := (show Hid _ from hr1); clear hr1) | (go_at_call 92; refine (spoilt_any _ _ _ c10).mono ?_; rintro e w' ⟨rfl, hw⟩; obtain rfl := hw.symm) | (go_at_call 85; refine (take_ok H1.out _ _ hsh).mono ?_; rintro e w2 ⟨ao1, cap1, rfl, hsl1, hnn1, hsp1, hk2, hr2⟩))
  refine (clone_any ao1 v cap1 ((xs.drop (at_ + k)).take v) w2 (by simp; omega) (by simp; omega) hsl1 (fun h => by obtain ⟨rfl, rfl⟩ := hnn1 h; simp)).mono ?_
  rintro e w3 ⟨ao2, cap2, rfl, hfr2, hk3⟩
  go_wp2
  go_ret
  exact ⟨ao2, cap2, rfl, hfr2.later (hk1.trans hk2 (by simp)), (hk1.trans hk2 (by simp)).trans hk3 (by simp), hr2.kept hk3 (by simp) (by simp)⟩
end

section
open Go.RowKit
set_option linter.unusedVariables false

set_option maxHeartbeats 800000 in
set_option maxRecDepth 100000 in
theorem rfixed_low {w : World} {b : Nat} {p : Int} {ao : Option Addr} {cap : Nat} {xs : List UInt8} {at_ : Nat} (h : Rd w b 0 p ao cap xs at_) (n : Int) (hn : n < 1) :
    Calls Tryz.prog 76 #[.pointer (some ⟨b, 0, none⟩), .int .i64 n] w fun e' w' => e' = .returned (.int .i64 0) ∧ Kept [b] w w' ∧ Rd w' b 1 at_ ao cap xs at_ := by
  have h0 := h.c0
  have h1 := h.c1
  have h3 := h.c3
  have hs := h.small
  have hl := h.le
  have hlc := h.lc
  have f0 := h.f0
  have f1 := h.f1
  have H := (show Hid _ from h)
  clear h
  go_enter Tryz.func76, Tryz.ntmps76
  go_wp2
  go_region_with (go_at_call 84; refine (refuse_ok _ p _ _ _ (by simpa using h0) (by simpa using h1) (by simpa using f0) (by simpa using f1)).mono ?_; rintro e w' ⟨rfl, rfl⟩)
  go_wp2
  go_ret
  exact ⟨rfl, kept_refused _ _ 1 _ _, (H.out.drewN 1).refused 1 at_⟩

set_option maxHeartbeats 800000 in
set_option maxRecDepth 100000 in
theorem rfixed_high {w : World} {b : Nat} {p : Int} {ao : Option Addr} {cap : Nat} {xs : List UInt8} {at_ : Nat} (h : Rd w b 0 p ao cap xs at_) (n : Int) (hn : 4 < n) :
    Calls Tryz.prog 76 #[.pointer (some ⟨b, 0, none⟩), .int .i64 n] w fun e' w' => e' = .returned (.int .i64 0) ∧ Kept [b] w w' ∧ Rd w' b 1 at_ ao cap xs at_ := by
  have h0 := h.c0
  have h1 := h.c1
  have h3 := h.c3
  have hs := h.small
  have hl := h.le
  have hlc := h.lc
  have f0 := h.f0
  have f1 := h.f1
  have H := (show Hid _ from h)
  clear h
  go_enter Tryz.func76, Tryz.ntmps76
  go_wp2
  go_region_with (go_at_call 84; refine (refuse_ok _ p _ _ _ (by simpa using h0) (by simpa using h1) (by simpa using f0) (by simpa using f1)).mono ?_; rintro e w' ⟨rfl, rfl⟩)
  go_wp2
  go_ret
  exact ⟨rfl, kept_refused _ _ 1 _ _, (H.out.drewN 1).refused 1 at_⟩

set_option maxHeartbeats 800000 in
set_option maxRecDepth 100000 in
theorem rfixed_short {w : World} {b : Nat} {p : Int} {ao : Option Addr} {cap : Nat} {xs : List UInt8} {at_ : Nat} (h : Rd w b 0 p ao cap xs at_) (n : Int) (hn0 : 1 ≤ n) (hn4 : n ≤ 4) (hn : (xs.length - at_ : Nat) < n) :
    Calls Tryz.prog 76 #[.pointer (some ⟨b, 0, none⟩), .int .i64 n] w fun e' w' => e' = .returned (.int .i64 0) ∧ Kept [b] w w' ∧ Rd w' b 10 at_ ao cap xs at_ := by
  have h0 := h.c0
  have h1 := h.c1
  have h3 := h.c3
  have hs := h.small
  have hl := h.le
  have hlc := h.lc
  have f0 := h.f0
  have f1 := h.f1
  have H := (show Hid _ from h)
  clear h
  go_enter Tryz.func76, Tryz.ntmps76
  go_wp2_with (first | (go_at_call 83; refine (rclosed_ok _ _ h0).mono ?_; rintro e w' ⟨rfl, hw⟩; obtain rfl := hw.symm) | (go_at_call 85; refine (take_short H.out _ _ hn).mono ?_; rintro e w1 ⟨rfl, hk, hr⟩))
  go_loop [5, 32] (fun v i => i = .int .i64 0 ∧ v = .int .i64 0) (fun _ i => 0)
  case atStart => exact ⟨rfl, rfl⟩
  case round =>
    obtain ⟨rfl, rfl⟩ := hrel
    go_wp2
    go_ret
    exact ⟨rfl, hk, hr⟩

set_option maxHeartbeats 800000 in
set_option maxRecDepth 100000 in
theorem rfixed_ok {w : World} {b : Nat} {p : Int} {ao : Option Addr} {cap : Nat} {xs : List UInt8} {at_ : Nat} (h : Rd w b 0 p ao cap xs at_) (n : Nat) (hn0 : 1 ≤ n) (hn4 : n ≤ 4) (hn : n ≤ xs.length - at_) :
    Calls Tryz.prog 76 #[.pointer (some ⟨b, 0, none⟩), .int .i64 n] w fun e' w' => e' = .returned (.int .i64 (Pure.be ((xs.drop at_).take n))) ∧ Kept [b] w w' ∧ Rd w' b 0 p ao cap xs (at_ + n) := by
  have h0 := h.c0
  have h1 := h.c1
  have h3 := h.c3
  have hs := h.small
  have hl := h.le
  have hlc := h.lc
  have f0 := h.f0
  have f1 := h.f1
  have H := (show Hid _ from h)
  clear h
  go_enter Tryz.func76, Tryz.ntmps76
  go_wp2_with (first | (go_at_call 83; refine (rclosed_ok _ _ h0).mono ?_; rintro e w' ⟨rfl, hw⟩; obtain rfl := hw.symm) | (go_at_call 85; refine (take_ok H.out _ _ hn).mono ?_; rintro e w1 ⟨ao1, cap1, rfl, hsl1, hnn1, hsp1, hk1, hr1⟩))
  have hlen : ((xs.drop at_).take n).length = n := by simp; omega
  obtain ⟨ys, hys⟩ : ∃ ys, (xs.drop at_).take n = ys := ⟨_, rfl⟩
  have HY : Hid ((xs.drop at_).take n = ys) := hys
  rw [hys] at hsl1 hlen
  clear hys
  obtain ⟨g, off, hao, hb, hc⟩ := hsl1.open (by rintro rfl; simp at hlen; omega)
  rw [hao]
  clear hsl1 hnn1 hsp1 hao h0 h1 h3 f0 f1
  go_loop [5, 32] (fun v i => ∃ k : Nat, k ≤ n ∧ i = .int .i64 k ∧ v = .int .i64 (Pure.be (ys.take k))) (fun _ i => n - (intOf i).toNat)
  case atStart => exact ⟨0, Nat.zero_le _, rfl, rfl⟩
  case round =>
    obtain ⟨k, hk, rfl, rfl⟩ := hrel
    by_cases hlt : k < n
    · have hcell := hc k (by omega)
      have hcb : (ys.getD k 0).toNat < 256 := UInt8.toNat_lt _
      have hbe := Pure.be_lt (ys.take k)
      have hlk : (ys.take k).length ≤ 3 := by simp; omega
      have hbe3 : Pure.be (ys.take k) < 16777216 := Nat.lt_of_lt_of_le hbe (Nat.pow_le_pow_right (n := 256) (by omega) hlk)
      have HS : Hid (Pure.be (ys.take (k + 1)) = 256 * Pure.be (ys.take k) + (ys.getD k 0).toNat) := by
        show _ = _
        rw [Pure.take_snoc ys 0 k (by omega), Pure.be_snoc]
      clear hbe hlk
      generalize Pure.be (ys.take k) = v at hbe3 HS ⊢
      generalize (ys.getD k 0).toNat = c at hcell hcb HS
      have e1 := Pure.i64_or_join v c (by omega) hcb
      clear hc
      go_wp2
      go_round
      case rel => exact ⟨k + 1, by omega, by go_num, by rw [HS.out]; go_num⟩
      case measure => simp [intOf]; omega
    · have HT : Hid (ys.take k = ys) := List.take_of_length_le (by omega)
      clear hc
      go_wp2
      go_ret
      exact ⟨ret_int (by rw [HY.out, HT.out]), hk1, hr1⟩
end

section
open Go.RowKit
set_option linter.unusedVariables false

set_option maxHeartbeats 400000 in
theorem rfixed_bad {w : World} {b : Nat} {e : Int} (h0 : w.cell? ⟨b, 0, none⟩ = some (.int .i64 e)) (he : (e != 0) = true) (n : Int) :
    Calls Tryz.prog 76 #[.pointer (some ⟨b, 0, none⟩), .int .i64 n] w fun e' w' => e' = .returned (.int .i64 0) ∧ w' = w := by
  go_enter Tryz.func76, Tryz.ntmps76
  go_wp2
  go_ret
  exact ⟨rfl, rfl⟩

set_option maxHeartbeats 400000 in
theorem raw_bad {w : World} {b : Nat} {e : Int} (h0 : w.cell? ⟨b, 0, none⟩ = some (.int .i64 e)) (he : (e != 0) = true) (n : Int) :
    Calls Tryz.prog 89 #[.pointer (some ⟨b, 0, none⟩), .int .i64 n] w fun e' w' => e' = .returned (.slice none 0 0) ∧ w' = w := by
  go_enter Tryz.func89, Tryz.ntmps89
  go_wp2
  go_ret
  exact ⟨rfl, rfl⟩

set_option maxHeartbeats 400000 in
theorem text_bad {w : World} {b : Nat} {e : Int} (h0 : w.cell? ⟨b, 0, none⟩ = some (.int .i64 e)) (he : (e != 0) = true) (n : Int) :
    Calls Tryz.prog 88 #[.pointer (some ⟨b, 0, none⟩), .int .i64 n] w fun e' w' => e' = .returned (.slice none 0 0) ∧ w' = w := by
  go_enter Tryz.func88, Tryz.ntmps88
  go_wp2
  go_ret
  exact ⟨rfl, rfl⟩

set_option maxHeartbeats 400000 in
theorem rfixed_nil (w : World) (n : Int) :
    Calls Tryz.prog 76 #[.pointer none, .int .i64 n] w fun e' w' => e' = .returned (.int .i64 0) ∧ w' = w := by
  go_enter Tryz.func76, Tryz.ntmps76
  go_wp2
  go_ret
  exact ⟨rfl, rfl⟩

set_option maxHeartbeats 400000 in
theorem raw_nil (w : World) (n : Int) :
    Calls Tryz.prog 89 #[.pointer none, .int .i64 n] w fun e' w' => e' = .returned (.slice none 0 0) ∧ w' = w := by
  go_enter Tryz.func89, Tryz.ntmps89
  go_wp2
  go_ret
  exact ⟨rfl, rfl⟩

set_option maxHeartbeats 400000 in
theorem text_nil (w : World) (n : Int) :
    Calls Tryz.prog 88 #[.pointer none, .int .i64 n] w fun e' w' => e' = .returned (.slice none 0 0) ∧ w' = w := by
  go_enter Tryz.func88, Tryz.ntmps88
  go_wp2
  go_ret
  exact ⟨rfl, rfl⟩
end

section
open Go.RowKit
set_option linter.unusedVariables false
set_option linter.unusedSimpArgs false

/-- Where a reader stands, its error, and where that was. -/
structure Rs where
  at_ : Nat
  e : Int
  p : Int

def stNumber (xs : List UInt8) (s : Rs) : Int × Rs :=
  if s.e = 0 then
    if (Pure.num (xs.drop s.at_)).2.2 = 0 then (((Pure.num (xs.drop s.at_)).1 : Nat), ⟨s.at_ + (Pure.num (xs.drop s.at_)).2.1, 0, s.p⟩)
    else (0, ⟨s.at_, ((Pure.num (xs.drop s.at_)).2.2 : Nat), s.at_⟩)
  else (0, s)
def stFixed (xs : List UInt8) (s : Rs) (n : Int) : Int × Rs :=
  if s.e = 0 then
    if n < 1 ∨ 4 < n then (0, ⟨s.at_, 1, s.at_⟩)
    else if ((xs.length - s.at_ : Nat) : Int) < n then (0, ⟨s.at_, 10, s.at_⟩)
    else ((Pure.be ((xs.drop s.at_).take n.toNat) : Nat), ⟨s.at_ + n.toNat, 0, s.p⟩)
  else (0, s)
def stRaw (xs : List UInt8) (s : Rs) (n : Int) : List UInt8 × Rs :=
  if s.e = 0 then
    if n < 0 then ([], ⟨s.at_, 1, s.at_⟩)
    else if ((xs.length - s.at_ : Nat) : Int) < n then ([], ⟨s.at_, 10, s.at_⟩)
    else ((xs.drop s.at_).take n.toNat, ⟨s.at_ + n.toNat, 0, s.p⟩)
  else ([], s)
def stText (xs : List UInt8) (s : Rs) (most : Int) : List UInt8 × Rs :=
  if s.e = 0 then
    if most < 0 then ([], ⟨s.at_, 1, s.at_⟩)
    else if (Pure.num (xs.drop s.at_)).2.2 = 0 then
      if most < ((Pure.num (xs.drop s.at_)).1 : Nat) then ([], ⟨s.at_, 2, s.at_⟩)
      else if xs.length - (s.at_ + (Pure.num (xs.drop s.at_)).2.1) < (Pure.num (xs.drop s.at_)).1 then ([], ⟨s.at_, 10, s.at_⟩)
      else ((xs.drop (s.at_ + (Pure.num (xs.drop s.at_)).2.1)).take (Pure.num (xs.drop s.at_)).1, ⟨s.at_ + (Pure.num (xs.drop s.at_)).2.1 + (Pure.num (xs.drop s.at_)).1, 0, s.p⟩)
    else ([], ⟨s.at_, ((Pure.num (xs.drop s.at_)).2.2 : Nat), s.at_⟩)
  else ([], s)
def stLeft (xs : List UInt8) (s : Rs) : Int := if s.e = 0 then ((xs.length - s.at_ : Nat) : Int) else 0

/-- The program's reader in a state. -/
def RdS (w : World) (b : Nat) (ao : Option Addr) (cap : Nat) (xs : List UInt8) (s : Rs) : Prop := ∃ a, (s.e = 0 → a = s.at_) ∧ Rd w b s.e s.p ao cap xs a
theorem RdS.kept {l : List Nat} {w w' : World} {b : Nat} {ao : Option Addr} {cap : Nat} {xs : List UInt8} {s : Rs} (h : RdS w b ao cap xs s) (hk : Kept l w w') (hn : b ∉ l) (hs : xs ≠ [] → ∀ a, ao = some a → a.block ∉ l) : RdS w' b ao cap xs s := by
  obtain ⟨a, ha, hr⟩ := h
  exact ⟨a, ha, hr.kept hk hn hs⟩
theorem RdS.lt {w : World} {b : Nat} {ao : Option Addr} {cap : Nat} {xs : List UInt8} {s : Rs} (h : RdS w b ao cap xs s) : b < w.heap.size := by
  obtain ⟨a, ha, hr⟩ := h
  exact hr.lt
theorem RdS.drewN {w : World} {b : Nat} {ao : Option Addr} {cap : Nat} {xs : List UInt8} {s : Rs} (h : RdS w b ao cap xs s) (n : Nat) : RdS (w.drewN n) b ao cap xs s := h.kept ((Kept.refl [] w).drewN n) (by simp) (by simp)
/-- A row that a call answers, in new memory. -/
def RowEnd (w w' : World) (e : Ending) (ys : List UInt8) : Prop := ∃ ao cap, e = .returned (.slice ao ys.length cap) ∧ Fresh w w' ao cap ys
theorem RowEnd.nil (w w' : World) : RowEnd w w' (.returned (.slice none 0 0)) [] := ⟨none, 0, rfl, Sl.nil _ _, Nat.le_refl _, fun _ => ⟨rfl, rfl⟩, by simp⟩

theorem rnumber_st {w : World} {b : Nat} {ao : Option Addr} {cap : Nat} {xs : List UInt8} {s : Rs} (h : RdS w b ao cap xs s) :
    Calls Tryz.prog 77 #[.pointer (some ⟨b, 0, none⟩)] w fun e' w' => e' = .returned (.int .i64 (stNumber xs s).1) ∧ Kept [b] w w' ∧ RdS w' b ao cap xs (stNumber xs s).2 := by
  obtain ⟨a, ha, hr⟩ := h
  obtain ⟨at_, e, p⟩ := s
  unfold stNumber
  by_cases he : e = 0
  · subst he
    obtain rfl := ha rfl
    rw [if_pos rfl]
    rcases hn : Pure.num (xs.drop a) with ⟨v, k, c⟩
    simp only [hn]
    by_cases hc : c = 0
    · subst hc
      rw [if_pos rfl]
      exact (rnumber_as hr hn).mono fun e w' ⟨h1, h2, h3⟩ => ⟨h1, h2, _, fun _ => rfl, h3⟩
    · rw [if_neg hc]
      exact (rnumber_no hr hn hc).mono fun e w' ⟨h1, h2, h3⟩ => ⟨h1, h2, _, fun _ => rfl, h3⟩
  · rw [if_neg he]
    exact (rnumber_bad hr.c0 (by simpa using he)).mono fun e w' ⟨h1, h2⟩ => by
      subst h2
      exact ⟨h1, Kept.refl _ _, a, fun h => absurd h he, hr⟩

theorem rfixed_st {w : World} {b : Nat} {ao : Option Addr} {cap : Nat} {xs : List UInt8} {s : Rs} (h : RdS w b ao cap xs s) (n : Int) :
    Calls Tryz.prog 76 #[.pointer (some ⟨b, 0, none⟩), .int .i64 n] w fun e' w' => e' = .returned (.int .i64 (stFixed xs s n).1) ∧ Kept [b] w w' ∧ RdS w' b ao cap xs (stFixed xs s n).2 := by
  obtain ⟨a, ha, hr⟩ := h
  obtain ⟨at_, e, p⟩ := s
  unfold stFixed
  by_cases he : e = 0
  · subst he
    obtain rfl := ha rfl
    rw [if_pos rfl]
    by_cases h1 : n < 1 ∨ 4 < n
    · rw [if_pos h1]
      rcases h1 with h1 | h1
      · exact (rfixed_low hr n h1).mono fun e w' ⟨h1, h2, h3⟩ => ⟨h1, h2, _, fun _ => rfl, h3⟩
      · exact (rfixed_high hr n h1).mono fun e w' ⟨h1, h2, h3⟩ => ⟨h1, h2, _, fun _ => rfl, h3⟩
    · rw [if_neg h1]
      by_cases h2 : ((xs.length - a : Nat) : Int) < n
      · rw [if_pos h2]
        exact (rfixed_short hr n (by omega) (by omega) h2).mono fun e w' ⟨h1, h2, h3⟩ => ⟨h1, h2, _, fun _ => rfl, h3⟩
      · rw [if_neg h2]
        obtain ⟨m, rfl⟩ := Int.eq_ofNat_of_zero_le (show 0 ≤ n by omega)
        rw [Int.toNat_natCast]
        exact (rfixed_ok hr m (by omega) (by omega) (by omega)).mono fun e w' ⟨h1, h2, h3⟩ => ⟨h1, h2, _, fun _ => rfl, h3⟩
  · rw [if_neg he]
    exact (rfixed_bad hr.c0 (by simpa using he) n).mono fun e w' ⟨h1, h2⟩ => by
      subst h2
      exact ⟨h1, Kept.refl _ _, a, fun h => absurd h he, hr⟩

theorem take_len {xs : List UInt8} {a m : Nat} (h : m ≤ xs.length - a) : ((xs.drop a).take m).length = m := by simp; omega

theorem raw_st {w : World} {b : Nat} {ao : Option Addr} {cap : Nat} {xs : List UInt8} {s : Rs} (h : RdS w b ao cap xs s) (n : Int) :
    Calls Tryz.prog 89 #[.pointer (some ⟨b, 0, none⟩), .int .i64 n] w fun e' w' => RowEnd w w' e' (stRaw xs s n).1 ∧ Kept [b] w w' ∧ RdS w' b ao cap xs (stRaw xs s n).2 := by
  obtain ⟨a, ha, hr⟩ := h
  obtain ⟨at_, e, p⟩ := s
  unfold stRaw
  by_cases he : e = 0
  · subst he
    obtain rfl := ha rfl
    rw [if_pos rfl]
    by_cases h1 : n < 0
    · rw [if_pos h1]
      exact (raw_neg hr n h1).mono fun e w' ⟨h1, h2, h3⟩ => ⟨h1 ▸ RowEnd.nil _ _, h2, _, fun _ => rfl, h3⟩
    · rw [if_neg h1]
      by_cases h2 : ((xs.length - a : Nat) : Int) < n
      · rw [if_pos h2]
        exact (raw_short hr n (by omega) h2).mono fun e w' ⟨h1, h2, h3⟩ => ⟨h1 ▸ RowEnd.nil _ _, h2, _, fun _ => rfl, h3⟩
      · rw [if_neg h2]
        obtain ⟨m, rfl⟩ := Int.eq_ofNat_of_zero_le (show 0 ≤ n by omega)
        rw [Int.toNat_natCast]
        exact (raw_ok hr m (by omega)).mono fun e w' ⟨ao', cap', h1, h2, h3, h4⟩ => ⟨⟨ao', cap', by rw [h1]; exact ret_slice (take_len (a := a) (by omega)).symm, h2⟩, h3, _, fun _ => rfl, h4⟩
  · rw [if_neg he]
    exact (raw_bad hr.c0 (by simpa using he) n).mono fun e w' ⟨h1, h2⟩ => by
      subst h2
      exact ⟨h1 ▸ RowEnd.nil _ _, Kept.refl _ _, a, fun h => absurd h he, hr⟩

theorem text_st {w : World} {b : Nat} {ao : Option Addr} {cap : Nat} {xs : List UInt8} {s : Rs} (h : RdS w b ao cap xs s) (n : Int) :
    Calls Tryz.prog 88 #[.pointer (some ⟨b, 0, none⟩), .int .i64 n] w fun e' w' => RowEnd w w' e' (stText xs s n).1 ∧ Kept [b] w w' ∧ RdS w' b ao cap xs (stText xs s n).2 := by
  obtain ⟨a, ha, hr⟩ := h
  obtain ⟨at_, e, p⟩ := s
  unfold stText
  by_cases he : e = 0
  · subst he
    obtain rfl := ha rfl
    rw [if_pos rfl]
    by_cases h1 : n < 0
    · rw [if_pos h1]
      exact (text_neg hr n h1).mono fun e w' ⟨h1, h2, h3⟩ => ⟨h1 ▸ RowEnd.nil _ _, h2, _, fun _ => rfl, h3⟩
    · rw [if_neg h1]
      rcases hn : Pure.num (xs.drop a) with ⟨v, k, c⟩
      simp only [hn]
      by_cases hc : c = 0
      · subst hc
        rw [if_pos rfl]
        by_cases h2 : n < (v : Int)
        · rw [if_pos h2]
          exact (text_long hr n (by omega) hn h2).mono fun e w' ⟨h1, h2, h3⟩ => ⟨h1 ▸ RowEnd.nil _ _, h2, _, fun h => by simp at h, h3⟩
        · rw [if_neg h2]
          by_cases h3 : xs.length - (a + k) < v
          · rw [if_pos h3]
            exact (text_short hr n (by omega) hn (by omega) h3).mono fun e w' ⟨h1, h2, h3⟩ => ⟨h1 ▸ RowEnd.nil _ _, h2, _, fun h => by simp at h, h3⟩
          · rw [if_neg h3]
            exact (text_ok hr n (by omega) hn (by omega) (by omega)).mono fun e w' ⟨ao', cap', h1, h2, h3, h4⟩ => ⟨⟨ao', cap', by rw [h1, take_len (by omega)], h2⟩, h3, _, fun _ => rfl, h4⟩
      · rw [if_neg hc]
        exact (text_form hr n (by omega) hn hc).mono fun e w' ⟨h1, h2, h3⟩ => ⟨h1 ▸ RowEnd.nil _ _, h2, _, fun _ => rfl, h3⟩
  · rw [if_neg he]
    exact (text_bad hr.c0 (by simpa using he) n).mono fun e w' ⟨h1, h2⟩ => by
      subst h2
      exact ⟨h1 ▸ RowEnd.nil _ _, Kept.refl _ _, a, fun h => absurd h he, hr⟩

theorem left_st {w : World} {b : Nat} {ao : Option Addr} {cap : Nat} {xs : List UInt8} {s : Rs} (h : RdS w b ao cap xs s) :
    Calls Tryz.prog 81 #[.pointer (some ⟨b, 0, none⟩)] w fun e' w' => e' = .returned (.int .i64 (stLeft xs s)) ∧ ∃ n, w' = w.drewN n := by
  obtain ⟨a, ha, hr⟩ := h
  obtain ⟨at_, e, p⟩ := s
  unfold stLeft
  by_cases he : e = 0
  · subst he
    obtain rfl := ha rfl
    rw [if_pos rfl]
    exact left_ok hr
  · rw [if_neg he]
    exact (left_bad hr he).mono fun e w' ⟨h1, h2⟩ => ⟨h1, 0, h2⟩

theorem err_st {w : World} {b : Nat} {ao : Option Addr} {cap : Nat} {xs : List UInt8} {s : Rs} (h : RdS w b ao cap xs s) :
    Calls Tryz.prog 87 #[.pointer (some ⟨b, 0, none⟩)] w fun e' w' => e' = .returned (.tuple #[.int .i64 s.e, .int .i64 s.p]) ∧ ∃ n, w' = w.drewN n := by
  obtain ⟨a, ha, hr⟩ := h
  exact err_any hr

set_option maxHeartbeats 800000 in
set_option maxRecDepth 100000 in
theorem read_any (ao : Option Addr) (n cap : Nat) (xs : List UInt8) (w : World) (hxn : xs.length = n) (hm : xs.length ≤ 140737488355328) (h : Sl w ao xs) (hn : ao = none → xs = [] ∧ cap = 0) :
    Calls Tryz.prog 69 #[.slice ao n cap] w fun e w' => ∃ b ao' cap', e = .returned (.pointer (some ⟨b, 0, none⟩)) ∧ w.heap.size ≤ b ∧ (∀ a, ao' = some a → w.heap.size ≤ a.block) ∧ (∀ a, ao' = some a → a.block < b) ∧ Rd w' b 0 0 ao' cap' xs 0 ∧ Kept [] w w' := by
  have HS : Hid (Sl w ao xs) := h
  clear h
  go_enter Tryz.func69, Tryz.ntmps69
  go_wp2_with (go_at_call 29; refine (clone_any ao n cap xs _ hxn hm HS.out hn).mono ?_; rintro e w1 ⟨ao1, cap1, rfl, hfr, hk⟩)
  go_ret
  refine ⟨w1.heap.size, ao1, cap1, rfl, hk.size, fun a ha => (hfr.2.2.2 a ha).1, fun a ha => (hfr.2.2.2 a ha).2.1, ?_, hk.alloc _⟩
  subst hxn
  exact ⟨by simp, by simp, by simp, by simp, by simp, by simp, by simp, Nat.zero_le _, hfr.2.1, hm, hfr.1.kept ((Kept.refl [] w1).alloc _) (by simp), hfr.2.2.1, fun a ha => (hfr.2.2.2 a ha).2.2, fun a ha => by have := (hfr.2.2.2 a ha).2.1; omega⟩
end

section
namespace Pure
theorem ofNat_toNat (c : UInt8) : UInt8.ofNat c.toNat = c := by simp

/-- What is read of a number is its shortest form: from the k-th byte on. -/
theorem numGo_enc (xs : List UInt8) : ∀ f k x v n, numGo xs f k x = (v, n, 0) → x < 2 ^ (7 * k) → ∃ y, v = x + y * 2 ^ (7 * k) ∧ k < n ∧ n ≤ xs.length ∧ enc y = (xs.take n).drop k ∧ (0 < k → 0 < y)
  | 0, k, x, v, n, h, _ => by simp [numGo] at h
  | f + 1, k, x, v, n, h, hx => by
    simp only [numGo] at h
    split at h
    · rename_i hk
      have hcb : (xs.getD k 0).toNat < 256 := UInt8.toNat_lt _
      have htk : (xs.take (k + 1)).drop k = [xs.getD k 0] := by
        rw [List.take_succ_eq_append_getElem hk, List.drop_append_of_le_length (by simp; omega), List.drop_of_length_le (by rw [List.length_take]; exact Nat.min_le_left _ _)]
        simp [List.getElem?_eq_getElem hk]
      split at h
      · rename_i h1
        split at h
        · simp at h
        · rename_i h2
          simp only [Prod.mk.injEq] at h
          obtain ⟨rfl, rfl, _⟩ := h
          refine ⟨(xs.getD k 0).toNat, rfl, by omega, by omega, ?_, fun hk0 => ?_⟩
          · rw [enc_small h1, htk, ofNat_toNat]
          · omega
      · rename_i h1
        have hx2 : x + ((xs.getD k 0).toNat - 128) * 2 ^ (7 * k) < 2 ^ (7 * (k + 1)) := by
          have e : 2 ^ (7 * (k + 1)) = 128 * 2 ^ (7 * k) := by rw [show 7 * (k + 1) = 7 * k + 7 by omega, Nat.pow_add]; omega
          have : ((xs.getD k 0).toNat - 128) * 2 ^ (7 * k) ≤ 127 * 2 ^ (7 * k) := Nat.mul_le_mul (by omega) (Nat.le_refl _)
          omega
        obtain ⟨y, hv, hn1, hn2, he, hy⟩ := numGo_enc xs f (k + 1) _ v n h hx2
        have hy0 := hy (by omega)
        refine ⟨((xs.getD k 0).toNat - 128) + 128 * y, ?_, by omega, hn2, ?_, fun _ => by omega⟩
        · rw [hv, show 7 * (k + 1) = 7 * k + 7 by omega, Nat.pow_add, Nat.add_mul, Nat.add_assoc]
          congr 2
          rw [Nat.mul_comm (2 ^ (7 * k)) (2 ^ 7), ← Nat.mul_assoc, Nat.mul_comm y]
        · have hsm : ((xs.getD k 0).toNat - 128 + 128 * y) % 128 + 128 = (xs.getD k 0).toNat := by omega
          have hdv : ((xs.getD k 0).toNat - 128 + 128 * y) / 128 = y := by omega
          rw [enc_more (by omega), hsm, hdv, he, ofNat_toNat]
          have hkn : k < (xs.take n).length := by simp; omega
          rw [List.drop_eq_getElem_cons hkn]
          simp [List.getElem?_eq_getElem hk]
    · simp at h

theorem num_enc {xs : List UInt8} {v n : Nat} (h : num xs = (v, n, 0)) : enc v = xs.take n ∧ n ≤ xs.length ∧ v ≤ 2147483647 := by
  obtain ⟨y, hv, _, h2, he, _⟩ := numGo_enc xs 5 0 0 v n h (by simp)
  have hf := num_facts xs
  rw [h] at hf
  simp only at hf
  refine ⟨?_, h2, by omega⟩
  have : v = y := by simpa using hv
  rw [this]
  simpa using he

theorem be_cons (c : UInt8) (l : List UInt8) : be (c :: l) = c.toNat * 256 ^ l.length + be l := by
  have : ∀ (l : List UInt8) (a : Nat), l.foldl (fun v c => 256 * v + c.toNat) a = a * 256 ^ l.length + be l := by
    intro l
    induction l with
    | nil => intro a; simp [be]
    | cons d l ih =>
      intro a
      simp only [List.foldl_cons, List.length_cons, be]
      rw [ih, ih (256 * 0 + d.toNat), Nat.pow_succ, Nat.mul_comm (256 ^ l.length) 256, ← Nat.mul_assoc, Nat.add_mul, Nat.mul_comm 256 a]
      simp only [Nat.mul_zero, Nat.zero_add]
      omega
  simp only [be, List.foldl_cons, Nat.mul_zero, Nat.zero_add]
  exact this l c.toNat

theorem fix_mod (v w : Nat) (k : Nat) (h : v % 256 ^ k = w % 256 ^ k) : fix v k = fix w k := by
  induction k with
  | zero => rfl
  | succ k ih =>
    have h1 : v / 256 ^ k % 256 = w / 256 ^ k % 256 := by
      rw [Nat.pow_succ] at h
      rw [← Nat.mod_mul_right_div_self, ← Nat.mod_mul_right_div_self, h]
    have h2 : v % 256 ^ k = w % 256 ^ k := by
      have := congrArg (· % 256 ^ k) h
      simp only [Nat.pow_succ, Nat.mod_mul_right_mod] at this
      exact this
    simp only [fix]
    rw [h1, ih h2]

theorem fix_be (l : List UInt8) : fix (be l) l.length = l := by
  induction l with
  | nil => rfl
  | cons c l ih =>
    have hl := be_lt l
    have hc := UInt8.toNat_lt c
    simp only [List.length_cons, fix]
    have h1 : be (c :: l) / 256 ^ l.length % 256 = c.toNat := by
      rw [be_cons, Nat.mul_comm, Nat.mul_add_div (Nat.pow_pos (by omega)), Nat.div_eq_of_lt hl, Nat.add_zero, Nat.mod_eq_of_lt hc]
    have h2 : fix (be (c :: l)) l.length = fix (be l) l.length := fix_mod _ _ _ (by rw [be_cons, Nat.mul_comm, Nat.mul_add_mod])
    rw [h1, ofNat_toNat, h2, ih]
end Pure
end

section
namespace Pure
theorem numGo_back (xs rest : List UInt8) : ∀ f k x y, k + f = 5 → xs.drop k = enc y ++ rest → x + y * 2 ^ (7 * k) ≤ 2147483647 → (0 < k → 0 < y) → numGo xs f k x = (x + y * 2 ^ (7 * k), k + (enc y).length, 0) := by
  intro f
  induction f with
  | zero =>
    intro k x y hk hd hx hy
    obtain rfl : k = 5 := by omega
    have := hy (by omega)
    exfalso
    have h2 : 2 ^ (7 * 5) = 34359738368 := by decide
    rw [h2] at hx
    omega
  | succ f ih =>
    intro k x y hk hd hx hy
    have hlen : k < xs.length := by
      have h1 : (xs.drop k).length = (enc y ++ rest).length := by rw [hd]
      have h2 : 0 < (enc y).length := by
        by_cases h : y < 128
        · rw [enc_small h]; simp
        · rw [enc_more h]; simp
      simp at h1
      omega
    by_cases h : y < 128
    · rw [enc_small h] at hd
      have hg : (xs.getD k 0).toNat = y := by
        have h1 : xs.getD k 0 = (xs.drop k).getD 0 0 := by simp [List.getD_eq_getElem?_getD]
        rw [h1, hd]
        simp only [List.cons_append, List.getD_cons_zero]
        exact toNat_ofNat_small (by omega)
      have hno : ¬ (2147483647 < x + (xs.getD k 0).toNat * 2 ^ (7 * k) ∨ (0 < k ∧ (xs.getD k 0).toNat = 0)) := by
        rw [hg]
        rintro (h1 | ⟨h1, h2⟩)
        · omega
        · have := hy h1
          omega
      rw [numGo_good hlen (by omega) hno, hg, enc_small h]
      rfl
    · rw [enc_more h] at hd
      have hg : (xs.getD k 0).toNat = y % 128 + 128 := by
        have h1 : xs.getD k 0 = (xs.drop k).getD 0 0 := by simp [List.getD_eq_getElem?_getD]
        rw [h1, hd]
        simp only [List.cons_append, List.getD_cons_zero]
        exact toNat_ofNat_small (by omega)
      have hd2 : xs.drop (k + 1) = enc (y / 128) ++ rest := by
        rw [← List.drop_drop, hd]
        simp
      have hp : 2 ^ (7 * (k + 1)) = 128 * 2 ^ (7 * k) := by
        rw [show 7 * (k + 1) = 7 + 7 * k by omega, Nat.pow_add]
      have hm : y * 2 ^ (7 * k) = y % 128 * 2 ^ (7 * k) + y / 128 * 2 ^ (7 * (k + 1)) := by
        rw [hp, ← Nat.mul_assoc, ← Nat.add_mul]
        congr 1
        omega
      rw [numGo_more hlen (by omega), hg, show y % 128 + 128 - 128 = y % 128 by omega]
      rw [ih (k + 1) _ (y / 128) (by omega) hd2 (by omega) (by omega), enc_more h, hm]
      simp
      omega

theorem num_back {v : Nat} (h : v ≤ 2147483647) (rest : List UInt8) : num (enc v ++ rest) = (v, (enc v).length, 0) := by
  have := numGo_back (enc v ++ rest) rest 5 0 0 v rfl rfl (by simpa using h) (by simp)
  simpa [num] using this

theorem be_fix (v : Nat) : ∀ k, be (fix v k) = v % 256 ^ k
  | 0 => by simp [fix, be, Nat.mod_one]
  | k + 1 => by
    rw [fix, be_cons, be_fix v k, fix_len, toNat_ofNat_small (Nat.mod_lt _ (by omega)), Nat.pow_succ, Nat.mod_mul]
    rw [Nat.mul_comm, Nat.add_comm]

theorem enc_pos (y : Nat) : 0 < (enc y).length := by
  by_cases h : y < 128
  · rw [enc_small h]; simp
  · rw [enc_more h]; simp
end Pure
end

end Go.Proofs.YtngaimahhgmciabGreatDoor
