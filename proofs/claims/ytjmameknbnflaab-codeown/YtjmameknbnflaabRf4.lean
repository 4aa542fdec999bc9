/-
  Contracts: freightref1's reader: TakeText.
-/
import Derived.Test.YtjmameknbnflaabRf3
namespace Go.Proofs.Ytjmameknbnflaab
open Go.RowKit
set_option linter.unusedVariables false
set_option linter.unusedSimpArgs false

set_option maxHeartbeats 400000 in
set_option maxRecDepth 100000 in
theorem taketext_bad {w : World} {b : Nat} {ao : Option Addr} {cap : Nat} {xs : List UInt8} {at_ : Nat} {c p : Int} (h : Rf w b ao cap xs at_ c p) (he : c ≠ 0) (n : Int) :
    Calls Try.prog 28 #[.pointer (some ⟨b, 0, none⟩), .int .i64 n] w fun e' w' => e' = .returned (.slice none 0 0) ∧ w' = w := by
  have h2 := h.c2
  have hne : (c != 0) = true := by simpa using he
  clear h
  go_enter Try.func28, Try.ntmps28
  go_wp2
  go_ret
  exact ⟨rfl, rfl⟩

set_option maxHeartbeats 800000 in
set_option maxRecDepth 100000 in
theorem taketext_neg {w : World} {b : Nat} {ao : Option Addr} {cap : Nat} {xs : List UInt8} {at_ : Nat} {p : Int} (h : Rf w b ao cap xs at_ 0 p) (n : Int) (hn : n < 0) :
    Calls Try.prog 28 #[.pointer (some ⟨b, 0, none⟩), .int .i64 n] w fun e' w' => e' = .returned (.slice none 0 0) ∧ Kept [b] w w' ∧ Rf w' b ao cap xs at_ 1 at_ := by
  have h2 := h.c2
  have H := (show Hid (Rf w b ao cap xs at_ 0 p) from h)
  clear h
  go_enter Try.func28, Try.ntmps28
  go_wp2_with (go_at_call 50; refine (spoil_any H.out _).mono ?_; rintro e w1 ⟨rfl, hk1, hr1⟩)
  go_ret
  exact ⟨rfl, hk1, hr1⟩

set_option maxHeartbeats 800000 in
set_option maxRecDepth 100000 in
theorem taketext_form {w : World} {b : Nat} {ao : Option Addr} {cap : Nat} {xs : List UInt8} {at_ : Nat} {p : Int} (h : Rf w b ao cap xs at_ 0 p) (most : Int) (hn : 0 ≤ most) {v k c : Nat} (hr : Pure.num (xs.drop at_) = (v, k, c)) (hc : c ≠ 0) :
    Calls Try.prog 28 #[.pointer (some ⟨b, 0, none⟩), .int .i64 most] w fun e' w' => e' = .returned (.slice none 0 0) ∧ Kept [b] w w' ∧ Rf w' b ao cap xs at_ c at_ := by
  have HR : Hid (Pure.num (xs.drop at_) = (v, k, c)) := hr
  have hne : ((c : Int) != 0) = true := by simp [hc]
  have h0 := h.c0
  have h1 := h.c1
  have h2 := h.c2
  have hs := h.small
  have hl := h.le
  have H := (show Hid (Rf w b ao cap xs at_ 0 p) from h)
  clear h hr hc
  go_enter Try.func28, Try.ntmps28
  go_wp2
  go_quiet ((go_at_call 51; exact Calls.quiet_of_same (refnum_any ao xs.length cap at_ xs _ rfl hl hs (H.out.sl.drewN _) HR.out)))
  go_wp2_with (go_at_call 50; refine (spoil_any (H.out.drewN _) _).mono ?_; rintro e w1 ⟨rfl, hk1, hr1⟩)
  go_ret
  exact ⟨rfl, ((Kept.refl [b] w).drewN nq).trans hk1 (by simp), hr1⟩

set_option maxHeartbeats 800000 in
set_option maxRecDepth 100000 in
theorem taketext_long {w : World} {b : Nat} {ao : Option Addr} {cap : Nat} {xs : List UInt8} {at_ : Nat} {p : Int} (h : Rf w b ao cap xs at_ 0 p) (most : Int) (hn : 0 ≤ most) {v k : Nat} (hr : Pure.num (xs.drop at_) = (v, k, 0)) (hv : most < v) :
    Calls Try.prog 28 #[.pointer (some ⟨b, 0, none⟩), .int .i64 most] w fun e' w' => e' = .returned (.slice none 0 0) ∧ Kept [b] w w' ∧ Rf w' b ao cap xs at_ 2 at_ := by
  have HR : Hid (Pure.num (xs.drop at_) = (v, k, 0)) := hr
  have h0 := h.c0
  have h1 := h.c1
  have h2 := h.c2
  have hs := h.small
  have hl := h.le
  have H := (show Hid (Rf w b ao cap xs at_ 0 p) from h)
  clear h hr
  go_enter Try.func28, Try.ntmps28
  go_wp2
  go_quiet ((go_at_call 51; exact Calls.quiet_of_same (refnum_any ao xs.length cap at_ xs _ rfl hl hs (H.out.sl.drewN _) HR.out)))
  go_wp2_with (go_at_call 50; refine (spoil_any (H.out.drewN _) _).mono ?_; rintro e w1 ⟨rfl, hk1, hr1⟩)
  go_ret
  exact ⟨rfl, ((Kept.refl [b] w).drewN nq).trans hk1 (by simp), hr1⟩

set_option maxHeartbeats 800000 in
set_option maxRecDepth 100000 in
theorem taketext_short {w : World} {b : Nat} {ao : Option Addr} {cap : Nat} {xs : List UInt8} {at_ : Nat} {p : Int} (h : Rf w b ao cap xs at_ 0 p) (most : Int) (hn : 0 ≤ most) {v k : Nat} (hr : Pure.num (xs.drop at_) = (v, k, 0)) (hv : v ≤ most) (hsh : xs.length - (at_ + k) < v) :
    Calls Try.prog 28 #[.pointer (some ⟨b, 0, none⟩), .int .i64 most] w fun e' w' => e' = .returned (.slice none 0 0) ∧ Kept [b] w w' ∧ Rf w' b ao cap xs at_ 10 at_ := by
  have hf := Pure.num_facts (xs.drop at_)
  rw [hr] at hf
  simp only [List.length_drop] at hf
  have hk : k ≤ 5 ∧ at_ + k ≤ xs.length := by have := h.le; omega
  obtain ⟨hk5, hkn⟩ := hk
  have HR : Hid (Pure.num (xs.drop at_) = (v, k, 0)) := hr
  have h0 := h.c0
  have h1 := h.c1
  have h2 := h.c2
  have hs := h.small
  have hl := h.le
  have H := (show Hid (Rf w b ao cap xs at_ 0 p) from h)
  clear h hr hf
  go_enter Try.func28, Try.ntmps28
  go_wp2
  go_quiet ((go_at_call 51; exact Calls.quiet_of_same (refnum_any ao xs.length cap at_ xs _ rfl hl hs (H.out.sl.drewN _) HR.out)))
  obtain ⟨m, hm⟩ : ∃ m, m = nq := ⟨_, rfl⟩
  rw [← hm]
  clear hm nq
  go_wp2
  go_quiet (fail)
  go_wp2_with (go_at_call 50; refine (spoil_any (H.out.drewN _) _).mono ?_; rintro e w1 ⟨rfl, hk1, hr1⟩)
  go_ret
  exact ⟨rfl, ((Kept.refl [b] w).drewN _).trans hk1 (by simp), hr1⟩

set_option maxHeartbeats 1600000 in
set_option maxRecDepth 100000 in
theorem taketext_ok {w : World} {b : Nat} {ao : Option Addr} {cap : Nat} {xs : List UInt8} {at_ : Nat} {p : Int} (h : Rf w b ao cap xs at_ 0 p) (most : Int) (hmo : 0 ≤ most) {n k : Nat} (hr : Pure.num (xs.drop at_) = (n, k, 0)) (hv : n ≤ most) (hn : n ≤ xs.length - (at_ + k)) :
    Calls Try.prog 28 #[.pointer (some ⟨b, 0, none⟩), .int .i64 most] w fun e' w' => ∃ ao' cap', e' = .returned (.slice ao' n cap') ∧ Fresh w w' ao' cap' ((xs.drop (at_ + k)).take n) ∧ Kept [b] w w' ∧ Rf w' b ao cap xs (at_ + k + n) 0 p := by
  have hf := Pure.num_facts (xs.drop at_)
  rw [hr] at hf
  simp only [List.length_drop] at hf
  have hk : k ≤ 5 ∧ at_ + k ≤ xs.length ∧ n ≤ 2147483647 := by have := h.le; omega
  obtain ⟨hk5, hkn, hn31⟩ := hk
  have HR : Hid (Pure.num (xs.drop at_) = (n, k, 0)) := hr
  have h0 := h.c0
  have h1 := h.c1
  have h2 := h.c2
  have f1 := h.f1
  have hs := h.small
  have hl := h.le
  have hlc := h.lc
  obtain ⟨i0, hi, hz0, hz1, hz2⟩ := info_parts Try.infoByte
  have H := (show Hid (Rf w b ao cap xs at_ 0 p) from h)
  clear h hr hf
  obtain ⟨L, hL⟩ : ∃ L, xs.length = L := ⟨_, rfl⟩
  rw [hL] at h0 hn hs hl hlc hkn
  have HL : Hid (xs.length = L) := hL
  clear hL
  go_enter Try.func28, Try.ntmps28
  go_wp2
  go_quiet ((go_at_call 51; exact Calls.quiet_of_same (refnum_any ao L cap at_ xs _ HL.out hl hs (H.out.sl.drewN _) HR.out)))
  obtain ⟨m0, hm0⟩ : ∃ m0, m0 = nq := ⟨_, rfl⟩
  rw [← hm0]
  clear hm0 nq
  go_wp2
  go_quiet (fail)
  go_wp2_with (at_make; refine wpList_make_full _ rfl _ _ 32 rfl w.heap.size 5 i0 (.int .u8 0) 1 Try.underlying32 hi hz0 hz1 .i64 .i64 n n n rfl rfl rfl rfl ?c1 ?c2 ?c3 ?_)
  case c1 => rw [hz2]; omega
  case c2 => unfold maxLen; omega
  case c3 => simp
  intro w1 hown hgrow
  have hB1 : Below w.heap.size w w1 := (Below.refl _ _).grown (w' := w1) (row := none) ⟨hgrow.os, hgrow.tape, hgrow.output, hgrow.size, hgrow.block⟩ (Nat.le_refl _) (by simp)
  obtain ⟨C, hClen, hrow⟩ : ∃ C : List Value, C.length = n ∧ w1.heap[w.heap.size]? = some (.cells C.toArray 5 (0, 0)) := by
    rcases hown.2 with ⟨h, _⟩ | ⟨g, cap, cur, hv, _, hg, _, _, hsz, _⟩
    · cases h
    · cases hv
      exact ⟨cur.toList, by simpa using hsz, by simpa using hg⟩
  clear hown hgrow
  have hbw : b < w.heap.size := H.out.lt
  have h01 : w1.cell? ⟨b, 0, none⟩ = some (.slice ao L cap) := (hB1.cell (p := ⟨b, 0, none⟩) hbw).trans h0
  have h11 : w1.cell? ⟨b, 1, none⟩ = some (.int .i64 at_) := (hB1.cell (p := ⟨b, 1, none⟩) hbw).trans h1
  obtain ⟨ao2, hcut, hcutS⟩ := cut_any ao L cap (at_ + k) hkn hlc
  have HCS : Hid (∀ (w : World) (xs : List UInt8), xs.length = L → Sl w ao xs → Sl w ao2 (xs.drop (at_ + k))) := hcutS
  clear hcutS h0 h1 h2 f1
  have hcut2 : ∀ W, (Instr.slice 32 (.slice ao L cap) (some (.int .i64 ((at_ : Int) + (k : Int)))) none none).run Try.prog W = .ok (.slice ao2 (L - (at_ + k)) (cap - (at_ + k))) W := fun W => by
    have := hcut W
    rwa [Int.natCast_add] at this
  clear hcut
  have hq : ∃ q : Nat, at_ + k = q := ⟨_, rfl⟩
  obtain ⟨q, hq⟩ := hq
  have hwr : IntKind.i64.wrap ((at_ : Int) + (k : Int)) = (q : Int) := by simp [IntKind.wrap, IntKind.bits, IntKind.signed]; split <;> omega
  have hcut3 : ∀ W, (Instr.slice 32 (.slice ao L cap) (some (.int .i64 (q : Int))) none none).run Try.prog W = .ok (.slice ao2 (L - (at_ + k)) (cap - (at_ + k))) W := fun W => by
    have := hcut2 W
    rwa [show ((at_ : Int) + (k : Int)) = (q : Int) by omega] at this
  clear hcut2 hq
  go_wp2
  go_still_tail 12, Try.follows
  rw [World.drew_eq]
  have hlen : ((xs.drop (at_ + k)).take n).length = n := by have := HL.out; simp; omega
  refine wpList_copy_splice rfl (.tmp 59) (.tmp 70) 32 32 rfl 5 Try.underlying32 Try.sizeByte (some ⟨w.heap.size, 0, none⟩) ao2 n n (L - (at_ + k)) (cap - (at_ + k)) rfl rfl w.heap.size 0 C 5 hrow (bys ((xs.drop (at_ + k)).take n)) (by rw [bys_length, hlen]; simp only [Nat.min_def]; split <;> omega) ?k1 (by rw [bys_length, hlen]; omega) (bys_oneCell _) w.heap.size w hB1.drew (Nat.le_refl _) ?_
  case k1 =>
    intro hpos
    rw [bys_length, hlen] at hpos
    have hsl : Sl w1 ao2 (xs.drop (at_ + k)) := HCS.out w1 xs HL.out (H.out.sl.kept (Kept.of_below hB1) (by simp))
    obtain ⟨g2, o2, e2, hb2, hc2⟩ := (hsl.take n).open (by rintro h; rw [h] at hlen; simp at hlen; omega)
    refine ⟨rfl, ⟨g2, o2, none⟩, e2, fun j u hu => ?_⟩
    obtain ⟨hj, rfl⟩ := bys_get hu
    rw [Addr.add_mid, World.cell?_drew]
    exact hc2 j hj
  intro w3 hR3 hB3
  have HR3 : Hid (w3.heap[w.heap.size]? = some (.cells (bys ((xs.drop (at_ + k)).take n)).toArray 5 (0, 0))) := by
    have h1 := hR3.out
    obtain ⟨h2, h3⟩ := splice_drop C (bys ((xs.drop (at_ + k)).take n)) 0 n (by rw [bys_length, hlen]; omega) (by omega)
    rw [List.drop_zero, List.drop_of_length_le (l := C) (by omega), List.append_nil] at h2
    rw [h2] at h1
    exact h1
  have h31 : w3.cell? ⟨b, 1, none⟩ = some (.int .i64 at_) := (hB3.cell (p := ⟨b, 1, none⟩) hbw).trans H.out.c1
  have f31 : w3.frozen? ⟨b, 1, none⟩ = false := ((Kept.of_below hB3).frozen (p := ⟨b, 1, none⟩) hbw (by simp)).trans H.out.f1
  have HK : Hid (Kept [] w w3) := Kept.of_below hB3
  clear hR3 hB3 hrow hB1 hcut3 h01 h11 hwr
  go_wp2
  go_ret
  have hrf := (H.out.kept HK.out (by simp) (by simp)).moved (at_ + k + n) (by rw [HL.out]; omega)
  have hkk : Kept [b] w3 (w3.setCell ⟨b, 1, none⟩ (.int .i64 ((at_ + k + n : Nat) : Int))) := (Kept.refl [b] w3).setCell (by simp) _
  have hrl := (Array.getElem?_eq_some_iff.1 HR3.out).1
  refine ⟨some ⟨w.heap.size, 0, none⟩, n, rfl, ⟨?_, by omega, by simp, fun a ha => by cases ha; exact ⟨Nat.le_refl _, Nat.lt_of_lt_of_le hrl (by simp [World.setCell]), rfl⟩⟩, ?_, ?_⟩
  · have h5 : Sl w3 (some ⟨w.heap.size, 0, none⟩) ((xs.drop (at_ + k)).take n) := Sl.of fun i hi => by
      rw [cell_of_row w3 _ _ _ _ _ HR3.out, Nat.zero_add]
      simpa using bys_at hi
    have h6 := h5.kept hkk (fun _ a ha => by cases ha; simp; omega)
    simpa using h6
  · have h7 := (HK.out.mono (l2 := [b]) (by simp)).trans hkk (by simp)
    simpa using h7
  · simpa using hrf

end Go.Proofs.Ytjmameknbnflaab
