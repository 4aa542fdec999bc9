/-
  Contracts: freightref1's reader: TakeFixed where it takes, TakeRaw.
-/
import Derived.Test.YtjmameknbnflaabRf2
import Derived.Test.YtjmameknbnflaabWr5
namespace Go.Proofs.Ytjmameknbnflaab
open Go.RowKit
set_option linter.unusedVariables false
set_option linter.unusedSimpArgs false

set_option maxHeartbeats 1600000 in
set_option maxRecDepth 100000 in
theorem takefix_ok {w : World} {b : Nat} {ao : Option Addr} {cap : Nat} {xs : List UInt8} {at_ : Nat} {p : Int} (h : Rf w b ao cap xs at_ 0 p) (n : Nat) (hn0 : 1 ≤ n) (hn4 : n ≤ 4) (hn : n ≤ xs.length - at_) :
    Calls Try.prog 53 #[.pointer (some ⟨b, 0, none⟩), .int .i64 n] w fun e' w' => e' = .returned (.int .i64 (Pure.be ((xs.drop at_).take n))) ∧ Kept [b] w w' ∧ Rf w' b ao cap xs (at_ + n) 0 p := by
  have h0 := h.c0
  have h1 := h.c1
  have h2 := h.c2
  have f1 := h.f1
  have hs := h.small
  have hl := h.le
  have H := (show Hid (Rf w b ao cap xs at_ 0 p) from h)
  clear h
  obtain ⟨g, off, hao, hb, hc⟩ := H.out.sl.open (by rintro rfl; simp at hn; omega)
  rw [hao] at h0
  have HAO : Hid (ao = some ⟨g, off, none⟩) := hao
  obtain ⟨L, hL⟩ : ∃ L, xs.length = L := ⟨_, rfl⟩
  rw [hL] at h0 hn hs hl
  have HL : Hid (xs.length = L) := hL
  clear hao hL
  obtain ⟨ys, hys⟩ : ∃ ys, (xs.drop at_).take n = ys := ⟨_, rfl⟩
  have HY : Hid ((xs.drop at_).take n = ys) := hys
  have hlen : ys.length = n := by rw [← hys]; have := HL.out; simp; omega
  have hcy : ∀ i, i < n → w.cell? ⟨g, off + (at_ + i), none⟩ = some (.int .u8 (ys.getD i 0).toNat) := fun i hi => by
    rw [hc (at_ + i) (by have := HL.out; omega), ← hys]
    simp [List.getElem?_drop, List.getElem?_take, hi]
  have HYL : Hid (ys.length = n) := hlen
  clear hys hc hlen
  go_enter Try.func53, Try.ntmps53
  go_wp2
  go_quiet (fail)
  go_wp2
  go_loopw [5, 6] (fun v i wr => ∃ k j : Nat, k ≤ n ∧ i = .int .i64 k ∧ v = .int .i64 (Pure.be (ys.take k)) ∧ wr = w.drewN j) (fun v i wr => n - (intOf i).toNat)
  case atStart => exact ⟨0, nq, Nat.zero_le _, rfl, rfl, rfl⟩
  case round =>
    obtain ⟨k, j, hk, rfl, rfl, hwr⟩ := hrel
    subst hwr
    by_cases hlt : k < n
    · have hcell := hcy k hlt
      have hcb : (ys.getD k 0).toNat < 256 := UInt8.toNat_lt _
      have hbe := Pure.be_lt (ys.take k)
      have hlk : (ys.take k).length ≤ 3 := by simp; omega
      have hbe3 : Pure.be (ys.take k) < 16777216 := Nat.lt_of_lt_of_le hbe (Nat.pow_le_pow_right (n := 256) (by omega) hlk)
      have HS : Hid (Pure.be (ys.take (k + 1)) = 256 * Pure.be (ys.take k) + (ys.getD k 0).toNat) := by
        show _ = _
        rw [Pure.take_snoc ys 0 k (by rw [HYL.out]; exact hlt), Pure.be_snoc]
      clear hbe hlk
      generalize Pure.be (ys.take k) = v at hbe3 HS ⊢
      generalize (ys.getD k 0).toNat = c at hcell hcb HS
      clear hcy
      go_wp2
      go_quiet (fail)
      go_wp2
      go_roundw
      case rel => exact ⟨k + 1, _, by omega, by go_num, by rw [HS.out]; go_num, rfl⟩
      case measure => simp [intOf]; omega
    · have HT : Hid (ys.take k = ys) := List.take_of_length_le (by rw [HYL.out]; omega)
      clear hcy
      go_wp2
      go_ret
      refine ⟨ret_int (by rw [HY.out, HT.out]), ((Kept.refl [b] w).drewN j).setCell (by simp) _, ?_⟩
      have := (H.out.drewN j).moved (at_ + n) (by rw [HL.out]; omega)
      simpa using this

set_option maxHeartbeats 400000 in
set_option maxRecDepth 100000 in
theorem takeraw_bad {w : World} {b : Nat} {ao : Option Addr} {cap : Nat} {xs : List UInt8} {at_ : Nat} {c p : Int} (h : Rf w b ao cap xs at_ c p) (he : c ≠ 0) (n : Int) :
    Calls Try.prog 27 #[.pointer (some ⟨b, 0, none⟩), .int .i64 n] w fun e' w' => e' = .returned (.slice none 0 0) ∧ w' = w := by
  have h2 := h.c2
  have hne : (c != 0) = true := by simpa using he
  clear h
  go_enter Try.func27, Try.ntmps27
  go_wp2
  go_ret
  exact ⟨rfl, rfl⟩

set_option maxHeartbeats 800000 in
set_option maxRecDepth 100000 in
theorem takeraw_neg {w : World} {b : Nat} {ao : Option Addr} {cap : Nat} {xs : List UInt8} {at_ : Nat} {p : Int} (h : Rf w b ao cap xs at_ 0 p) (n : Int) (hn : n < 0) :
    Calls Try.prog 27 #[.pointer (some ⟨b, 0, none⟩), .int .i64 n] w fun e' w' => e' = .returned (.slice none 0 0) ∧ Kept [b] w w' ∧ Rf w' b ao cap xs at_ 1 at_ := by
  have h2 := h.c2
  have H := (show Hid (Rf w b ao cap xs at_ 0 p) from h)
  clear h
  go_enter Try.func27, Try.ntmps27
  go_wp2_with (go_at_call 50; refine (spoil_any H.out _).mono ?_; rintro e w1 ⟨rfl, hk1, hr1⟩)
  go_ret
  exact ⟨rfl, hk1, hr1⟩

set_option maxHeartbeats 800000 in
set_option maxRecDepth 100000 in
theorem takeraw_short {w : World} {b : Nat} {ao : Option Addr} {cap : Nat} {xs : List UInt8} {at_ : Nat} {p : Int} (h : Rf w b ao cap xs at_ 0 p) (n : Int) (hn0 : 0 ≤ n) (hn : (xs.length - at_ : Nat) < n) :
    Calls Try.prog 27 #[.pointer (some ⟨b, 0, none⟩), .int .i64 n] w fun e' w' => e' = .returned (.slice none 0 0) ∧ Kept [b] w w' ∧ Rf w' b ao cap xs at_ 10 at_ := by
  have h0 := h.c0
  have h1 := h.c1
  have h2 := h.c2
  have hs := h.small
  have hl := h.le
  have H := (show Hid (Rf w b ao cap xs at_ 0 p) from h)
  clear h
  go_enter Try.func27, Try.ntmps27
  go_wp2
  go_quiet (fail)
  go_wp2_with (go_at_call 50; refine (spoil_any (H.out.drewN _) _).mono ?_; rintro e w1 ⟨rfl, hk1, hr1⟩)
  go_ret
  exact ⟨rfl, ((Kept.refl [b] w).drewN nq).trans hk1 (by simp), hr1⟩

/-- A slice cut at a place, whatever it lies at. -/
theorem cut_any (ao : Option Addr) (L cap m : Nat) (hm : m ≤ L) (hc : L ≤ cap) : ∃ ao' : Option Addr, (∀ W, (Instr.slice 32 (.slice ao L cap) (some (.int .i64 m)) none none).run Try.prog W = .ok (.slice ao' (L - m) (cap - m)) W) ∧ ∀ (w : World) (xs : List UInt8), xs.length = L → Sl w ao xs → Sl w ao' (xs.drop m) := by
  have hz : ∀ W, (sizeOf (Try.prog.elem 32)).run Try.prog W = .ok 1 W := fun W => by kernel_rfl
  have h := fun W => run_slice_l (P := Try.prog) W 32 ao L cap (by kernel_rfl) .i64 m (by omega) (by omega)
  cases ao with
  | none =>
    refine ⟨none, fun W => ?_, fun w xs hx hs => ?_⟩
    · rw [h W, hz]
      simp [sliced]
    · have : xs = [] := by
        by_cases h0 : xs = []
        · exact h0
        · obtain ⟨_, _, e, _⟩ := hs.open h0
          cases e
      subst this
      simpa using Sl.nil w none
  | some a =>
    refine ⟨if cap = m then some a else some (a.add m), fun W => ?_, fun w xs hx hs => ?_⟩
    · rw [h W, hz]
      by_cases hcm : cap = m <;> simp [sliced, hcm]
    · by_cases h0 : xs.drop m = []
      · rw [h0]; exact Sl.nil _ _
      · have hx0 : xs ≠ [] := by rintro rfl; simp at h0
        obtain ⟨g, off, e, _, _⟩ := hs.open hx0
        cases e
        have := hs.drop m cap (by omega) (by omega)
        rw [Addr.add_mid]
        exact this

set_option maxHeartbeats 1600000 in
set_option maxRecDepth 100000 in
theorem takeraw_ok {w : World} {b : Nat} {ao : Option Addr} {cap : Nat} {xs : List UInt8} {at_ : Nat} {p : Int} (h : Rf w b ao cap xs at_ 0 p) (n : Nat) (hn : n ≤ xs.length - at_) :
    Calls Try.prog 27 #[.pointer (some ⟨b, 0, none⟩), .int .i64 n] w fun e' w' => ∃ ao' cap', e' = .returned (.slice ao' n cap') ∧ Fresh w w' ao' cap' ((xs.drop at_).take n) ∧ Kept [b] w w' ∧ Rf w' b ao cap xs (at_ + n) 0 p := by
  have h0 := h.c0
  have h1 := h.c1
  have h2 := h.c2
  have f1 := h.f1
  have hs := h.small
  have hl := h.le
  have hlc := h.lc
  obtain ⟨i0, hi, hz0, hz1, hz2⟩ := info_parts Try.infoByte
  have H := (show Hid (Rf w b ao cap xs at_ 0 p) from h)
  clear h
  obtain ⟨L, hL⟩ : ∃ L, xs.length = L := ⟨_, rfl⟩
  rw [hL] at h0 hn hs hl hlc
  have HL : Hid (xs.length = L) := hL
  clear hL
  go_enter Try.func27, Try.ntmps27
  go_wp2
  go_quiet (fail)
  go_wp2_with (at_make; refine wpList_make_full _ rfl _ _ 32 rfl w.heap.size 5 i0 (.int .u8 0) 1 Try.underlying32 hi hz0 hz1 .i64 .i64 n n n rfl rfl rfl rfl ?c1 ?c2 ?c3 ?_)
  case c1 => rw [hz2]; omega
  case c2 => unfold maxLen; omega
  case c3 => simp
  intro w1 hown hgrow
  have hB1 : Below w.heap.size w w1 := (Below.refl _ _).grown (w' := w1) (row := none) ⟨hgrow.os, hgrow.tape, hgrow.output, hgrow.size, hgrow.block⟩ (Nat.le_refl _) (by simp)
  obtain ⟨C, hClen, hrow⟩ : ∃ C : List Value, C.length = n ∧ w1.heap[w.heap.size]? = some (.cells C.toArray 5 (0, 0)) := by
    rcases hown.2 with ⟨h, _⟩ | ⟨g, cap, cur, hv, _, hg, _, _, hsz, _⟩
    · cases h
    · cases hv
      exact ⟨cur.toList, by simpa using hsz, by simpa using hg⟩
  clear hown hgrow
  have hbw : b < w.heap.size := H.out.lt
  have h01 : w1.cell? ⟨b, 0, none⟩ = some (.slice ao L cap) := (hB1.cell (p := ⟨b, 0, none⟩) hbw).trans h0
  have h11 : w1.cell? ⟨b, 1, none⟩ = some (.int .i64 at_) := (hB1.cell (p := ⟨b, 1, none⟩) hbw).trans h1
  obtain ⟨ao2, hcut, hcutS⟩ := cut_any ao L cap at_ hl hlc
  have HCS : Hid (∀ (w : World) (xs : List UInt8), xs.length = L → Sl w ao xs → Sl w ao2 (xs.drop at_)) := hcutS
  clear hcutS h0 h1 h2 f1
  go_wp2
  go_still_tail 10, Try.follows
  rw [World.drew_eq]
  have hlen : ((xs.drop at_).take n).length = n := by have := HL.out; simp; omega
  refine wpList_copy_splice rfl (.tmp 31) (.tmp 40) 32 32 rfl 5 Try.underlying32 Try.sizeByte (some ⟨w.heap.size, 0, none⟩) ao2 n n (L - at_) (cap - at_) rfl rfl w.heap.size 0 C 5 hrow (bys ((xs.drop at_).take n)) (by rw [bys_length, hlen]; simp only [Nat.min_def]; split <;> omega) ?k1 (by rw [bys_length, hlen]; omega) (bys_oneCell _) w.heap.size w hB1.drew (Nat.le_refl _) ?_
  case k1 =>
    intro hpos
    rw [bys_length, hlen] at hpos
    have hsl : Sl w1 ao2 (xs.drop at_) := HCS.out w1 xs HL.out (H.out.sl.kept (Kept.of_below hB1) (by simp))
    obtain ⟨g2, o2, e2, hb2, hc2⟩ := (hsl.take n).open (by rintro h; rw [h] at hlen; simp at hlen; omega)
    refine ⟨rfl, ⟨g2, o2, none⟩, e2, fun j u hu => ?_⟩
    obtain ⟨hj, rfl⟩ := bys_get hu
    rw [Addr.add_mid, World.cell?_drew]
    exact hc2 j hj
  intro w3 hR3 hB3
  have HR3 : Hid (w3.heap[w.heap.size]? = some (.cells (bys ((xs.drop at_).take n)).toArray 5 (0, 0))) := by
    have h1 := hR3.out
    obtain ⟨h2, h3⟩ := splice_drop C (bys ((xs.drop at_).take n)) 0 n (by rw [bys_length, hlen]; omega) (by omega)
    rw [List.drop_zero, List.drop_of_length_le (l := C) (by omega), List.append_nil] at h2
    rw [h2] at h1
    exact h1
  have h31 : w3.cell? ⟨b, 1, none⟩ = some (.int .i64 at_) := (hB3.cell (p := ⟨b, 1, none⟩) hbw).trans H.out.c1
  have f31 : w3.frozen? ⟨b, 1, none⟩ = false := ((Kept.of_below hB3).frozen (p := ⟨b, 1, none⟩) hbw (by simp)).trans H.out.f1
  have HK : Hid (Kept [] w w3) := Kept.of_below hB3
  clear hR3 hB3 hrow hB1 hcut h01 h11
  go_wp2
  go_ret
  have hrf := (H.out.kept HK.out (by simp) (by simp)).moved (at_ + n) (by rw [HL.out]; omega)
  have hkk : Kept [b] w3 (w3.setCell ⟨b, 1, none⟩ (.int .i64 ((at_ + n : Nat) : Int))) := (Kept.refl [b] w3).setCell (by simp) _
  have hrl := (Array.getElem?_eq_some_iff.1 HR3.out).1
  refine ⟨some ⟨w.heap.size, 0, none⟩, n, rfl, ⟨?_, by omega, by simp, fun a ha => by cases ha; exact ⟨Nat.le_refl _, Nat.lt_of_lt_of_le hrl (by simp [World.setCell]), rfl⟩⟩, ?_, ?_⟩
  · have h5 : Sl w3 (some ⟨w.heap.size, 0, none⟩) ((xs.drop at_).take n) := Sl.of fun i hi => by
      rw [cell_of_row w3 _ _ _ _ _ HR3.out, Nat.zero_add]
      simpa using bys_at hi
    have h6 := h5.kept hkk (fun _ a ha => by cases ha; simp; omega)
    simpa using h6
  · have h7 := (HK.out.mono (l2 := [b]) (by simp)).trans hkk (by simp)
    simpa using h7
  · simpa using hrf

end Go.Proofs.Ytjmameknbnflaab
