import Derived.Test.YtmklodligplbaabGreatL18fo
import Derived.OwnWalk
open Go.RowKit
set_option linter.unusedVariables false
set_option linter.unusedSimpArgs false
set_option maxRecDepth 100000
set_option maxHeartbeats 0
namespace Go.Proofs.YtmklodligplbaabGreat
section
theorem takefix_ok {w : World} {b : Nat} {ao : Option Addr} {cap : Nat} {xs : List UInt8} {at_ : Nat} {p : Int} (h : Rf w b ao cap xs at_ 0 p) (n : Nat) (hn0 : 1 <= n) (hn4 : n <= 4) (hn : n <= xs.length - at_) :
  Calls Tryz.prog 33 #[.pointer (some ⟨b, 0, none⟩), .int .i64 n] w fun e' w' => e' = .returned (.int .i64 (Pure.be ((xs.drop at_).take n))) ∧ Kept [b] w w' ∧ Rf w' b ao cap xs (at_ + n) 0 p := by
 have h0 := h.c0
 have h1 := h.c1
 have h2 := h.c2
 have f1 := h.f1
 have hs := h.small
 have hl := h.le
 have H := (show Hid (Rf w b ao cap xs at_ 0 p) from h)
 clear h
 obtain ⟨g, off, hao, hb, hc⟩ := H.out.sl.open (by rintro rfl; simp at hn; omega)
 rw [hao] at h0
 have HAO : Hid (ao = some ⟨g, off, none⟩) := hao
 obtain ⟨L, hL⟩ := nm (xs.length)
 rw [hL] at h0 hn hs hl
 have HL : Hid (xs.length = L) := hL
 clear hao hL
 obtain ⟨ys, hys⟩ := nm ((xs.drop at_).take n)
 have HY : Hid ((xs.drop at_).take n = ys) := hys
 have hlen : ys.length = n := by rw [<-hys]; have := HL.out; simp; omega
 have hcy : ∀ i, i < n -> w.cell? ⟨g, off + (at_ + i), none⟩ = some (.int .u8 (ys.getD i 0).toNat) := fun i hi => by
  rw [hc (at_ + i) (by have := HL.out; omega), <-hys]
  simp [List.getElem?_drop, List.getElem?_take, hi]
 have HYL : Hid (ys.length = n) := hlen
 clear hys hc hlen
 go_enter Tryz.func33, Tryz.ntmps33
 go_wp2
 go_quiet (fail)
 go_wp2
 go_loopw [5, 6] (fun v i wr => ∃ k j : Nat, k <= n ∧ i = .int .i64 k ∧ v = .int .i64 (Pure.be (ys.take k)) ∧ wr = w.drewN j) (fun v i wr => n - (intOf i).toNat)
 case atStart => exact ⟨0, nq, Nat.zero_le _, rfl, rfl, rfl⟩
 case round =>
  obtain ⟨k, j, hk, rfl, rfl, hwr⟩ := hrel
  subst hwr
  by_cases hlt : k < n
  ·have hcell := hcy k hlt
   have hcb : (ys.getD k 0).toNat < 256 := UInt8.toNat_lt _
   have hbe := Pure.be_lt (ys.take k)
   have hlk : (ys.take k).length <= 3 := by simp; omega
   have hbe3 : Pure.be (ys.take k) < 16777216 := Nat.lt_of_lt_of_le hbe (Nat.pow_le_pow_right (n := 256) (by omega) hlk)
   have HS : Hid (Pure.be (ys.take (k + 1)) = 256 * Pure.be (ys.take k) + (ys.getD k 0).toNat) := by
    show _ = _
    rw [Pure.take_snoc ys 0 k (by rw [HYL.out]; exact hlt), Pure.be_snoc]
   clear hbe hlk
   generalize Pure.be (ys.take k) = v at hbe3 HS ⊢
   generalize (ys.getD k 0).toNat = c at hcell hcb HS
   clear hcy
   go_wp2
   go_quiet (fail)
   go_wp2
   go_roundw
   case rel => exact ⟨k + 1, _, by omega, by go_num, by rw [HS.out]; go_num, rfl⟩
   case measure => simp [intOf]; omega
  ·have HT : Hid (ys.take k = ys) := List.take_of_length_le (by rw [HYL.out]; omega)
   clear hcy
   go_wp2
   go_ret
   refine ⟨ret_int (by rw [HY.out, HT.out]), ((Kept.refl [b] w).drewN j).setCell (by simp) _, ?_⟩
   have := (H.out.drewN j).moved (at_ + n) (by rw [HL.out]; omega)
   simpa using this
theorem takeraw_bad {w : World} {b : Nat} {ao : Option Addr} {cap : Nat} {xs : List UInt8} {at_ : Nat} {c p : Int} (h : Rf w b ao cap xs at_ c p) (he : c ≠ 0) (n : Int) :
  Calls Tryz.prog 37 #[.pointer (some ⟨b, 0, none⟩), .int .i64 n] w fun e' w' => e' = .returned (.slice none 0 0) ∧ w' = w := by
 have h2 := h.c2
 have hne : (c != 0) = true := by simpa using he
 clear h
 go_enter Tryz.func37, Tryz.ntmps37
 go_wp2
 go_ret
 exact ⟨rfl, rfl⟩
theorem takeraw_neg {w : World} {b : Nat} {ao : Option Addr} {cap : Nat} {xs : List UInt8} {at_ : Nat} {p : Int} (h : Rf w b ao cap xs at_ 0 p) (n : Int) (hn : n < 0) :
  Calls Tryz.prog 37 #[.pointer (some ⟨b, 0, none⟩), .int .i64 n] w fun e' w' => e' = .returned (.slice none 0 0) ∧ Kept [b] w w' ∧ Rf w' b ao cap xs at_ 1 at_ := by
 have h2 := h.c2
 have H := (show Hid (Rf w b ao cap xs at_ 0 p) from h)
 clear h
 go_enter Tryz.func37, Tryz.ntmps37
 go_wp2_with (go_at_call 77; refine (spoil_any H.out _).mono ?_; rintro e w1 ⟨rfl, hk1, hr1⟩)
 go_ret
 exact ⟨rfl, hk1, hr1⟩
theorem takeraw_short {w : World} {b : Nat} {ao : Option Addr} {cap : Nat} {xs : List UInt8} {at_ : Nat} {p : Int} (h : Rf w b ao cap xs at_ 0 p) (n : Int) (hn0 : 0 <= n) (hn : (xs.length - at_ : Nat) < n) :
  Calls Tryz.prog 37 #[.pointer (some ⟨b, 0, none⟩), .int .i64 n] w fun e' w' => e' = .returned (.slice none 0 0) ∧ Kept [b] w w' ∧ Rf w' b ao cap xs at_ 10 at_ := by
 have h0 := h.c0
 have h1 := h.c1
 have h2 := h.c2
 have hs := h.small
 have hl := h.le
 have H := (show Hid (Rf w b ao cap xs at_ 0 p) from h)
 clear h
 go_enter Tryz.func37, Tryz.ntmps37
 go_wp2
 go_quiet (fail)
 go_wp2_with (go_at_call 77; refine (spoil_any (H.out.drewN _) _).mono ?_; rintro e w1 ⟨rfl, hk1, hr1⟩)
 go_ret
 exact ⟨rfl, ((Kept.refl [b] w).drewN nq).tr hk1, hr1⟩
theorem cut_any (ao : Option Addr) (L cap m : Nat) (hm : m <= L) (hc : L <= cap) : ∃ ao' : Option Addr, (∀ W, (Instr.slice 27 (.slice ao L cap) (some (.int .i64 m)) none none).run Tryz.prog W = .ok (.slice ao' (L - m) (cap - m)) W) ∧ ∀ (w : World) (xs : List UInt8), xs.length = L -> Sl w ao xs -> Sl w ao' (xs.drop m) := by
 have hz : ∀ W, (sizeOf (Tryz.prog.elem 27)).run Tryz.prog W = .ok 1 W := fun W => by kernel_rfl
 have h := fun W => run_slice_l (P := Tryz.prog) W 27 ao L cap (by kernel_rfl) .i64 m (by omega) (by omega)
 cases ao with
 | none =>
  refine ⟨none, fun W => ?_, fun w xs hx hs => ?_⟩
  ·rw [h W, hz]
   simp [sliced]
  ·have : xs = [] := by
    by_cases h0 : xs = []
    ·exact h0
    ·obtain ⟨_, _, e, _⟩ := hs.open h0
     cases e
   subst this
   simpa using Sl.nil w none
 | some a =>
  refine ⟨if cap = m then some a else some (a.add m), fun W => ?_, fun w xs hx hs => ?_⟩
  ·rw [h W, hz]
   by_cases hcm : cap = m <;> simp [sliced, hcm]
  ·by_cases h0 : xs.drop m = []
   ·rw [h0]; exact Sl.nil _ _
   ·have hx0 : xs ≠ [] := by rintro rfl; simp at h0
    obtain ⟨g, off, e, _, _⟩ := hs.open hx0
    cases e
    have := hs.drop m cap (by omega) (by omega)
    rw [Addr.add_mid]
    exact this
theorem takeraw_ok {w : World} {b : Nat} {ao : Option Addr} {cap : Nat} {xs : List UInt8} {at_ : Nat} {p : Int} (h : Rf w b ao cap xs at_ 0 p) (n : Nat) (hn : n <= xs.length - at_) :
  Calls Tryz.prog 37 #[.pointer (some ⟨b, 0, none⟩), .int .i64 n] w fun e' w' => ∃ ao' cap', e' = .returned (.slice ao' n cap') ∧ Fresh w w' ao' cap' ((xs.drop at_).take n) ∧ Kept [b] w w' ∧ Rf w' b ao cap xs (at_ + n) 0 p := by
 have h0 := h.c0
 have h1 := h.c1
 have h2 := h.c2
 have f1 := h.f1
 have hs := h.small
 have hl := h.le
 have hlc := h.lc
 obtain ⟨i0, hi, hz0, hz1, hz2⟩ := info_parts Tryz.infoByte
 have H := (show Hid (Rf w b ao cap xs at_ 0 p) from h)
 clear h
 obtain ⟨L, hL⟩ := nm (xs.length)
 rw [hL] at h0 hn hs hl hlc
 have HL : Hid (xs.length = L) := hL
 clear hL
 go_enter Tryz.func37, Tryz.ntmps37
 go_wp2
 go_quiet (fail)
 go_wp2_with (at_make; refine wpList_make_full _ rfl _ _ 27 rfl w.heap.size 5 i0 (.int .u8 0) 1 Tryz.underlying27 hi hz0 hz1 .i64 .i64 n n n rfl rfl rfl rfl ?c1 ?c2 ?c3 ?_)
 case c1 => rw [hz2]; omega
 case c2 => unfold maxLen; omega
 case c3 => simp
 intro w1 hown hgrow
 have hB1 : Below w.heap.size w w1 := (Below.refl _ _).grown (w' := w1) (row := none) ⟨hgrow.os, hgrow.tape, hgrow.output, hgrow.size, hgrow.block⟩ (Nat.le_refl _) (by simp)
 obtain ⟨C, hClen, hrow⟩ : ∃ C : List Value, C.length = n ∧ w1.heap[w.heap.size]? = some (.cells C.toArray 5 (0, 0)) := by
  rcases hown.2 with ⟨h, _⟩ | ⟨g, cap, cur, hv, _, hg, _, _, hsz, _⟩
  ·cases h
  ·cases hv
   exact ⟨cur.toList, by simpa using hsz, by simpa using hg⟩
 clear hown hgrow
 have hbw : b < w.heap.size := H.out.lt
 have h01 : w1.cell? ⟨b, 0, none⟩ = some (.slice ao L cap) := (hB1.cell (p := ⟨b, 0, none⟩) hbw).trans h0
 have h11 : w1.cell? ⟨b, 1, none⟩ = some (.int .i64 at_) := (hB1.cell (p := ⟨b, 1, none⟩) hbw).trans h1
 obtain ⟨ao2, hcut, hcutS⟩ := cut_any ao L cap at_ hl hlc
 have HCS : Hid (∀ (w : World) (xs : List UInt8), xs.length = L -> Sl w ao xs -> Sl w ao2 (xs.drop at_)) := hcutS
 clear hcutS h0 h1 h2 f1
 go_wp2
 go_still_tail 10, Tryz.follows
 rw [World.drew_eq]
 have hlen : ((xs.drop at_).take n).length = n := by have := HL.out; simp; omega
 refine wpList_copy_splice rfl (.tmp 31) (.tmp 40) 27 27 rfl 5 Tryz.underlying27 Tryz.sizeByte (some ⟨w.heap.size, 0, none⟩) ao2 n n (L - at_) (cap - at_) rfl rfl w.heap.size 0 C 5 hrow (bys ((xs.drop at_).take n)) (by rw [bys_length, hlen]; simp only [Nat.min_def]; split <;> omega) ?k1 (by rw [bys_length, hlen]; omega) (bys_oneCell _) w.heap.size w hB1.drew (Nat.le_refl _) ?_
 case k1 =>
  intro hpos
  rw [bys_length, hlen] at hpos
  have hsl : Sl w1 ao2 (xs.drop at_) := HCS.out w1 xs HL.out (H.out.sl.kept (Kept.of_below hB1) (by simp))
  obtain ⟨g2, o2, e2, hb2, hc2⟩ := (hsl.take n).open (by rintro h; rw [h] at hlen; simp at hlen; omega)
  refine ⟨rfl, ⟨g2, o2, none⟩, e2, fun j u hu => ?_⟩
  obtain ⟨hj, rfl⟩ := bys_get hu
  rw [Addr.add_mid, World.cell?_drew]
  exact hc2 j hj
 intro w3 hR3 hB3
 have HR3 : Hid (w3.heap[w.heap.size]? = some (.cells (bys ((xs.drop at_).take n)).toArray 5 (0, 0))) := by
  have h1 := hR3.out
  obtain ⟨h2, h3⟩ := splice_drop C (bys ((xs.drop at_).take n)) 0 n (by rw [bys_length, hlen]; omega) (by omega)
  rw [List.drop_zero, List.drop_of_length_le (l := C) (by omega), List.append_nil] at h2
  rw [h2] at h1
  exact h1
 have h31 : w3.cell? ⟨b, 1, none⟩ = some (.int .i64 at_) := (hB3.cell (p := ⟨b, 1, none⟩) hbw).trans H.out.c1
 have f31 : w3.frozen? ⟨b, 1, none⟩ = false := ((Kept.of_below hB3).frozen (p := ⟨b, 1, none⟩) hbw (by simp)).trans H.out.f1
 have HK : Hid (Kept [] w w3) := Kept.of_below hB3
 clear hR3 hB3 hrow hB1 hcut h01 h11
 go_wp2
 go_ret
 have hrf := (H.out.kept HK.out (by simp) (by simp)).moved (at_ + n) (by rw [HL.out]; omega)
 have hkk : Kept [b] w3 (w3.setCell ⟨b, 1, none⟩ (.int .i64 ((at_ + n : Nat) : Int))) := (Kept.refl [b] w3).setCell (by simp) _
 have hrl := (gs HR3.out).1
 refine ⟨some ⟨w.heap.size, 0, none⟩, n, rfl, ⟨?_, by omega, by simp, fun a ha => by cases ha; exact ⟨Nat.le_refl _, Nat.lt_of_lt_of_le hrl (by simp [World.setCell]), rfl⟩⟩, ?_, ?_⟩
 ·have h5 : Sl w3 (some ⟨w.heap.size, 0, none⟩) ((xs.drop at_).take n) := Sl.of fun i hi => by
   rw [cell_of_row w3 _ _ _ _ _ HR3.out, Nat.zero_add]
   simpa using bys_at hi
  have h6 := h5.kept hkk (fun _ a ha => by cases ha; simp; omega)
  simpa using h6
 ·have h7 := (HK.out.mono (l2 := [b]) (by simp)).tr hkk
  simpa using h7
 ·simpa using hrf
end

section
theorem taketext_bad {w : World} {b : Nat} {ao : Option Addr} {cap : Nat} {xs : List UInt8} {at_ : Nat} {c p : Int} (h : Rf w b ao cap xs at_ c p) (he : c ≠ 0) (n : Int) :
  Calls Tryz.prog 79 #[.pointer (some ⟨b, 0, none⟩), .int .i64 n] w fun e' w' => e' = .returned (.slice none 0 0) ∧ w' = w := by
 have h2 := h.c2
 have hne : (c != 0) = true := by simpa using he
 clear h
 go_enter Tryz.func79, Tryz.ntmps79
 go_wp2
 go_ret
 exact ⟨rfl, rfl⟩
theorem taketext_neg {w : World} {b : Nat} {ao : Option Addr} {cap : Nat} {xs : List UInt8} {at_ : Nat} {p : Int} (h : Rf w b ao cap xs at_ 0 p) (n : Int) (hn : n < 0) :
  Calls Tryz.prog 79 #[.pointer (some ⟨b, 0, none⟩), .int .i64 n] w fun e' w' => e' = .returned (.slice none 0 0) ∧ Kept [b] w w' ∧ Rf w' b ao cap xs at_ 1 at_ := by
 have h2 := h.c2
 have H := (show Hid (Rf w b ao cap xs at_ 0 p) from h)
 clear h
 go_enter Tryz.func79, Tryz.ntmps79
 go_wp2_with (go_at_call 77; refine (spoil_any H.out _).mono ?_; rintro e w1 ⟨rfl, hk1, hr1⟩)
 go_ret
 exact ⟨rfl, hk1, hr1⟩
theorem taketext_form {w : World} {b : Nat} {ao : Option Addr} {cap : Nat} {xs : List UInt8} {at_ : Nat} {p : Int} (h : Rf w b ao cap xs at_ 0 p) (most : Int) (hn : 0 <= most) {v k c : Nat} (hr : Pure.num (xs.drop at_) = (v, k, c)) (hc : c ≠ 0) :
  Calls Tryz.prog 79 #[.pointer (some ⟨b, 0, none⟩), .int .i64 most] w fun e' w' => e' = .returned (.slice none 0 0) ∧ Kept [b] w w' ∧ Rf w' b ao cap xs at_ c at_ := by
 have HR : Hid (Pure.num (xs.drop at_) = (v, k, c)) := hr
 have hne : ((c : Int) != 0) = true := by simp [hc]
 have h0 := h.c0
 have h1 := h.c1
 have h2 := h.c2
 have hs := h.small
 have hl := h.le
 have H := (show Hid (Rf w b ao cap xs at_ 0 p) from h)
 clear h hr hc
 go_enter Tryz.func79, Tryz.ntmps79
 go_wp2
 go_quiet ((go_at_call 78; exact Calls.quiet_of_same (refnum_any ao xs.length cap at_ xs _ rfl hl hs (H.out.sl.drewN _) HR.out)))
 go_wp2_with (go_at_call 77; refine (spoil_any (H.out.drewN _) _).mono ?_; rintro e w1 ⟨rfl, hk1, hr1⟩)
 go_ret
 exact ⟨rfl, ((Kept.refl [b] w).drewN nq).tr hk1, hr1⟩
theorem taketext_long {w : World} {b : Nat} {ao : Option Addr} {cap : Nat} {xs : List UInt8} {at_ : Nat} {p : Int} (h : Rf w b ao cap xs at_ 0 p) (most : Int) (hn : 0 <= most) {v k : Nat} (hr : Pure.num (xs.drop at_) = (v, k, 0)) (hv : most < v) :
  Calls Tryz.prog 79 #[.pointer (some ⟨b, 0, none⟩), .int .i64 most] w fun e' w' => e' = .returned (.slice none 0 0) ∧ Kept [b] w w' ∧ Rf w' b ao cap xs at_ 2 at_ := by
 have HR : Hid (Pure.num (xs.drop at_) = (v, k, 0)) := hr
 have h0 := h.c0
 have h1 := h.c1
 have h2 := h.c2
 have hs := h.small
 have hl := h.le
 have H := (show Hid (Rf w b ao cap xs at_ 0 p) from h)
 clear h hr
 go_enter Tryz.func79, Tryz.ntmps79
 go_wp2
 go_quiet ((go_at_call 78; exact Calls.quiet_of_same (refnum_any ao xs.length cap at_ xs _ rfl hl hs (H.out.sl.drewN _) HR.out)))
 go_wp2_with (go_at_call 77; refine (spoil_any (H.out.drewN _) _).mono ?_; rintro e w1 ⟨rfl, hk1, hr1⟩)
 go_ret
 exact ⟨rfl, ((Kept.refl [b] w).drewN nq).tr hk1, hr1⟩
theorem taketext_short {w : World} {b : Nat} {ao : Option Addr} {cap : Nat} {xs : List UInt8} {at_ : Nat} {p : Int} (h : Rf w b ao cap xs at_ 0 p) (most : Int) (hn : 0 <= most) {v k : Nat} (hr : Pure.num (xs.drop at_) = (v, k, 0)) (hv : v <= most) (hsh : xs.length - (at_ + k) < v) :
  Calls Tryz.prog 79 #[.pointer (some ⟨b, 0, none⟩), .int .i64 most] w fun e' w' => e' = .returned (.slice none 0 0) ∧ Kept [b] w w' ∧ Rf w' b ao cap xs at_ 10 at_ := by
 have hf := Pure.num_facts (xs.drop at_)
 rw [hr] at hf
 simp only [List.length_drop] at hf
 have hk : k <= 5 ∧ at_ + k <= xs.length := by have := h.le; omega
 obtain ⟨hk5, hkn⟩ := hk
 have HR : Hid (Pure.num (xs.drop at_) = (v, k, 0)) := hr
 have h0 := h.c0
 have h1 := h.c1
 have h2 := h.c2
 have hs := h.small
 have hl := h.le
 have H := (show Hid (Rf w b ao cap xs at_ 0 p) from h)
 clear h hr hf
 go_enter Tryz.func79, Tryz.ntmps79
 go_wp2
 go_quiet ((go_at_call 78; exact Calls.quiet_of_same (refnum_any ao xs.length cap at_ xs _ rfl hl hs (H.out.sl.drewN _) HR.out)))
 obtain ⟨m, hm⟩ : ∃ m, m = nq := ⟨_, rfl⟩
 rw [<-hm]
 clear hm nq
 go_wp2
 go_quiet (fail)
 go_wp2_with (go_at_call 77; refine (spoil_any (H.out.drewN _) _).mono ?_; rintro e w1 ⟨rfl, hk1, hr1⟩)
 go_ret
 exact ⟨rfl, ((Kept.refl [b] w).drewN _).tr hk1, hr1⟩
theorem taketext_ok {w : World} {b : Nat} {ao : Option Addr} {cap : Nat} {xs : List UInt8} {at_ : Nat} {p : Int} (h : Rf w b ao cap xs at_ 0 p) (most : Int) (hmo : 0 <= most) {n k : Nat} (hr : Pure.num (xs.drop at_) = (n, k, 0)) (hv : n <= most) (hn : n <= xs.length - (at_ + k)) :
  Calls Tryz.prog 79 #[.pointer (some ⟨b, 0, none⟩), .int .i64 most] w fun e' w' => ∃ ao' cap', e' = .returned (.slice ao' n cap') ∧ Fresh w w' ao' cap' ((xs.drop (at_ + k)).take n) ∧ Kept [b] w w' ∧ Rf w' b ao cap xs (at_ + k + n) 0 p := by
 have hf := Pure.num_facts (xs.drop at_)
 rw [hr] at hf
 simp only [List.length_drop] at hf
 have hk : k <= 5 ∧ at_ + k <= xs.length ∧ n <= 2147483647 := by have := h.le; omega
 obtain ⟨hk5, hkn, hn31⟩ := hk
 have HR : Hid (Pure.num (xs.drop at_) = (n, k, 0)) := hr
 have h0 := h.c0
 have h1 := h.c1
 have h2 := h.c2
 have f1 := h.f1
 have hs := h.small
 have hl := h.le
 have hlc := h.lc
 obtain ⟨i0, hi, hz0, hz1, hz2⟩ := info_parts Tryz.infoByte
 have H := (show Hid (Rf w b ao cap xs at_ 0 p) from h)
 clear h hr hf
 obtain ⟨L, hL⟩ := nm (xs.length)
 rw [hL] at h0 hn hs hl hlc hkn
 have HL : Hid (xs.length = L) := hL
 clear hL
 go_enter Tryz.func79, Tryz.ntmps79
 go_wp2
 go_quiet ((go_at_call 78; exact Calls.quiet_of_same (refnum_any ao L cap at_ xs _ HL.out hl hs (H.out.sl.drewN _) HR.out)))
 obtain ⟨m0, hm0⟩ : ∃ m0, m0 = nq := ⟨_, rfl⟩
 rw [<-hm0]
 clear hm0 nq
 go_wp2
 go_quiet (fail)
 go_wp2_with (at_make; refine wpList_make_full _ rfl _ _ 27 rfl w.heap.size 5 i0 (.int .u8 0) 1 Tryz.underlying27 hi hz0 hz1 .i64 .i64 n n n rfl rfl rfl rfl ?c1 ?c2 ?c3 ?_)
 case c1 => rw [hz2]; omega
 case c2 => unfold maxLen; omega
 case c3 => simp
 intro w1 hown hgrow
 have hB1 : Below w.heap.size w w1 := (Below.refl _ _).grown (w' := w1) (row := none) ⟨hgrow.os, hgrow.tape, hgrow.output, hgrow.size, hgrow.block⟩ (Nat.le_refl _) (by simp)
 obtain ⟨C, hClen, hrow⟩ : ∃ C : List Value, C.length = n ∧ w1.heap[w.heap.size]? = some (.cells C.toArray 5 (0, 0)) := by
  rcases hown.2 with ⟨h, _⟩ | ⟨g, cap, cur, hv, _, hg, _, _, hsz, _⟩
  ·cases h
  ·cases hv
   exact ⟨cur.toList, by simpa using hsz, by simpa using hg⟩
 clear hown hgrow
 have hbw : b < w.heap.size := H.out.lt
 have h01 : w1.cell? ⟨b, 0, none⟩ = some (.slice ao L cap) := (hB1.cell (p := ⟨b, 0, none⟩) hbw).trans h0
 have h11 : w1.cell? ⟨b, 1, none⟩ = some (.int .i64 at_) := (hB1.cell (p := ⟨b, 1, none⟩) hbw).trans h1
 obtain ⟨ao2, hcut, hcutS⟩ := cut_any ao L cap (at_ + k) hkn hlc
 have HCS : Hid (∀ (w : World) (xs : List UInt8), xs.length = L -> Sl w ao xs -> Sl w ao2 (xs.drop (at_ + k))) := hcutS
 clear hcutS h0 h1 h2 f1
 have hcut2 : ∀ W, (Instr.slice 27 (.slice ao L cap) (some (.int .i64 ((at_ : Int) + (k : Int)))) none none).run Tryz.prog W = .ok (.slice ao2 (L - (at_ + k)) (cap - (at_ + k))) W := fun W => by
  have := hcut W
  rwa [Int.natCast_add] at this
 clear hcut
 have hq : ∃ q : Nat, at_ + k = q := ⟨_, rfl⟩
 obtain ⟨q, hq⟩ := hq
 have hwr : IntKind.i64.wrap ((at_ : Int) + (k : Int)) = (q : Int) := by simp [IntKind.wrap, IntKind.bits, IntKind.signed]; split <;> omega
 have hcut3 : ∀ W, (Instr.slice 27 (.slice ao L cap) (some (.int .i64 (q : Int))) none none).run Tryz.prog W = .ok (.slice ao2 (L - (at_ + k)) (cap - (at_ + k))) W := fun W => by
  have := hcut2 W
  rwa [show ((at_ : Int) + (k : Int)) = (q : Int) by omega] at this
 clear hcut2 hq
 go_wp2
 go_still_tail 12, Tryz.follows
 rw [World.drew_eq]
 have hlen : ((xs.drop (at_ + k)).take n).length = n := by have := HL.out; simp; omega
 refine wpList_copy_splice rfl (.tmp 59) (.tmp 70) 27 27 rfl 5 Tryz.underlying27 Tryz.sizeByte (some ⟨w.heap.size, 0, none⟩) ao2 n n (L - (at_ + k)) (cap - (at_ + k)) rfl rfl w.heap.size 0 C 5 hrow (bys ((xs.drop (at_ + k)).take n)) (by rw [bys_length, hlen]; simp only [Nat.min_def]; split <;> omega) ?k1 (by rw [bys_length, hlen]; omega) (bys_oneCell _) w.heap.size w hB1.drew (Nat.le_refl _) ?_
 case k1 =>
  intro hpos
  rw [bys_length, hlen] at hpos
  have hsl : Sl w1 ao2 (xs.drop (at_ + k)) := HCS.out w1 xs HL.out (H.out.sl.kept (Kept.of_below hB1) (by simp))
  obtain ⟨g2, o2, e2, hb2, hc2⟩ := (hsl.take n).open (by rintro h; rw [h] at hlen; simp at hlen; omega)
  refine ⟨rfl, ⟨g2, o2, none⟩, e2, fun j u hu => ?_⟩
  obtain ⟨hj, rfl⟩ := bys_get hu
  rw [Addr.add_mid, World.cell?_drew]
  exact hc2 j hj
 intro w3 hR3 hB3
 have HR3 : Hid (w3.heap[w.heap.size]? = some (.cells (bys ((xs.drop (at_ + k)).take n)).toArray 5 (0, 0))) := by
  have h1 := hR3.out
  obtain ⟨h2, h3⟩ := splice_drop C (bys ((xs.drop (at_ + k)).take n)) 0 n (by rw [bys_length, hlen]; omega) (by omega)
  rw [List.drop_zero, List.drop_of_length_le (l := C) (by omega), List.append_nil] at h2
  rw [h2] at h1
  exact h1
 have h31 : w3.cell? ⟨b, 1, none⟩ = some (.int .i64 at_) := (hB3.cell (p := ⟨b, 1, none⟩) hbw).trans H.out.c1
 have f31 : w3.frozen? ⟨b, 1, none⟩ = false := ((Kept.of_below hB3).frozen (p := ⟨b, 1, none⟩) hbw (by simp)).trans H.out.f1
 have HK : Hid (Kept [] w w3) := Kept.of_below hB3
 clear hR3 hB3 hrow hB1 hcut3 h01 h11 hwr
 go_wp2
 go_ret
 have hrf := (H.out.kept HK.out (by simp) (by simp)).moved (at_ + k + n) (by rw [HL.out]; omega)
 have hkk : Kept [b] w3 (w3.setCell ⟨b, 1, none⟩ (.int .i64 ((at_ + k + n : Nat) : Int))) := (Kept.refl [b] w3).setCell (by simp) _
 have hrl := (gs HR3.out).1
 refine ⟨some ⟨w.heap.size, 0, none⟩, n, rfl, ⟨?_, by omega, by simp, fun a ha => by cases ha; exact ⟨Nat.le_refl _, Nat.lt_of_lt_of_le hrl (by simp [World.setCell]), rfl⟩⟩, ?_, ?_⟩
 ·have h5 : Sl w3 (some ⟨w.heap.size, 0, none⟩) ((xs.drop (at_ + k)).take n) := Sl.of fun i hi => by
   rw [cell_of_row w3 _ _ _ _ _ HR3.out, Nat.zero_add]
   simpa using bys_at hi
  have h6 := h5.kept hkk (fun _ a ha => by cases ha; simp; omega)
  simpa using h6
 ·have h7 := (HK.out.mono (l2 := [b]) (by simp)).tr hkk
  simpa using h7
 ·simpa using hrf
end

section
def RfS (w : World) (b : Nat) (ao : Option Addr) (cap : Nat) (xs : List UInt8) (s : Rs) : Prop := Rf w b ao cap xs s.at_ s.e s.p
theorem RfS.kept {l : List Nat} {w w' : World} {b : Nat} {ao : Option Addr} {cap : Nat} {xs : List UInt8} {s : Rs} (h : RfS w b ao cap xs s) (hk : Kept l w w') (hn : b ∉ l) (hs : xs ≠ [] -> ∀ a, ao = some a -> a.block ∉ l) : RfS w' b ao cap xs s := Rf.kept h hk hn hs
theorem RfS.lt {w : World} {b : Nat} {ao : Option Addr} {cap : Nat} {xs : List UInt8} {s : Rs} (h : RfS w b ao cap xs s) : b < w.heap.size := Rf.lt h
theorem RfS.drewN {w : World} {b : Nat} {ao : Option Addr} {cap : Nat} {xs : List UInt8} {s : Rs} (h : RfS w b ao cap xs s) (n : Nat) : RfS (w.drewN n) b ao cap xs s := Rf.drewN h n
theorem takenum_st {w : World} {b : Nat} {ao : Option Addr} {cap : Nat} {xs : List UInt8} {s : Rs} (h : RfS w b ao cap xs s) :
  Calls Tryz.prog 34 #[.pointer (some ⟨b, 0, none⟩)] w fun e' w' => e' = .returned (.int .i64 (stNumber xs s).1) ∧ Kept [b] w w' ∧ RfS w' b ao cap xs (stNumber xs s).2 := by
 obtain ⟨a, e, p⟩ := s
 have hr : Rf w b ao cap xs a e p := h
 unfold stNumber
 by_cases he : e = 0
 ·subst he
  rw [if_pos rfl]
  rcases hn : Pure.num (xs.drop a) with ⟨v, k, c⟩
  simp only [hn]
  by_cases hc : c = 0
  ·subst hc
   rw [if_pos rfl]
   exact (takenum_as hr hn).mono fun e w' ⟨h1, h2, h3⟩ => ⟨h1, h2, h3⟩
  ·rw [if_neg hc]
   exact (takenum_no hr hn hc).mono fun e w' ⟨h1, h2, h3⟩ => ⟨h1, h2, h3⟩
 ·rw [if_neg he]
  exact (takenum_bad hr he).mono fun e w' ⟨h1, h2⟩ => by
   subst h2
   exact ⟨h1, Kept.refl _ _, hr⟩
theorem takefix_st {w : World} {b : Nat} {ao : Option Addr} {cap : Nat} {xs : List UInt8} {s : Rs} (h : RfS w b ao cap xs s) (n : Int) :
  Calls Tryz.prog 33 #[.pointer (some ⟨b, 0, none⟩), .int .i64 n] w fun e' w' => e' = .returned (.int .i64 (stFixed xs s n).1) ∧ Kept [b] w w' ∧ RfS w' b ao cap xs (stFixed xs s n).2 := by
 obtain ⟨a, e, p⟩ := s
 have hr : Rf w b ao cap xs a e p := h
 unfold stFixed
 by_cases he : e = 0
 ·subst he
  rw [if_pos rfl]
  by_cases h1 : n < 1 ∨ 4 < n
  ·rw [if_pos h1]
   exact (takefix_arg hr n h1).mono fun e w' ⟨h1, h2, h3⟩ => ⟨h1, h2, h3⟩
  ·rw [if_neg h1]
   by_cases h2 : ((xs.length - a : Nat) : Int) < n
   ·rw [if_pos h2]
    exact (takefix_short hr n (by omega) (by omega) h2).mono fun e w' ⟨h1, h2, h3⟩ => ⟨h1, h2, h3⟩
   ·rw [if_neg h2]
    obtain ⟨m, rfl⟩ := Int.eq_ofNat_of_zero_le (show 0 <= n by omega)
    rw [Int.toNat_natCast]
    exact (takefix_ok hr m (by omega) (by omega) (by omega)).mono fun e w' ⟨h1, h2, h3⟩ => ⟨h1, h2, h3⟩
 ·rw [if_neg he]
  exact (takefix_bad hr he n).mono fun e w' ⟨h1, h2⟩ => by
   subst h2
   exact ⟨h1, Kept.refl _ _, hr⟩
theorem takeraw_st {w : World} {b : Nat} {ao : Option Addr} {cap : Nat} {xs : List UInt8} {s : Rs} (h : RfS w b ao cap xs s) (n : Int) :
  Calls Tryz.prog 37 #[.pointer (some ⟨b, 0, none⟩), .int .i64 n] w fun e' w' => RowEnd w w' e' (stRaw xs s n).1 ∧ Kept [b] w w' ∧ RfS w' b ao cap xs (stRaw xs s n).2 := by
 obtain ⟨a, e, p⟩ := s
 have hr : Rf w b ao cap xs a e p := h
 unfold stRaw
 by_cases he : e = 0
 ·subst he
  rw [if_pos rfl]
  by_cases h1 : n < 0
  ·rw [if_pos h1]
   exact (takeraw_neg hr n h1).mono fun e w' ⟨h1, h2, h3⟩ => ⟨h1 ▸ RowEnd.nil _ _, h2, h3⟩
  ·rw [if_neg h1]
   by_cases h2 : ((xs.length - a : Nat) : Int) < n
   ·rw [if_pos h2]
    exact (takeraw_short hr n (by omega) h2).mono fun e w' ⟨h1, h2, h3⟩ => ⟨h1 ▸ RowEnd.nil _ _, h2, h3⟩
   ·rw [if_neg h2]
    obtain ⟨m, rfl⟩ := Int.eq_ofNat_of_zero_le (show 0 <= n by omega)
    rw [Int.toNat_natCast]
    exact (takeraw_ok hr m (by omega)).mono fun e w' ⟨ao', cap', h1, h2, h3, h4⟩ => ⟨⟨ao', cap', by rw [h1]; exact ret_slice (take_len (a := a) (by omega)).symm, h2⟩, h3, h4⟩
 ·rw [if_neg he]
  exact (takeraw_bad hr he n).mono fun e w' ⟨h1, h2⟩ => by
   subst h2
   exact ⟨h1 ▸ RowEnd.nil _ _, Kept.refl _ _, hr⟩
theorem taketext_st {w : World} {b : Nat} {ao : Option Addr} {cap : Nat} {xs : List UInt8} {s : Rs} (h : RfS w b ao cap xs s) (n : Int) :
  Calls Tryz.prog 79 #[.pointer (some ⟨b, 0, none⟩), .int .i64 n] w fun e' w' => RowEnd w w' e' (stText xs s n).1 ∧ Kept [b] w w' ∧ RfS w' b ao cap xs (stText xs s n).2 := by
 obtain ⟨a, e, p⟩ := s
 have hr : Rf w b ao cap xs a e p := h
 unfold stText
 by_cases he : e = 0
 ·subst he
  rw [if_pos rfl]
  by_cases h1 : n < 0
  ·rw [if_pos h1]
   exact (taketext_neg hr n h1).mono fun e w' ⟨h1, h2, h3⟩ => ⟨h1 ▸ RowEnd.nil _ _, h2, h3⟩
  ·rw [if_neg h1]
   rcases hn : Pure.num (xs.drop a) with ⟨v, k, c⟩
   simp only [hn]
   by_cases hc : c = 0
   ·subst hc
    rw [if_pos rfl]
    by_cases h2 : n < (v : Int)
    ·rw [if_pos h2]
     exact (taketext_long hr n (by omega) hn h2).mono fun e w' ⟨h1, h2, h3⟩ => ⟨h1 ▸ RowEnd.nil _ _, h2, h3⟩
    ·rw [if_neg h2]
     by_cases h3 : xs.length - (a + k) < v
     ·rw [if_pos h3]
      exact (taketext_short hr n (by omega) hn (by omega) h3).mono fun e w' ⟨h1, h2, h3⟩ => ⟨h1 ▸ RowEnd.nil _ _, h2, h3⟩
     ·rw [if_neg h3]
      exact (taketext_ok hr n (by omega) hn (by omega) (by omega)).mono fun e w' ⟨ao', cap', h1, h2, h3, h4⟩ => ⟨⟨ao', cap', by rw [h1, take_len (by omega)], h2⟩, h3, h4⟩
   ·rw [if_neg hc]
    exact (taketext_form hr n (by omega) hn hc).mono fun e w' ⟨h1, h2, h3⟩ => ⟨h1 ▸ RowEnd.nil _ _, h2, h3⟩
 ·rw [if_neg he]
  exact (taketext_bad hr he n).mono fun e w' ⟨h1, h2⟩ => by
   subst h2
   exact ⟨h1 ▸ RowEnd.nil _ _, Kept.refl _ _, hr⟩
theorem refleft_st {w : World} {b : Nat} {ao : Option Addr} {cap : Nat} {xs : List UInt8} {s : Rs} (h : RfS w b ao cap xs s) :
  Calls Tryz.prog 39 #[.pointer (some ⟨b, 0, none⟩)] w fun e' w' => e' = .returned (.int .i64 (stLeft xs s)) ∧ ∃ n, w' = w.drewN n := by
 obtain ⟨a, e, p⟩ := s
 have hr : Rf w b ao cap xs a e p := h
 unfold stLeft
 by_cases he : e = 0
 ·subst he
  rw [if_pos rfl]
  exact refleft_ok hr
 ·rw [if_neg he]
  exact refleft_bad hr he
end

section
def pw (bs : List UInt8) (t : Nat) : Nat -> Nat
 | 0 => 0
 | i + 1 => pw bs t i * 256 + (bs.getD (4 * t + i) 0).toNat
theorem pw_four (bs : List UInt8) (t : Nat) : pw bs t 4 = Sha.wordAt bs t := by
 simp only [pw, Sha.wordAt, Sha.word, Nat.add_zero]; omega
theorem pw_lt (bs : List UInt8) (t i : Nat) : pw bs t i < 256 ^ i := by
 induction i with
 | zero => simp [pw]
 | succ i ih =>
  have := (bs.getD (4 * t + i) 0).toNat_lt
  simp only [pw, Nat.pow_succ]; omega
theorem lay_zero (bs : List UInt8) : ∀ (t i : Nat), t <= i -> (Sha.lay bs t).getD i 0 = 0
 | 0, i, _ => by
  simp only [Sha.lay, List.getD_eq_getElem?_getD, List.getElem?_replicate]
  split <;> rfl
 | t + 1, i, h => by
  have ih := lay_zero bs t i (by omega)
  simp only [Sha.lay, List.getD_eq_getElem?_getD, List.getElem?_set, if_neg (show t ≠ i by omega)] at ih ⊢
  exact ih
theorem lay_set_zero (bs : List UInt8) (t : Nat) (h : t < 64) : (Sha.lay bs t).set t (pw bs t 0) = Sha.lay bs t := by
 apply List.ext_getElem
 ·simp
 ·intro i h1 h2
  rw [List.getElem_set]
  split
  ·rename_i e
   subst e
   have := lay_zero bs t t (Nat.le_refl _)
   simp only [List.getD_eq_getElem?_getD, List.getElem?_eq_getElem h2, Option.getD_some] at this
   rw [this]; rfl
  ·rfl
theorem lay_set_four (bs : List UInt8) (t : Nat) : (Sha.lay bs t).set t (pw bs t 4) = Sha.lay bs (t + 1) := by rw [pw_four]; rfl
theorem set_get (l : List Nat) (t v : Nat) (h : t < l.length) : (l.set t v).getD t 0 = v := by simp [h]
structure RT (w wr : World) (r S K V : Nat) (L A : List Nat) : Prop where
 res : wr.heap[r]? = some (.cells zero8 137 (0, 0))
 sta : wr.heap[S]? = some (.cells (wds L).toArray 137 (0, 0))
 tab : wr.heap[K]? = some (.cells (wds Sha.table).toArray 139 (0, 0))
 arr : wr.heap[V]? = some (.cells (wds A).toArray 139 (0, 0))
 llen : L.length = 8
 len : A.length = 64
 wds : Sha.Words A
 lwds : Sha.Words L
 below : Below w.heap.size w wr
 ps : w.heap.size <= S ∧ S < K ∧ K < r ∧ r < V
theorem RT.cellS {w wr : World} {r S K V : Nat} {L A : List Nat} (h : RT w wr r S K V L A) (i : Nat) (hi : i < 8) : wr.cell? ⟨S, i, none⟩ = some (.int .u32 (L.getD i 0 : Nat)) := by
 rw [cell_of_row _ _ _ _ _ _ h.sta, List.getElem?_toArray, wds_at (by rw [h.llen]; exact hi)]
theorem RT.cellV {w wr : World} {r S K V : Nat} {L A : List Nat} (h : RT w wr r S K V L A) (i : Nat) (hi : i < 64) : wr.cell? ⟨V, i, none⟩ = some (.int .u32 (A.getD i 0 : Nat)) := by
 rw [cell_of_row _ _ _ _ _ _ h.arr, List.getElem?_toArray, wds_at (by rw [h.len]; exact hi)]
theorem RT.cellK {w wr : World} {r S K V : Nat} {L A : List Nat} (h : RT w wr r S K V L A) (i : Nat) (hi : i < 64) : wr.cell? ⟨K, i, none⟩ = some (.int .u32 (Sha.tb i : Nat)) := by
 rw [cell_of_row _ _ _ _ _ _ h.tab, List.getElem?_toArray, wds_at (by exact hi)]; rfl
theorem RT.frozenV {w wr : World} {r S K V : Nat} {L A : List Nat} (h : RT w wr r S K V L A) (i : Nat) : wr.frozen? ⟨V, i, none⟩ = false := frozen_of_row _ _ _ _ _ h.arr
theorem RT.frozenS {w wr : World} {r S K V : Nat} {L A : List Nat} (h : RT w wr r S K V L A) (i : Nat) : wr.frozen? ⟨S, i, none⟩ = false := frozen_of_row _ _ _ _ _ h.sta
theorem RT.drewN {w wr : World} {r S K V : Nat} {L A : List Nat} (h : RT w wr r S K V L A) (n : Nat) : RT w (wr.drewN n) r S K V L A :=
 ⟨h.res, h.sta, h.tab, h.arr, h.llen, h.len, h.wds, h.lwds, ⟨h.below.os, h.below.tape, h.below.output, h.below.size, h.below.block⟩, h.ps⟩
theorem RT.drew {w wr : World} {r S K V : Nat} {L A : List Nat} (h : RT w wr r S K V L A) : RT w wr.drew r S K V L A := h.drewN 1
theorem RT.setV {w wr : World} {r S K V : Nat} {L A : List Nat} (h : RT w wr r S K V L A) (i v : Nat) (hv : v < 4294967296) : RT w (wr.setCell ⟨V, i, none⟩ (.int .u32 v)) r S K V L (A.set i v) := by
 have := h.ps
 refine ⟨by rw [heap_setCell_other _ _ _ _ (by show r ≠ V; omega)]; exact h.res, by rw [heap_setCell_other _ _ _ _ (by show S ≠ V; omega)]; exact h.sta, by rw [heap_setCell_other _ _ _ _ (by show K ≠ V; omega)]; exact h.tab, ?_, h.llen, by simp [h.len], h.wds.set i hv, h.lwds, ?_, h.ps⟩
 ·rw [heap_setCell_same _ _ _ _ _ _ h.arr, List.setIfInBounds_toArray, wds_set]
 ·exact ⟨h.below.os, h.below.tape, h.below.output, by rw [World.size_setCell]; exact h.below.size, fun k hk => (heap_setCell_other _ _ _ _ (by show k ≠ V; omega)).trans (h.below.block k hk)⟩
theorem RT.setS {w wr : World} {r S K V : Nat} {L A : List Nat} (h : RT w wr r S K V L A) (i v : Nat) (hv : v < 4294967296) : RT w (wr.setCell ⟨S, i, none⟩ (.int .u32 v)) r S K V (L.set i v) A := by
 have := h.ps
 refine ⟨by rw [heap_setCell_other _ _ _ _ (by show r ≠ S; omega)]; exact h.res, ?_, by rw [heap_setCell_other _ _ _ _ (by show K ≠ S; omega)]; exact h.tab, by rw [heap_setCell_other _ _ _ _ (by show V ≠ S; omega)]; exact h.arr, by simp [h.llen], h.len, h.wds, h.lwds.set i hv, ?_, h.ps⟩
 ·rw [heap_setCell_same _ _ _ _ _ _ h.sta, List.setIfInBounds_toArray, wds_set]
 ·exact ⟨h.below.os, h.below.tape, h.below.output, by rw [World.size_setCell]; exact h.below.size, fun k hk => (heap_setCell_other _ _ _ _ (by show k ≠ S; omega)).trans (h.below.block k hk)⟩
theorem RT.kept {w wr w2 : World} {r S K V : Nat} {L A : List Nat} {l : List Nat} (h : RT w wr r S K V L A) (hk : Kept l wr w2) (hl : ∀ i, i ∈ l -> V < i) : RT w w2 r S K V L A := by
 have hp := h.ps
 have lt : ∀ {i : Nat} {o : Obj}, wr.heap[i]? = some o -> i < wr.heap.size := fun e => (gs e).1
 have nm : ∀ i, i <= V -> i ∉ l := fun i hi hm => by have := hl i hm; omega
 exact ⟨(hk.block r (lt h.res) (nm r (by omega))).trans h.res, (hk.block S (lt h.sta) (nm S (by omega))).trans h.sta, (hk.block K (lt h.tab) (nm K (by omega))).trans h.tab, (hk.block V (lt h.arr) (nm V (by omega))).trans h.arr, h.llen, h.len, h.wds, h.lwds,
  h.below.trans (hk.below h.below.size (fun i hi => by have := hl i hi; omega)), hp⟩
theorem blocks4 (w : World) (o1 o2 o3 o4 : Obj) : ((((w.alloc o1).alloc o2).alloc o3).alloc o4).heap[w.heap.size]? = some o1 ∧ ((((w.alloc o1).alloc o2).alloc o3).alloc o4).heap[w.heap.size + 1]? = some o2 ∧ ((((w.alloc o1).alloc o2).alloc o3).alloc o4).heap[w.heap.size + 1 + 1]? = some o3 ∧ ((((w.alloc o1).alloc o2).alloc o3).alloc o4).heap[w.heap.size + 1 + 1 + 1]? = some o4 := by
 have e : ((((w.alloc o1).alloc o2).alloc o3).alloc o4).heap = (((w.heap.push o1).push o2).push o3).push o4 := rfl
 rw [e]
 refine ⟨?_, ?_, ?_, ?_⟩
 ·rw [Array.getElem?_push, if_neg (by simp <;> omega), Array.getElem?_push, if_neg (by simp <;> omega), Array.getElem?_push, if_neg (by simp), Array.getElem?_push, if_pos rfl]
 ·rw [Array.getElem?_push, if_neg (by simp <;> omega), Array.getElem?_push, if_neg (by simp), Array.getElem?_push, if_pos (by simp)]
 ·rw [Array.getElem?_push, if_neg (by simp), Array.getElem?_push, if_pos (by simp)]
 ·rw [Array.getElem?_push, if_pos (by simp)]
theorem rturn_ok (s : Sha.S8) (hs : s.Ok) (b o cap : Nat) (bs : List UInt8) (w : World) (hl : bs.length = 64) (hb : b < w.heap.size) (hc : ∀ i, i < 64 -> w.cell? ⟨b, o + i, none⟩ = some (.int .u8 (bs.getD i 0).toNat)) :
  Calls Tryz.prog 83 #[.agg (wds s.words).toArray, .slice (some ⟨b, o, none⟩) 64 cap, .agg (wds Sha.table).toArray] w fun e w' => e = .returned (.agg (wds (Sha.turn s bs).words).toArray) ∧ Below w.heap.size w w' := by
 have hz64 := Tryz.zeroW64
 have hz := Tryz.zeroW8
 obtain ⟨S, hS⟩ : ∃ S, S = w.heap.size := ⟨_, rfl⟩
 obtain ⟨K, hK⟩ : ∃ S, S = w.heap.size + 1 := ⟨_, rfl⟩
 obtain ⟨r, hr⟩ : ∃ r, r = w.heap.size + 1 + 1 := ⟨_, rfl⟩
 obtain ⟨V, hV⟩ : ∃ S, S = w.heap.size + 1 + 1 + 1 := ⟨_, rfl⟩
 have HI : Hid (RT w ((((w.alloc (.cells (wds s.words).toArray 137)).alloc (.cells (wds Sha.table).toArray 139)).alloc (.cells zero8 137)).alloc (.cells zero64 139)) r S K V s.words (Sha.lay bs 0)) := by
  subst hr; subst hS; subst hK; subst hV
  have h4 := blocks4 w (.cells (wds s.words).toArray 137) (.cells (wds Sha.table).toArray 139) (.cells zero8 137) (.cells zero64 139)
  refine ⟨h4.2.2.1, h4.1, h4.2.1, h4.2.2.2, rfl, rfl, Sha.lay_words bs 0, words_ok hs, ?_, by omega⟩
  ·exact ((((Below.refl _ _).alloc (Nat.le_refl _) _).alloc (by simp) _).alloc (by simp; omega) _).alloc (by simp; omega) _
 have HC : Hid (∀ i, i < 64 -> w.cell? ⟨b, o + i, none⟩ = some (.int .u8 (bs.getD i 0).toNat)) := hc
 have HB : Hid (b < w.heap.size) := hb
 clear hc hb
 go_enter Tryz.func83, Tryz.ntmps83
 go_wp2
 rw [<-hV, <-hr, <-hK, <-hS]
 clear hS hK hr hV
 generalize (((w.alloc _).alloc _).alloc _).alloc _ = w1 at HI ⊢
 go_loopw [8, 9] (fun x y wr => ∃ t : Nat, t <= 16 ∧ x = .int .i64 t ∧ Hid (RT w wr r S K V s.words (Sha.lay bs t))) (fun x y wr => 16 - (intOf x).toNat)
 case atStart => exact ⟨0, by omega, rfl, HI⟩
 case round =>
  clear HI
  obtain ⟨t, ht, rfl, HR⟩ := hrel
  by_cases hlt : t < 16
  ·have HR0 : Hid (RT w wr r S K V s.words ((Sha.lay bs t).set t (pw bs t 0))) := by
    show RT _ _ _ _ _ _ _ _
    rw [lay_set_zero bs t (by omega)]; exact HR.out
   clear HR
   have hd : decide ((t : Int) < 16) = true := by simp; omega
   go_wp2
   go_hide hQ
   go_loopw [9] (fun y wr => ∃ i : Nat, i <= 4 ∧ y = .int .i64 i ∧ Hid (RT w wr r S K V s.words ((Sha.lay bs t).set t (pw bs t i)))) (fun y wr => 4 - (intOf y).toNat)
   case atStart => exact ⟨0, by omega, rfl, HR0⟩
   case round =>
    clear HR0
    obtain ⟨i, hi, rfl, HR⟩ := hrel
    by_cases hli : i < 4
    ·obtain ⟨j, hj⟩ : ∃ j, j = 4 * t + i := ⟨_, rfl⟩
     obtain ⟨j4, hj4⟩ : ∃ j, j = 4 * t := ⟨_, rfl⟩
     have lj : (j : Int) < 64 := by omega
     have lt : (t : Int) < 64 := by omega
     have e1 : IntKind.i64.wrap (4 * (t : Int)) = j4 := by rw [IntWalk.i64_in _ (by omega)]; omega
     have e2 : IntKind.i64.wrap ((j4 : Int) + (i : Int)) = j := by rw [IntWalk.i64_in _ (by omega)]; omega
     have cb : wr.cell? ⟨b, o + j, none⟩ = some (.int .u8 (bs.getD j 0).toNat) := (HR.out.below.cell (p := ⟨b, o + j, none⟩) HB.out).trans (HC.out j (by omega))
     have ct := HR.out.cellV t (by omega)
     have ft := HR.out.frozenV t
     have hp : pw bs t i < 16777216 := by
      have h1 := pw_lt bs t i
      have h2 : 256 ^ i <= 256 ^ 3 := Nat.pow_le_pow_right (by omega) (by omega)
      omega
     have HP : Hid (pw bs t (i + 1) = pw bs t i * 256 + (bs.getD j 0).toNat) := by show _ = _; rw [hj]; rfl
     rw [set_get _ _ _ (by rw [Sha.lay_len]; omega)] at ct
     have HS : ∀ v : Nat, v < 4294967296 -> Hid (RT w (wr.drew.setCell ⟨V, t, none⟩ (.int .u32 v)) r S K V s.words ((Sha.lay bs t).set t v)) := fun v hv => by
      have := HR.out.drew.setV t v hv
      rwa [List.set_set] at this
     clear hj hj4
     have hby := (bs.getD j 0).toNat_lt
     generalize (bs.getD j 0).toNat = y at cb HP hby
     generalize pw bs t i = p at ct HP hp
     obtain ⟨m, hm⟩ : ∃ m, m = p * 256 := ⟨_, rfl⟩
     obtain ⟨n, hn⟩ : ∃ n, n = p * 256 + y := ⟨_, rfl⟩
     have s0 : IntKind.u32.wrap ((p : Int) * 256) = m := by rw [IntKind.wrap_u32']; omega
     have v0 := u32_in y (by omega)
     have o1 : bits .or .u32 (m : Int) (y : Int) = n := by
      have := or_join 8 p y (by omega) (by omega)
      rw [show 2 ^ 8 * p = m by omega] at this
      rw [this]; omega
     have HS2 : Hid (RT w (wr.drew.setCell ⟨V, t, none⟩ (.int .u32 n)) r S K V s.words ((Sha.lay bs t).set t (pw bs t (i + 1)))) := by
      have := HS n (by omega)
      rw [HP.out, <-hn]; exact this
     clear hm hn HS hby HP
     go_wp2
     go_still_tail 15, Tryz.followsD
     rw [World.drew_eq]
     go_wp2
     go_roundw
     case rel => first | exact ⟨i + 1, by omega, by go_num, HS2⟩ | ((repeat apply Exists.intro); exact ⟨⟨i + 1, by omega, by go_num, HS2⟩, rfl⟩)
     case measure => simp [intOf]; omega
    ·obtain rfl : i = 4 := by omega
     have HS2 : Hid (RT w wr r S K V s.words (Sha.lay bs (t + 1))) := by
      have := HR.out
      rw [lay_set_four] at this; exact this
     go_wp2
     subst hQ
     go_wp2
     go_roundw
     case rel => exact ⟨t + 1, by omega, by go_num, HS2⟩
     case measure => simp [intOf]; omega
  ·obtain rfl : t = 16 := by omega
   clear hlt ht HC hl HB
   go_wp2
   go_loopw [10, 11, 12] (fun x y z wr => ∃ t : Nat, 16 <= t ∧ t <= 64 ∧ x = .int .i64 t ∧ Hid (RT w wr r S K V s.words (Sha.more (Sha.lay bs 16) (t - 16)))) (fun x y z wr => 64 - (intOf x).toNat)
   case atStart => exact ⟨16, by omega, by omega, rfl, HR⟩
   case round =>
    clear HR
    obtain ⟨t, ht0, ht, rfl, HR⟩ := hrel
    by_cases hlt : t < 64
    ·obtain ⟨t2, h2⟩ : ∃ j, j = t - 2 := ⟨_, rfl⟩
     obtain ⟨t15, h15⟩ : ∃ j, j = t - 15 := ⟨_, rfl⟩
     obtain ⟨t7, h7⟩ : ∃ j, j = t - 7 := ⟨_, rfl⟩
     obtain ⟨t16, h16⟩ : ∃ j, j = t - 16 := ⟨_, rfl⟩
     have i2 : (t : Int) - 2 = t2 := by omega
     have i15 : (t : Int) - 15 = t15 := by omega
     have e7 : IntKind.i64.wrap ((t : Int) - 7) = t7 := by rw [IntWalk.i64_in _ (by omega)]; omega
     have e16 : IntKind.i64.wrap ((t : Int) - 16) = t16 := by rw [IntWalk.i64_in _ (by omega)]; omega
     have l2 : (t2 : Int) < 64 := by omega
     have l15 : (t15 : Int) < 64 := by omega
     have l7 : (t7 : Int) < 64 := by omega
     have l16 : (t16 : Int) < 64 := by omega
     have lt : (t : Int) < 64 := by omega
     have n7 : t7 ≠ t := by omega
     have n16 : t16 ≠ t := by omega
     have c2 := HR.out.cellV t2 (by omega)
     have c15 := HR.out.cellV t15 (by omega)
     have c7 := HR.out.cellV t7 (by omega)
     have c16 := HR.out.cellV t16 (by omega)
     have ct := HR.out.cellV t (by omega)
     have ft := HR.out.frozenV t
     have hW := HR.out.wds
     have b2 := hW t2
     have b15 := hW t15
     have b7 := hW t7
     have b16 := hW t16
     have HM : Hid (Sha.more (Sha.lay bs 16) (t + 1 - 16) = (Sha.more (Sha.lay bs 16) (t - 16)).set t (Sha.grow ((Sha.more (Sha.lay bs 16) (t - 16)).getD t2 0) ((Sha.more (Sha.lay bs 16) (t - 16)).getD t7 0) ((Sha.more (Sha.lay bs 16) (t - 16)).getD t15 0) ((Sha.more (Sha.lay bs 16) (t - 16)).getD t16 0))) := by
      show _ = _
      rw [show t + 1 - 16 = (t - 16) + 1 by omega]
      simp only [Sha.more]
      rw [show 16 + (t - 16) = t by omega, show 14 + (t - 16) = t2 by omega, show 9 + (t - 16) = t7 by omega, show 1 + (t - 16) = t15 by omega, show t - 16 = t16 by omega]
     clear h2 h15 h7 h16 hW
     generalize (Sha.more (Sha.lay bs 16) (t - 16)).getD t2 0 = p at c2 b2 HM
     generalize (Sha.more (Sha.lay bs 16) (t - 16)).getD t15 0 = q at c15 b15 HM
     generalize (Sha.more (Sha.lay bs 16) (t - 16)).getD t7 0 = g at c7 b7 HM
     generalize (Sha.more (Sha.lay bs 16) (t - 16)).getD t16 0 = v at c16 b16 HM
     generalize (Sha.more (Sha.lay bs 16) (t - 16)).getD t 0 = old at ct
     go_wp2
     clear i2 i15 c2 c15
     have q1 := late_bits b2
     have q2 := early_bits b15
     have q3 := u32_add
     go_region_held3 (fun w' => w'.cell? ⟨V, t7, none⟩ = some (.int .u32 g) ∧ w'.cell? ⟨V, t16, none⟩ = some (.int .u32 v)) (first | (simp [*]; done) | (refine ⟨?_, ?_⟩ <;> (rw [World.cell?_setCell_other _ _ _ _ (by intro e; injection e; omega)]; simp [*]))) (first | (go_at_call_of 108 (Value.int IntKind.i64 17); refine (rturned_ok p 17 _ b2 (by omega) (by omega)).mono ?_; rintro e w' ⟨rfl, n1, rfl⟩) | (go_at_call_of 108 (Value.int IntKind.i64 19); refine (rturned_ok p 19 _ b2 (by omega) (by omega)).mono ?_; rintro e w' ⟨rfl, n2, rfl⟩) | (go_at_call_of 108 (Value.int IntKind.i64 7); refine (rturned_ok q 7 _ b15 (by omega) (by omega)).mono ?_; rintro e w' ⟨rfl, n3, rfl⟩) | (go_at_call_of 108 (Value.int IntKind.i64 18); refine (rturned_ok q 18 _ b15 (by omega) (by omega)).mono ?_; rintro e w' ⟨rfl, n4, rfl⟩))
     have HS : Hid (RT w ((wr.drewN (1 + n1 + n2 + n3 + n4)).setCell ⟨V, t, none⟩ (.int .u32 (Sha.add (Sha.add (Sha.add (Sha.late p) g) (Sha.early q)) v : Nat))) r S K V s.words (Sha.more (Sha.lay bs 16) (t + 1 - 16))) := by
      have := (HR.out.drewN (1 + n1 + n2 + n3 + n4)).setV t (Sha.grow p g q v) (Sha.grow_lt _ _ _ _)
      show RT _ _ _ _ _ _ _ _
      rw [HM.out]; exact this
     go_wp2
     go_roundw
     case rel => first | exact ⟨t + 1, by omega, by omega, by go_num, HS⟩ | ((repeat apply Exists.intro); exact ⟨⟨t + 1, by omega, by omega, by go_num, HS⟩, rfl⟩)
     case measure => simp [intOf]; omega
    ·obtain rfl : t = 64 := by omega
     have HW : Hid (RT w wr r S K V s.words (Sha.spread bs)) := HR.out
     clear HR hlt ht ht0
     obtain ⟨Z, hZ⟩ : ∃ Z, Z = wr.heap.size := ⟨_, rfl⟩
     have h1 := HW.out.sta
     have hz0 : (wr.alloc (.cells zero8 137)).heap[wr.heap.size]? = some (.cells zero8 137 (0, 0)) := heap_alloc_new _ _
     have HW2 : Hid (RT w ((wr.alloc (.cells zero8 137)).setRow wr.heap.size (wds s.words).toArray) r S K V s.words (Sha.spread bs)) := by
      refine HW.out.kept (l := [wr.heap.size]) ?_ (fun i hi => ?_)
      ·exact ((Kept.refl _ _).alloc _).trans (l2 := [wr.heap.size]) ⟨rfl, rfl, rfl, by simp, fun k _ hn => setRow_other _ _ _ _ (by simpa using hn)⟩ (by simp)
      ·simp only [List.mem_singleton] at hi
       subst hi
       exact (gs HW.out.arr).1
     have HZ : Hid (V < Z) := by rw [hZ]; exact (gs HW.out.arr).1
     have HQ0 : Hid (((wr.alloc (.cells zero8 137)).setRow wr.heap.size (wds s.words).toArray).heap[Z]? = some (.cells (wds s.words).toArray 137 (0, 0))) := by
      show _ = _
      rw [hZ]; exact setRow_heap _ _ _ _ _ _ hz0
     go_wp2_with (first | refine wpList_load_row rfl 137 (.tmp 3) rfl S rfl 137 _ (0, 0) _ h1 Tryz.underlying137 rfl Tryz.info8 ?_ | refine wpList_store_rowTo rfl 137 (.tmp 13) (.tmp 84) rfl rfl wr.heap.size (wds s.words).toArray rfl rfl 137 zero8 hz0 Tryz.info8 (by kernel_rfl) (by kernel_rfl) ?_)
     rw [<-hZ] at HW2 HQ0 ⊢
     clear hZ h1 hz0 HW
     generalize World.setRow _ _ _ = w5 at HW2 HQ0 ⊢
     have hsp := Sha.spread_words bs
     have hspl := Sha.spread_len bs
     have HT : Hid (Sha.turn s bs = Sha.plus s (Sha.rounds (Sha.spread bs) s 64)) := rfl
     generalize Sha.spread bs = W at hsp hspl HW2 HT
     clear hz64 hz
     go_loopw [14, 15, 16, 17, 18] (fun i _ _ _ _ wr => ∃ (t : Nat) (q : Sha.S8), t <= 64 ∧ i = .int .i64 t ∧ Hid (q = Sha.rounds W s t) ∧ Hid (RT w wr r S K V s.words W) ∧ Hid (wr.heap[Z]? = some (.cells (wds q.words).toArray 137 (0, 0)))) (fun i _ _ _ _ wr => 64 - (intOf i).toNat)
     case atStart => exact ⟨0, s, by omega, rfl, rfl, HW2, HQ0⟩
     case round =>
      clear HW2 HQ0
      obtain ⟨t, q, ht, rfl, HQ, HR, HZ1⟩ := hrel
      by_cases hlt : t < 64
      ·have hq : q.Ok := by rw [HQ.out]; exact Sha.rounds_ok hs W t
       have HN : Hid (Sha.rounds W s (t + 1) = Sha.rnd q (Sha.tb t) (W.getD t 0)) := by
        show _ = _
        rw [HQ.out]; rfl
       have ck := HR.out.cellK t hlt
       have cv := HR.out.cellV t hlt
       have lt : (t : Int) < 64 := by omega
       generalize Sha.tb t = kt at ck HN
       generalize W.getD t 0 = vt at cv HN
       have zc : ∀ i, wr.cell? ⟨Z, i, none⟩ = (wds q.words)[i]? := fun i => by rw [cell_of_row _ _ _ _ _ _ HZ1.out]; simp
       obtain ⟨qa, qb, qc, qd, qe, qf, qg, qh⟩ := q
       obtain ⟨ha, hb', hc, hd, he, hf, hg, hh⟩ := hq
       dsimp only at ha hb' hc hd he hf hg hh
       have z0 : wr.cell? ⟨Z, 0, none⟩ = some (.int .u32 qa) := zc 0
       have z1 : wr.cell? ⟨Z, 1, none⟩ = some (.int .u32 qb) := zc 1
       have z2 : wr.cell? ⟨Z, 2, none⟩ = some (.int .u32 qc) := zc 2
       have z3 : wr.cell? ⟨Z, 3, none⟩ = some (.int .u32 qd) := zc 3
       have z4 : wr.cell? ⟨Z, 4, none⟩ = some (.int .u32 qe) := zc 4
       have z5 : wr.cell? ⟨Z, 5, none⟩ = some (.int .u32 qf) := zc 5
       have z6 : wr.cell? ⟨Z, 6, none⟩ = some (.int .u32 qg) := zc 6
       have z7 : wr.cell? ⟨Z, 7, none⟩ = some (.int .u32 qh) := zc 7
       clear zc
       have q1 := big1_bits he
       have q2 := ch_bits he hf hg
       have q3 := u32_add
       have q4 := big0_bits ha
       have q5 := maj_bits ha hb' hc
       have q6 := u32_add_mod
       have hsg : IntKind.u32.signed = false := rfl
       go_wp2
       go_quiet (first | (go_at_call_of 108 (Value.int IntKind.i64 6); exact Calls.quiet_of (rturned_ok qe 6 _ he (by omega) (by omega))) | (go_at_call_of 108 (Value.int IntKind.i64 11); exact Calls.quiet_of (rturned_ok qe 11 _ he (by omega) (by omega))) | (go_at_call_of 108 (Value.int IntKind.i64 25); exact Calls.quiet_of (rturned_ok qe 25 _ he (by omega) (by omega))))
       have HR2 : Hid (RT w (wr.drewN nq) r S K V s.words W) := HR.out.drewN nq
       have HZ2 : Hid ((wr.drewN nq).heap[Z]? = _) := HZ1.out
       have y0 : (wr.drewN nq).cell? ⟨Z, 0, none⟩ = _ := z0
       have y1 : (wr.drewN nq).cell? ⟨Z, 1, none⟩ = _ := z1
       have y2 : (wr.drewN nq).cell? ⟨Z, 2, none⟩ = _ := z2
       have y3 : (wr.drewN nq).cell? ⟨Z, 3, none⟩ = _ := z3
       have y4 : (wr.drewN nq).cell? ⟨Z, 4, none⟩ = _ := z4
       have y5 : (wr.drewN nq).cell? ⟨Z, 5, none⟩ = _ := z5
       have y6 : (wr.drewN nq).cell? ⟨Z, 6, none⟩ = _ := z6
       have y7 : (wr.drewN nq).cell? ⟨Z, 7, none⟩ = _ := z7
       clear HR HZ1 ck cv z0 z1 z2 z3 z4 z5 z6 z7 q1 q2
       generalize wr.drewN nq = w6 at HR2 HZ2 y0 y1 y2 y3 y4 y5 y6 y7 ⊢
       go_wp2
       go_quiet (first | (go_at_call_of 108 (Value.int IntKind.i64 2); exact Calls.quiet_of (rturned_ok qa 2 _ ha (by omega) (by omega))) | (go_at_call_of 108 (Value.int IntKind.i64 13); exact Calls.quiet_of (rturned_ok qa 13 _ ha (by omega) (by omega))) | (go_at_call_of 108 (Value.int IntKind.i64 22); exact Calls.quiet_of (rturned_ok qa 22 _ ha (by omega) (by omega))))
       have HR3 : Hid (RT w (w6.drewN nq) r S K V s.words W) := HR2.out.drewN nq
       have HZ3 : Hid ((w6.drewN nq).heap[Z]? = _) := HZ2.out
       have x0 : (w6.drewN nq).cell? ⟨Z, 0, none⟩ = _ := y0
       have x1 : (w6.drewN nq).cell? ⟨Z, 1, none⟩ = _ := y1
       have x2 : (w6.drewN nq).cell? ⟨Z, 2, none⟩ = _ := y2
       have x3 : (w6.drewN nq).cell? ⟨Z, 3, none⟩ = _ := y3
       have x4 : (w6.drewN nq).cell? ⟨Z, 4, none⟩ = _ := y4
       have x5 : (w6.drewN nq).cell? ⟨Z, 5, none⟩ = _ := y5
       have x6 : (w6.drewN nq).cell? ⟨Z, 6, none⟩ = _ := y6
       have x7 : (w6.drewN nq).cell? ⟨Z, 7, none⟩ = _ := y7
       clear HR2 HZ2 y0 y1 y2 y3 y4 y5 y6 y7 q4 q5
       generalize w6.drewN nq = w7 at HR3 HZ3 x0 x1 x2 x3 x4 x5 x6 x7 ⊢
       have HX : Hid (Sha.add (Sha.add (Sha.add (Sha.add qh (Sha.big1 qe)) (Sha.ch qe qf qg)) kt) vt = Sha.xs qh qe qf qg kt vt) := rfl
       have HY : Hid (Sha.add (Sha.big0 qa) (Sha.maj qa qb qc) = Sha.ys qa qb qc) := rfl
       generalize Sha.add (Sha.add (Sha.add (Sha.add qh (Sha.big1 qe)) (Sha.ch qe qf qg)) kt) vt = X at HX ⊢
       generalize Sha.add (Sha.big0 qa) (Sha.maj qa qb qc) = Y at HY ⊢
       have HN2 : Hid (Sha.rounds W s (t + 1) = ⟨Sha.add X Y, qa, qb, qc, Sha.add qd X, qe, qf, qg⟩) := by
        show _ = _
        rw [HN.out, HX.out, HY.out]; rfl
       have hold := HZ3.out
       have hone : (wds [Sha.add X Y, qa, qb, qc, Sha.add qd X, qe, qf, qg]).toArray.all (·.oneCell') = true := Array.all_eq_true_iff_forall_mem.2 fun v hv => wds_oneCell _ v (by simpa using hv)
       have HR4 : Hid (RT w (w7.setRow Z (wds [Sha.add X Y, qa, qb, qc, Sha.add qd X, qe, qf, qg]).toArray) r S K V s.words W) :=
        HR3.out.kept (l := [Z]) ⟨rfl, rfl, rfl, by simp, fun k _ hn => setRow_other _ _ _ _ (by simpa using hn)⟩ (by simpa using HZ.out)
       have HZ4 : Hid ((w7.setRow Z (wds [Sha.add X Y, qa, qb, qc, Sha.add qd X, qe, qf, qg]).toArray).heap[Z]? = some (.cells (wds [Sha.add X Y, qa, qb, qc, Sha.add qd X, qe, qf, qg]).toArray 137 (0, 0))) := setRow_heap _ _ _ _ _ _ HZ3.out
       go_wp2_with (first | refine wpList_buildTo rfl 137 _ rfl (some 166) rfl (wds [Sha.add X Y, qa, qb, qc, Sha.add qd X, qe, qf, qg]).toArray (by kernel_rfl) ?_ | refine wpList_store_rowTo rfl 137 (.tmp 13) (.tmp 166) rfl rfl Z (wds [Sha.add X Y, qa, qb, qc, Sha.add qd X, qe, qf, qg]).toArray rfl rfl 137 _ hold Tryz.info8 rfl hone ?_)
       go_roundw
       case rel => exact ⟨t + 1, _, by omega, by go_num, HN2.out.symm, HR4, HZ4⟩
       case measure => simp [intOf]; omega
      ·obtain rfl : t = 64 := by omega
       have hq : q.Ok := by rw [HQ.out]; exact Sha.rounds_ok hs W 64
       have HF5 : Hid (RT w wr r S K V (summed s.words q.words 0) W) := HR.out
       have HT2 : Hid (Sha.turn s bs = Sha.plus s q) := by rw [HQ.out]; exact HT.out
       clear HR HT HQ hlt ht
       go_wp2
       go_loopw [19] (fun i wr => ∃ k : Nat, k <= 8 ∧ i = .int .i64 k ∧ Hid (RT w wr r S K V (summed s.words q.words k) W) ∧ Hid (wr.heap[Z]? = some (.cells (wds q.words).toArray 137 (0, 0)))) (fun i wr => 8 - (intOf i).toNat)
       case atStart => exact ⟨0, by omega, rfl, HF5, HZ1⟩
       case round =>
        clear HF5 HZ1
        obtain ⟨k, hk, rfl, HR, HZ1⟩ := hrel
        by_cases hlt : k < 8
        ·have ck := HR.out.cellS k hlt
         have fk := HR.out.frozenS k
         have zk : wr.cell? ⟨Z, k, none⟩ = some (.int .u32 (q.words.getD k 0 : Nat)) := by rw [cell_of_row _ _ _ _ _ _ HZ1.out, List.getElem?_toArray, wds_at (by exact hlt)]
         have lt : (k : Int) < 8 := by omega
         have HN : Hid (RT w (wr.drew.setCell ⟨S, k, none⟩ (.int .u32 (Sha.add ((summed s.words q.words k).getD k 0) (q.words.getD k 0) : Nat))) r S K V (summed s.words q.words (k + 1)) W) :=
          HR.out.drew.setS k _ (Sha.add_lt _ _)
         have HZ2 : ∀ v, Hid ((wr.drew.setCell ⟨S, k, none⟩ v).heap[Z]? = some (.cells (wds q.words).toArray 137 (0, 0))) := fun v => by
          have := HR.out.ps; have := HZ.out
          show _ = _
          rw [heap_setCell_other _ _ _ _ (by show Z ≠ S; omega)]; exact HZ1.out
         generalize (summed s.words q.words k).getD k 0 = x at ck HN
         generalize q.words.getD k 0 = y at zk HN
         have q3 := u32_add
         clear HZ1 HR
         go_wp2
         go_still_tail 9, Tryz.followsD
         rw [World.drew_eq]
         go_wp2
         go_roundw
         case rel => first | exact ⟨k + 1, by omega, by go_num, HN, HZ2 _⟩ | ((repeat apply Exists.intro); exact ⟨⟨k + 1, by omega, by go_num, HN, HZ2 _⟩, rfl⟩)
         case measure => simp [intOf]; omega
        ·obtain rfl : k = 8 := by omega
         have h1 := HR.out.sta
         have h2 := HR.out.res
         have hlen : (wds (summed s.words q.words 8)).toArray.size = 8 := by simp [wds_len, HR.out.llen]
         have hinf : (Tryz.prog.info? 137).map (·.size) = some (wds (summed s.words q.words 8)).toArray.size := by rw [hlen]; exact Tryz.info8
         have hone : (wds (summed s.words q.words 8)).toArray.all (·.oneCell') = true := Array.all_eq_true_iff_forall_mem.2 fun v hv => wds_oneCell _ v (by simpa using hv)
         have hz0 : zero8.size = (wds (summed s.words q.words 8)).toArray.size := by rw [hlen]; rfl
         have HFIN : Hid (summed s.words q.words 8 = (Sha.turn s bs).words) := by
          show _ = _
          rw [HT2.out, summed_all]
         generalize summed s.words q.words 8 = F at h1 hlen hinf hone hz0 HFIN HR
         go_wp2_with (first | refine wpList_load_row rfl 137 (.tmp 3) rfl S rfl 137 _ (0, 0) _ h1 Tryz.underlying137 rfl hinf ?_ | refine wpList_store_rowTo rfl 137 (.tmp 6) (.tmp 180) rfl rfl r (wds F).toArray rfl rfl 137 zero8 h2 hinf hz0 hone ?_)
         exact ret_row rfl rfl r 137 _ (0, 0) _ rfl (setRow_heap _ _ _ _ _ _ h2) Tryz.underlying137 rfl hinf ⟨by rw [HFIN.out], below_row HR.out.below (by have := HR.out.ps; omega) _⟩
end

section
theorem src_of {w : World} {ad : Addr} {m : List UInt8} (hs : Sl w (some ad) m) : ∀ j u, (bys m)[j]? = some u -> w.cell? (ad.add j) = some u := by
 by_cases h0 : m = []
 ·subst h0
  intro j u hu
  simp [bys] at hu
 ·obtain ⟨b, off, e', hb, hc⟩ := hs.open h0
  cases e'
  exact Sl.cells hc
theorem wpList_append_fresh (w : World) {ops : Array Oper} {rest : List Oper} {o : Oper} {a : Act} {Q : Exit -> Act -> World -> Prop} (hgd : o.guard = none) (s x : Operand)
  (ho : o.op = .call { callee := .builtin .append, args := #[s, x], argTypes := #[27, 27] }) (base g : Nat) (hs : a.eval s = .slice (some ⟨g, 0, none⟩) 0 0)
  (hown : w.ownsRow base 5 1 (.slice (some ⟨g, 0, none⟩) 0 0) 0 []) (da : Option Addr) (m dc : Nat) (ds : List UInt8) (hx : a.eval x = .slice da m dc) (hsl : Sl w da ds) (hm : ds.length = m) (hnl : da = none -> ds = [] ∧ dc = 0) (b1 : m <= 140737488351232) (hbase : base <= w.heap.size)
  (hK : ∀ g' c' w', w'.ownsRow base 5 1 (.slice (some ⟨g', 0, none⟩) m c') m (bys ds) -> w.grownBy w' (some g) -> wpList Tryz.prog ops Q rest (a.put o.dst (.slice (some ⟨g', 0, none⟩) m c')) w') :
  wpList Tryz.prog ops Q (o :: rest) a w := by
 obtain ⟨i0, hi, hz0, hz1, hz2⟩ := info_parts Tryz.infoByteD
 cases da with
 | none =>
  obtain ⟨rfl, rfl⟩ := hnl rfl
  subst hm
  exact wpList_append_own_none hgd s x 27 ho base 5 i0 1 Tryz.underlying27 hi _ 0 _ hs hown hx (hK g 0 w hown (World.grownBy.refl w _))
 | some ad =>
  refine wpList_append_own w hgd s x 27 ho base 5 i0 (.int .u8 0) 1 1 Tryz.underlying27 hi hz0 hz1 hz2 rfl (by decide) _ 0 [] hs hown ad m dc (bys ds) hx (by rw [bys_length, hm, Nat.mul_one]) (src_of hsl) (bys_oneCell _) (by unfold maxLen; omega) (by omega) hbase ?_
  intro v' w' h1 h2 h3
  rw [Nat.zero_add, List.nil_append] at h1
  obtain ⟨g', c', hv, _⟩ := own_sl h1 (fun e => by have := (h3.1 e).1; cases this)
  subst hv
  exact hK g' c' w' h1 h2
end

end Go.Proofs.YtmklodligplbaabGreat
