import Derived.Test.YtmklodligplbaabGreatL18al
import Derived.Deep.QuietTactic
import Derived.BigQuiet
import Derived.Test.YtmklodligplbaabGreatD8cl
namespace Go.Proofs.YtmklodligplbaabGreat
section
open Go.RowKit
open Dlt
set_option linter.unusedVariables false
set_option linter.unusedSimpArgs false
theorem i64_xor_nat (a b : Nat) (ha : a < 9223372036854775808) (hb : b < 9223372036854775808) : bits .xor .i64 (a : Int) (b : Int) = ((a ^^^ b : Nat) : Int) := by
 show IntKind.i64.wrap ((BitVec.ofInt 64 (a : Int) ^^^ BitVec.ofInt 64 (b : Int)).toNat : Int) = _
 have h : a ^^^ b < 9223372036854775808 := Nat.xor_lt_two_pow (n := 63) ha hb
 rw [BitVec.toNat_xor, ofInt_u64 a (by omega), ofInt_u64 b (by omega)]
 simp [IntKind.wrap, IntKind.bits, IntKind.signed]
 split <;> omega
theorem Ts_succ' (k y : Nat) : Pure.Ts (k + 1) y = Pure.T (Pure.Ts k y) := by
 rw [Pure.Ts_add k 1]; rfl
theorem Ts_lt (k : Nat) {y : Nat} (h : y < 4294967296) : Pure.Ts k y < 4294967296 := by
 induction k with
 | zero => exact h
 | succ k ih => rw [Ts_succ']; exact Pure.T_lt ih
set_option maxHeartbeats 2000000 in
set_option maxRecDepth 100000 in
theorem rcrc_some (b off n cap : Nat) (xs : List UInt8) (w : World) (hn : xs.length = n) (hm : n ≤ 9223372036854775807) (hc : ∀ i, i < xs.length → w.cell? ⟨b, off + i, none⟩ = some (.int .u8 (xs.getD i 0).toNat)) :
  Calls Tryz.prog 76 #[.slice (some ⟨b, off, none⟩) n cap] w fun e w' => e = .returned (.int .i64 (Pure.sum xs)) ∧ w' = w := by
 go_enter Tryz.func76, Tryz.ntmps76
 go_wp2
 go_loop [3, 4] (fun r i => ∃ k : Nat, k ≤ n ∧ i = .int .i64 k ∧ r = .int .i64 (Pure.crc 4294967295 (xs.take k))) (fun r i => n - (intOf i).toNat)
 case atStart => exact ⟨0, Nat.zero_le _, rfl, rfl⟩
 case round =>
  obtain ⟨k, hk, rfl, rfl⟩ := hrel
  have hx1 : Pure.crc 4294967295 (xs.take k) < 4294967296 := Pure.crc_lt (by omega) _
  by_cases hlt : k < n
  ·have hcell := hc k (by omega)
   have hcb : (xs.getD k 0).toNat < 256 := UInt8.toNat_lt _
   have HS : Hid (Pure.crc 4294967295 (xs.take (k + 1)) = Pure.Ts 8 (Pure.crc 4294967295 (xs.take k) ^^^ (xs.getD k 0).toNat)) := by
    show _ = _
    rw [Pure.take_snoc xs 0 k (by omega), Pure.crc_snoc, Pure.crcStep_turns]
   generalize Pure.crc 4294967295 (xs.take k) = x at hx1 HS ⊢
   generalize (xs.getD k 0).toNat = c at hcell hcb HS
   have e1 := i64_xor_nat x c (by omega) (by omega)
   have b1 := Pure.xor_lt32 hx1 (show c < 4294967296 by omega)
   generalize x ^^^ c = y at e1 b1 HS
   clear hc
   go_wp2
   go_loop [3, 5] (fun r j => ∃ m : Nat, m ≤ 8 ∧ j = .int .i64 m ∧ r = .int .i64 (Pure.Ts m y)) (fun r j => 8 - (intOf j).toNat)
   case atStart => exact ⟨0, Nat.zero_le _, rfl, rfl⟩
   case round =>
    obtain ⟨m, hm8, rfl, rfl⟩ := hrel
    have hz := Ts_lt m b1
    by_cases hm : m < 8
    ·have HT : Hid (Pure.Ts (m + 1) y = Pure.T (Pure.Ts m y)) := Ts_succ' m y
     generalize Pure.Ts m y = z at hz HT ⊢
     by_cases ho : z % 2 = 1
     ·have g1 : ((z : Int) % 2 == 1) = true := by simp; omega
      have e2 : bits .xor .i64 ((z : Int) / 2) 3988292384 = ((z / 2 ^^^ 3988292384 : Nat) : Int) := by
       rw [show ((z : Int) / 2) = ((z / 2 : Nat) : Int) by omega]
       exact i64_xor_nat (z / 2) 3988292384 (by omega) (by omega)
      have HT2 : Hid (Pure.Ts (m + 1) y = z / 2 ^^^ 3988292384) := by
       have := HT.out
       unfold Pure.T at this
       rw [if_pos ho] at this
       exact this
      generalize z / 2 ^^^ 3988292384 = z2 at e2 HT2
      go_wp2
      go_round
      case rel => exact ⟨m + 1, by omega, by go_num, by rw [HT2.out]⟩
      case measure => simp [intOf]; omega
     ·have g1 : ((z : Int) % 2 == 1) = false := by simp; omega
      have HT2 : Hid (Pure.Ts (m + 1) y = z / 2) := by
       have := HT.out
       unfold Pure.T at this
       rw [if_neg ho, Nat.xor_zero] at this
       exact this
      go_wp2
      go_round
      case rel => exact ⟨m + 1, by omega, by go_num, by rw [HT2.out]; go_num⟩
      case measure => simp [intOf]; omega
    ·obtain rfl : m = 8 := by omega
     go_wp2
     go_round
     case rel => exact ⟨k + 1, by omega, by go_num, by rw [HS.out]⟩
     case measure => simp [intOf]; omega
  ·have HT : Hid (xs.take k = xs) := List.take_of_length_le (by omega)
   clear hc
   go_wp2
   go_ret
   exact ⟨ret_int (by have h8 := hx1; have h9 := HT.out; unfold Pure.sum; rw [h9] at h8 ⊢; omega), rfl⟩
set_option maxHeartbeats 2000000 in
set_option maxRecDepth 100000 in
theorem rcrc_none (ao : Option Addr) (cap : Nat) (w : World) :
  Calls Tryz.prog 76 #[.slice ao 0 cap] w fun e w' => e = .returned (.int .i64 (Pure.sum [])) ∧ w' = w := by
 go_enter Tryz.func76, Tryz.ntmps76
 go_wp2
 go_loop [3, 4] (fun r i => i = .int .i64 0 ∧ r = .int .i64 4294967295) (fun r i => 0)
 case atStart => exact ⟨rfl, rfl⟩
 case round =>
  obtain ⟨rfl, rfl⟩ := hrel
  go_wp2
  go_ret
  exact ⟨rfl, rfl⟩
theorem rcrc_n (ao : Option Addr) (n cap : Nat) (xs : List UInt8) (w : World) (hn : xs.length = n) (hm : n ≤ 9223372036854775807) (h : Sl w ao xs) :
  Calls Tryz.prog 76 #[.slice ao n cap] w fun e w' => e = .returned (.int .i64 (Pure.sum xs)) ∧ w' = w := by
 by_cases h0 : xs = []
 ·subst h0
  obtain rfl : n = 0 := by simpa using hn.symm
  exact rcrc_none ao cap w
 ·obtain ⟨b, off, rfl, hb, hc⟩ := h.open h0
  exact rcrc_some b off n cap xs w hn hm hc
end

section
namespace Dlt
def openB (xs : List UInt8) : Option (List UInt8) :=
 if xs.length < 4 ∨ 131072 < xs.length then none
 else if Pure.be (xs.drop (xs.length - 4)) = Pure.sum (xs.take (xs.length - 4)) then some (xs.take (xs.length - 4)) else none
theorem openB_some {xs ys : List UInt8} (h : openB xs = some ys) : xs = sealed ys ∧ xs.length ≤ 131072 := by
 unfold openB at h
 split at h; · cases h
 rename_i h1
 split at h
 ·rename_i h2
  injection h with h
  subst h
  refine ⟨?_, by omega⟩
  have hk : (xs.drop (xs.length - 4)).length = 4 := by rw [List.length_drop]; omega
  have hf := Pure.fix_be (xs.drop (xs.length - 4))
  rw [hk, h2] at hf
  unfold sealed
  rw [hf, List.take_append_drop]
 ·cases h
theorem openB_sealed {ys : List UInt8} (h : (sealed ys).length ≤ 131072) : openB (sealed ys) = some ys := by
 have hl : (sealed ys).length = ys.length + 4 := by unfold sealed; rw [List.length_append, Pure.fix_len]
 have ht : (sealed ys).take ((sealed ys).length - 4) = ys := by rw [hl]; unfold sealed; simp
 have hd : (sealed ys).drop ((sealed ys).length - 4) = Pure.fix (Pure.sum ys) 4 := by rw [hl]; unfold sealed; simp
 unfold openB
 have hs : Pure.sum ys < 256 ^ 4 := by unfold Pure.sum; omega
 rw [if_neg (by omega), ht, hd, Pure.be_fix, Nat.mod_eq_of_lt hs, if_pos rfl]
def rheadOk (xs : List UInt8) : Bool :=
 decide (mk xs = 68) && (decide ((s4 xs).e = 0) && isW (nW xs) && isZ (nZ xs) && decide (nL xs ≤ 131072)) && (decide ((s7 xs).e = 0) && decide (nT xs ≤ 131072) && decide (nI xs ≤ 2048))
def rdD (xs : List UInt8) : Option Dta :=
 if rheadOk xs = false then none
 else match rdIs xs (cntB xs) (s7 xs) (nI xs).toNat with
  | none => none
  | some p =>
   if (decide (p.2.e = 0) && decide (stLeft xs p.2 = 0) && decide ((total (nZ xs).toNat p.1 : Int) = nT xs)) = false then none
   else some ⟨(nW xs).toNat, (nZ xs).toNat, (nL xs).toNat, idB xs, (nT xs).toNat, idT xs, p.1, pad_len _, pad_len _⟩
theorem At.stop {xs : List UInt8} {s : Rs} {ys zs : List UInt8} (h : At xs s ys zs) (h0 : stLeft xs s = 0) : xs = ys := by
 unfold stLeft at h0
 rw [if_pos h.e, h.len] at h0
 have : zs = [] := List.length_eq_zero_iff.1 (by omega)
 rw [h.x, this, List.append_nil]
theorem rdD_some {xs : List UInt8} {d : Dta} (h : rdD xs = some d) : OkD d ∧ xs = bodyD d := by
 unfold rdD at h
 split at h; · cases h
 rename_i h0
 split at h; · cases h
 rename_i p hp
 split at h; · cases h
 rename_i he
 injection h with h
 rw [Bool.not_eq_false] at h0 he
 simp only [rheadOk, Bool.and_eq_true, decide_eq_true_eq, isW, isZ, within_iff] at h0
 simp only [Bool.and_eq_true, decide_eq_true_eq] at he
 obtain ⟨⟨h2, ⟨⟨⟨he4, h3⟩, h4⟩, h5⟩⟩, ⟨⟨e7, h6⟩, h7⟩⟩ := h0
 have e6 : (s6 xs).e = 0 := num_e0 e7
 have e5 : (s5 xs).e = 0 := raw_e0 e6
 have eB : (sB xs).e = 0 := num_e0 e5
 have e4 : (s4 xs).e = 0 := raw_e0 eB
 have e3 : (s3 xs).e = 0 := num_e0 e4
 have e2 : (s2 xs).e = 0 := num_e0 e3
 have e1 : (s1 xs).e = 0 := num_e0 e2
 obtain ⟨m, z1, hm, _, _, a1⟩ := fix_bwd (At.start xs) (n := 1) (by omega) (by omega) e1
 have hm2 : m = 68 := by
  have : mk xs = (m : Int) := hm
  omega
 subst hm2
 obtain ⟨w, z2, hw, hw2, _, a2⟩ := num_bwd (s := s1 xs) a1 e2
 obtain ⟨z, z3, hz, hz2, _, a3⟩ := num_bwd (s := s2 xs) a2 e3
 obtain ⟨l, z4, hl, hl2, _, a4⟩ := num_bwd (s := s3 xs) a3 e4
 have hw : nW xs = (w : Int) := hw
 have hz : nZ xs = (z : Int) := hz
 have hl : nL xs = (l : Int) := hl
 have hwn : w ≤ 32 := by omega
 have hsB : sB xs = (stRaw xs (s4 xs) (w : Nat)).2 := by unfold sB; rw [hw]
 obtain ⟨z5, hr, _, a5⟩ := raw_bwd (s := s4 xs) (n := w) a4 (by rw [← hsB]; exact eB)
 rw [← hsB] at a5
 obtain ⟨t, z6, ht, ht2, _, a6⟩ := num_bwd (s := sB xs) a5 e5
 have ht : nT xs = (t : Int) := ht
 have hs6 : s6 xs = (stRaw xs (s5 xs) (w : Nat)).2 := by unfold s6; rw [hw]
 obtain ⟨z7, hr2, _, a7⟩ := raw_bwd (s := s5 xs) (n := w) a6 (by rw [← hs6]; exact e6)
 rw [← hs6] at a7
 obtain ⟨n, z8, hn, hn2, _, a8⟩ := num_bwd (s := s6 xs) a7 e7
 have hn : nI xs = (n : Int) := hn
 obtain ⟨hok, z9, a9⟩ := rdIs_bwd (s := s7 xs) a8 hp
 have hx := a9.stop he.1.2
 have hlen := rdIs_len hp
 rw [hn, Int.toNat_natCast] at hlen
 have hcb : cntB xs = l / z := by
  unfold cntB
  rw [hl, hz, ← Int.natCast_ediv, Int.toNat_natCast]
 have eB1 : idB xs = pad (stRaw xs (s4 xs) (w : Nat)).1 := by unfold idB; rw [hw]
 have eT1 : idT xs = pad (stRaw xs (s5 xs) (w : Nat)).1 := by unfold idT; rw [hw]
 have k1 : (nW xs).toNat = w := by omega
 have k2 : (nZ xs).toNat = z := by omega
 have k3 : (nL xs).toNat = l := by omega
 have k4 : (nT xs).toNat = t := by omega
 have d1 : d.width = w := by rw [← h]; exact k1
 have d2 : d.size = z := by rw [← h]; exact k2
 have d3 : d.blen = l := by rw [← h]; exact k3
 have d4 : d.tlen = t := by rw [← h]; exact k4
 have d5 : d.bid = pad (stRaw xs (s4 xs) (w : Nat)).1 := by rw [← h]; exact eB1
 have d6 : d.tid = pad (stRaw xs (s5 xs) (w : Nat)).1 := by rw [← h]; exact eT1
 have d7 : d.steps = p.1 := by rw [← h]
 have hbody : bodyD d = [] ++ Pure.fix 68 1 ++ Pure.enc w ++ Pure.enc z ++ Pure.enc l ++ (stRaw xs (s4 xs) (w : Nat)).1 ++ Pure.enc t ++ (stRaw xs (s5 xs) (w : Nat)).1 ++ Pure.enc n ++ p.1.flatMap encI := by
  unfold bodyD headD
  rw [d1, d2, d3, d4, d5, d6, d7, pad_take hr hwn, pad_take hr2 hwn, hlen]
  simp only [List.append_assoc, List.nil_append]
 refine ⟨⟨by omega, by omega, by omega, by omega, by omega, by omega, ?_, ?_, ?_, ?_, ?_⟩, ?_⟩
 ·rw [d1, d5]; exact pad_nought hr hwn
 ·rw [d1, d6]; exact pad_nought hr2 hwn
 ·rw [d7, hlen]; omega
 ·rw [d7, d2, d3, ← hcb]; exact hok
 ·rw [d7, d2, d4]
  have := he.2
  rw [k2, ht] at this
  omega
 ·rw [hbody]; exact hx
theorem rdD_body {d : Dta} (h : OkD d) : rdD (bodyD d) = some d := by
 obtain ⟨xs, hxs⟩ : ∃ xs, bodyD d = xs := ⟨_, rfl⟩
 have hW2 := h.w2
 have hx : xs = [] ++ (Pure.fix 68 1 ++ (Pure.enc d.width ++ (Pure.enc d.size ++ (Pure.enc d.blen ++ (d.bid.take d.width ++ (Pure.enc d.tlen ++ (d.tid.take d.width ++ (Pure.enc d.steps.length ++ (d.steps.flatMap encI ++ []))))))))) := by
  rw [← hxs]
  unfold bodyD headD
  simp only [List.append_assoc, List.nil_append, List.append_nil]
 have a0 : At xs ⟨0, 0, 0⟩ [] _ := ⟨rfl, rfl, hx⟩
 obtain ⟨f1, a1⟩ := fix_fwd a0 (by omega) (by omega) (by omega)
 have g1 : mk xs = 68 := congrArg Prod.fst f1
 obtain ⟨f2, a2⟩ := num_fwd (s := s1 xs) a1 (by omega)
 have g2 : nW xs = (d.width : Int) := congrArg Prod.fst f2
 obtain ⟨f3, a3⟩ := num_fwd (s := s2 xs) a2 (by have := h.z2; omega)
 have g3 : nZ xs = (d.size : Int) := congrArg Prod.fst f3
 obtain ⟨f4, a4⟩ := num_fwd (s := s3 xs) a3 (by have := h.b2; omega)
 have g4 : nL xs = (d.blen : Int) := congrArg Prod.fst f4
 have hbl : (d.bid.take d.width).length = d.width := by rw [List.length_take, d.hb]; omega
 have htl : (d.tid.take d.width).length = d.width := by rw [List.length_take, d.ht]; omega
 obtain ⟨f5, a5⟩ := raw_fwd (s := s4 xs) (n := d.width) a4 hbl
 have g5 : (stRaw xs (s4 xs) (nW xs)).1 = d.bid.take d.width := by rw [g2]; exact congrArg Prod.fst f5
 have hsB : sB xs = (stRaw xs (s4 xs) (d.width : Nat)).2 := by unfold sB; rw [g2]
 rw [← hsB] at a5
 obtain ⟨f6, a6⟩ := num_fwd (s := sB xs) a5 (by have := h.t2; omega)
 have g6 : nT xs = (d.tlen : Int) := congrArg Prod.fst f6
 obtain ⟨f7, a7⟩ := raw_fwd (s := s5 xs) (n := d.width) a6 htl
 have g7 : (stRaw xs (s5 xs) (nW xs)).1 = d.tid.take d.width := by rw [g2]; exact congrArg Prod.fst f7
 have hs6 : s6 xs = (stRaw xs (s5 xs) (d.width : Nat)).2 := by unfold s6; rw [g2]
 rw [← hs6] at a7
 obtain ⟨f8, a8⟩ := num_fwd (s := s6 xs) a7 (by have := h.few; omega)
 have g8 : nI xs = (d.steps.length : Int) := congrArg Prod.fst f8
 have hcb : cntB xs = d.blen / d.size := by
  unfold cntB
  rw [g3, g4, ← Int.natCast_ediv, Int.toNat_natCast]
 have hnb : cntB xs ≤ 131072 := by rw [hcb]; exact Nat.le_trans (Nat.div_le_self _ _) h.b2
 obtain ⟨s8, r1, r2⟩ := rdIs_fwd hnb d.steps (by rw [hcb]; exact h.ins) (s := s7 xs) a8 d.steps.length (Nat.le_refl _)
 rw [List.take_of_length_le (Nat.le_refl _)] at r1 r2
 rw [List.drop_of_length_le (Nat.le_refl _), List.flatMap_nil] at r2
 simp only [List.nil_append] at r2
 have hbody : bodyD d = Pure.fix 68 1 ++ Pure.enc d.width ++ Pure.enc d.size ++ Pure.enc d.blen ++ d.bid.take d.width ++ Pure.enc d.tlen ++ d.tid.take d.width ++ Pure.enc d.steps.length ++ d.steps.flatMap encI := by
  unfold bodyD headD
  simp only [List.append_assoc]
 rw [← hbody] at r2
 rw [hxs]
 have hle : s8.e = 0 := r2.e
 have hlf : stLeft xs s8 = 0 := by unfold stLeft; rw [if_pos hle, r2.len]; rfl
 have i0 : rheadOk xs = true := by
  simp only [rheadOk, Bool.and_eq_true, decide_eq_true_eq, isW, isZ, within_iff]
  have k4 : (s4 xs).e = 0 := a4.e
  have k7 : (s7 xs).e = 0 := a8.e
  rw [g1, g2, g3, g4, g6, g8]
  have := h.w1; have := h.z1; have := h.z2; have := h.b2; have := h.t2; have := h.few
  exact ⟨⟨rfl, ⟨⟨⟨k4, by omega⟩, by omega⟩, by omega⟩⟩, ⟨⟨k7, by omega⟩, by omega⟩⟩
 unfold rdD
 rw [i0, if_neg (by simp), g8, Int.toNat_natCast, r1]
 simp only
 have i1 : (decide (s8.e = 0) && decide (stLeft xs s8 = 0) && decide ((total (nZ xs).toNat d.steps : Int) = nT xs)) = true := by
  simp only [Bool.and_eq_true, decide_eq_true_eq]
  rw [g3, g6, Int.toNat_natCast, h.sum]
  exact ⟨⟨hle, hlf⟩, rfl⟩
 rw [i1, if_neg (by simp)]
 congr 1
 refine Dta.ext' (by show (nW xs).toNat = _; omega) (by show (nZ xs).toNat = _; omega) (by show (nL xs).toNat = _; omega) ?_ (by show (nT xs).toNat = _; omega) ?_ rfl
 ·show pad (stRaw xs (s4 xs) (nW xs)).1 = d.bid
  rw [g5]; exact pad_of_nought d.hb h.nb hW2
 ·show pad (stRaw xs (s5 xs) (nW xs)).1 = d.tid
  rw [g7]; exact pad_of_nought d.ht h.nt hW2
theorem decD_rdD (xs : List UInt8) : decD xs = (openB xs).bind rdD := by
 cases h : decD xs with
 | some d =>
  obtain ⟨h1, h2, h3⟩ := decD_some h
  subst h2
  have := openB_sealed (ys := bodyD d) h3
  unfold encD
  rw [this, Option.bind_some, rdD_body h1]
 | none =>
  cases ho : openB xs with
  | none => rfl
  | some ys =>
   rw [Option.bind_some]
   cases hr : rdD ys with
   | none => rfl
   | some d =>
    obtain ⟨h1, h2⟩ := rdD_some hr
    obtain ⟨h3, h4⟩ := openB_some ho
    have : xs = encD d := by rw [h3, h2]; rfl
    rw [this] at h4
    have h5 := decD_enc h1 h4
    rw [← this, h] at h5
    cases h5
end Dlt
end

end Go.Proofs.YtmklodligplbaabGreat
