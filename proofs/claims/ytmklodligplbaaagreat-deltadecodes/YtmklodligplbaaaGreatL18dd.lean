import Derived.Test.YtmklodligplbaaaGreatL18ad
import Derived.Deep.QuietTactic
import Derived.BigQuiet
import Derived.Test.YtmklodligplbaaaGreatD8cd
namespace Go.Proofs.YtmklodligplbaaaGreat
section
open Go.RowKit
open Dlt
set_option linter.unusedVariables false
set_option linter.unusedSimpArgs false
theorem i64_xor_nat (a b : Nat) (ha : a < 9223372036854775808) (hb : b < 9223372036854775808) : bits .xor .i64 (a : Int) (b : Int) = ((a ^^^ b : Nat) : Int) := by
 show IntKind.i64.wrap ((BitVec.ofInt 64 (a : Int) ^^^ BitVec.ofInt 64 (b : Int)).toNat : Int) = _
 have h : a ^^^ b < 9223372036854775808 := Nat.xor_lt_two_pow (n := 63) ha hb
 rw [BitVec.toNat_xor, ofInt_u64 a (by omega), ofInt_u64 b (by omega)]
 simp [IntKind.wrap, IntKind.bits, IntKind.signed]
 split <;> omega
theorem Ts_succ' (k y : Nat) : Pure.Ts (k + 1) y = Pure.T (Pure.Ts k y) := by
 rw [Pure.Ts_add k 1]; rfl
theorem Ts_lt (k : Nat) {y : Nat} (h : y < 4294967296) : Pure.Ts k y < 4294967296 := by
 induction k with
 | zero => exact h
 | succ k ih => rw [Ts_succ']; exact Pure.T_lt ih
set_option maxHeartbeats 2000000 in
set_option maxRecDepth 100000 in
theorem rcrc_some (b off n cap : Nat) (xs : List UInt8) (w : World) (hn : xs.length = n) (hm : n ≤ 9223372036854775807) (hc : ∀ i, i < xs.length → w.cell? ⟨b, off + i, none⟩ = some (.int .u8 (xs.getD i 0).toNat)) :
  Calls Tryz.prog 56 #[.slice (some ⟨b, off, none⟩) n cap] w fun e w' => e = .returned (.int .i64 (Pure.sum xs)) ∧ w' = w := by
 go_enter Tryz.func56, Tryz.ntmps56
 go_wp2
 go_loop [3, 4] (fun r i => ∃ k : Nat, k ≤ n ∧ i = .int .i64 k ∧ r = .int .i64 (Pure.crc 4294967295 (xs.take k))) (fun r i => n - (intOf i).toNat)
 case atStart => exact ⟨0, Nat.zero_le _, rfl, rfl⟩
 case round =>
  obtain ⟨k, hk, rfl, rfl⟩ := hrel
  have hx1 : Pure.crc 4294967295 (xs.take k) < 4294967296 := Pure.crc_lt (by omega) _
  by_cases hlt : k < n
  ·have hcell := hc k (by omega)
   have hcb : (xs.getD k 0).toNat < 256 := UInt8.toNat_lt _
   have HS : Hid (Pure.crc 4294967295 (xs.take (k + 1)) = Pure.Ts 8 (Pure.crc 4294967295 (xs.take k) ^^^ (xs.getD k 0).toNat)) := by
    show _ = _
    rw [Pure.take_snoc xs 0 k (by omega), Pure.crc_snoc, Pure.crcStep_turns]
   generalize Pure.crc 4294967295 (xs.take k) = x at hx1 HS ⊢
   generalize (xs.getD k 0).toNat = c at hcell hcb HS
   have e1 := i64_xor_nat x c (by omega) (by omega)
   have b1 := Pure.xor_lt32 hx1 (show c < 4294967296 by omega)
   generalize x ^^^ c = y at e1 b1 HS
   clear hc
   go_wp2
   go_loop [3, 5] (fun r j => ∃ m : Nat, m ≤ 8 ∧ j = .int .i64 m ∧ r = .int .i64 (Pure.Ts m y)) (fun r j => 8 - (intOf j).toNat)
   case atStart => exact ⟨0, Nat.zero_le _, rfl, rfl⟩
   case round =>
    obtain ⟨m, hm8, rfl, rfl⟩ := hrel
    have hz := Ts_lt m b1
    by_cases hm : m < 8
    ·have HT : Hid (Pure.Ts (m + 1) y = Pure.T (Pure.Ts m y)) := Ts_succ' m y
     generalize Pure.Ts m y = z at hz HT ⊢
     by_cases ho : z % 2 = 1
     ·have g1 : ((z : Int) % 2 == 1) = true := by simp; omega
      have e2 : bits .xor .i64 ((z : Int) / 2) 3988292384 = ((z / 2 ^^^ 3988292384 : Nat) : Int) := by
       rw [show ((z : Int) / 2) = ((z / 2 : Nat) : Int) by omega]
       exact i64_xor_nat (z / 2) 3988292384 (by omega) (by omega)
      have HT2 : Hid (Pure.Ts (m + 1) y = z / 2 ^^^ 3988292384) := by
       have := HT.out
       unfold Pure.T at this
       rw [if_pos ho] at this
       exact this
      generalize z / 2 ^^^ 3988292384 = z2 at e2 HT2
      go_wp2
      go_round
      case rel => exact ⟨m + 1, by omega, by go_num, by rw [HT2.out]⟩
      case measure => simp [intOf]; omega
     ·have g1 : ((z : Int) % 2 == 1) = false := by simp; omega
      have HT2 : Hid (Pure.Ts (m + 1) y = z / 2) := by
       have := HT.out
       unfold Pure.T at this
       rw [if_neg ho, Nat.xor_zero] at this
       exact this
      go_wp2
      go_round
      case rel => exact ⟨m + 1, by omega, by go_num, by rw [HT2.out]; go_num⟩
      case measure => simp [intOf]; omega
    ·obtain rfl : m = 8 := by omega
     go_wp2
     go_round
     case rel => exact ⟨k + 1, by omega, by go_num, by rw [HS.out]⟩
     case measure => simp [intOf]; omega
  ·have HT : Hid (xs.take k = xs) := List.take_of_length_le (by omega)
   clear hc
   go_wp2
   go_ret
   exact ⟨ret_int (by have h8 := hx1; have h9 := HT.out; unfold Pure.sum; rw [h9] at h8 ⊢; omega), rfl⟩
set_option maxHeartbeats 2000000 in
set_option maxRecDepth 100000 in
theorem rcrc_none (ao : Option Addr) (cap : Nat) (w : World) :
  Calls Tryz.prog 56 #[.slice ao 0 cap] w fun e w' => e = .returned (.int .i64 (Pure.sum [])) ∧ w' = w := by
 go_enter Tryz.func56, Tryz.ntmps56
 go_wp2
 go_loop [3, 4] (fun r i => i = .int .i64 0 ∧ r = .int .i64 4294967295) (fun r i => 0)
 case atStart => exact ⟨rfl, rfl⟩
 case round =>
  obtain ⟨rfl, rfl⟩ := hrel
  go_wp2
  go_ret
  exact ⟨rfl, rfl⟩
theorem rcrc_n (ao : Option Addr) (n cap : Nat) (xs : List UInt8) (w : World) (hn : xs.length = n) (hm : n ≤ 9223372036854775807) (h : Sl w ao xs) :
  Calls Tryz.prog 56 #[.slice ao n cap] w fun e w' => e = .returned (.int .i64 (Pure.sum xs)) ∧ w' = w := by
 by_cases h0 : xs = []
 ·subst h0
  obtain rfl : n = 0 := by simpa using hn.symm
  exact rcrc_none ao cap w
 ·obtain ⟨b, off, rfl, hb, hc⟩ := h.open h0
  exact rcrc_some b off n cap xs w hn hm hc
set_option maxHeartbeats 1600000 in
set_option maxRecDepth 100000 in
theorem rnoughts_ok (W : Nat) (id : List UInt8) (w : World) (hW : W ≤ 32) (hl : id.length = 32) :
  Calls Tryz.prog 59 #[.agg (bys id).toArray, .int .i64 W] w fun e w' => e = .returned (.bool (nought W id)) ∧ Kept [] w w' := by
 have hrow := heap_new w (.cells (bys id).toArray 26)
 have hK : Kept [] w (w.alloc (.cells (bys id).toArray 26)) := (Kept.refl [] w).alloc _
 obtain ⟨G, hG⟩ : ∃ G, w.heap.size = G := ⟨_, rfl⟩
 rw [hG] at hrow
 have HC : Hid (∀ k, k < 32 → (w.alloc (.cells (bys id).toArray 26)).cell? ⟨G, k, none⟩ = some (.int .u8 (id.getD k 0).toNat)) := fun k hk => by
  rw [cell_of_row _ _ _ _ _ _ hrow, List.getElem?_toArray]
  exact bys_at (by omega)
 have HL := hide hl
 clear hrow hl
 go_enter Tryz.func59, Tryz.ntmps59
 go_upto_region 1 with (fail)
 clear hG
 generalize w.alloc (.cells (bys id).toArray 26) = w1 at *
 go_wp2
 go_loopw [5] (fun x wr => ∃ k j : Nat, j = W + k ∧ j ≤ 32 ∧ x = .int .i64 j ∧ wr = w1 ∧ Hid (((id.drop W).take k).all (· == 0) = true)) (fun x wr => 32 - (intOf x).toNat)
 case atStart => exact ⟨0, W, rfl, hW, rfl, rfl, rfl⟩
 case round =>
  obtain ⟨k, j, hj, hj32, rfl, hwr, HA⟩ := hrel
  subst hwr
  have HJ := hide hj
  clear hj
  by_cases hlt : j < 32
  ·have hc := HC.out j hlt
   have HST : Hid (id.getD j 0 = 0 → ((id.drop W).take (k + 1)).all (· == 0) = true) := fun hz => nought_step HL.out (by have := HJ.out; omega) (by rw [← HJ.out]; exact hz) HA.out
   have HN0 : Hid (id.getD j 0 ≠ 0 → nought W id = false) := fun hz => by
    apply Bool.eq_false_iff.2
    intro hn
    apply hz
    have hL := HL.out
    have hJ := HJ.out
    have hmem : id.getD j 0 ∈ id.drop W := by
     have e : (id.drop W)[k]'(by rw [List.length_drop]; omega) = id.getD j 0 := by
      rw [List.getElem_drop, List.getD, List.getElem?_eq_getElem (by omega), Option.getD_some]
      congr 1
      exact hJ.symm
     rw [← e]; exact List.getElem_mem _
    have := List.all_eq_true.1 hn _ hmem
    simpa using this
   have hb : (id.getD j 0).toNat < 256 := UInt8.toNat_lt _
   by_cases h0 : id.getD j 0 = 0
   ·rw [h0] at hc
    have H1 := hide (HST.out h0)
    clear h0 hb HN0 HST
    have hc' : wr.cell? ⟨G, j, none⟩ = some (.int .u8 0) := hc
    clear hc
    go_wp2
    go_roundw
    case rel => exact ⟨k + 1, j + 1, by rw [HJ.out]; rfl, by omega, by go_num, by first | rfl | trivial, H1⟩
    case measure => simp [intOf]; omega
   ·have H1 := hide (HN0.out h0)
    have hne : (id.getD j 0).toNat ≠ 0 := fun h => h0 (UInt8.toNat_inj.1 h)
    generalize (id.getD j 0).toNat = c at hc hb hne
    have hne' : ((c : Int) != 0) = true := by simp; omega
    clear h0 HN0 HST hne
    go_wp2
    go_ret
    exact ⟨by rw [H1.out]; rfl, hK⟩
  ·have HN1 : Hid (nought W id = true) := by
    have h := HA.out
    rw [List.take_of_length_le (by rw [List.length_drop, HL.out]; have := HJ.out; omega)] at h
    exact h
   clear HA
   go_wp2
   go_ret
   exact ⟨by rw [HN1.out]; rfl, hK⟩
end

section
namespace Dlt
def openB (xs : List UInt8) : Option (List UInt8) :=
 if xs.length < 4 ∨ 131072 < xs.length then none
 else if Pure.be (xs.drop (xs.length - 4)) = Pure.sum (xs.take (xs.length - 4)) then some (xs.take (xs.length - 4)) else none
theorem openB_some {xs ys : List UInt8} (h : openB xs = some ys) : xs = sealed ys ∧ xs.length ≤ 131072 := by
 unfold openB at h
 split at h; · cases h
 rename_i h1
 split at h
 ·rename_i h2
  injection h with h
  subst h
  refine ⟨?_, by omega⟩
  have hk : (xs.drop (xs.length - 4)).length = 4 := by rw [List.length_drop]; omega
  have hf := Pure.fix_be (xs.drop (xs.length - 4))
  rw [hk, h2] at hf
  unfold sealed
  rw [hf, List.take_append_drop]
 ·cases h
theorem openB_sealed {ys : List UInt8} (h : (sealed ys).length ≤ 131072) : openB (sealed ys) = some ys := by
 have hl : (sealed ys).length = ys.length + 4 := by unfold sealed; rw [List.length_append, Pure.fix_len]
 have ht : (sealed ys).take ((sealed ys).length - 4) = ys := by rw [hl]; unfold sealed; simp
 have hd : (sealed ys).drop ((sealed ys).length - 4) = Pure.fix (Pure.sum ys) 4 := by rw [hl]; unfold sealed; simp
 unfold openB
 have hs : Pure.sum ys < 256 ^ 4 := by unfold Pure.sum; omega
 rw [if_neg (by omega), ht, hd, Pure.be_fix, Nat.mod_eq_of_lt hs, if_pos rfl]
theorem At.stop {xs : List UInt8} {s : Rs} {ys zs : List UInt8} (h : At xs s ys zs) (h0 : stLeft xs s = 0) : xs = ys := by
 unfold stLeft at h0
 rw [if_pos h.e, h.len] at h0
 have : zs = [] := List.length_eq_zero_iff.1 (by omega)
 rw [h.x, this, List.append_nil]
def rsigOf (xs : List UInt8) (k : Nat) : Sig := ⟨nW xs, nZ xs, nL xs, idB xs, (rdWs xs (nW xs) (sB xs) k).1, pad_len _⟩
def rheadS (xs : List UInt8) : Bool := decide (mk xs = 83) && (decide ((s4 xs).e = 0) && isW (nW xs) && isZ (nZ xs))
theorem rdS_some {xs : List UInt8} {k : Nat} (h0 : rheadS xs = true) (he : (rdWs xs (nW xs) (sB xs) k).2.e = 0) (hlf : stLeft xs (rdWs xs (nW xs) (sB xs) k).2 = 0) : xs = bodyS (rsigOf xs k) := by
 simp only [rheadS, Bool.and_eq_true, decide_eq_true_eq, isW, isZ, within_iff] at h0
 obtain ⟨h2, ⟨⟨e4, h3⟩, h4⟩⟩ := h0
 have eB : (sB xs).e = 0 := rdWs_e he
 have e3 : (s3 xs).e = 0 := num_e0 e4
 have e2 : (s2 xs).e = 0 := num_e0 e3
 have e1 : (s1 xs).e = 0 := num_e0 e2
 obtain ⟨m, z1, hm, _, _, a1⟩ := fix_bwd (At.start xs) (n := 1) (by omega) (by omega) e1
 have hm2 : m = 83 := by
  have : mk xs = (m : Int) := hm
  omega
 subst hm2
 obtain ⟨w, z2, hw, hw2, _, a2⟩ := num_bwd (s := s1 xs) a1 e2
 obtain ⟨z, z3, hz, hz2, _, a3⟩ := num_bwd (s := s2 xs) a2 e3
 obtain ⟨l, z4, hl, hl2, _, a4⟩ := num_bwd (s := s3 xs) a3 e4
 have hw : nW xs = (w : Int) := hw
 have hz : nZ xs = (z : Int) := hz
 have hl : nL xs = (l : Int) := hl
 have hwn : w ≤ 32 := by omega
 have eB' : (stRaw xs (s4 xs) (w : Nat)).2.e = 0 := by rw [← hw]; exact eB
 obtain ⟨z5, hr, _, a5⟩ := raw_bwd (s := s4 xs) (n := w) a4 eB'
 have hq : (rdWs xs (w : Nat) (stRaw xs (s4 xs) (w : Nat)).2 k).2.e = 0 := by rw [← hw]; exact he
 obtain ⟨z6, hk, a6⟩ := rdWs_bwd hwn a5 k hq
 have hx := a6.stop (by rw [← hw]; exact hlf)
 have hb1 : (rsigOf xs k).blocks = (rdWs xs (w : Nat) (stRaw xs (s4 xs) (w : Nat)).2 k).1 := by
  show (rdWs xs (nW xs) (sB xs) k).1 = _
  rw [sB, hw]
 have hb2 : (rsigOf xs k).base = pad (stRaw xs (s4 xs) (w : Nat)).1 := by
  show idB xs = _
  rw [idB, hw]
 have hw3 : (rsigOf xs k).width.toNat = w := by show (nW xs).toNat = w; omega
 have hbody : bodyS (rsigOf xs k) = [] ++ Pure.fix 83 1 ++ Pure.enc w ++ Pure.enc z ++ Pure.enc l ++ (stRaw xs (s4 xs) (w : Nat)).1 ++ (rdWs xs (w : Nat) (stRaw xs (s4 xs) (w : Nat)).2 k).1.flatMap (encW w) := by
  unfold bodyS headS
  rw [hw3, hb1, hb2, pad_take hr hwn]
  have h1 : (rsigOf xs k).size.toNat = z := by show (nZ xs).toNat = z; omega
  have h2 : (rsigOf xs k).length.toNat = l := by show (nL xs).toNat = l; omega
  rw [h1, h2]
  rfl
 rw [hbody]; exact hx
theorem rdS_body {s : Sig} (h : May s) : rheadS (bodyS s) = true ∧ ∀ k, k ≤ s.blocks.length → (rdWs (bodyS s) (nW (bodyS s)) (sB (bodyS s)) k).2.e = 0 ∧ (stLeft (bodyS s) (rdWs (bodyS s) (nW (bodyS s)) (sB (bodyS s)) k).2 = 0 → k = s.blocks.length) ∧ (k = s.blocks.length → stLeft (bodyS s) (rdWs (bodyS s) (nW (bodyS s)) (sB (bodyS s)) k).2 = 0 ∧ rsigOf (bodyS s) k = s) := by
 obtain ⟨W, hW⟩ := Int.eq_ofNat_of_zero_le (show 0 ≤ s.width by have := h.w1; omega)
 obtain ⟨Z, hZ⟩ := Int.eq_ofNat_of_zero_le (show 0 ≤ s.size by have := h.z1; omega)
 obtain ⟨N, hN⟩ := Int.eq_ofNat_of_zero_le h.l1
 have hW2 : W ≤ 32 := by have := h.w2; omega
 obtain ⟨xs, hxs⟩ : ∃ xs, bodyS s = xs := ⟨_, rfl⟩
 have hx : xs = [] ++ (Pure.fix 83 1 ++ (Pure.enc W ++ (Pure.enc Z ++ (Pure.enc N ++ (s.base.take W ++ (s.blocks.flatMap (encW W) ++ [])))))) := by
  rw [← hxs]
  unfold bodyS headS
  rw [hW, hZ, hN]
  simp only [Int.toNat_natCast, List.append_assoc, List.nil_append, List.append_nil]
  rfl
 have a0 : At xs ⟨0, 0, 0⟩ [] (Pure.fix 83 1 ++ (Pure.enc W ++ (Pure.enc Z ++ (Pure.enc N ++ (s.base.take W ++ (s.blocks.flatMap (encW W) ++ [])))))) := ⟨rfl, rfl, hx⟩
 obtain ⟨f1, a1⟩ := fix_fwd a0 (by omega) (by omega) (by omega)
 have g1 : mk xs = 83 := congrArg Prod.fst f1
 have a1 : At xs (s1 xs) ([] ++ Pure.fix 83 1) _ := a1
 obtain ⟨f2, a2⟩ := num_fwd a1 (by omega)
 have g2 : nW xs = (W : Int) := congrArg Prod.fst f2
 have a2 : At xs (s2 xs) _ _ := a2
 obtain ⟨f3, a3⟩ := num_fwd a2 (by have := h.z2; omega)
 have g3 : nZ xs = (Z : Int) := congrArg Prod.fst f3
 have a3 : At xs (s3 xs) _ _ := a3
 obtain ⟨f4, a4⟩ := num_fwd a3 (by have := h.l2; omega)
 have g4 : nL xs = (N : Int) := congrArg Prod.fst f4
 have a4 : At xs (s4 xs) _ _ := a4
 have hbl : (s.base.take W).length = W := by rw [List.length_take, s.hb]; omega
 obtain ⟨f5, a5⟩ := raw_fwd (n := W) a4 hbl
 have g5 : (stRaw xs (s4 xs) (nW xs)).1 = s.base.take W := by rw [g2]; exact congrArg Prod.fst f5
 have hsB : sB xs = (stRaw xs (s4 xs) (W : Nat)).2 := by unfold sB; rw [g2]
 rw [← hsB] at a5
 rw [hxs]
 have hwt : s.width.toNat = W := by omega
 have hks := h.bks
 rw [hwt] at hks
 refine ⟨?_, fun k hk => ?_⟩
 ·simp only [rheadS, Bool.and_eq_true, decide_eq_true_eq, isW, isZ, within_iff]
  have k4 : (s4 xs).e = 0 := a4.e
  rw [g1, g2, g3]
  have := h.w1; have := h.w2; have := h.z1; have := h.z2
  exact ⟨rfl, ⟨⟨k4, by omega⟩, by omega⟩⟩
 ·obtain ⟨r1, r2⟩ := rdWs_fwd hW2 s.blocks hks a5 k hk
  rw [g2]
  have hlen := r2.len
  have hll : stLeft xs (rdWs xs (W : Nat) (sB xs) k).2 = (((4 + W) * (s.blocks.length - k) : Nat) : Int) := by
   unfold stLeft
   rw [if_pos r2.e, hlen, List.append_nil, encWs_len hW2, List.length_drop]
  refine ⟨r2.e, fun h0 => ?_, fun hkn => ⟨?_, ?_⟩⟩
  ·rw [hll] at h0
   have : (4 + W) * (s.blocks.length - k) = 0 := by omega
   rcases Nat.mul_eq_zero.1 this with h1 | h1 <;> omega
  ·rw [hll, hkn, Nat.sub_self, Nat.mul_zero]; rfl
  ·refine Sig.ext' (by show nW xs = _; rw [g2, hW]) (by show nZ xs = _; rw [g3, hZ]) (by show nL xs = _; rw [g4, hN]) ?_ ?_
   ·show pad (stRaw xs (s4 xs) (nW xs)).1 = s.base
    have := h.bas
    rw [hwt] at this
    rw [g5]; exact pad_of_nought s.hb this hW2
   ·show (rdWs xs (nW xs) (sB xs) k).1 = s.blocks
    rw [g2, r1, hkn, List.take_of_length_le (Nat.le_refl _)]
structure StopS (xs : List UInt8) (k : Nat) : Prop where
 was : ∀ j, j < k → (rdWs xs (nW xs) (sB xs) j).2.e = 0 ∧ stLeft xs (rdWs xs (nW xs) (sB xs) j).2 ≠ 0
 end_ : (rdWs xs (nW xs) (sB xs) k).2.e = 0 → stLeft xs (rdWs xs (nW xs) (sB xs) k).2 = 0
theorem decS_yes {xs ys : List UInt8} {k : Nat} (ho : openB xs = some ys) (h0 : rheadS ys = true) (hs : StopS ys k) (he : (rdWs ys (nW ys) (sB ys) k).2.e = 0) (hm : may (rsigOf ys k) = true) : decS xs = some (rsigOf ys k) := by
 have h1 := rdS_some h0 he (hs.end_ he)
 obtain ⟨h3, _⟩ := openB_some ho
 have : xs = encS (rsigOf ys k) := by rw [h3, encS, ← h1]
 rw [this, decS_enc (may_iff.1 hm)]
theorem decS_no_open {xs : List UInt8} (ho : openB xs = none) : decS xs = none := by
 cases h : decS xs with
 | none => rfl
 | some s =>
  obtain ⟨h1, h2⟩ := decS_some h
  have := openB_sealed (ys := bodyS s) (by have h3 := encS_len h1; unfold encS at h3; omega)
  unfold encS at h2
  rw [← h2, ho] at this
  cases this
theorem decS_no_head {xs ys : List UInt8} (ho : openB xs = some ys) (h0 : rheadS ys = false) : decS xs = none := by
 cases h : decS xs with
 | none => rfl
 | some s =>
  obtain ⟨h1, h2⟩ := decS_some h
  have := openB_sealed (ys := bodyS s) (by have h3 := encS_len h1; unfold encS at h3; omega)
  unfold encS at h2
  rw [← h2, ho] at this
  injection this with this
  subst this
  rw [(rdS_body h1).1] at h0
  cases h0
theorem decS_no {xs ys : List UInt8} {k : Nat} (ho : openB xs = some ys) (hs : StopS ys k) (hb : ¬ ((rdWs ys (nW ys) (sB ys) k).2.e = 0 ∧ may (rsigOf ys k) = true)) : decS xs = none := by
 cases h : decS xs with
 | none => rfl
 | some s =>
  obtain ⟨h1, h2⟩ := decS_some h
  have := openB_sealed (ys := bodyS s) (by have h3 := encS_len h1; unfold encS at h3; omega)
  unfold encS at h2
  rw [← h2, ho] at this
  injection this with this
  subst this
  obtain ⟨_, hB⟩ := rdS_body h1
  have hk : k ≤ s.blocks.length := by
   apply Classical.byContradiction; intro hc
   exact (hs.was s.blocks.length (by omega)).2 ((hB _ (Nat.le_refl _)).2.2 rfl).1
  obtain ⟨h3, h4, h5⟩ := hB k hk
  have h6 := h4 (hs.end_ h3)
  exact absurd ⟨h3, by rw [(h5 h6).2]; exact may_iff.2 h1⟩ hb
end Dlt
end

end Go.Proofs.YtmklodligplbaaaGreat
