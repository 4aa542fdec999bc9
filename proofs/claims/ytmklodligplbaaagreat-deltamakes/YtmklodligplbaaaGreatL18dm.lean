import Derived.Test.YtmklodligplbaaaGreatL18am
import Derived.Deep.QuietTactic
import Derived.BigQuiet
open Go.RowKit
set_option linter.unusedVariables false
set_option linter.unusedSimpArgs false
set_option maxRecDepth 100000
set_option maxHeartbeats 51200000
namespace Go.Proofs.YtmklodligplbaaaGreat
open Dlt
theorem made_bytes (m : Nat) : (madeCells #[.int .u8 0] m).toList = bys (List.replicate m 0) := by
 apply List.ext_getElem
 ·simp [madeCells, bys]
 ·intro i h1 h2
  simp [madeCells, bys, Nat.mod_one]
theorem i64_xor_nat (a b : Nat) (ha : a < 9223372036854775808) (hb : b < 9223372036854775808) : bits .xor .i64 (a : Int) (b : Int) = ((a ^^^ b : Nat) : Int) := by
 show IntKind.i64.wrap ((BitVec.ofInt 64 (a : Int) ^^^ BitVec.ofInt 64 (b : Int)).toNat : Int) = _
 have h : a ^^^ b < 9223372036854775808 := Nat.xor_lt_two_pow (n := 63) ha hb
 rw [BitVec.toNat_xor, ofInt_u64 a (by omega), ofInt_u64 b (by omega)]
 simp [IntKind.wrap, IntKind.bits, IntKind.signed]
 split <;> omega
theorem Ts_succ' (k y : Nat) : Pure.Ts (k + 1) y = Pure.T (Pure.Ts k y) := by
 rw [Pure.Ts_add k 1]; rfl
theorem Ts_lt (k : Nat) {y : Nat} (h : y < 4294967296) : Pure.Ts k y < 4294967296 := by
 induction k with
 | zero => exact h
 | succ k ih => rw [Ts_succ']; exact Pure.T_lt ih
structure EncRel (w wr : World) (v : Nat) (vb : Value) (ys : List UInt8) (x : Nat) : Prop where
 own : wr.ownsRow w.heap.size 5 1 vb ys.length (bys ys)
 eq : Pure.enc v = ys ++ Pure.enc x
 kept : Kept [] w wr
theorem one_cells8 (w : World) (c : Value) (t : TypeId) (fr : Nat × Nat) : ∀ (j : Nat) (u : Value), [c][j]? = some u -> (w.alloc (.cells #[c] t fr)).cell? ((⟨w.heap.size, 0, none⟩ : Addr).add j) = some u := by
 intro j u hu
 cases j with
 | zero =>
  simp at hu
  subst hu
  rw [Addr.add_mid, Nat.zero_add, World.cell?_alloc_mark]
  simp
 | succ j => simp at hu
theorem bys_one8 (c : UInt8) (n : Int) (h : n = (c.toNat : Int)) : [Value.int .u8 n] = bys [c] := by rw [h]; rfl
theorem refnumber_ok (v : Nat) (hv : v <= 2147483647) (w : World) :
  Calls Tryz.prog 75 #[.int .i64 v] w fun e w' => ∃ vb, e = .returned vb ∧ vb ≠ .slice none 0 0 ∧ w'.ownsRow w.heap.size 5 1 vb (Pure.enc v).length (bys (Pure.enc v)) ∧ Kept [] w w' := by
 obtain ⟨i0, hi, hz0, hz1, hz2⟩ := info_parts Tryz.infoByte
 have HI : Hid (EncRel w w v (.slice none 0 0) [] v) := ⟨World.ownsRow_nil _ _ _ _, rfl, Kept.refl _ _⟩
 go_enter Tryz.func75, Tryz.ntmps75
 go_wp2
 go_loopw [0, 3] (fun a b wr => ∃ (x : Nat) (ys : List UInt8), x <= 2147483647 ∧ ys.length <= 5 ∧ a = .int .i64 x ∧ Hid (EncRel w wr v b ys x)) (fun a b wr => (intOf a).toNat)
 case atStart => exact ⟨v, [], hv, by simp, rfl, HI⟩
 case round =>
  clear HI
  obtain ⟨x, ys, hx, hys, rfl, HR⟩ := hrel
  have HE5 : Hid (ys.length + (Pure.enc x).length <= 5) := by
   have h1 := Pure.enc_len5 hv
   rw [HR.out.eq, List.length_append] at h1
   exact h1
  by_cases h128 : 128 <= x
  ·go_wp2_with (at_builtin; refine wpList_append_own _ rfl _ _ 22 rfl w.heap.size 5 i0 (.int .u8 0) 1 1 Tryz.underlying22 hi hz0 hz1 hz2 rfl (by decide) _ _ _ rfl (HR.out.own.alloc _) ⟨wr.heap.size, 0, none⟩ 1 1 [.int .u8 (128 + (x : Int) % 128)] rfl rfl (one_cells8 _ _ _ _) (by simp [Value.oneCell']) ?c3 ?c4 ?c5 ?_)
   case c3 => unfold maxLen; omega
   case c4 => omega
   case c5 => have := HR.out.kept.size; simp; omega
   intro v' w1 hown hgrow hnn
   have HR2 : Hid (EncRel w w1 v v' (ys ++ [UInt8.ofNat (x % 128 + 128)]) (x / 128)) := by
    refine ⟨?_, ?_, ?_⟩
    ·have h1 := hown
     rw [bys_one8 (UInt8.ofNat (x % 128 + 128)) _ (by rw [Pure.toNat_ofNat_small (by omega)]; omega), <-bys_append] at h1
     simpa using h1
    ·rw [HR.out.eq, Pure.enc_more (by omega)]
     simp
    ·exact (HR.out.kept.alloc _).grown hgrow (fun k hk hlt => by have := (HR.out.own.lt k hk).1; omega)
   have hl2 : (ys ++ [UInt8.ofNat (x % 128 + 128)]).length <= 5 := by
    have h1 := HE5.out
    rw [Pure.enc_more (by omega)] at h1
    simp at h1 ⊢
    omega
   clear hown hgrow hnn HR HE5
   go_wp2
   go_roundw
   case rel => exact ⟨x / 128, _, by omega, hl2, by go_num, HR2⟩
   case measure => simp [intOf]; omega
  ·go_wp2_with (at_builtin; refine wpList_append_own _ rfl _ _ 22 rfl w.heap.size 5 i0 (.int .u8 0) 1 1 Tryz.underlying22 hi hz0 hz1 hz2 rfl (by decide) _ _ _ rfl (HR.out.own.alloc _) ⟨wr.heap.size, 0, none⟩ 1 1 [.int .u8 (x : Int)] rfl rfl (one_cells8 _ _ _ _) (by simp [Value.oneCell']) ?c3 ?c4 ?c5 ?_)
   case c3 => unfold maxLen; omega
   case c4 => omega
   case c5 => have := HR.out.kept.size; simp; omega
   intro v' w1 hown hgrow hnn
   have HR2 : Hid (w1.ownsRow w.heap.size 5 1 v' (Pure.enc v).length (bys (Pure.enc v)) ∧ Kept [] w w1 ∧ v' ≠ .slice none 0 0) := by
    refine ⟨?_, ?_, fun h => ?_⟩
    ·have h1 := hown
     rw [bys_one8 (UInt8.ofNat x) _ (by rw [Pure.toNat_ofNat_small (by omega)]), <-bys_append] at h1
     rw [HR.out.eq, Pure.enc_small (by omega)]
     simpa using h1
    ·exact (HR.out.kept.alloc _).grown hgrow (fun k hk hlt => by have := (HR.out.own.lt k hk).1; omega)
    ·exact hnn h
   clear hown hgrow hnn HR HE5
   go_wp2
   go_ret
   exact ⟨v', rfl, HR2.out.2.2, HR2.out.1, HR2.out.2.1⟩
theorem pow256_le {k : Nat} (h : k <= 4) : 256 ^ k <= 4294967296 := by
 obtain rfl | rfl | rfl | rfl | rfl : k = 0 ∨ k = 1 ∨ k = 2 ∨ k = 3 ∨ k = 4 := by omega
 all_goals decide
structure FixRel (w wr : World) (v n : Nat) (j z : Nat) : Prop where
 row : ∃ R : List UInt8, wr.heap[w.heap.size]? = some (.cells (bys R).toArray 5 (0, 0)) ∧ R.length = n ∧ R.drop j = Pure.fix v (n - j)
 eq : z = v / 256 ^ (n - j)
 kept : Kept [] w wr
theorem FixRel.step {w wr : World} {v n j z : Nat} (h : FixRel w wr v n (j + 1) z) (hj : j + 1 <= n) : FixRel w (wr.setCell ⟨w.heap.size, j, none⟩ (.int .u8 (z % 256 : Nat))) v n j (z / 256) := by
 obtain ⟨R, hr, hl, hd⟩ := h.row
 refine ⟨⟨R.set j (UInt8.ofNat (z % 256)), ?_, by simpa using hl, ?_⟩, ?_, h.kept.setCell (by simp) _⟩
 ·rw [heap_setCell_same _ _ _ _ _ _ hr]
  simp only [List.setIfInBounds_toArray]
  congr 3
  rw [<-bys_set, Pure.toNat_ofNat_small (by omega)]
 ·have e1 : n - j = (n - (j + 1)) + 1 := by omega
  rw [e1, Pure.fix, <-hd, <-h.eq]
  rw [List.drop_eq_getElem_cons (by simp; omega)]
  congr 1
  ·simp
  ·rw [List.drop_set_of_lt (by omega)]
 ·rw [h.eq, show n - j = (n - (j + 1)) + 1 by omega, Nat.pow_succ, Nat.div_div_eq_div_mul]
theorem reffixed_ok (v n : Nat) (hn1 : 1 <= n) (hn4 : n <= 4) (hv : v < 256 ^ n) (w : World) :
  Calls Tryz.prog 100 #[.int .i64 v, .int .i64 n] w fun e w' => ∃ ao cap, e = .returned (.slice ao n cap) ∧ Fresh w w' ao cap (Pure.fix v n) ∧ ao ≠ none ∧ Kept [] w w' := by
 obtain ⟨i0, hi, hz0, hz1, hz2⟩ := info_parts Tryz.infoByte
 have hv4 : v < 4294967296 := Nat.lt_of_lt_of_le hv (pow256_le hn4)
 clear hv
 go_enter Tryz.func100, Tryz.ntmps100
 go_wp2_with (at_make; refine wpList_make_full _ rfl _ _ 22 rfl w.heap.size 5 i0 (.int .u8 0) 1 Tryz.underlying22 hi hz0 hz1 .i64 .i64 n n n rfl rfl rfl rfl ?c1 ?c2 ?c3 ?_)
 case c1 => rw [hz2]; omega
 case c2 => unfold maxLen; omega
 case c3 => exact Nat.le_refl _
 intro w1 hown hgrow
 have HI : Hid (FixRel w w1 v n n v) := by
  refine ⟨?_, by simp, (Kept.refl _ _).grown hgrow (by simp)⟩
  rcases hown.2 with ⟨h, _⟩ | ⟨g', cap', cur, hv', _, hg', _, _, hsz, htk⟩
  ·cases h
  ·cases hv'
   refine ⟨List.replicate n 0, ?_, by simp, by simp [Pure.fix]⟩
   rw [hg']
   have hcs : cur.size = n := by simpa using hsz
   have : cur.toList = bys (List.replicate n 0) := by
    rw [List.take_of_length_le (by simp; omega)] at htk
    rw [htk]
    exact made_bytes _
   rw [<-this]
 clear hown hgrow
 obtain ⟨g, hg⟩ : ∃ g, g = w.heap.size := ⟨_, rfl⟩
 rw [<-hg]
 have HG : Hid (g = w.heap.size) := hg
 clear hg
 go_wp2
 go_loopw [0, 6] (fun a i wr => ∃ j z : Nat, j <= n ∧ z < 4294967296 ∧ a = .int .i64 z ∧ i = .int .i64 ((j : Int) - 1) ∧ Hid (FixRel w wr v n j z)) (fun a i wr => (intOf i + 1).toNat)
 case atStart => exact ⟨n, v, Nat.le_refl _, hv4, rfl, rfl, HI⟩
 case round =>
  clear HI
  obtain ⟨j, z, hj, hz, rfl, rfl, HR⟩ := hrel
  by_cases hj0 : j = 0
  ·subst hj0
   have HF : Hid (Fresh w wr (some ⟨g, 0, none⟩) n (Pure.fix v n) ∧ Kept [] w wr) := by
    obtain ⟨R, hr, hl, hd⟩ := HR.out.row
    simp only [List.drop_zero, Nat.sub_zero] at hd
    refine ⟨⟨Sl.of fun i hi => ?_, by rw [Pure.fix_len]; exact Nat.le_refl _, by simp, fun a ha => by cases ha; rw [HG.out]; exact ⟨Nat.le_refl _, (gs hr).1, rfl⟩⟩, HR.out.kept⟩
    rw [HG.out, cell_of_row wr _ _ _ _ _ hr, Nat.zero_add, hd]
    simpa using bys_at hi
   clear HR
   go_wp2
   go_ret
   exact ⟨some ⟨g, 0, none⟩, n, rfl, HF.out.1, by simp, HF.out.2⟩
  ·obtain ⟨k, rfl⟩ : ∃ k, j = k + 1 := ⟨j - 1, by omega⟩
   have hcg : ∃ u, wr.cell? ⟨g, k, none⟩ = some u := by
    obtain ⟨R, hr, hl, hd⟩ := HR.out.row
    rw [HG.out, cell_of_row _ _ _ _ _ _ hr]
    have hl2 : k < (bys R).length := by rw [bys_length]; omega
    exact ⟨_, by rw [List.getElem?_toArray]; exact List.getElem?_eq_getElem hl2⟩
   obtain ⟨u, hcg⟩ := hcg
   have hfz : wr.frozen? ⟨g, k, none⟩ = false := by
    obtain ⟨R, hr, hl, hd⟩ := HR.out.row
    rw [HG.out]
    exact frozen_of_row _ _ _ _ _ hr
   have HR2 : Hid (FixRel w (wr.setCell ⟨g, k, none⟩ (.int .u8 ((z : Int) % 256))) v n k (z / 256)) := by
    have h1 := HR.out.step hj
    rw [HG.out]
    rw [show ((z : Int) % 256) = ((z % 256 : Nat) : Int) by omega]
    exact h1
   have hkk : ((k + 1 : Nat) : Int) - 1 = (k : Int) := by omega
   rw [hkk]
   clear HR hkk hj0
   go_wp2
   go_roundw
   case rel => exact ⟨k, z / 256, by omega, by omega, by go_num, by go_num, HR2⟩
   case measure => simp [intOf]
theorem rcrc_some (b off n cap : Nat) (xs : List UInt8) (w : World) (hn : xs.length = n) (hm : n <= 9223372036854775807) (hc : ∀ i, i < xs.length -> w.cell? ⟨b, off + i, none⟩ = some (.int .u8 (xs.getD i 0).toNat)) :
  Calls Tryz.prog 56 #[.slice (some ⟨b, off, none⟩) n cap] w fun e w' => e = .returned (.int .i64 (Pure.sum xs)) ∧ w' = w := by
 go_enter Tryz.func56, Tryz.ntmps56
 go_wp2
 go_loop [3, 4] (fun r i => ∃ k : Nat, k <= n ∧ i = .int .i64 k ∧ r = .int .i64 (Pure.crc 4294967295 (xs.take k))) (fun r i => n - (intOf i).toNat)
 case atStart => exact ⟨0, Nat.zero_le _, rfl, rfl⟩
 case round =>
  obtain ⟨k, hk, rfl, rfl⟩ := hrel
  have hx1 : Pure.crc 4294967295 (xs.take k) < 4294967296 := Pure.crc_lt (by omega) _
  by_cases hlt : k < n
  ·have hcell := hc k (by omega)
   have hcb : (xs.getD k 0).toNat < 256 := UInt8.toNat_lt _
   have HS : Hid (Pure.crc 4294967295 (xs.take (k + 1)) = Pure.Ts 8 (Pure.crc 4294967295 (xs.take k) ^^^ (xs.getD k 0).toNat)) := by
    show _ = _
    rw [Pure.take_snoc xs 0 k (by omega), Pure.crc_snoc, Pure.crcStep_turns]
   generalize Pure.crc 4294967295 (xs.take k) = x at hx1 HS ⊢
   generalize (xs.getD k 0).toNat = c at hcell hcb HS
   have e1 := i64_xor_nat x c (by omega) (by omega)
   have b1 := Pure.xor_lt32 hx1 (show c < 4294967296 by omega)
   generalize x ^^^ c = y at e1 b1 HS
   clear hc
   go_wp2
   go_loop [3, 5] (fun r j => ∃ m : Nat, m <= 8 ∧ j = .int .i64 m ∧ r = .int .i64 (Pure.Ts m y)) (fun r j => 8 - (intOf j).toNat)
   case atStart => exact ⟨0, Nat.zero_le _, rfl, rfl⟩
   case round =>
    obtain ⟨m, hm8, rfl, rfl⟩ := hrel
    have hz := Ts_lt m b1
    by_cases hm : m < 8
    ·have HT : Hid (Pure.Ts (m + 1) y = Pure.T (Pure.Ts m y)) := Ts_succ' m y
     generalize Pure.Ts m y = z at hz HT ⊢
     by_cases ho : z % 2 = 1
     ·have g1 : ((z : Int) % 2 == 1) = true := by simp; omega
      have e2 : bits .xor .i64 ((z : Int) / 2) 3988292384 = ((z / 2 ^^^ 3988292384 : Nat) : Int) := by
       rw [show ((z : Int) / 2) = ((z / 2 : Nat) : Int) by omega]
       exact i64_xor_nat (z / 2) 3988292384 (by omega) (by omega)
      have HT2 : Hid (Pure.Ts (m + 1) y = z / 2 ^^^ 3988292384) := by
       have := HT.out
       unfold Pure.T at this
       rw [if_pos ho] at this
       exact this
      generalize z / 2 ^^^ 3988292384 = z2 at e2 HT2
      go_wp2
      go_round
      case rel => exact ⟨m + 1, by omega, by go_num, by rw [HT2.out]⟩
      case measure => simp [intOf]; omega
     ·have g1 : ((z : Int) % 2 == 1) = false := by simp; omega
      have HT2 : Hid (Pure.Ts (m + 1) y = z / 2) := by
       have := HT.out
       unfold Pure.T at this
       rw [if_neg ho, Nat.xor_zero] at this
       exact this
      go_wp2
      go_round
      case rel => exact ⟨m + 1, by omega, by go_num, by rw [HT2.out]; go_num⟩
      case measure => simp [intOf]; omega
    ·obtain rfl : m = 8 := by omega
     go_wp2
     go_round
     case rel => exact ⟨k + 1, by omega, by go_num, by rw [HS.out]⟩
     case measure => simp [intOf]; omega
  ·have HT : Hid (xs.take k = xs) := List.take_of_length_le (by omega)
   clear hc
   go_wp2
   go_ret
   exact ⟨ret_int (by have h8 := hx1; have h9 := HT.out; unfold Pure.sum; rw [h9] at h8 ⊢; omega), rfl⟩
theorem rcrc_none (ao : Option Addr) (cap : Nat) (w : World) :
  Calls Tryz.prog 56 #[.slice ao 0 cap] w fun e w' => e = .returned (.int .i64 (Pure.sum [])) ∧ w' = w := by
 go_enter Tryz.func56, Tryz.ntmps56
 go_wp2
 go_loop [3, 4] (fun r i => i = .int .i64 0 ∧ r = .int .i64 4294967295) (fun r i => 0)
 case atStart => exact ⟨rfl, rfl⟩
 case round =>
  obtain ⟨rfl, rfl⟩ := hrel
  go_wp2
  go_ret
  exact ⟨rfl, rfl⟩
theorem rcrc_n (ao : Option Addr) (n cap : Nat) (xs : List UInt8) (w : World) (hn : xs.length = n) (hm : n <= 9223372036854775807) (h : Sl w ao xs) :
  Calls Tryz.prog 56 #[.slice ao n cap] w fun e w' => e = .returned (.int .i64 (Pure.sum xs)) ∧ w' = w := by
 by_cases h0 : xs = []
 ·subst h0
  obtain rfl : n = 0 := by simpa using hn.symm
  exact rcrc_none ao cap w
 ·obtain ⟨b, off, rfl, hb, hc⟩ := h.open h0
  exact rcrc_some b off n cap xs w hn hm hc
theorem rpart_ok (W : Nat) (id : List UInt8) (w : World) (hW : W <= 32) (hl : id.length = 32) :
  Calls Tryz.prog 76 #[.agg (bys id).toArray, .int .i64 W] w fun e w' => (∃ ao cap, e = .returned (.slice ao W cap) ∧ OwnB w' w.heap.size (.slice ao W cap) (id.take W)) ∧ Kept [] w w' := by
 have hrow := heap_new w (.cells (bys id).toArray 26)
 have hK := ka w (.cells (bys id).toArray 26)
 obtain ⟨G, hG⟩ := nm (w.heap.size)
 rw [hG] at hrow
 have HLT : Hid ((w.alloc (.cells (bys id).toArray 26)).heap.size = G + 1) := by show _ = _; rw [<-hG]; simp
 have HC : Hid (∀ k, k < 32 -> (w.alloc (.cells (bys id).toArray 26)).cell? ⟨G, k, none⟩ = some (.int .u8 (id.getD k 0).toNat)) := fun k hk => by
  rw [cell_of_row _ _ _ _ _ _ hrow, List.getElem?_toArray]
  exact bys_at (by omega)
 have HL := hide hl
 clear hrow hl
 go_enter Tryz.func76, Tryz.ntmps76
 go_upto_region 1 with (fail)
 have HGW := hide hG
 clear hG
 generalize w.alloc (.cells (bys id).toArray 26) = w1 at *
 have H0 : Hid (OwnB w1 (G + 1) (.slice none 0 0) (id.take 0) ∧ Kept [] w1 w1) := ⟨World.ownsRow_nil _ _ _ _, Kept.refl _ _⟩
 have HW := hide hW
 go_wp2
 go_loopw [5, 6] (fun x y wr => ∃ (k : Nat) (vo : Option Addr) (vc : Nat), k <= W ∧ x = .slice vo k vc ∧ y = .int .i64 k ∧ Hid (OwnB wr (G + 1) (.slice vo k vc) (id.take k) ∧ Kept [] w1 wr)) (fun x y wr => W - (intOf y).toNat)
 case atStart => exact ⟨0, none, 0, Nat.zero_le _, rfl, rfl, H0⟩
 case round =>
  clear H0
  obtain ⟨k, vo, vc, hk, rfl, rfl, HP⟩ := hrel
  by_cases hlt : k < W
  ·have hc := HP.out.2.cellOf (HC.out k (by omega)) (by simp)
   have kN := ka wr (.cells #[.int .u8 (id.getD k 0).toNat] 5)
   obtain ⟨v4, w4, hrun4, ho4, hk4⟩ := run_appB (wr.alloc (.cells #[.int .u8 (id.getD k 0).toNat] 5)) (G + 1) (.slice vo k vc) (id.take k) [id.getD k 0] (HP.out.1.kept kN (by simp)) wr.heap.size 0 1 (fun i hi => by
    have hnew := heap_new wr (.cells #[.int .u8 (id.getD k 0).toNat] 5)
    rw [Nat.zero_add, cell_of_row _ _ _ _ _ _ hnew]
    obtain rfl : i = 0 := by simp at hi; omega
    rfl) (by rw [List.length_take]; simp; omega) (Nat.le_trans (Nat.le_of_eq HLT.out.symm) (Nat.le_trans HP.out.2.size kN.size))
   rw [show [id.getD k 0].length = 1 from rfl] at hrun4
   have ht : id.take (k + 1) = id.take k ++ [id.getD k 0] := take_snoc' id 0 k (by have := HL.out; omega)
   have hll : (id.take k ++ [id.getD k 0]).length = k + 1 := by rw [<-ht, List.length_take, HL.out]; omega
   obtain ⟨vo4, vc4, rfl, _⟩ := own_shape ho4
   rw [hll] at hrun4 ho4
   have H4 : Hid (OwnB w4 (G + 1) (.slice vo4 (k + 1) vc4) (id.take (k + 1)) ∧ Kept [] w1 w4) := ⟨by rw [ht]; exact ho4, (HP.out.2.tr kN).trans hk4 (fun g hg hl2 => by have := (HP.out.1.far g (by simpa using hg)).1; have := HLT.out; omega)⟩
   clear ho4 hk4 kN HP hll ht
   generalize (id.getD k 0).toNat = x at hc hrun4
   go_wp2_with (refine wpList_app_run rfl (.tmp 12) (.tmp 16) 22 22 rfl (.slice vo k vc) (.slice (some ⟨wr.heap.size, 0, none⟩) 1 1) rfl rfl (.slice vo4 (k + 1) vc4) w4 hrun4 ?_)
   go_roundw
   case rel => exact ⟨k + 1, vo4, vc4, by omega, rfl, by go_num, H4⟩
   case measure => simp [intOf]; omega
  ·obtain rfl : k = W := by omega
   have HF : Hid (OwnB wr w.heap.size (.slice vo k vc) (id.take k) ∧ Kept [] w wr) := ⟨own_base HP.out.1 (by have := HGW.out; omega), hK.tr HP.out.2⟩
   clear HP
   go_wp2
   go_ret
   exact ⟨⟨vo, vc, rfl, HF.out.1⟩, HF.out.2⟩
theorem rnoughts_ok (W : Nat) (id : List UInt8) (w : World) (hW : W <= 32) (hl : id.length = 32) :
  Calls Tryz.prog 59 #[.agg (bys id).toArray, .int .i64 W] w fun e w' => e = .returned (.bool (nought W id)) ∧ Kept [] w w' := by
 have hrow := heap_new w (.cells (bys id).toArray 26)
 have hK := ka w (.cells (bys id).toArray 26)
 obtain ⟨G, hG⟩ := nm (w.heap.size)
 rw [hG] at hrow
 have HC : Hid (∀ k, k < 32 -> (w.alloc (.cells (bys id).toArray 26)).cell? ⟨G, k, none⟩ = some (.int .u8 (id.getD k 0).toNat)) := fun k hk => by
  rw [cell_of_row _ _ _ _ _ _ hrow, List.getElem?_toArray]
  exact bys_at (by omega)
 have HL := hide hl
 clear hrow hl
 go_enter Tryz.func59, Tryz.ntmps59
 go_upto_region 1 with (fail)
 clear hG
 generalize w.alloc (.cells (bys id).toArray 26) = w1 at *
 go_wp2
 go_loopw [5] (fun x wr => ∃ k j : Nat, j = W + k ∧ j <= 32 ∧ x = .int .i64 j ∧ wr = w1 ∧ Hid (((id.drop W).take k).all (· == 0) = true)) (fun x wr => 32 - (intOf x).toNat)
 case atStart => exact ⟨0, W, rfl, hW, rfl, rfl, rfl⟩
 case round =>
  obtain ⟨k, j, hj, hj32, rfl, hwr, HA⟩ := hrel
  subst hwr
  have HJ := hide hj
  clear hj
  by_cases hlt : j < 32
  ·have hc := HC.out j hlt
   have HST : Hid (id.getD j 0 = 0 -> ((id.drop W).take (k + 1)).all (· == 0) = true) := fun hz => nought_step HL.out (by have := HJ.out; omega) (by rw [<-HJ.out]; exact hz) HA.out
   have HN0 : Hid (id.getD j 0 ≠ 0 -> nought W id = false) := fun hz => by
    apply Bool.eq_false_iff.2
    intro hn
    apply hz
    have hL := HL.out
    have hJ := HJ.out
    have hmem : id.getD j 0 ∈ id.drop W := by
     have e : (id.drop W)[k]'(by rw [List.length_drop]; omega) = id.getD j 0 := by
      rw [List.getElem_drop, List.getD, List.getElem?_eq_getElem (by omega), Option.getD_some]
      congr 1
      exact hJ.symm
     rw [<-e]; exact List.getElem_mem _
    have := List.all_eq_true.1 hn _ hmem
    simpa using this
   have hb : (id.getD j 0).toNat < 256 := UInt8.toNat_lt _
   by_cases h0 : id.getD j 0 = 0
   ·rw [h0] at hc
    have H1 := hide (HST.out h0)
    clear h0 hb HN0 HST
    have hc' : wr.cell? ⟨G, j, none⟩ = some (.int .u8 0) := hc
    clear hc
    go_wp2
    go_roundw
    case rel => exact ⟨k + 1, j + 1, by rw [HJ.out]; rfl, by omega, by go_num, by first | rfl | trivial, H1⟩
    case measure => simp [intOf]; omega
   ·have H1 := hide (HN0.out h0)
    have hne : (id.getD j 0).toNat ≠ 0 := fun h => h0 (UInt8.toNat_inj.1 h)
    generalize (id.getD j 0).toNat = c at hc hb hne
    have hne' : ((c : Int) != 0) = true := by simp; omega
    clear h0 HN0 HST hne
    go_wp2
    go_ret
    exact ⟨by rw [H1.out]; rfl, hK⟩
  ·have HN1 : Hid (nought W id = true) := by
    have h := HA.out
    rw [List.take_of_length_le (by rw [List.length_drop, HL.out]; have := HJ.out; omega)] at h
    exact h
   clear HA
   go_wp2
   go_ret
   exact ⟨by rw [HN1.out]; rfl, hK⟩
theorem rsealed_ok (base : Nat) (vo : Option Addr) (n vc : Nat) (xs : List UInt8) (w : World) (h : OwnB w base (.slice vo n vc) xs) (hb : base <= w.heap.size) (hm : n <= 1000000000) :
  Calls Tryz.prog 78 #[.slice vo n vc] w fun e w' => (∃ ao cap, e = .returned (.slice ao (n + 4) cap) ∧ OwnB w' base (.slice ao (n + 4) cap) (sealed xs)) ∧ Kept (Value.slice vo n vc).ownBlock.toList w w' := by
 have hn := own_len h
 have hs := rcrc_n vo n vc xs w hn (by omega) h.in8.sl
 have hf := fun W => reffixed_ok (Pure.sum xs) 4 (by omega) (by omega) (by unfold Pure.sum; omega) W
 have HO := hide h
 have HN := hide hn
 clear h hn
 have HSE : Hid (sealed xs = xs ++ Pure.fix (Pure.sum xs) 4) := rfl
 have hfl : (Pure.fix (Pure.sum xs) 4).length = 4 := Pure.fix_len _ _
 generalize Pure.sum xs = sm at hs hf HSE hfl
 have HFL := hide hfl
 clear hfl
 go_enter Tryz.func78, Tryz.ntmps78
 go_wp2_with (first
  | (go_at_call 56; refine hs.mono ?_; rintro r w2 ⟨rfl, hw2⟩; obtain rfl := hw2.symm; clear hs)
  | (go_at_call 100; refine (hf _).mono ?_; rintro r w3 ⟨fo, fc, rfl, hfr, hfn, hk3⟩; obtain ⟨v4, w4, hrun4, ho4, hk4⟩ := run_appSl w3 base (.slice vo n vc) xs (Pure.fix sm 4) (HO.out.kept hk3 (by simp)) fo 4 fc HFL.out hfr.1 hfr.2.2.1 (by rw [HN.out]; omega) (Nat.le_trans hb hk3.size); obtain ⟨vo4, vc4, rfl, hvc4⟩ := own_shape ho4; rw [show (xs ++ Pure.fix sm 4).length = n + 4 by rw [List.length_append, HN.out, HFL.out]] at hrun4 ho4; have H4 := hide (ai ho4 (ai hk3 hk4)); clear hf hfr hfn hk3 ho4 hk4 hvc4)
  | (refine wpList_app_run rfl (.tmp 3) (.tmp 6) 22 22 rfl (.slice vo n vc) (.slice fo 4 fc) rfl rfl (.slice vo4 (n + 4) vc4) w4 hrun4 ?_; clear hrun4))
 go_ret
 exact ⟨⟨vo4, vc4, rfl, by rw [HSE.out]; exact H4.out.1⟩, (show Kept _ w w3 from H4.out.2.1.mono (by simp)).trans H4.out.2.2 (fun i hi _ => hi)⟩
end Go.Proofs.YtmklodligplbaaaGreat
