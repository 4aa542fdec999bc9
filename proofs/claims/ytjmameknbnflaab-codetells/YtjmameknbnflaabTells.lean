/-
  The walk: freightlaw1.CodeTells.
-/
import Derived.Test.YtjmameknbnflaabKn2
import Derived.Test.YtjmameknbnflaabPure3
namespace Go.Proofs.Ytjmameknbnflaab
open Go.RowKit
set_option linter.unusedVariables false
set_option linter.unusedSimpArgs false

theorem i64_and1 (x : Nat) (hx : x < 9223372036854775808) : bits .and .i64 (x : Int) 1 = ((x % 2 : Nat) : Int) := by
  show IntKind.i64.wrap ((BitVec.ofInt 64 (x : Int) &&& BitVec.ofInt 64 1).toNat : Int) = _
  have h1 : (BitVec.ofInt 64 1).toNat = 1 := by decide
  rw [BitVec.toNat_and, ofInt_u64 x (by omega), h1, nat_mask1]
  simp [IntKind.wrap, IntKind.bits, IntKind.signed]
  split <;> omega

/-- What holds at the head of CodeTells' loop. -/
structure TellsRel (w wr : World) (xs : List UInt8) (p m : Nat) (zs : List UInt8) : Prop where
  len : zs.length = xs.length
  num : Pure.N xs ^^^ Pure.N zs = 2 ^ p * m
  row : wr.heap[w.heap.size]? = some (.cells (bys zs).toArray 5 (0, 0))
  below : Below w.heap.size w wr

theorem two_pow_xor (p k m : Nat) (hm : m < 2 ^ k) : 2 ^ p * m ^^^ 2 ^ (p + k) = 2 ^ p * (m + 2 ^ k) := by
  apply Nat.eq_of_testBit_eq
  intro i
  rw [Nat.testBit_xor, Nat.testBit_two_pow_mul, Nat.testBit_two_pow_mul, Nat.testBit_two_pow]
  by_cases h : p ≤ i
  · rw [show m + 2 ^ k = 2 ^ k * 1 + m by omega, Nat.testBit_two_pow_mul_add _ hm]
    by_cases h2 : i - p < k
    · simp [h, h2, show ¬ (p + k = i) by omega]
    · have hm2 : m.testBit (i - p) = false := Nat.testBit_lt_two_pow (Nat.lt_of_lt_of_le hm (Nat.pow_le_pow_right (by omega) (by omega)))
      by_cases h3 : p + k = i
      · simp [h, h2, h3, hm2, show i - p - k = 0 by omega]
      · have : Nat.testBit 1 (i - p - k) = false := by
          rw [show i - p - k = (i - p - k - 1) + 1 by omega, Nat.testBit_succ]; simp
        simp [h, h2, h3, hm2, this]
  · simp [h, show ¬ (p + k = i) by omega]

theorem u8_turn (c : UInt8) (j : Nat) (hj : j < 8) : bits .xor .u8 (c.toNat : Int) (2 ^ j % 256) = ((c ^^^ UInt8.ofNat (2 ^ j)).toNat : Int) := by
  have h1 : 2 ^ j < 256 := Nat.pow_lt_pow_right (n := 8) (by omega) hj
  have h2 : ((2 : Int) ^ j % 256) = ((2 ^ j : Nat) : Int) := by
    have : ((2 : Int) ^ j) = ((2 ^ j : Nat) : Int) := by simp
    rw [this]
    generalize (2 ^ j : Nat) = x at h1 ⊢
    omega
  rw [h2, u8_xor_nat _ _ (UInt8.toNat_lt _) h1, UInt8.toNat_xor, UInt8.toNat_ofNat', Nat.mod_eq_of_lt (show 2 ^ j < 2 ^ 8 from h1)]

theorem bys_set (l : List UInt8) (i : Nat) (c : UInt8) : (bys l).set i (.int .u8 c.toNat) = bys (l.set i c) := by simp [bys, List.map_set]

theorem TellsRel.step {w wr : World} {xs zs : List UInt8} {p k m i j : Nat} (h : TellsRel w wr xs p m zs) (hm : m < 2 ^ k) (hi : i < zs.length) (hj : j < 8) (hq : 8 * i + j = p + k) :
    TellsRel w (wr.setCell ⟨w.heap.size, i, none⟩ (.int .u8 ((zs.getD i 0) ^^^ UInt8.ofNat (2 ^ j)).toNat)).drew xs p (m + 2 ^ k) (zs.set i ((zs.getD i 0) ^^^ UInt8.ofNat (2 ^ j))) := by
  refine ⟨by simpa using h.len, ?_, ?_, (h.below.setCell (Nat.le_refl _) _).drew⟩
  · rw [Pure.N_turn zs i j hi hj, ← Nat.xor_assoc, h.num, hq, two_pow_xor p k m hm]
  · show (wr.setCell _ _).heap[_]? = _
    rw [heap_setCell_same _ _ _ _ _ _ h.row]
    simp only [List.setIfInBounds_toArray, bys_set]

set_option maxHeartbeats 1600000 in
set_option maxRecDepth 100000 in
theorem tells_main (g off n cap p t : Nat) (xs : List UInt8) (w : World) (hxn : xs.length = n) (hc : ∀ i, i < xs.length → w.cell? ⟨g, off + i, none⟩ = some (.int .u8 (xs.getD i 0).toNat)) (hg : g < w.heap.size) (hn : n ≤ 200000) (hp : p < 8 * n) (ht1 : 1 ≤ t) (ht2 : t ≤ 4294967295) :
    Calls Try.prog 5 #[.slice (some ⟨g, off, none⟩) n cap, .int .i64 p, .int .i64 t] w fun e w' => e = .returned (.bool true) ∧ Below w.heap.size w w' := by
  have d1 : decide (200000 < (n : Int)) = false := by simp; omega
  have d2 : decide ((p : Int) < 0) = false := by simp
  have d3 : decide (8 * (n : Int) ≤ (p : Int)) = false := by simp; omega
  have d4 : decide ((t : Int) < 1) = false := by simp; omega
  have d5 : decide (4294967295 < (t : Int)) = false := by simp; omega
  obtain ⟨i0, hi, hz0, hz1, hz2⟩ := info_parts Try.infoByte
  have HC : Hid (∀ i, i < xs.length → w.cell? ⟨g, off + i, none⟩ = some (.int .u8 (xs.getD i 0).toNat)) := hc
  have HX : Hid (xs.length = n) := hxn
  clear hc hxn
  go_enter Try.func5, Try.ntmps5
  go_wp2_with (at_make; refine wpList_make_full _ rfl _ _ 32 rfl w.heap.size 5 i0 (.int .u8 0) 1 Try.underlying32 hi hz0 hz1 .i64 .i64 n n n rfl rfl rfl rfl ?c1 ?c2 ?c3 ?_)
  case c1 => rw [hz2]; omega
  case c2 => unfold maxLen; omega
  case c3 => exact Nat.le_refl _
  intro w1 hown hgrow
  have hB1 : Below w.heap.size w w1 := (Below.refl _ _).grown hgrow (Nat.le_refl _) (by simp)
  obtain ⟨C, hClen, hrow⟩ : ∃ C : List Value, C.length = n ∧ w1.heap[w.heap.size]? = some (.cells C.toArray 5 (0, 0)) := by
    rcases hown.2 with ⟨h, _⟩ | ⟨g, cap, cur, hv, _, hg, _, _, hsz, _⟩
    · cases h
    · cases hv
      exact ⟨cur.toList, by simpa using hsz, by simpa using hg⟩
  clear hown hgrow
  have hsrc : ∀ j u, (bys xs)[j]? = some u → w1.cell? ((⟨g, off, none⟩ : Addr).add j) = some u := by
    refine Sl.cells fun i hi => ?_
    rw [hB1.cell (p := ⟨g, off + i, none⟩) hg]
    exact HC.out i hi
  obtain ⟨w2, hw2⟩ : ∃ w2, w2 = w1.setRow w.heap.size (C.toArray.toList.take 0 ++ bys xs ++ C.toArray.toList.drop (0 + (bys xs).length)).toArray := ⟨_, rfl⟩
  have hcp : (Builtin.copy_ #[32, 32] 3 #[.slice (some ⟨w.heap.size, 0, none⟩) n n, .slice (some ⟨g, off, none⟩) n cap]).run Try.prog w1 = .ok (.int .i64 n) w2 := by
    rw [hw2]
    have := run_copy_row (P := Try.prog) w1 32 32 3 5 w.heap.size 0 n n ⟨g, off, none⟩ n cap C.toArray 5 (bys xs) Try.underlying32 Try.sizeByte hrow (by rw [bys_length, HX.out]; simp) hsrc (by rw [bys_length, HX.out]; simp; omega) (bys_oneCell xs)
    rw [this]
    congr 1
    rw [bys_length, HX.out]; rfl
  have hrow2 : w2.heap[w.heap.size]? = some (.cells (bys xs).toArray 5 (0, 0)) := by
    rw [hw2, setRow_heap _ _ _ _ _ _ hrow]
    simp [bys_length, HX.out, hClen]
  have hB2 : Below w.heap.size w w2 := by rw [hw2]; exact below_setRow hB1 (Nat.le_refl _) _
  clear hw2 hrow hsrc hB1
  have HI : Hid (TellsRel w w2 xs p 0 xs) := ⟨rfl, by simp, hrow2, hB2⟩
  clear hB2 hrow2
  go_wp2
  clear hcp
  go_loopw [8, 9] (fun x y wr => ∃ (k m : Nat) (zs : List UInt8), k ≤ 32 ∧ y = .int .i64 k ∧ x = .bool (decide (m ≠ 0)) ∧ Hid (m = t % 2 ^ k) ∧ Hid (TellsRel w wr xs p m zs)) (fun x y wr => 32 - (intOf y).toNat)
  case atStart => exact ⟨0, 0, xs, by omega, rfl, rfl, by show _ = _; omega, HI⟩
  case round =>
    clear HI
    obtain ⟨k, m, zs, hk, rfl, rfl, HM, HR⟩ := hrel
    by_cases hin : k < 32 ∧ p + k < 8 * n
    · obtain ⟨hk32, hpk⟩ := hin
      have g1 : decide ((k : Int) < 32) = true := by simp; omega
      have g2 : decide ((p : Int) + (k : Int) < 8 * (n : Int)) = true := by simp; omega
      have hnz : 0 < n := by omega
      have e1 : bits .and .i64 ((t : Int) / 2 ^ k) 1 = ((t / 2 ^ k % 2 : Nat) : Int) := by
        rw [show ((t : Int) / 2 ^ k) = ((t / 2 ^ k : Nat) : Int) by simp]
        exact i64_and1 _ (Nat.lt_of_le_of_lt (Nat.div_le_self _ _) (by omega))
      have hpow : t % 2 ^ (k + 1) = t % 2 ^ k + 2 ^ k * (t / 2 ^ k % 2) := by rw [Nat.pow_succ, Nat.mod_mul]
      have HP : Hid (t % 2 ^ (k + 1) = t % 2 ^ k + 2 ^ k * (t / 2 ^ k % 2)) := hpow
      clear hpow
      by_cases hb : t / 2 ^ k % 2 = 1
      · have e2 : (((t / 2 ^ k % 2 : Nat) : Int) == 1) = true := by rw [hb]; rfl
        generalize ((t / 2 ^ k % 2 : Nat) : Int) = bit at e1 e2
        obtain ⟨q, hq⟩ : ∃ q, q = p + k := ⟨_, rfl⟩
        have HQ : Hid (q = p + k) := hq
        obtain ⟨i, hi8⟩ : ∃ i, i = q / 8 := ⟨_, rfl⟩
        obtain ⟨j, hj8⟩ : ∃ j, j = q % 8 := ⟨_, rfl⟩
        have hin : i < n := by omega
        have hj : j < 8 := by omega
        have v1 : IntKind.i64.wrap ((p : Int) + (k : Int)) = (q : Int) := by simp [IntKind.wrap, IntKind.bits, IntKind.signed]; split <;> omega
        have v2 : IntKind.i64.wrap ((q : Int).tdiv 8) = (i : Int) := by rw [Int.tdiv_eq_ediv_of_nonneg (by omega)]; simp [IntKind.wrap, IntKind.bits, IntKind.signed]; split <;> omega
        have v3 : (q : Int).tmod 8 = (j : Int) := by rw [Int.tmod_eq_emod_of_nonneg (by omega)]; omega
        have v4 : IntKind.i64.wrap (j : Int) = (j : Int) := by simp [IntKind.wrap, IntKind.bits, IntKind.signed]; split <;> omega
        have v5 : IntKind.i64.wrap ((q : Int) / 8) = (i : Int) := by simp [IntKind.wrap, IntKind.bits, IntKind.signed]; split <;> omega
        have v6 : (q : Int) % 8 = (j : Int) := by omega
        have v7 : decide ((q : Int) < 8 * (n : Int)) = true := by simp; omega
        have H8 : Hid (i = q / 8 ∧ j = q % 8) := ⟨hi8, hj8⟩
        have hcell : wr.cell? ⟨w.heap.size, i, none⟩ = some (.int .u8 (zs.getD i 0).toNat) := by
          rw [cell_of_row _ _ _ _ _ _ HR.out.row]
          have := bys_at (xs := zs) (j := i) (by rw [HR.out.len, HX.out]; exact hin)
          simpa using this
        have hfz : wr.frozen? ⟨w.heap.size, i, none⟩ = false := frozen_of_row _ _ _ _ _ HR.out.row
        have hcb : (zs.getD i 0).toNat < 256 := UInt8.toNat_lt _
        obtain ⟨c, hc⟩ : ∃ c, c = (zs.getD i 0).toNat := ⟨_, rfl⟩
        rw [← hc] at hcell hcb
        have HCc : Hid (c = (zs.getD i 0).toNat) := hc
        clear hq hi8 hj8 hc
        go_wp2
        go_still_tail 19, Try.follows
        go_wp2
        go_roundw
        case rel =>
          have hm2 : m < 2 ^ k := by rw [HM.out]; exact Nat.mod_lt _ (Nat.pow_pos (by omega))
          have hst := HR.out.step (k := k) (i := i) (j := j) hm2 (by rw [HR.out.len, HX.out]; exact hin) hj (by have := H8.out; have := HQ.out; omega)
          refine ⟨k + 1, m + 2 ^ k, zs.set i ((zs.getD i 0) ^^^ UInt8.ofNat (2 ^ j)), by omega, by go_num, ?_, ?_, ?_⟩
          · simp
          · show _ = _
            rw [HP.out, hb, Nat.mul_one, HM.out]
          · rw [HCc.out, u8_turn _ _ hj]
            exact hst
        case measure => simp [intOf]; omega
      · have e2 : (((t / 2 ^ k % 2 : Nat) : Int) == 1) = false := by rw [beq_eq_false_iff_ne]; intro h; exact hb (by exact_mod_cast h)
        have hb0 : t / 2 ^ k % 2 = 0 := by omega
        have HM' : Hid (m = t % 2 ^ (k + 1)) := by
          show _ = _
          rw [HP.out, hb0, Nat.mul_zero, Nat.add_zero]; exact HM.out
        have HR' : Hid (TellsRel w wr xs p m zs) := HR.out
        clear HR HM hb hb0
        generalize ((t / 2 ^ k % 2 : Nat) : Int) = bit at e1 e2
        go_wp2
        go_roundw
        case rel => exact ⟨k + 1, m, zs, by omega, by go_num, rfl, HM', HR'⟩
        case measure => simp [intOf]; omega
    · have hm32 : m < 4294967296 := by
        rw [HM.out]
        exact Nat.lt_of_lt_of_le (Nat.mod_lt _ (Nat.pow_pos (by omega))) (Nat.pow_le_pow_right (n := 2) (j := 32) (by omega) hk)
      have hB := HR.out.below
      by_cases hm0 : m = 0
      · subst hm0
        clear HR HM hm32
        by_cases hk32 : k < 32
        · have g2 : decide ((p : Int) + (k : Int) < 8 * (n : Int)) = false := by simp; omega
          clear hin
          go_wp2_with (go_at_call 12; refine (known_any _).mono ?_; rintro e wk ⟨rfl, hkk⟩)
          go_ret
          exact ⟨rfl, hB.trans (hkk.below hB.size (by simp))⟩
        · have g1 : decide ((k : Int) < 32) = false := by simp; omega
          clear hin
          go_wp2_with (go_at_call 12; refine (known_any _).mono ?_; rintro e wk ⟨rfl, hkk⟩)
          go_ret
          exact ⟨rfl, hB.trans (hkk.below hB.size (by simp))⟩
      · have hne : Pure.sum xs ≠ Pure.sum zs := Pure.sum_ne (at_ := p) (m := m) HR.out.len.symm HR.out.num hm32 hm0 (by rw [HX.out]; omega)
        have hx : Sl wr (some ⟨g, off, none⟩) xs := Sl.of fun i hi => (hB.cell (p := ⟨g, off + i, none⟩) hg).trans (HC.out i hi)
        have hzl : zs.length = n := by rw [HR.out.len, HX.out]
        have hz : Sl wr (some ⟨w.heap.size, 0, none⟩) zs := Sl.of fun i hi => by
          rw [cell_of_row _ _ _ _ _ _ HR.out.row, Nat.zero_add]
          simpa using bys_at hi
        have hs1 : Pure.sum xs ≤ 4294967295 := Nat.sub_le _ _
        have hs2 : Pure.sum zs ≤ 4294967295 := Nat.sub_le _ _
        have hd : decide (m = 0) = false := by simpa using hm0
        have HS1 : Hid (Sl wr (some ⟨g, off, none⟩) xs) := hx
        have HS2 : Hid (Sl wr (some ⟨w.heap.size, 0, none⟩) zs) := hz
        have HZ : Hid (zs.length = n) := hzl
        have hnb : ((Pure.sum xs : Int) != (Pure.sum zs : Int)) = true := by simp only [bne_iff_ne, ne_eq]; intro h; exact hne (by exact_mod_cast h)
        clear HR HM hm32 hx hz hzl hne
        by_cases hk32 : k < 32
        · have g2 : decide ((p : Int) + (k : Int) < 8 * (n : Int)) = false := by simp; omega
          clear hin
          go_wp2_with (fail)
          refine (sum_n _ n cap xs _ HX.out (by have := HX.out; omega) HS1.out).mono ?_
          rintro e w4 ⟨rfl, hb4⟩
          have HS3 : Hid (Sl w4 (some ⟨w.heap.size, 0, none⟩) zs) := Sl.kept HS2.out (Kept.of_below hb4) (by simp)
          have hB4 : Below w.heap.size w w4 := hB.trans (hb4.mono hB.size)
          clear hb4 hB
          go_wp2_with (fail)
          refine (sum_n _ n n zs _ HZ.out (by have := HZ.out; omega) HS3.out).mono ?_
          rintro e w5 ⟨rfl, hb5⟩
          have hB5 : Below w.heap.size w w5 := hB4.trans (hb5.mono hB4.size)
          clear hb5 hB4
          go_wp2_with (go_at_call 12; refine (known_any _).mono ?_; rintro e wk ⟨rfl, hkk⟩)
          go_ret
          exact ⟨rfl, hB5.trans (hkk.below hB5.size (by simp))⟩
        · have g1 : decide ((k : Int) < 32) = false := by simp; omega
          clear hin
          go_wp2_with (fail)
          refine (sum_n _ n cap xs _ HX.out (by have := HX.out; omega) HS1.out).mono ?_
          rintro e w4 ⟨rfl, hb4⟩
          have HS3 : Hid (Sl w4 (some ⟨w.heap.size, 0, none⟩) zs) := Sl.kept HS2.out (Kept.of_below hb4) (by simp)
          have hB4 : Below w.heap.size w w4 := hB.trans (hb4.mono hB.size)
          clear hb4 hB
          go_wp2_with (fail)
          refine (sum_n _ n n zs _ HZ.out (by have := HZ.out; omega) HS3.out).mono ?_
          rintro e w5 ⟨rfl, hb5⟩
          have hB5 : Below w.heap.size w w5 := hB4.trans (hb5.mono hB4.size)
          clear hb5 hB4
          go_wp2_with (go_at_call 12; refine (known_any _).mono ?_; rintro e wk ⟨rfl, hkk⟩)
          go_ret
          exact ⟨rfl, hB5.trans (hkk.below hB5.size (by simp))⟩

set_option maxHeartbeats 1600000 in
set_option maxRecDepth 100000 in
theorem tells_out (ao : Option Addr) (n cap : Nat) (a t : Int) (w : World) (hn : n ≤ 9223372036854775807) (h : 200000 < (n : Int) ∨ a < 0 ∨ 8 * (n : Int) ≤ a ∨ t < 1 ∨ 4294967295 < t) :
    Calls Try.prog 5 #[.slice ao n cap, .int .i64 a, .int .i64 t] w fun e w' => e = .returned (.bool true) ∧ Below w.heap.size w w' := by
  by_cases c1 : 200000 < (n : Int)
  · clear h
    go_enter Try.func5, Try.ntmps5
    go_wp2
    go_ret
    exact ⟨rfl, Below.refl _ _⟩
  have d1 : decide (200000 < (n : Int)) = false := by simpa using c1
  by_cases c2 : a < 0
  · clear h
    go_enter Try.func5, Try.ntmps5
    go_wp2
    go_ret
    exact ⟨rfl, Below.refl _ _⟩
  have d2 : decide (a < 0) = false := by simpa using c2
  by_cases c3 : 8 * (n : Int) ≤ a
  · clear h
    go_enter Try.func5, Try.ntmps5
    go_wp2
    go_ret
    exact ⟨rfl, Below.refl _ _⟩
  have d3 : decide (8 * (n : Int) ≤ a) = false := by simpa using c3
  by_cases c4 : t < 1
  · clear h
    go_enter Try.func5, Try.ntmps5
    go_wp2
    go_ret
    exact ⟨rfl, Below.refl _ _⟩
  have d4 : decide (t < 1) = false := by simpa using c4
  have c5 : 4294967295 < t := by omega
  clear h
  go_enter Try.func5, Try.ntmps5
  go_wp2
  go_ret
  exact ⟨rfl, Below.refl _ _⟩

/-- CodeTells: whatever the input: true; nothing that was there turns. -/
theorem tells_any (ao : Option Addr) (n cap : Nat) (a t : Int) (xs : List UInt8) (w : World) (hn : n ≤ 9223372036854775807) (hx : xs.length = n) (hs : Sl w ao xs) :
    Calls Try.prog 5 #[.slice ao n cap, .int .i64 a, .int .i64 t] w fun e w' => e = .returned (.bool true) ∧ Below w.heap.size w w' := by
  by_cases h : 200000 < (n : Int) ∨ a < 0 ∨ 8 * (n : Int) ≤ a ∨ t < 1 ∨ 4294967295 < t
  · exact tells_out ao n cap a t w hn h
  · obtain ⟨p, rfl⟩ := Int.eq_ofNat_of_zero_le (show 0 ≤ a by omega)
    obtain ⟨u, rfl⟩ := Int.eq_ofNat_of_zero_le (show 0 ≤ t by omega)
    obtain ⟨g, off, rfl, hg, hc⟩ := hs.open (by rintro rfl; simp at hx; omega)
    exact tells_main g off n cap p u xs w hx hc hg (by omega) (by omega) (by omega) (by omega)

end Go.Proofs.Ytjmameknbnflaab
