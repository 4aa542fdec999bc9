/-
  Contracts: freightref1.Sum, turn; the walk: freightlaw1.CodeSums.
-/
import Derived.Test.YtjmameknbnflaaaKn2
import Derived.Test.YtjmameknbnflaaaPure3
import Derived.Test.YtjmameknbnflaaaArgs
import Derived.Test.YtjmameknbnflaaaDk1
namespace Go.Proofs.Ytjmameknbnflaaa
open Go.RowKit Go.Deep
set_option linter.unusedVariables false
set_option linter.unusedSimpArgs false

theorem i64_xor_nat (a b : Nat) (ha : a < 9223372036854775808) (hb : b < 9223372036854775808) : bits .xor .i64 (a : Int) (b : Int) = ((a ^^^ b : Nat) : Int) := by
  show IntKind.i64.wrap ((BitVec.ofInt 64 (a : Int) ^^^ BitVec.ofInt 64 (b : Int)).toNat : Int) = _
  have h : a ^^^ b < 9223372036854775808 := Nat.xor_lt_two_pow (n := 63) ha hb
  rw [BitVec.toNat_xor, ofInt_u64 a (by omega), ofInt_u64 b (by omega)]
  simp [IntKind.wrap, IntKind.bits, IntKind.signed]
  split <;> omega

theorem Ts_succ' (k y : Nat) : Pure.Ts (k + 1) y = Pure.T (Pure.Ts k y) := by
  rw [Pure.Ts_add k 1]; rfl
theorem Ts_lt (k : Nat) {y : Nat} (h : y < 4294967296) : Pure.Ts k y < 4294967296 := by
  induction k with
  | zero => exact h
  | succ k ih => rw [Ts_succ']; exact Pure.T_lt ih

set_option maxHeartbeats 2000000 in
set_option maxRecDepth 100000 in
theorem refsum_some (b off n cap : Nat) (xs : List UInt8) (w : World) (hn : xs.length = n) (hm : n ≤ 9223372036854775807) (hc : ∀ i, i < xs.length → w.cell? ⟨b, off + i, none⟩ = some (.int .u8 (xs.getD i 0).toNat)) :
    Calls Try.prog 12 #[.slice (some ⟨b, off, none⟩) n cap] w fun e w' => e = .returned (.int .i64 (Pure.sum xs)) ∧ w' = w := by
  go_enter Try.func12, Try.ntmps12
  go_wp2
  go_loop [3, 4] (fun r i => ∃ k : Nat, k ≤ n ∧ i = .int .i64 k ∧ r = .int .i64 (Pure.crc 4294967295 (xs.take k))) (fun r i => n - (intOf i).toNat)
  case atStart => exact ⟨0, Nat.zero_le _, rfl, rfl⟩
  case round =>
    obtain ⟨k, hk, rfl, rfl⟩ := hrel
    have hx1 : Pure.crc 4294967295 (xs.take k) < 4294967296 := Pure.crc_lt (by omega) _
    by_cases hlt : k < n
    · have hcell := hc k (by omega)
      have hcb : (xs.getD k 0).toNat < 256 := UInt8.toNat_lt _
      have HS : Hid (Pure.crc 4294967295 (xs.take (k + 1)) = Pure.Ts 8 (Pure.crc 4294967295 (xs.take k) ^^^ (xs.getD k 0).toNat)) := by
        show _ = _
        rw [Pure.take_snoc xs 0 k (by omega), Pure.crc_snoc, Pure.crcStep_turns]
      generalize Pure.crc 4294967295 (xs.take k) = x at hx1 HS ⊢
      generalize (xs.getD k 0).toNat = c at hcell hcb HS
      have e1 := i64_xor_nat x c (by omega) (by omega)
      have b1 := Pure.xor_lt32 hx1 (show c < 4294967296 by omega)
      generalize x ^^^ c = y at e1 b1 HS
      clear hc
      go_wp2
      go_loop [3, 5] (fun r j => ∃ m : Nat, m ≤ 8 ∧ j = .int .i64 m ∧ r = .int .i64 (Pure.Ts m y)) (fun r j => 8 - (intOf j).toNat)
      case atStart => exact ⟨0, Nat.zero_le _, rfl, rfl⟩
      case round =>
        obtain ⟨m, hm8, rfl, rfl⟩ := hrel
        have hz := Ts_lt m b1
        by_cases hm : m < 8
        · have HT : Hid (Pure.Ts (m + 1) y = Pure.T (Pure.Ts m y)) := Ts_succ' m y
          generalize Pure.Ts m y = z at hz HT ⊢
          by_cases ho : z % 2 = 1
          · have g1 : ((z : Int) % 2 == 1) = true := by simp; omega
            have e2 : bits .xor .i64 ((z : Int) / 2) 3988292384 = ((z / 2 ^^^ 3988292384 : Nat) : Int) := by
              rw [show ((z : Int) / 2) = ((z / 2 : Nat) : Int) by omega]
              exact i64_xor_nat (z / 2) 3988292384 (by omega) (by omega)
            have HT2 : Hid (Pure.Ts (m + 1) y = z / 2 ^^^ 3988292384) := by
              have := HT.out
              unfold Pure.T at this
              rw [if_pos ho] at this
              exact this
            generalize z / 2 ^^^ 3988292384 = z2 at e2 HT2
            go_wp2
            go_round
            case rel => exact ⟨m + 1, by omega, by go_num, by rw [HT2.out]⟩
            case measure => simp [intOf]; omega
          · have g1 : ((z : Int) % 2 == 1) = false := by simp; omega
            have HT2 : Hid (Pure.Ts (m + 1) y = z / 2) := by
              have := HT.out
              unfold Pure.T at this
              rw [if_neg ho, Nat.xor_zero] at this
              exact this
            go_wp2
            go_round
            case rel => exact ⟨m + 1, by omega, by go_num, by rw [HT2.out]; go_num⟩
            case measure => simp [intOf]; omega
        · obtain rfl : m = 8 := by omega
          go_wp2
          go_round
          case rel => exact ⟨k + 1, by omega, by go_num, by rw [HS.out]⟩
          case measure => simp [intOf]; omega
    · have HT : Hid (xs.take k = xs) := List.take_of_length_le (by omega)
      clear hc
      go_wp2
      go_ret
      exact ⟨ret_int (by have h8 := hx1; have h9 := HT.out; unfold Pure.sum; rw [h9] at h8 ⊢; omega), rfl⟩

set_option maxHeartbeats 2000000 in
set_option maxRecDepth 100000 in
theorem refsum_none (ao : Option Addr) (cap : Nat) (w : World) :
    Calls Try.prog 12 #[.slice ao 0 cap] w fun e w' => e = .returned (.int .i64 (Pure.sum [])) ∧ w' = w := by
  go_enter Try.func12, Try.ntmps12
  go_wp2
  go_loop [3, 4] (fun r i => i = .int .i64 0 ∧ r = .int .i64 4294967295) (fun r i => 0)
  case atStart => exact ⟨rfl, rfl⟩
  case round =>
    obtain ⟨rfl, rfl⟩ := hrel
    go_wp2
    go_ret
    exact ⟨rfl, rfl⟩

/-- freightref1.Sum: the sum of the bytes. -/
theorem refsum_n (ao : Option Addr) (n cap : Nat) (xs : List UInt8) (w : World) (hn : xs.length = n) (hm : n ≤ 9223372036854775807) (h : Sl w ao xs) :
    Calls Try.prog 12 #[.slice ao n cap] w fun e w' => e = .returned (.int .i64 (Pure.sum xs)) ∧ w' = w := by
  by_cases h0 : xs = []
  · subst h0
    obtain rfl : n = 0 := by simpa using hn.symm
    exact refsum_none ao cap w
  · obtain ⟨b, off, rfl, hb, hc⟩ := h.open h0
    exact refsum_some b off n cap xs w hn hm hc

set_option maxHeartbeats 2000000 in
set_option maxRecDepth 100000 in
theorem turn_any (k n : Nat) (w : World) (hn : n ≤ 1000) (hk : k < 2 * n) :
    Calls Try.prog 9 #[.int .i64 k, .int .i64 n] w fun e w' => (∃ t : Nat, t < n ∧ e = .returned (.int .i64 t)) ∧ w' = w := by
  by_cases h : k < n
  · go_enter Try.func9, Try.ntmps9
    go_wp2
    go_ret
    exact ⟨⟨k, h, rfl⟩, rfl⟩
  · go_enter Try.func9, Try.ntmps9
    go_wp2
    go_ret
    exact ⟨⟨2 * n - 1 - k, by omega, ret_int (by omega)⟩, rfl⟩

/-- A row of rows that came in. -/
structure Bx where
  da : Option Addr
  dn : Nat
  dc : Nat
  ds : List UInt8
def bx0 : Bx := ⟨none, 0, 0, []⟩
instance : Inhabited Bx := ⟨bx0⟩
def RowsAt (w : World) (ao : Option Addr) (L : List Bx) : Prop :=
  ∀ i, i < L.length → ∃ b off, ao = some ⟨b, off, none⟩ ∧ w.cell? ⟨b, off + i, none⟩ = some (.slice (L.getD i bx0).da (L.getD i bx0).dn (L.getD i bx0).dc) ∧ InB w (L.getD i bx0).da (L.getD i bx0).dn (L.getD i bx0).dc (L.getD i bx0).ds

theorem open_rows {H : Type} {enc : TypeId × Value → H} {w : World} {fuel : Nat} {v : Value} {x : DataW H × List MemPlace} (h : DataW.trod enc Try.prog w 0 (fun _ => true) true fuel 22 [v] = some x) (hw : ∀ n ∈ x.1.weights Try.prog 22, n ≤ reachBytes) :
    ∃ ao n cap L, v = .slice ao n cap ∧ L.length = n ∧ RowsAt w ao L ∧ n ≤ 9223372036854775807 := by
  rcases open_slice1 Try.underlying22 (by kernel_rfl) h with ⟨hcs, _⟩ | ⟨a, len, cap, m, n, V, D, Pl, hcs, _, hl, hm, hmm, hxx, hx⟩
  · cases hcs
    exact ⟨none, 0, 0, [], rfl, rfl, fun i hi => by simp at hi, by omega⟩
  · cases hcs
    simp only [if_true] at hmm
    subst hmm
    unfold maxLen at hm
    obtain ⟨b, off, spot⟩ := a
    have hwD : ∀ i, i < len → ∀ n ∈ (D i).weights Try.prog 23, n ≤ reachBytes := by
      intro i hi n hn
      refine hw n ?_
      rw [hxx]
      simp only [DataW.weights, Try.underlying22, List.mem_cons, List.mem_append]
      exact .inr (.inl (weights_all (List.mem_map_of_mem (List.mem_range.2 hi)) hn))
    have hel : ∀ i, i < len → ∃ c : Bx, spot = none ∧ w.cell? ⟨b, off + i, none⟩ = some (.slice c.da c.dn c.dc) ∧ InB w c.da c.dn c.dc c.ds := by
      intro i hi
      obtain ⟨h1, h2⟩ := hx i (by omega)
      obtain ⟨ao, nn, cp, xs, e, hin⟩ := open_bytes h2 (hwD i hi)
      have hsp : spot = none := by
        have h5 := (hx 0 (by omega)).1
        rw [show ((⟨b, off, spot⟩ : Addr).add 0) = ⟨b, off, spot⟩ by simp [Addr.add]] at h5
        exact World.cell?_spot (a := ⟨b, off, spot⟩) h5
      subst hsp
      rw [Addr.add_mid, e] at h1
      exact ⟨⟨ao, nn, cp, xs⟩, rfl, h1, hin⟩
    obtain ⟨f, hf⟩ := choose_lt (α := Bx) hel
    refine ⟨_, len, _, (List.range len).map f, rfl, by simp, fun i hi => ?_, by omega⟩
    have hi' : i < len := by simpa using hi
    obtain ⟨hsp, hc⟩ := hf i hi'
    subst hsp
    have e : ((List.range len).map f).getD i bx0 = f i := by simp [hi']
    rw [e]
    exact ⟨b, off, rfl, hc⟩

theorem Try.zeroDesk (W : World) : (zeroValue 26).run Try.prog W = .ok (.agg #[.slice none 0 0]) W := by kernel_rfl

/-- What holds at the head of CodeSums' second loop. -/
structure SumsRel (w wr : World) (D : Nat) (bo : Option Nat) (R : List UInt8) : Prop where
  dk : Dk wr D bo R
  geD : w.heap.size ≤ D
  geg : ∀ g, bo = some g → w.heap.size ≤ g
  below : Below w.heap.size w wr

set_option maxHeartbeats 4000000 in
set_option maxRecDepth 100000 in
theorem sums_some (b off n cap : Nat) (L : List Bx) (w : World) (hn : L.length = n) (hm : n ≤ 9223372036854775807) (hc : ∀ i, i < L.length → w.cell? ⟨b, off + i, none⟩ = some (.slice (L.getD i bx0).da (L.getD i bx0).dn (L.getD i bx0).dc) ∧ InB w (L.getD i bx0).da (L.getD i bx0).dn (L.getD i bx0).dc (L.getD i bx0).ds) (hbw : b < w.heap.size) :
    Calls Try.prog 3 #[.slice (some ⟨b, off, none⟩) n cap] w fun e w' => e = .returned (.bool true) ∧ Below w.heap.size w w' := by
  by_cases h200 : 200 < n
  · clear hc
    go_enter Try.func3, Try.ntmps3
    go_wp2
    go_ret
    exact ⟨rfl, Below.refl _ _⟩
  have hzv := Try.zeroDesk
  have HN : Hid (L.length = n) := hn
  have HC : Hid (∀ i, i < L.length → w.cell? ⟨b, off + i, none⟩ = some (.slice (L.getD i bx0).da (L.getD i bx0).dn (L.getD i bx0).dc) ∧ InB w (L.getD i bx0).da (L.getD i bx0).dn (L.getD i bx0).dc (L.getD i bx0).ds) := hc
  clear hn hc
  go_enter Try.func3, Try.ntmps3
  go_wp2
  go_loop [3, 4] (fun x y => ∃ k v : Nat, k ≤ n ∧ y = .int .i64 k ∧ x = .int .i64 v ∧ v ≤ 200000 ∧ Hid (∀ i, i < k → (L.getD i bx0).dn ≤ 200000)) (fun x y => n - (intOf y).toNat)
  case atStart => exact ⟨0, 0, Nat.zero_le _, rfl, rfl, by omega, fun i hi => by omega⟩
  case round =>
    obtain ⟨k, v, hk, rfl, rfl, hv, HV⟩ := hrel
    by_cases hlt : k < n
    · have hcl := HC.out k (by rw [HN.out]; exact hlt)
      have hc3 := hcl.1
      have hdm := hcl.2.max
      have hdc := hcl.2.le
      obtain ⟨dn, hdn⟩ : ∃ dn, (L.getD k bx0).dn = dn := ⟨_, rfl⟩
      have HDN : Hid ((L.getD k bx0).dn = dn) := hdn
      rw [hdn] at hc3 hdc
      generalize (L.getD k bx0).da = da at hc3
      generalize (L.getD k bx0).dc = dc at hc3 hdm hdc
      clear hcl hdn
      by_cases hbig : 200000 < v + dn
      · go_wp2
        go_ret
        exact ⟨rfl, Below.refl _ _⟩
      · have HV2 : Hid (∀ i, i < k + 1 → (L.getD i bx0).dn ≤ 200000) := fun i hi => by
          by_cases h : i < k
          · exact HV.out i h
          · obtain rfl : i = k := by omega
            rw [HDN.out]; omega
        go_wp2
        go_round
        case rel => exact ⟨k + 1, v + dn, by omega, by go_num, by go_num, by omega, HV2⟩
        case measure => simp [intOf]; omega
    · obtain rfl : k = n := by omega
      have HI : Hid (SumsRel w (w.alloc (.cells #[.slice none 0 0] 26)) w.heap.size none []) :=
        ⟨⟨by simp, by simp, fun _ => rfl, by simp, by simp⟩, Nat.le_refl _, by simp, (Below.refl _ _).alloc (Nat.le_refl _) _⟩
      go_wp2
      obtain ⟨D, hD⟩ : ∃ D, D = w.heap.size := ⟨_, rfl⟩
      rw [← hD] at HI ⊢
      clear hzv hD
      go_loopw [6] (fun x wr => ∃ (j : Nat) (bo : Option Nat) (R : List UInt8), j ≤ 2 * k ∧ x = .int .i64 j ∧ Hid (SumsRel w wr D bo R)) (fun x wr => 2 * k - (intOf x).toNat)
      case atStart => exact ⟨0, none, [], Nat.zero_le _, rfl, HI⟩
      case round =>
        clear HI
        obtain ⟨j, bo, R, hj, rfl, HR⟩ := hrel
        by_cases hjl : j < 2 * k
        · go_wp2_with (fail)
          refine (turn_any j k _ (by omega) hjl).mono ?_
          rintro e w' ⟨⟨t, ht, rfl⟩, hw⟩
          obtain rfl := hw.symm
          have hcl := HC.out t (by rw [HN.out]; exact ht)
          have hc3 : wr.cell? ⟨b, off + t, none⟩ = some (.slice (L.getD t bx0).da (L.getD t bx0).dn (L.getD t bx0).dc) := (HR.out.below.cell (p := ⟨b, off + t, none⟩) hbw).trans hcl.1
          have HIN : Hid (InB w (L.getD t bx0).da (L.getD t bx0).dn (L.getD t bx0).dc (L.getD t bx0).ds) := hcl.2
          have hd2 := HV.out t ht
          generalize (L.getD t bx0).da = da at hc3 HIN
          generalize (L.getD t bx0).dn = dn at hc3 HIN hd2
          generalize (L.getD t bx0).dc = dc at hc3 HIN
          generalize (L.getD t bx0).ds = ds at HIN
          have HS : Hid (Sl wr da ds) := HIN.out.sl.kept (Kept.of_below HR.out.below) (by simp)
          have HFA : Hid (ds ≠ [] → ∀ a, da = some a → a.block ∉ dkfp D bo) := fun hne a ha => by
            obtain ⟨b', off', e', hb', _⟩ := HIN.out.sl.open hne
            rw [e'] at ha
            cases ha
            have h1 := HR.out.geD
            have h2 := HR.out.geg
            simp only [dkfp, List.mem_cons, Option.mem_toList, not_or]
            exact ⟨by show b' ≠ D; omega, fun hm => by have := h2 _ hm; omega⟩
          clear hcl
          go_wp2_with (fail)
          refine (lay_any D bo da dn dc ds R _ HR.out.dk HIN.out.len HS.out HFA.out hd2).mono ?_
          rintro e w2 ⟨g, m, rfl, hdk2, hm5, hk2, hg2⟩
          have hB2 : Below w.heap.size w w2 := HR.out.below.trans (hk2.below HR.out.below.size (fun i hi => by
            simp only [dkfp, List.mem_cons, Option.mem_toList] at hi
            rcases hi with rfl | hi
            · exact HR.out.geD
            · exact HR.out.geg _ hi))
          have hgg : w.heap.size ≤ g := by
            rcases hg2 with h | h
            · exact HR.out.geg _ h
            · have := HR.out.below.size; omega
          have HS2 : Hid (Sl w2 da ds) := HIN.out.sl.kept (Kept.of_below hB2) (by simp)
          have HG2 : Hid (Sl w2 (some ⟨g, 0, none⟩) ds) := Sl.of fun i hi => by
            rw [Nat.zero_add, cell_of_row _ _ _ _ _ _ (hdk2.row g rfl).2, List.getElem?_toArray, bys_at (by simp [laid]; omega)]
            simp [laid, List.getElem?_append_left hi]
          have HR2 : Hid (SumsRel w w2 D (some g) (laid ds m)) := ⟨hdk2, HR.out.geD, fun g' e => by cases e; exact hgg, hB2⟩
          clear hdk2 hk2 hg2 hB2 hgg HR HS HFA hc3
          go_wp2_with (fail)
          refine (sum_n _ dn m ds _ HIN.out.len (by rw [HIN.out.len]; omega) HG2.out).mono ?_
          rintro e w3 ⟨rfl, hb3⟩
          have HR3 : Hid (SumsRel w w3 D (some g) (laid ds m)) :=
            ⟨HR2.out.dk.kept (Kept.of_below hb3) (by simp) (by simp), HR2.out.geD, HR2.out.geg, HR2.out.below.trans (hb3.mono HR2.out.below.size)⟩
          have HS3 : Hid (Sl w3 da ds) := HIN.out.sl.kept (Kept.of_below HR3.out.below) (by simp)
          clear hb3 HR2 HS2 HG2
          go_wp2_with (fail)
          refine (refsum_n da dn dc ds _ HIN.out.len (by omega) HS3.out).mono ?_
          rintro e w' ⟨rfl, hw⟩
          obtain rfl := hw.symm
          generalize (Pure.sum ds : Int) = sm
          go_wp2_with (fail)
          refine (lies_ok D g da dn dc m ds _ HR3.out.dk HIN.out.len HS3.out hm5).mono ?_
          rintro e w' ⟨rfl, n4, rfl⟩
          have HR4 : Hid (SumsRel w (w3.drewN n4) D (some g) (laid ds m)) :=
            ⟨HR3.out.dk.kept ((Kept.refl [] w3).drewN n4) (by simp) (by simp), HR3.out.geD, HR3.out.geg, ⟨HR3.out.below.os, HR3.out.below.tape, HR3.out.below.output, HR3.out.below.size, HR3.out.below.block⟩⟩
          clear HR3 HS3
          go_wp2
          go_roundw
          case rel => exact ⟨j + 1, some g, laid ds m, by omega, by go_num, HR4⟩
          case measure => simp [intOf]; omega
        · have hB := HR.out.below
          clear HR
          go_wp2_with (go_at_call 14; refine (known_any _).mono ?_; rintro e wk ⟨rfl, hkk⟩)
          go_ret
          exact ⟨rfl, hB.trans (hkk.below hB.size (by simp))⟩

set_option maxHeartbeats 2000000 in
set_option maxRecDepth 100000 in
theorem sums_none (ao : Option Addr) (cap : Nat) (w : World) :
    Calls Try.prog 3 #[.slice ao 0 cap] w fun e w' => e = .returned (.bool true) ∧ Below w.heap.size w w' := by
  have hzv := Try.zeroDesk
  go_enter Try.func3, Try.ntmps3
  go_wp2
  go_loop [3, 4] (fun x y => y = .int .i64 0 ∧ x = .int .i64 0) (fun x y => 0)
  case atStart => exact ⟨rfl, rfl⟩
  case round =>
    obtain ⟨rfl, rfl⟩ := hrel
    have hB : Below w.heap.size w (w.alloc (.cells #[.slice none 0 0] 26)) := (Below.refl _ _).alloc (Nat.le_refl _) _
    go_wp2
    generalize w.alloc _ = w1 at hB ⊢
    go_loop [6] (fun x => x = .int .i64 0) (fun x => 0)
    case atStart => rfl
    case round =>
      subst hrel
      go_wp2_with (go_at_call 14; refine (known_any _).mono ?_; rintro e wk ⟨rfl, hkk⟩)
      go_ret
      exact ⟨rfl, hB.trans (hkk.below hB.size (by simp))⟩

/-- CodeSums: whatever the input: true; nothing that was there turns. -/
theorem sums_any (ao : Option Addr) (n cap : Nat) (L : List Bx) (w : World) (hn : L.length = n) (hm : n ≤ 9223372036854775807) (h : RowsAt w ao L) :
    Calls Try.prog 3 #[.slice ao n cap] w fun e w' => e = .returned (.bool true) ∧ Below w.heap.size w w' := by
  by_cases h0 : L = []
  · subst h0
    obtain rfl : n = 0 := by simpa using hn.symm
    exact sums_none ao cap w
  · obtain ⟨b, off, e, hc0, _⟩ := h 0 (List.length_pos_iff.2 h0)
    subst e
    refine sums_some b off n cap L w hn hm (fun i hi => ?_) (World.block_lt_of_cell? _ _ hc0)
    obtain ⟨b', off', e', hc'⟩ := h i hi
    cases e'
    exact hc'

end Go.Proofs.Ytjmameknbnflaaa
