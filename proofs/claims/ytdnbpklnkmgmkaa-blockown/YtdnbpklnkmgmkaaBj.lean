/-
  Contracts: freightlaw11.bytes, fits.
-/
import Derived.Test.YtdnbpklnkmgmkaaBh
import Derived.WalkArith
namespace Go.Proofs.Ytdnbpklnkmgmkaa
open Go.RowKit
set_option linter.unusedVariables false
set_option linter.unusedSimpArgs false

theorem take_snoc2 (l : List UInt8) (d : UInt8) (k : Nat) (h : k < l.length) : l.take (k + 1) = l.take k ++ [l.getD k d] := by
  rw [List.take_succ_eq_append_getElem h]
  simp [List.getElem?_eq_getElem h]

set_option maxHeartbeats 800000 in
set_option maxRecDepth 100000 in
theorem bytes_some (b1 o1 c1 b2 o2 c2 n : Nat) (xs ys : List UInt8) (w : World) (hx : xs.length = n) (hy : ys.length = n) (hm : n ≤ 4611686018427387904)
    (h1 : ∀ i, i < xs.length → w.cell? ⟨b1, o1 + i, none⟩ = some (.int .u8 (xs.getD i 0).toNat)) (h2 : ∀ i, i < ys.length → w.cell? ⟨b2, o2 + i, none⟩ = some (.int .u8 (ys.getD i 0).toNat)) :
    Calls Try.prog 14 #[.slice (some ⟨b1, o1, none⟩) n c1, .slice (some ⟨b2, o2, none⟩) n c2] w fun e w' => e = .returned (.bool (decide (xs = ys))) ∧ ∃ k, w' = w.drewN k := by
  go_enter Try.func14, Try.ntmps14
  go_wp2
  go_loopw [5] (fun i wr => ∃ k : Nat, k ≤ n ∧ i = .int .i64 k ∧ xs.take k = ys.take k ∧ ∃ j, wr = w.drewN j) (fun i wr => n - (intOf i).toNat)
  case atStart => exact ⟨0, Nat.zero_le _, rfl, by simp, 0, rfl⟩
  case round =>
    obtain ⟨k, hk, rfl, heq, j, hwr⟩ := hrel
    subst hwr
    have HE : Hid (xs.take k = ys.take k) := heq
    clear heq
    by_cases hlt : k < n
    · have e1 := h1 k (by omega)
      have e2 := h2 k (by omega)
      have hc1 : (xs.getD k 0).toNat < 256 := UInt8.toNat_lt _
      have hc2 : (ys.getD k 0).toNat < 256 := UInt8.toNat_lt _
      by_cases hcc : xs.getD k 0 = ys.getD k 0
      · have hcn : (((xs.getD k 0).toNat : Int) != ((ys.getD k 0).toNat : Int)) = false := by rw [hcc]; simp
        have HC : Hid (xs.getD k 0 = ys.getD k 0) := hcc
        clear hcc h1 h2
        generalize (xs.getD k 0).toNat = c at e1 hcn hc1
        generalize (ys.getD k 0).toNat = d at e2 hcn hc2
        go_wp2
        go_quiet (fail)
        go_wp2
        go_roundw
        case rel => exact ⟨k + 1, by omega, by go_num, by rw [take_snoc2 xs 0 k (by omega), take_snoc2 ys 0 k (by omega), HE.out, HC.out], _, rfl⟩
        case measure => simp [intOf]; omega
      · have hcn : (((xs.getD k 0).toNat : Int) != ((ys.getD k 0).toNat : Int)) = true := by
          simp only [bne_iff_ne, ne_eq]
          intro h
          exact hcc (UInt8.toNat_inj.1 (by omega))
        have hfin : Hid (decide (xs = ys) = false) := by
          show _ = _
          simp only [decide_eq_false_iff_not]
          rintro rfl
          exact hcc rfl
        clear hcc h1 h2
        generalize (xs.getD k 0).toNat = c at e1 hcn hc1
        generalize (ys.getD k 0).toNat = d at e2 hcn hc2
        go_wp2
        go_quiet (fail)
        go_wp2
        go_ret
        exact ⟨by rw [hfin.out]; rfl, j + nq, by simp⟩
    · have hfin : Hid (decide (xs = ys) = true) := by
        have := HE.out
        rw [List.take_of_length_le (by omega), List.take_of_length_le (by omega)] at this
        show _ = _
        simpa using this
      clear h1 h2
      go_wp2
      go_ret
      exact ⟨by rw [hfin.out]; rfl, j, rfl⟩

set_option maxHeartbeats 800000 in
set_option maxRecDepth 100000 in
theorem bytes_len (a1 a2 : Option Addr) (n1 c1 n2 c2 : Nat) (w : World) (hn : n1 ≠ n2) :
    Calls Try.prog 14 #[.slice a1 n1 c1, .slice a2 n2 c2] w fun e w' => e = .returned (.bool false) ∧ w' = w := by
  have h : ((n1 : Int) != (n2 : Int)) = true := by simp; omega
  go_enter Try.func14, Try.ntmps14
  go_wp2
  go_ret
  exact ⟨rfl, rfl⟩

set_option maxHeartbeats 800000 in
set_option maxRecDepth 100000 in
theorem bytes_none (a1 a2 : Option Addr) (c1 c2 : Nat) (w : World) :
    Calls Try.prog 14 #[.slice a1 0 c1, .slice a2 0 c2] w fun e w' => e = .returned (.bool true) ∧ w' = w := by
  go_enter Try.func14, Try.ntmps14
  go_wp2
  go_loop [5] (fun i => i = .int .i64 0) (fun i => 0)
  case atStart => rfl
  case round =>
    subst hrel
    go_wp2
    go_ret
    exact ⟨rfl, rfl⟩

/-- freightlaw11.bytes: are two rows of bytes alike? -/
theorem bytes_any (a1 a2 : Option Addr) (n1 c1 n2 c2 : Nat) (xs ys : List UInt8) (w : World) (hx : xs.length = n1) (hy : ys.length = n2) (hm : n1 ≤ 4611686018427387904) (h1 : Sl w a1 xs) (h2 : Sl w a2 ys) :
    Calls Try.prog 14 #[.slice a1 n1 c1, .slice a2 n2 c2] w fun e w' => e = .returned (.bool (decide (xs = ys))) ∧ ∃ k, w' = w.drewN k := by
  by_cases hn : n1 = n2
  · subst hn
    by_cases h0 : xs = []
    · subst h0
      obtain rfl : ys = [] := List.eq_nil_of_length_eq_zero (by rw [hy, ← hx]; rfl)
      obtain rfl : n1 = 0 := by simpa using hx.symm
      exact (bytes_none a1 a2 c1 c2 w).mono fun e w' ⟨he, hw⟩ => ⟨he, 0, hw⟩
    · have h0' : ys ≠ [] := fun h => h0 (List.eq_nil_of_length_eq_zero (by rw [hx, ← hy, h]; rfl))
      obtain ⟨b1, o1, rfl, _, hc1⟩ := h1.open h0
      obtain ⟨b2, o2, rfl, _, hc2⟩ := h2.open h0'
      exact bytes_some b1 o1 c1 b2 o2 c2 n1 xs ys w hx hy hm hc1 hc2
  · refine (bytes_len a1 a2 n1 c1 n2 c2 w hn).mono fun e w' ⟨he, hw⟩ => ⟨?_, 0, hw⟩
    rw [he]
    have : decide (xs = ys) = false := by
      simp only [decide_eq_false_iff_not]
      rintro rfl
      exact hn (hx.symm.trans hy)
    rw [this]



theorem bytes_yes (a1 a2 : Option Addr) (n c1 c2 : Nat) (xs : List UInt8) (w : World) (hx : xs.length = n) (hm : n ≤ 4611686018427387904) (h1 : Sl w a1 xs) (h2 : Sl w a2 xs) :
    Calls Try.prog 14 #[.slice a1 n c1, .slice a2 n c2] w fun e w' => e = .returned (.bool true) ∧ Kept [] w w' := by
  refine (bytes_any a1 a2 n c1 n c2 xs xs w hx hx hm h1 h2).mono ?_
  rintro e w' ⟨rfl, k, rfl⟩
  exact ⟨by simp, (Kept.refl [] w).drewN k⟩

set_option maxHeartbeats 400000 in
theorem fits_yes (ao : Option Addr) (n cap : Nat) (s : Int) (w : World) (h1 : n ≤ 65536) (h2 : 16 ≤ s) (h3 : s ≤ 4096) :
    Calls Try.prog 21 #[.slice ao n cap, .int .i64 s] w fun e w' => e = .returned (.bool true) ∧ w' = w := by
  have q1 : (n : Int) ≤ 65536 := by omega
  go_enter Try.func21, Try.ntmps21
  go_wp2
  go_ret
  exact ⟨rfl, rfl⟩

set_option maxHeartbeats 400000 in
theorem fits_no (ao : Option Addr) (n cap : Nat) (s : Int) (w : World) (h : ¬ (n ≤ 65536 ∧ 16 ≤ s ∧ s ≤ 4096)) :
    Calls Try.prog 21 #[.slice ao n cap, .int .i64 s] w fun e w' => e = .returned (.bool false) ∧ w' = w := by
  by_cases h1 : (n : Int) ≤ 65536
  · have h1d : decide (n ≤ 65536) = true := by simp; omega
    by_cases h2 : 16 ≤ s
    · have h3 : ¬ s ≤ 4096 := fun h3 => h ⟨by omega, h2, h3⟩
      clear h
      go_enter Try.func21, Try.ntmps21
      go_wp2
      go_ret
      exact ⟨rfl, rfl⟩
    · clear h
      go_enter Try.func21, Try.ntmps21
      go_wp2
      go_ret
      exact ⟨rfl, rfl⟩
  · have h1d : decide (n ≤ 65536) = false := by simp; omega
    clear h
    go_enter Try.func21, Try.ntmps21
    go_wp2
    go_ret
    exact ⟨rfl, rfl⟩

end Go.Proofs.Ytdnbpklnkmgmkaa
