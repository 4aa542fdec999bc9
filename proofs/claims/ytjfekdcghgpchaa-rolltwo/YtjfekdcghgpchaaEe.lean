/-
  Contracts: Desk.lies; num.
-/
import Derived.Test.YtjfekdcghgpchaaEd
namespace Go.Proofs.Ytjfekdcghgpchaa
open Go.RowKit
set_option linter.unusedVariables false
set_option linter.unusedSimpArgs false

set_option maxHeartbeats 1600000 in
set_option maxRecDepth 100000 in
theorem lies_some (D g : Nat) (a : Addr) (n cap m : Nat) (xs : List UInt8) (w : World) (hD : Dk w D (some g) (laid xs m)) (hx : xs.length = n) (hs : ∀ i, i < n → w.cell? (a.add i) = some (.int .u8 (xs.getD i 0).toNat)) (hnm : n + 5 ≤ m) :
    Calls Try.prog 12 #[.pointer (some ⟨D, 0, none⟩), .slice (some a) n cap] w fun e w' => e = .returned (.bool true) ∧ ∃ k, w' = w.drewN k := by
  have hll : (laid xs m).length = m := by simp [laid, hx]; omega
  have hc := hD.cell
  have hsm := hD.small
  rw [hll] at hc hsm
  simp only [Option.map_some] at hc
  have hcg : ∀ i, i < m → w.cell? ⟨g, i, none⟩ = some (.int .u8 ((laid xs m).getD i 0).toNat) := fun i hi => by
    rw [cell_of_row _ _ _ _ _ _ (hD.row g rfl).2, List.getElem?_toArray]
    exact bys_at (by omega)
  have H1 : Hid (∀ i, i < n → w.cell? ⟨g, i, none⟩ = some (.int .u8 (xs.getD i 0).toNat)) := fun i hi => by
    rw [hcg i (by omega)]
    have : (laid xs m).getD i 0 = xs.getD i 0 := by simp [laid, List.getElem?_append_left (show i < xs.length by omega)]
    rw [this]
  have H2 : Hid (∀ i, n ≤ i → i < m → w.cell? ⟨g, i, none⟩ = some (.int .u8 171)) := fun i hn hi => by
    rw [hcg i hi]
    have : (laid xs m).getD i 0 = 171 := by
      simp only [laid, List.getD_eq_getElem?_getD]
      rw [List.getElem?_append_right (by omega), List.getElem?_replicate, if_pos (by omega)]
      rfl
    rw [this]; rfl
  have HS : Hid (∀ i, i < n → w.cell? (a.add i) = some (.int .u8 (xs.getD i 0).toNat)) := hs
  clear hD hx hs hll hcg
  go_enter Try.func12, Try.ntmps12
  go_wp2
  go_loopw [5] (fun i wr => ∃ k : Nat, k ≤ m ∧ i = .int .i64 k ∧ ∃ j, wr = w.drewN j) (fun i wr => m - (intOf i).toNat)
  case atStart => exact ⟨0, Nat.zero_le _, rfl, 0, rfl⟩
  case round =>
    obtain ⟨k, hk, rfl, j, hwr⟩ := hrel
    subst hwr
    by_cases hlt : k < m
    · by_cases hkn : k < n
      · have c1 := H1.out k hkn
        have c2 := HS.out k hkn
        have hcb : (xs.getD k 0).toNat < 256 := UInt8.toNat_lt _
        generalize (xs.getD k 0).toNat = c at c1 c2 hcb
        have g1 : (decide ((k : Int) < (n : Int))) = true := by simp; omega
        have g2 : (decide ((n : Int) ≤ (k : Int))) = false := by simp; omega
        have g1' : (decide (k < n)) = true := by simp; omega
        have g2' : (decide (n ≤ k)) = false := by simp; omega
        have g3 : ((c : Int) != (c : Int)) = false := by simp
        go_wp2
        go_quiet (fail)
        go_wp2
        go_roundw
        case rel => exact ⟨k + 1, by omega, by go_num, _, rfl⟩
        case measure => simp [intOf]; omega
      · have c1 := H2.out k (by omega) hlt
        have g1 : (decide ((k : Int) < (n : Int))) = false := by simp; omega
        have g2 : (decide ((n : Int) ≤ (k : Int))) = true := by simp; omega
        have g1' : (decide (k < n)) = false := by simp; omega
        have g2' : (decide (n ≤ k)) = true := by simp; omega
        go_wp2
        go_quiet (fail)
        go_wp2
        go_roundw
        case rel => exact ⟨k + 1, by omega, by go_num, _, rfl⟩
        case measure => simp [intOf]; omega
    · go_wp2
      go_ret
      exact ⟨rfl, j, rfl⟩

set_option maxHeartbeats 1600000 in
set_option maxRecDepth 100000 in
theorem lies_none (D g : Nat) (ao : Option Addr) (cap m : Nat) (w : World) (hD : Dk w D (some g) (laid [] m)) :
    Calls Try.prog 12 #[.pointer (some ⟨D, 0, none⟩), .slice ao 0 cap] w fun e w' => e = .returned (.bool true) ∧ ∃ k, w' = w.drewN k := by
  have hll : (laid [] m).length = m := by simp [laid]
  have hc := hD.cell
  have hsm := hD.small
  rw [hll] at hc hsm
  simp only [Option.map_some] at hc
  have H2 : Hid (∀ i, i < m → w.cell? ⟨g, i, none⟩ = some (.int .u8 171)) := fun i hi => by
    rw [cell_of_row _ _ _ _ _ _ (hD.row g rfl).2, List.getElem?_toArray, bys_at (by omega)]
    have : (laid [] m).getD i 0 = 171 := by simp [laid, hi]
    rw [this]; rfl
  clear hD hll
  go_enter Try.func12, Try.ntmps12
  go_wp2
  go_loopw [5] (fun i wr => ∃ k : Nat, k ≤ m ∧ i = .int .i64 k ∧ ∃ j, wr = w.drewN j) (fun i wr => m - (intOf i).toNat)
  case atStart => exact ⟨0, Nat.zero_le _, rfl, 0, rfl⟩
  case round =>
    obtain ⟨k, hk, rfl, j, hwr⟩ := hrel
    subst hwr
    by_cases hlt : k < m
    · have c1 := H2.out k hlt
      have g1 : (decide ((k : Int) < (0 : Int))) = false := by simp
      have g2 : (decide ((0 : Int) ≤ (k : Int))) = true := by simp
      have g2' : (decide (0 ≤ k)) = true := by simp
      go_wp2
      go_quiet (fail)
      go_wp2
      go_roundw
      case rel => exact ⟨k + 1, by omega, by go_num, _, rfl⟩
      case measure => simp [intOf]; omega
    · go_wp2
      go_ret
      exact ⟨rfl, j, rfl⟩

/-- Desk.lies: true where the bytes lie and all behind them are marks. -/
theorem lies_ok (D g : Nat) (ao : Option Addr) (n cap m : Nat) (xs : List UInt8) (w : World) (hD : Dk w D (some g) (laid xs m)) (hx : xs.length = n) (hs : Sl w ao xs) (hnm : n + 5 ≤ m) :
    Calls Try.prog 12 #[.pointer (some ⟨D, 0, none⟩), .slice ao n cap] w fun e w' => e = .returned (.bool true) ∧ ∃ k, w' = w.drewN k := by
  by_cases h0 : xs = []
  · subst h0
    obtain rfl : n = 0 := by simpa using hx.symm
    exact lies_none D g ao cap m w hD
  · obtain ⟨b, off, rfl, hb, hc⟩ := hs.open h0
    exact lies_some D g _ n cap m xs w hD hx (fun i hi => by rw [Addr.add_mid]; exact hc i (by omega)) hnm

set_option maxHeartbeats 800000 in
theorem num_any (a : Int) (w : World) :
    Calls Try.prog 24 #[.int .i64 a] w fun e w' => e = .returned (.int .i64 a) ∧ w' = w := by
  go_enter Try.func24, Try.ntmps24
  go_wp2
  go_ret
  exact ⟨rfl, rfl⟩

end Go.Proofs.Ytjfekdcghgpchaa
