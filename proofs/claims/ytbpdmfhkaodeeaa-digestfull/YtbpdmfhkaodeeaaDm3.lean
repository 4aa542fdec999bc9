/-
  Contract: freightlaw2.much.
-/
import Derived.Test.YtbpdmfhkaodeeaaDf1
namespace Go.Proofs.Ytbpdmfhkaodeeaa
open Go.RowKit
set_option linter.unusedVariables false
set_option linter.unusedSimpArgs false

/-- What much answers: where it says no, there is little. -/
def MuchEnd (L : List Pc) (e : Ending) : Prop := e = .returned (.bool true) ∨ (e = .returned (.bool false) ∧ L.length + (joined L).length ≤ 3000000)

set_option maxHeartbeats 800000 in
set_option maxRecDepth 100000 in
theorem much_ok (ao : Option Addr) (cap : Nat) (L : List Pc) (w : World) (hp : Pcs w ao L) (hm : L.length ≤ 9223372036854775807) (n : Nat) (hn : L.length = n) :
    Calls Try.prog 9 #[.slice ao n cap] w fun e w' => MuchEnd L e ∧ w' = w := by
  have HP : Hid (Pcs w ao L) := hp
  have HN : Hid (L.length = n) := hn
  have hn2 : n ≤ 9223372036854775807 := by omega
  clear hp hn hm
  go_enter Try.func9, Try.ntmps9
  go_wp2
  go_loopw [3, 4] (fun t i wr => ∃ k T : Nat, k ≤ n ∧ i = .int .i64 k ∧ t = .int .i64 T ∧ T ≤ 3000000 ∧ Hid (T = k + (joined (L.take k)).length) ∧ wr = w) (fun v i wr => n - (intOf i).toNat)
  case atStart => exact ⟨0, 0, by omega, rfl, rfl, by omega, (by show 0 = _; simp [joined]), rfl⟩
  case round =>
    obtain ⟨k, T, hk, rfl, rfl, hT, HT, rfl⟩ := hrel
    by_cases hlt : k < n
    · obtain ⟨b, off, rfl, hcell, hpc⟩ := HP.out k (by rw [HN.out]; exact hlt)
      have hJ := joined_take L k (by rw [HN.out]; exact hlt)
      generalize L.getD k pc0 = pc at hcell hJ
      have HJ : Hid (k + 1 + (joined (L.take (k + 1))).length = T + 1 + pc.ds.length) := by
        show _ = _
        rw [hJ, List.length_append, HT.out]; omega
      clear hJ hpc
      generalize pc.ds.length = d at hcell HJ
      by_cases h1 : 3000000 < d
      · go_wp2
        go_ret
        exact ⟨.inl rfl, rfl⟩
      · by_cases h2 : 3000000 < T + 1 + d
        · go_wp2
          go_ret
          exact ⟨.inl rfl, rfl⟩
        · go_wp2
          go_roundw
          case rel => exact ⟨k + 1, T + 1 + d, by omega, by go_num, by go_num, by omega, HJ.out.symm, by first | trivial | rfl⟩
          case measure => simp [intOf]; omega
    · obtain rfl : k = n := by omega
      have e : L.take k = L := List.take_of_length_le (by rw [HN.out]; omega)
      rw [e] at HT
      go_wp2
      go_ret
      exact ⟨.inr ⟨rfl, by rw [HN.out, ← HT.out]; exact hT⟩, rfl⟩
end Go.Proofs.Ytbpdmfhkaodeeaa
