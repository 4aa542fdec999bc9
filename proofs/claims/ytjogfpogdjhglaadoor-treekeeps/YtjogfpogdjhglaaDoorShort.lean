/-
  Contract: code.shortest.
-/
import Derived.Test.YtjogfpogdjhglaaDoorProg
import Derived.Test.YtjogfpogdjhglaaDoorMem
import Derived.Test.YtjogfpogdjhglaaDoorPure2
import Derived.Deep.QuietTactic
import Derived.BigQuiet
namespace Go.Proofs.YtjogfpogdjhglaaDoor
open Go.RowKit
set_option linter.unusedVariables false

theorem ret_num {a b c : Int} {n : Nat × Nat × Nat} (h1 : a = n.1) (h2 : b = n.2.1) (h3 : c = n.2.2) :
    Ending.returned (.tuple #[.int .i64 a, .int .i64 b, .int .i64 c]) = .returned (.tuple #[.int .i64 n.1, .int .i64 n.2.1, .int .i64 n.2.2]) := by rw [h1, h2, h3]

set_option maxHeartbeats 800000 in
set_option maxRecDepth 100000 in
theorem shortest_some (b off len cap : Nat) (xs : List UInt8) (w : World) (hm : len ≤ 4611686018427387904) (hl : xs.length = len) (hc : ∀ i, i < xs.length → w.cell? ⟨b, off + i, none⟩ = some (.int .u8 (xs.getD i 0).toNat)) :
    Calls Tryd.prog 44 #[.slice (some ⟨b, off, none⟩) len cap] w fun e w' => e = .returned (.tuple #[.int .i64 (Pure.num xs).1, .int .i64 (Pure.num xs).2.1, .int .i64 (Pure.num xs).2.2]) ∧ w' = w := by
  go_enter Tryd.func44, Tryd.ntmps44
  go_wp2
  go_step3
  go_wp2
  go_step3
  go_wp2
  go_loop [5, 6] (fun v i => ∃ k x : Nat, k ≤ 5 ∧ k ≤ len ∧ i = .int .i64 k ∧ v = .int .i64 x ∧ x < 2 ^ (7 * k) ∧ Hid (Pure.num xs = Pure.numGo xs (5 - k) k x)) (fun _ i => 5 - (intOf i).toNat)
  case atStart => exact ⟨0, 0, by omega, Nat.zero_le _, rfl, rfl, by simp, rfl⟩
  case round =>
    obtain ⟨k, x, hk5, hk, rfl, rfl, hx, HR⟩ := hrel
    by_cases h5 : k = 5
    · subst h5
      have HR' : Hid (Pure.num xs = (0, 0, 11)) := HR.out
      clear hx HR hc
      go_wp2
      go_ret3
      exact ⟨ret_num (by rw [HR'.out]; rfl) (by rw [HR'.out]; rfl) (by rw [HR'.out]; rfl), rfl⟩
    · have g5 : ((k : Int) == 5) = false := by simp; omega
      obtain ⟨f, hf⟩ : ∃ f, 5 - k = f + 1 := ⟨4 - k, by omega⟩
      have hp := Pure.pow_le4 (show k ≤ 4 by omega)
      by_cases hlt : k < len
      · have g6 : ((k : Int) == (len : Int)) = false := by simp; omega
        have hcell := hc k (by omega)
        have hcb : (xs.getD k 0).toNat < 256 := UInt8.toNat_lt _
        clear hc
        by_cases h128 : (xs.getD k 0).toNat < 128
        · obtain ⟨m, hmm⟩ : ∃ m, m = (xs.getD k 0).toNat * 2 ^ (7 * k) := ⟨_, rfl⟩
          have hml : m ≤ 127 * 268435456 := by rw [hmm]; exact Nat.mul_le_mul (by omega) hp
          have hsh : (((xs.getD k 0).toNat : Int) * 2 ^ (7 * k)) = (m : Int) := by rw [hmm]; simp
          have hxl : x < 268435456 := by omega
          by_cases hbad : 2147483647 < x + m ∨ (0 < k ∧ (xs.getD k 0).toNat = 0)
          · have HR' : Hid (Pure.num xs = (0, 0, 11)) := by
              have := HR.out
              rw [hf, Pure.numGo_bad (by omega) h128 (by rw [← hmm]; exact hbad)] at this
              exact this
            clear HR hmm hx hf hp
            generalize (xs.getD k 0).toNat = c at hcell hcb h128 hsh hbad
            by_cases hbig : 2147483647 < x + m
            · clear hbad
              go_wp2
              go_ret3
              exact ⟨ret_num (by rw [HR'.out]; rfl) (by rw [HR'.out]; rfl) (by rw [HR'.out]; rfl), rfl⟩
            · obtain ⟨hk0, rfl⟩ : 0 < k ∧ c = 0 := by omega
              clear hbad
              go_wp2
              go_ret3
              exact ⟨ret_num (by rw [HR'.out]; rfl) (by rw [HR'.out]; rfl) (by rw [HR'.out]; rfl), rfl⟩
          · have HR' : Hid (Pure.num xs = (x + m, k + 1, 0)) := by
              have := HR.out
              rw [hf, Pure.numGo_good (by omega) h128 (by rw [← hmm]; exact hbad), ← hmm] at this
              exact this
            clear HR hmm hx hf hp
            generalize (xs.getD k 0).toNat = c at hcell hcb h128 hsh hbad
            have hsm : x + m ≤ 2147483647 := by omega
            by_cases hk0 : 0 < k
            · have hc0 : ((c : Int) == 0) = false := by simp; omega
              clear hbad
              go_wp2
              go_ret3
              exact ⟨ret_num (by rw [HR'.out]; simp) (by rw [HR'.out]; simp) (by rw [HR'.out]; rfl), rfl⟩
            · clear hbad
              go_wp2
              go_ret3
              exact ⟨ret_num (by rw [HR'.out]; simp) (by rw [HR'.out]; simp) (by rw [HR'.out]; rfl), rfl⟩
        · obtain ⟨m, hmm⟩ : ∃ m, m = ((xs.getD k 0).toNat - 128) * 2 ^ (7 * k) := ⟨_, rfl⟩
          have hml : m ≤ 127 * 268435456 := by rw [hmm]; exact Nat.mul_le_mul (by omega) hp
          have hml2 : m ≤ 127 * 2 ^ (7 * k) := by rw [hmm]; exact Nat.mul_le_mul (by omega) (Nat.le_refl _)
          have hsh : ((((xs.getD k 0).toNat : Int) - 128) * 2 ^ (7 * k)) = (m : Int) := by
            rw [hmm, show (((xs.getD k 0).toNat : Int) - 128) = (((xs.getD k 0).toNat - 128 : Nat) : Int) by omega]; simp
          have hxl : x < 268435456 := by omega
          have HR' : Hid (Pure.num xs = Pure.numGo xs (5 - (k + 1)) (k + 1) (x + m)) := by
            have := HR.out
            rw [hf, Pure.numGo_more (by omega) h128, ← hmm] at this
            rw [show 5 - (k + 1) = f by omega]
            exact this
          have HB : Hid (x + m < 2 ^ (7 * (k + 1))) := by
            have : 2 ^ (7 * (k + 1)) = 128 * 2 ^ (7 * k) := by rw [show 7 * (k + 1) = 7 * k + 7 by omega, Nat.pow_add]; omega
            show _ < _
            omega
          clear HR hmm hx hf hp hml2
          generalize (xs.getD k 0).toNat = c at hcell hcb h128 hsh
          go_wp2
          go_round
          case rel => exact ⟨k + 1, x + m, by omega, by omega, by go_num, by go_num, HB.out, HR'⟩
          case measure => simp [intOf]; omega
      · have g6 : ((k : Int) == (len : Int)) = true := by simp; omega
        have HR' : Hid (Pure.num xs = (0, 0, 10)) := by
          have := HR.out
          rw [hf, Pure.numGo_short (by omega)] at this
          exact this
        clear hx HR hc hf hp
        go_wp2
        go_ret3
        exact ⟨ret_num (by rw [HR'.out]; rfl) (by rw [HR'.out]; rfl) (by rw [HR'.out]; rfl), rfl⟩

set_option maxHeartbeats 800000 in
set_option maxRecDepth 100000 in
theorem shortest_empty (ao : Option Addr) (cap : Nat) (w : World) :
    Calls Tryd.prog 44 #[.slice ao 0 cap] w fun e w' => e = .returned (.tuple #[.int .i64 (Pure.num []).1, .int .i64 (Pure.num []).2.1, .int .i64 (Pure.num []).2.2]) ∧ w' = w := by
  go_enter Tryd.func44, Tryd.ntmps44
  go_wp2
  go_step3
  go_wp2
  go_step3
  go_wp2
  go_loop [5, 6] (fun v i => i = .int .i64 0 ∧ v = .int .i64 0) (fun _ i => 0)
  case atStart => exact ⟨rfl, rfl⟩
  case round =>
    obtain ⟨rfl, rfl⟩ := hrel
    go_wp2
    go_ret3
    exact ⟨ret_num rfl rfl rfl, rfl⟩

/-- code.shortest: the number that bytes begin with. -/
theorem shortest_any (ao : Option Addr) (cap : Nat) (xs : List UInt8) (w : World) (hm : xs.length ≤ 4611686018427387904) (h : Sl w ao xs) :
    Calls Tryd.prog 44 #[.slice ao xs.length cap] w fun e w' => e = .returned (.tuple #[.int .i64 (Pure.num xs).1, .int .i64 (Pure.num xs).2.1, .int .i64 (Pure.num xs).2.2]) ∧ w' = w := by
  by_cases hn : xs = []
  · subst hn
    exact shortest_empty ao cap w
  · obtain ⟨b, off, rfl, hb, hc⟩ := h.open hn
    exact shortest_some b off xs.length cap xs w hm rfl hc

theorem shortest_n (ao : Option Addr) (n cap : Nat) (xs : List UInt8) (w : World) (hn : xs.length = n) (hm : xs.length ≤ 4611686018427387904) (h : Sl w ao xs) :
    Calls Tryd.prog 44 #[.slice ao n cap] w fun e w' => e = .returned (.tuple #[.int .i64 (Pure.num xs).1, .int .i64 (Pure.num xs).2.1, .int .i64 (Pure.num xs).2.2]) ∧ w' = w := by
  subst hn
  exact shortest_any ao cap xs w hm h

end Go.Proofs.YtjogfpogdjhglaaDoor
