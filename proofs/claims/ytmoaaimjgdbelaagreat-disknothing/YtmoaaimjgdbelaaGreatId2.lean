/-
  Contract: names.
-/
import Derived.Test.YtmoaaimjgdbelaaGreatId1
namespace Go.Proofs.YtmoaaimjgdbelaaGreat
open Go.RowKit Dsk
set_option linter.unusedVariables false
set_option linter.unusedSimpArgs false
/-- A row of texts that can be read. -/
def Txs (w : World) (ao : Option Addr) (l : List By) : Prop := ∀ i, i < l.length → ∃ b, ao = some ⟨b, 0, none⟩ ∧ w.cell? ⟨b, i, none⟩ = some (encStr (l.getD i []))
theorem Txs.of {w : World} {B : Nat} {ao : Option Addr} {n c : Nat} {l : List By} (h : w.ownsRow B 9 1 (.slice ao n c) n (l.map encStr)) : Txs w ao l := by
  intro i hi
  rcases h.2 with ⟨_, e⟩ | ⟨g, cap, cur, e, _⟩
  · have := h.1; simp at this; omega
  · injection e with e _ _
    subst e
    refine ⟨g, rfl, ?_⟩
    have := h.cells (g := g) rfl i (encStr (l.getD i [])) (by simp [hi])
    rwa [add0] at this
set_option maxHeartbeats 800000 in
set_option maxRecDepth 100000 in
theorem names_yes (a1 a2 : Option Addr) (n c1 c2 : Nat) (l : List By) (w : World) (hx : l.length = n) (hm : n ≤ 4611686018427387904) (h1 : Txs w a1 l) (h2 : Txs w a2 l) :
    Calls Tryz.prog 55 #[.slice a1 n c1, .slice a2 n c2] w fun e w' => e = .returned (.bool true) ∧ ∃ k, w' = w.drewN k := by
  have HX := hide hx
  clear hx
  go_enter Tryz.func55, Tryz.ntmps55
  go_wp2
  go_loopw [5] (fun i wr => ∃ k : Nat, k ≤ n ∧ i = .int .i64 k ∧ ∃ j, wr = w.drewN j) (fun i wr => n - (intOf i).toNat)
  case atStart => exact ⟨0, Nat.zero_le _, rfl, 0, rfl⟩
  case round =>
    obtain ⟨k, hk, rfl, j, hwr⟩ := hrel
    subst hwr
    by_cases hlt : k < n
    · obtain ⟨b1, rfl, e1⟩ := h1 k (by rw [HX.out]; exact hlt)
      obtain ⟨b2, rfl, e2⟩ := h2 k (by rw [HX.out]; exact hlt)
      generalize l.getD k [] = x at e1 e2
      clear h1 h2
      go_wp2
      go_quiet (fail)
      go_wp2
      go_roundw
      case rel => exact ⟨k + 1, by omega, by go_num, _, rfl⟩
      case measure => simp [intOf]; omega
    · clear h1 h2
      go_wp2
      go_ret
      exact ⟨rfl, j, rfl⟩
end Go.Proofs.YtmoaaimjgdbelaaGreat
