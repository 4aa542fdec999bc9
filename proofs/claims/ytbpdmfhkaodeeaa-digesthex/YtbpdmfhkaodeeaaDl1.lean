/-
  The walk of DigestHex.
-/
import Derived.Test.YtbpdmfhkaodeeaaDk
import Derived.Test.YtbpdmfhkaodeeaaDx2
namespace Go.Proofs.Ytbpdmfhkaodeeaa
open Go.RowKit
set_option linter.unusedVariables false
set_option linter.unusedSimpArgs false

theorem boxed_new {w w1 : World} {n : Nat} (hB : Below n w w1) (hn : n ≤ w1.heap.size) (C : Array Value) (t : TypeId) :
    (w1.alloc (.cells C t)).heap[w1.heap.size]? = some (.cells C t (0, 0)) ∧ Below n w (w1.alloc (.cells C t)) :=
  ⟨heap_alloc_new _ _, hB.alloc hn _⟩

set_option maxHeartbeats 1000000 in
set_option maxRecDepth 100000 in
theorem hex_law (id : List UInt8) (w : World) (hl : id.length = 32) :
    Calls Try.prog 5 #[.agg (bys id).toArray] w fun e w' => e = .returned (.bool true) ∧ Below w.heap.size w w' := by
  have hif := Try.infoIDb id hl
  have hzf := zero_size id hl
  have hof := bys_all id
  have hz2 := Try.zeroID
  have heq : ∀ W, (Op.equalIn 10000 33 (.agg (bys id).toArray) (.agg (bys id).toArray)).run Try.prog W = .ok true W := fun W => by rw [Try.eqlID id id hl hl W, decide_eq_true rfl]
  have hgd : Try.prog.eqGuardType Try.prog.depth 33 = false := by kernel_rfl
  have hb1 := boxed_new (Below.refl w.heap.size w) (Nat.le_refl _) (bys id).toArray 33
  go_enter Try.func5, Try.ntmps5
  go_wp2_with (refine wpList_load_row rfl 33 (.tmp 1) rfl w.heap.size rfl 33 _ (0, 0) _ hb1.1 Try.underlying33 rfl hif ?_)
  generalize World.alloc _ _ = w1 at hb1 ⊢
  obtain ⟨hG1, hB1⟩ := hb1
  refine (hex_ok id hl _).mono ?_
  rintro e w2 ⟨rfl, hb⟩
  have hG2 := later_old hb hG1
  have hB2 := hB1.trans (hb.mono hB1.size)
  clear hb hG1 hB1
  go_wp2_with (fail)
  refine (parse_ok (hex id) _).mono ?_
  rintro e w3 ⟨rfl, hb⟩
  have hG3 := later_old hb hG2
  have hB3 := hB2.trans (hb.mono hB2.size)
  clear hb hG2 hB2
  rw [parsed_hex id hl]
  dsimp only
  have hl3 := laid_new hB3 hB3.size zero32 (bys id).toArray 33
  have hG4 := laid_old zero32 (bys id).toArray 33 hG3
  go_wp2_with (refine wpList_store_rowTo rfl 33 (.tmp 4) (.tmp 11) rfl rfl w3.heap.size (bys id).toArray rfl rfl 33 zero32 (heap_alloc_new _ _) hif hzf hof ?_)
  obtain ⟨d, hd⟩ : ∃ d, d = w3.heap.size := ⟨_, rfl⟩
  rw [← hd] at hl3 hG4 ⊢
  generalize (w3.alloc _).setRow _ _ = w4 at hl3 hG4 ⊢
  obtain ⟨hD4, hB4⟩ := hl3
  clear hG3 hB3 hd
  refine (known_any _).mono ?_
  rintro e w5 ⟨rfl, hb⟩
  have hG5 := later_old hb hG4
  have hD5 := later_old hb hD4
  have hB5 := hB4.trans (hb.mono hB4.size)
  clear hb hG4 hD4 hB4
  go_wp2_with (refine wpList_load_want 33 (.tmp 1) rfl w.heap.size rfl 33 _ (0, 0) _ hG5 Try.underlying33 rfl hif (by kernel_rfl) ?_)
  refine (rhex_ok id hl _).mono ?_
  rintro e w6 ⟨rfl, hb⟩
  have hG6 := later_old hb hG5
  have hD6 := later_old hb hD5
  have hB6 := hB5.trans (hb.mono hB5.size)
  clear hb hG5 hD5 hB5
  go_wp2_with (first | refine wpList_load_want 33 (.tmp 4) rfl d rfl 33 _ (0, 0) _ hD6 Try.underlying33 rfl hif (by kernel_rfl) ?_ | refine wpList_load_want 33 (.tmp 1) rfl w.heap.size rfl 33 _ (0, 0) _ hG6 Try.underlying33 rfl hif (by kernel_rfl) ?_)
  go_ret
  exact ⟨rfl, hB6⟩
end Go.Proofs.Ytbpdmfhkaodeeaa
