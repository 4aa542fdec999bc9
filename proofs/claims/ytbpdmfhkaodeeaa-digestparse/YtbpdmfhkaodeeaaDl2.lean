/-
  The walk of DigestParse.
-/
import Derived.Test.YtbpdmfhkaodeeaaDk
import Derived.Test.YtbpdmfhkaodeeaaDx5
import Derived.Deep.Cut
namespace Go.Proofs.Ytbpdmfhkaodeeaa
open Go.RowKit
set_option linter.unusedVariables false
set_option linter.unusedSimpArgs false

set_option maxHeartbeats 1000000 in
set_option maxRecDepth 100000 in
theorem parse_law (t : List UInt8) (w : World) :
    Calls Try.prog 6 #[.string ⟨t.toArray⟩] w fun e w' => e = .returned (.bool true) ∧ Below w.heap.size w w' := by
  have hz2 := Try.zeroID
  have HP := fun W : World => parse_ok t W
  have HR := fun W : World => rparse_ok t W
  have HL := parsed_len t
  have HC : Hid (((parsed t).2 = 0 ∧ hex (parsed t).1 = t) ∨ (parsed t).2 = 20) := by
    by_cases h : Good t
    · rw [parsed_good h]; exact .inl ⟨rfl, hex_bytesOf t h⟩
    · rw [parsed_bad h]; exact .inr rfl
  generalize (parsed t).1 = id at HP HR HL HC
  generalize (parsed t).2 = c at HP HR HC
  have hif := Try.infoIDb id HL
  have hzf := zero_size id HL
  have hof := bys_all id
  have heq : ∀ W, (Op.equalIn 10000 33 (.agg (bys id).toArray) (.agg (bys id).toArray)).run Try.prog W = .ok true W := fun W => by rw [Try.eqlID id id HL HL W, decide_eq_true rfl]
  have hgd : Try.prog.eqGuardType Try.prog.depth 33 = false := by kernel_rfl
  go_enter Try.func6, Try.ntmps6
  go_wp2_with (fail)
  refine (HP _).mono ?_
  rintro e w1 ⟨rfl, hB1⟩
  have hl1 := laid_new hB1 hB1.size zero32 (bys id).toArray 33
  go_wp2_with (refine wpList_store_rowTo rfl 33 (.tmp 3) (.tmp 10) rfl rfl w1.heap.size (bys id).toArray rfl rfl 33 zero32 (heap_alloc_new _ _) hif hzf hof ?_)
  obtain ⟨d, hd⟩ : ∃ d, d = w1.heap.size := ⟨_, rfl⟩
  rw [← hd] at hl1 ⊢
  generalize (w1.alloc _).setRow _ _ = w2 at hl1 ⊢
  obtain ⟨hD2, hB2⟩ := hl1
  clear hB1 hd
  refine (HR _).mono ?_
  rintro e w3 ⟨rfl, hb⟩
  have hD3 := later_old hb hD2
  have hB3 := hB2.trans (hb.mono hB2.size)
  clear hb hD2 hB2
  have hl3 := laid_new hB3 hB3.size zero32 (bys id).toArray 33
  have hD4 := laid_old zero32 (bys id).toArray 33 hD3
  go_wp2_with (refine wpList_store_rowTo rfl 33 (.tmp 5) (.tmp 15) rfl rfl w3.heap.size (bys id).toArray rfl rfl 33 zero32 (heap_alloc_new _ _) hif hzf hof ?_)
  obtain ⟨f, hf⟩ : ∃ d, d = w3.heap.size := ⟨_, rfl⟩
  rw [← hf] at hl3 hD4 ⊢
  generalize (w3.alloc _).setRow _ _ = w4 at hl3 hD4 ⊢
  obtain ⟨hF4, hB4⟩ := hl3
  clear hB3 hD3 hf
  refine (known_any _).mono ?_
  rintro e w5 ⟨rfl, hb⟩
  have hD5 := later_old hb hD4
  have hF5 := later_old hb hF4
  have hB5 := hB4.trans (hb.mono hB4.size)
  clear hb hD4 hF4 hB4 HP HR
  rcases HC.out with ⟨rfl, ht⟩ | rfl
  · subst ht
    clear HC
    go_wp2_with (first | refine wpList_load_want 33 (.tmp 3) rfl d rfl 33 _ (0, 0) _ hD5 Try.underlying33 rfl hif (by kernel_rfl) ?_ | refine wpList_load_want 33 (.tmp 5) rfl f rfl 33 _ (0, 0) _ hF5 Try.underlying33 rfl hif (by kernel_rfl) ?_)
    refine (hex_ok id HL _).mono ?_
    rintro e w6 ⟨rfl, hb⟩
    have hB6 := hB5.trans (hb.mono hB5.size)
    clear hb
    go_wp2_with (fail)
    go_ret
    exact ⟨rfl, hB6⟩
  · clear HC
    go_upto_region 5 with (first | refine wpList_load_want 33 (.tmp 3) rfl d rfl 33 _ (0, 0) _ hD5 Try.underlying33 rfl hif (by kernel_rfl) ?_ | refine wpList_load_want 33 (.tmp 5) rfl f rfl 33 _ (0, 0) _ hF5 Try.underlying33 rfl hif (by kernel_rfl) ?_)
    go_wp2_with (fail)
    go_ret
    exact ⟨rfl, hB5⟩
end Go.Proofs.Ytbpdmfhkaodeeaa
