/-
  Contracts: block.Open, freightref11.Open. (Written by tools/bc.py.)
-/
import Derived.Test.YtdnbpklnkmgmkaaBb
import Derived.Test.YtdnbpklnkmgmkaaOl
import Derived.Test.YtdnbpklnkmgmkaaBs
import Derived.Deep.Onto
namespace Go.Proofs.Ytdnbpklnkmgmkaa
open Go.RowKit
set_option linter.unusedVariables false
set_option linter.unusedSimpArgs false

theorem own_nil (w : World) (b : Nat) (e : TypeId) : w.ownsRow b e 1 (.slice none 0 0) 0 (bys []) := ⟨rfl, Or.inl ⟨rfl, rfl⟩⟩
theorem sum_at {w : World} {ao : Option Addr} {n cap : Nat} {xs : List UInt8} (hx : xs.length = n) (hm : n ≤ 9223372036854775807) (hs : Sl w ao xs) (W : World) (hk : Kept [] w W) :
    Calls Try.prog 32 #[.slice ao n cap] W fun e w' => e = .returned (.int .i64 (Pure.sum xs)) ∧ Kept [] W w' := by
  refine (sum_n ao n cap xs W hx (by omega) (hs.kept hk (by simp))).mono ?_
  rintro e w' ⟨he, hb⟩
  exact ⟨he, Kept.of_below hb⟩

set_option maxHeartbeats 1000000 in
theorem open_raw (ao : Option Addr) (n cap : Nat) (a p r s : Int) (w : World) (h1 : ¬ (1 ≤ r ∧ r ≤ 4096)) :
    Calls Try.prog 18 #[.slice ao n cap, .agg #[.int .i64 a, .int .i64 p, .int .i64 r, .int .i64 s]] w (Ans w ([], 110)) := by
  obtain ⟨W1, hW1⟩ : ∃ W1, w.alloc (.cells #[.int .i64 a, .int .i64 p, .int .i64 r, .int .i64 s] 45) = W1 := ⟨_, rfl⟩
  have hnew := heap_new w (.cells #[.int .i64 a, .int .i64 p, .int .i64 r, .int .i64 s] 45)
  have HB1 : Hid (Below w.heap.size w W1) := by show Below _ _ _; rw [← hW1]; exact (Below.refl _ _).alloc (Nat.le_refl _) _
  rw [hW1] at hnew
  have c1 : W1.cell? ⟨w.heap.size, 1, none⟩ = some (.int .i64 p) := by rw [cell_of_row _ _ _ _ _ _ hnew]; rfl
  have c2 : W1.cell? ⟨w.heap.size, 2, none⟩ = some (.int .i64 r) := by rw [cell_of_row _ _ _ _ _ _ hnew]; rfl
  have c3 : W1.cell? ⟨w.heap.size, 3, none⟩ = some (.int .i64 s) := by rw [cell_of_row _ _ _ _ _ _ hnew]; rfl
  clear hnew
  have H1 := hide (fun W => within_no r 1 4096 W h1)
  clear h1
  unfold Ans
  go_enter Try.func18, Try.ntmps18
  go_wp2_with (have HA := H1; go_at_call 37; refine (H1.out _).mono ?_; rintro e w' ⟨rfl, hww⟩; obtain rfl := hww.symm; clear H1 HA)
  go_ret2
  exact ⟨none, 0, rfl, own_nil _ _ _, HB1.out⟩

set_option maxHeartbeats 1000000 in
theorem open_pk (ao : Option Addr) (n cap : Nat) (a p r s : Int) (w : World) (h1 : 1 ≤ r ∧ r ≤ 4096) (h2 : ¬ (1 ≤ p ∧ p ≤ r)) :
    Calls Try.prog 18 #[.slice ao n cap, .agg #[.int .i64 a, .int .i64 p, .int .i64 r, .int .i64 s]] w (Ans w ([], 110)) := by
  obtain ⟨W1, hW1⟩ : ∃ W1, w.alloc (.cells #[.int .i64 a, .int .i64 p, .int .i64 r, .int .i64 s] 45) = W1 := ⟨_, rfl⟩
  have hnew := heap_new w (.cells #[.int .i64 a, .int .i64 p, .int .i64 r, .int .i64 s] 45)
  have HB1 : Hid (Below w.heap.size w W1) := by show Below _ _ _; rw [← hW1]; exact (Below.refl _ _).alloc (Nat.le_refl _) _
  rw [hW1] at hnew
  have c1 : W1.cell? ⟨w.heap.size, 1, none⟩ = some (.int .i64 p) := by rw [cell_of_row _ _ _ _ _ _ hnew]; rfl
  have c2 : W1.cell? ⟨w.heap.size, 2, none⟩ = some (.int .i64 r) := by rw [cell_of_row _ _ _ _ _ _ hnew]; rfl
  have c3 : W1.cell? ⟨w.heap.size, 3, none⟩ = some (.int .i64 s) := by rw [cell_of_row _ _ _ _ _ _ hnew]; rfl
  clear hnew
  have H1 := hide (fun W => within_yes r 1 4096 W h1)
  have H2 := hide (fun W => within_no p 1 r W h2)
  clear h1 h2
  unfold Ans
  go_enter Try.func18, Try.ntmps18
  go_wp2_with (first
    | (have HA := H1; go_at_call 37; refine (H1.out _).mono ?_; rintro e w' ⟨rfl, hww⟩; obtain rfl := hww.symm; clear H1 HA)
    | (have HA := H2; go_at_call 37; refine (H2.out _).mono ?_; rintro e w' ⟨rfl, hww⟩; obtain rfl := hww.symm; clear H2 HA))
  go_ret2
  exact ⟨none, 0, rfl, own_nil _ _ _, HB1.out⟩

set_option maxHeartbeats 1000000 in
set_option maxRecDepth 100000 in
theorem open_len (ao : Option Addr) (n cap : Nat) (a p r s : Int) (w : World) (h1 : 1 ≤ r ∧ r ≤ 4096) (h2 : 1 ≤ p ∧ p ≤ r) (h3 : (n : Int) ≠ p) :
    Calls Try.prog 18 #[.slice ao n cap, .agg #[.int .i64 a, .int .i64 p, .int .i64 r, .int .i64 s]] w (Ans w ([], 110)) := by
  obtain ⟨W1, hW1⟩ : ∃ W1, w.alloc (.cells #[.int .i64 a, .int .i64 p, .int .i64 r, .int .i64 s] 45) = W1 := ⟨_, rfl⟩
  have hnew := heap_new w (.cells #[.int .i64 a, .int .i64 p, .int .i64 r, .int .i64 s] 45)
  have HB1 : Hid (Below w.heap.size w W1) := by show Below _ _ _; rw [← hW1]; exact (Below.refl _ _).alloc (Nat.le_refl _) _
  rw [hW1] at hnew
  have c1 : W1.cell? ⟨w.heap.size, 1, none⟩ = some (.int .i64 p) := by rw [cell_of_row _ _ _ _ _ _ hnew]; rfl
  have c2 : W1.cell? ⟨w.heap.size, 2, none⟩ = some (.int .i64 r) := by rw [cell_of_row _ _ _ _ _ _ hnew]; rfl
  have c3 : W1.cell? ⟨w.heap.size, 3, none⟩ = some (.int .i64 s) := by rw [cell_of_row _ _ _ _ _ _ hnew]; rfl
  clear hnew
  have H1 := hide (fun W => within_yes r 1 4096 W h1)
  have H2 := hide (fun W => within_yes p 1 r W h2)
  have q3 : ((n : Int) != p) = true := by simpa using h3
  clear h1 h2 h3
  unfold Ans
  go_enter Try.func18, Try.ntmps18
  go_upto_region 3 with (first
    | (have HA := H1; go_at_call 37; refine (H1.out _).mono ?_; rintro e w' ⟨rfl, hww⟩; obtain rfl := hww.symm; clear H1 HA)
    | (have HA := H2; go_at_call 37; refine (H2.out _).mono ?_; rintro e w' ⟨rfl, hww⟩; obtain rfl := hww.symm; clear H2 HA))
  clear hW1
  refine wp_region_held_drew (S := fun w' => Kept [] W1 w') (by kernel_rfl) ((Kept.refl [] W1).drew) (fun h0 => ?_)
  generalize World.drew W1 = v0 at h0 ⊢
  refine wpAnyH_take (i := 0) (v := .slice ao n cap) rfl (by kernel_rfl) (by kernel_rfl) (by kernel_rfl) (fun _ _ _ h => h) (Or.inl ⟨by rfl, fun w hSw => by go_simp⟩) h0 ?_
  try simp only [List.getElem_toArray, List.getElem_cons_zero, List.getElem_cons_succ, Act.put, List.setIfInBounds_toArray, List.set_cons_zero, List.set_cons_succ]
  refine wpAnyH_take (i := 1) (v := .int .i64 n) rfl (by kernel_rfl) (by kernel_rfl) (by kernel_rfl) (fun _ _ _ h => h) (Or.inl ⟨by rfl, fun w hSw => by go_simp⟩) h0 ?_
  try simp only [List.getElem_toArray, List.getElem_cons_zero, List.getElem_cons_succ, Act.put, List.setIfInBounds_toArray, List.set_cons_zero, List.set_cons_succ]
  refine wpAnyH_take (i := 2) (v := .pointer (some ⟨w.heap.size, 1, none⟩)) rfl (by kernel_rfl) (by kernel_rfl) (by kernel_rfl) (fun _ _ _ h => h) (Or.inl ⟨by rfl, fun w hSw => by go_simp⟩) h0 ?_
  try simp only [List.getElem_toArray, List.getElem_cons_zero, List.getElem_cons_succ, Act.put, List.setIfInBounds_toArray, List.set_cons_zero, List.set_cons_succ]
  refine wpAnyH_take (i := 3) (v := .int .i64 p) rfl (by kernel_rfl) (by kernel_rfl) (by kernel_rfl) (fun _ _ _ h => h) (Or.inl ⟨by rfl, fun w hSw => by have c0 := Kept.cellOf hSw c1 (by simp); go_simp⟩) h0 ?_
  try simp only [List.getElem_toArray, List.getElem_cons_zero, List.getElem_cons_succ, Act.put, List.setIfInBounds_toArray, List.set_cons_zero, List.set_cons_succ]
  refine wpAnyH_take (i := 4) (v := .bool true) rfl (by kernel_rfl) (by kernel_rfl) (by kernel_rfl) (fun _ _ _ h => h) (Or.inl ⟨by rfl, fun w hSw => by have c0 := q3; go_simp⟩) h0 ?_
  try simp only [List.getElem_toArray, List.getElem_cons_zero, List.getElem_cons_succ, Act.put, List.setIfInBounds_toArray, List.set_cons_zero, List.set_cons_succ]
  refine wpAnyH_take (i := 5) (v := .bool true) rfl (by kernel_rfl) (by kernel_rfl) (by kernel_rfl) (fun _ _ _ h => h) (Or.inl ⟨by rfl, fun w hSw => by go_simp⟩) h0 ?_
  try simp only [List.getElem_toArray, List.getElem_cons_zero, List.getElem_cons_succ, Act.put, List.setIfInBounds_toArray, List.set_cons_zero, List.set_cons_succ]
  refine wpAnyH_take (i := 6) (v := undef) rfl (by kernel_rfl) (by kernel_rfl) (by kernel_rfl) (fun _ _ _ h => h) (Or.inr ⟨by rfl, rfl⟩) h0 ?_
  try simp only [List.getElem_toArray, List.getElem_cons_zero, List.getElem_cons_succ, Act.put, List.setIfInBounds_toArray, List.set_cons_zero, List.set_cons_succ]
  refine wpAnyH_take (i := 7) (v := undef) rfl (by kernel_rfl) (by kernel_rfl) (by kernel_rfl) (fun _ _ _ h => h) (Or.inr ⟨by rfl, rfl⟩) h0 ?_
  try simp only [List.getElem_toArray, List.getElem_cons_zero, List.getElem_cons_succ, Act.put, List.setIfInBounds_toArray, List.set_cons_zero, List.set_cons_succ]
  refine wpAnyH_take (i := 8) (v := undef) rfl (by kernel_rfl) (by kernel_rfl) (by kernel_rfl) (fun _ _ _ h => h) (Or.inr ⟨by rfl, rfl⟩) h0 ?_
  try simp only [List.getElem_toArray, List.getElem_cons_zero, List.getElem_cons_succ, Act.put, List.setIfInBounds_toArray, List.set_cons_zero, List.set_cons_succ]
  refine wpAnyH_take (i := 9) (v := undef) rfl (by kernel_rfl) (by kernel_rfl) (by kernel_rfl) (fun _ _ _ h => h) (Or.inr ⟨by rfl, rfl⟩) h0 ?_
  try simp only [List.getElem_toArray, List.getElem_cons_zero, List.getElem_cons_succ, Act.put, List.setIfInBounds_toArray, List.set_cons_zero, List.set_cons_succ]
  refine wpAnyH_take (i := 10) (v := undef) rfl (by kernel_rfl) (by kernel_rfl) (by kernel_rfl) (fun _ _ _ h => h) (Or.inr ⟨by rfl, rfl⟩) h0 ?_
  try simp only [List.getElem_toArray, List.getElem_cons_zero, List.getElem_cons_succ, Act.put, List.setIfInBounds_toArray, List.set_cons_zero, List.set_cons_succ]
  refine wpAnyH_take (i := 11) (v := .bool true) rfl (by kernel_rfl) (by kernel_rfl) (by kernel_rfl) (fun _ _ _ h => h) (Or.inl ⟨by rfl, fun w hSw => by go_simp⟩) h0 ?_
  try simp only [List.getElem_toArray, List.getElem_cons_zero, List.getElem_cons_succ, Act.put, List.setIfInBounds_toArray, List.set_cons_zero, List.set_cons_succ]
  refine wpAnyH_done (by kernel_rfl) ?_ _
  go_wp2
  go_ret2
  exact ⟨none, 0, rfl, own_nil _ _ _, HB1.out.trans (h0.below HB1.out.size (by simp))⟩

set_option maxHeartbeats 1000000 in
set_option maxRecDepth 100000 in
theorem open_sum (ao : Option Addr) (n cap : Nat) (a p r s : Int) (ys : List UInt8) (w : World) (hy : ys.length = n) (hs : Sl w ao ys) (h1 : 1 ≤ r ∧ r ≤ 4096) (h2 : 1 ≤ p ∧ p ≤ r) (h3 : (n : Int) = p) (h4 : ((Pure.sum ys : Nat) : Int) ≠ s) :
    Calls Try.prog 18 #[.slice ao n cap, .agg #[.int .i64 a, .int .i64 p, .int .i64 r, .int .i64 s]] w (Ans w ([], 110)) := by
  obtain ⟨W1, hW1⟩ : ∃ W1, w.alloc (.cells #[.int .i64 a, .int .i64 p, .int .i64 r, .int .i64 s] 45) = W1 := ⟨_, rfl⟩
  have hnew := heap_new w (.cells #[.int .i64 a, .int .i64 p, .int .i64 r, .int .i64 s] 45)
  have HB1 : Hid (Below w.heap.size w W1) := by show Below _ _ _; rw [← hW1]; exact (Below.refl _ _).alloc (Nat.le_refl _) _
  rw [hW1] at hnew
  have c1 : W1.cell? ⟨w.heap.size, 1, none⟩ = some (.int .i64 p) := by rw [cell_of_row _ _ _ _ _ _ hnew]; rfl
  have c2 : W1.cell? ⟨w.heap.size, 2, none⟩ = some (.int .i64 r) := by rw [cell_of_row _ _ _ _ _ _ hnew]; rfl
  have c3 : W1.cell? ⟨w.heap.size, 3, none⟩ = some (.int .i64 s) := by rw [cell_of_row _ _ _ _ _ _ hnew]; rfl
  clear hnew
  have H1 := hide (fun W => within_yes r 1 4096 W h1)
  have H2 := hide (fun W => within_yes p 1 r W h2)
  have HSM := hide (sum_at (cap := cap) hy (by omega) (hs.kept (Kept.of_below HB1.out) (by simp)))
  have q3 : ((n : Int) != p) = false := by simpa using h3
  have q4 : (((Pure.sum ys : Nat) : Int) != s) = true := by simpa using h4
  generalize Pure.sum ys = u at HSM q4
  clear h1 h2 h3 h4 hy hs
  unfold Ans
  go_enter Try.func18, Try.ntmps18
  go_upto_region 3 with (first
    | (have HA := H1; go_at_call 37; refine (H1.out _).mono ?_; rintro e w' ⟨rfl, hww⟩; obtain rfl := hww.symm; clear H1 HA)
    | (have HA := H2; go_at_call 37; refine (H2.out _).mono ?_; rintro e w' ⟨rfl, hww⟩; obtain rfl := hww.symm; clear H2 HA))
  clear hW1
  refine wp_region_held_drew (S := fun w' => Kept [] W1 w') (by kernel_rfl) ((Kept.refl [] W1).drew) (fun h0 => ?_)
  generalize World.drew W1 = v0 at h0 ⊢
  refine wpAnyH_take (i := 0) (v := .slice ao n cap) rfl (by kernel_rfl) (by kernel_rfl) (by kernel_rfl) (fun _ _ _ h => h) (Or.inl ⟨by rfl, fun w hSw => by go_simp⟩) h0 ?_
  try simp only [List.getElem_toArray, List.getElem_cons_zero, List.getElem_cons_succ, Act.put, List.setIfInBounds_toArray, List.set_cons_zero, List.set_cons_succ]
  refine wpAnyH_take (i := 1) (v := .int .i64 n) rfl (by kernel_rfl) (by kernel_rfl) (by kernel_rfl) (fun _ _ _ h => h) (Or.inl ⟨by rfl, fun w hSw => by go_simp⟩) h0 ?_
  try simp only [List.getElem_toArray, List.getElem_cons_zero, List.getElem_cons_succ, Act.put, List.setIfInBounds_toArray, List.set_cons_zero, List.set_cons_succ]
  refine wpAnyH_take (i := 2) (v := .pointer (some ⟨w.heap.size, 1, none⟩)) rfl (by kernel_rfl) (by kernel_rfl) (by kernel_rfl) (fun _ _ _ h => h) (Or.inl ⟨by rfl, fun w hSw => by go_simp⟩) h0 ?_
  try simp only [List.getElem_toArray, List.getElem_cons_zero, List.getElem_cons_succ, Act.put, List.setIfInBounds_toArray, List.set_cons_zero, List.set_cons_succ]
  refine wpAnyH_take (i := 3) (v := .int .i64 p) rfl (by kernel_rfl) (by kernel_rfl) (by kernel_rfl) (fun _ _ _ h => h) (Or.inl ⟨by rfl, fun w hSw => by have c0 := Kept.cellOf hSw c1 (by simp); go_simp⟩) h0 ?_
  try simp only [List.getElem_toArray, List.getElem_cons_zero, List.getElem_cons_succ, Act.put, List.setIfInBounds_toArray, List.set_cons_zero, List.set_cons_succ]
  refine wpAnyH_take (i := 4) (v := .bool false) rfl (by kernel_rfl) (by kernel_rfl) (by kernel_rfl) (fun _ _ _ h => h) (Or.inl ⟨by rfl, fun w hSw => by have c0 := q3; go_simp⟩) h0 ?_
  try simp only [List.getElem_toArray, List.getElem_cons_zero, List.getElem_cons_succ, Act.put, List.setIfInBounds_toArray, List.set_cons_zero, List.set_cons_succ]
  refine wpAnyH_take (i := 5) (v := .bool false) rfl (by kernel_rfl) (by kernel_rfl) (by kernel_rfl) (fun _ _ _ h => h) (Or.inl ⟨by rfl, fun w hSw => by go_simp⟩) h0 ?_
  try simp only [List.getElem_toArray, List.getElem_cons_zero, List.getElem_cons_succ, Act.put, List.setIfInBounds_toArray, List.set_cons_zero, List.set_cons_succ]
  refine wpAnyH_take (i := 6) (v := .slice ao n cap) rfl (by kernel_rfl) (by kernel_rfl) (by kernel_rfl) (fun _ _ _ h => h) (Or.inl ⟨by rfl, fun w hSw => by go_simp⟩) h0 ?_
  try simp only [List.getElem_toArray, List.getElem_cons_zero, List.getElem_cons_succ, Act.put, List.setIfInBounds_toArray, List.set_cons_zero, List.set_cons_succ]
  refine wpAnyH_take (i := 8) (v := .pointer (some ⟨w.heap.size, 3, none⟩)) rfl (by kernel_rfl) (by kernel_rfl) (by kernel_rfl) (fun _ _ _ h => h) (Or.inl ⟨by rfl, fun w hSw => by go_simp⟩) h0 ?_
  try simp only [List.getElem_toArray, List.getElem_cons_zero, List.getElem_cons_succ, Act.put, List.setIfInBounds_toArray, List.set_cons_zero, List.set_cons_succ]
  refine wpAnyH_take (i := 9) (v := .int .i64 s) rfl (by kernel_rfl) (by kernel_rfl) (by kernel_rfl) (fun _ _ _ h => h) (Or.inl ⟨by rfl, fun w hSw => by have c0 := Kept.cellOf hSw c3 (by simp); go_simp⟩) h0 ?_
  try simp only [List.getElem_toArray, List.getElem_cons_zero, List.getElem_cons_succ, Act.put, List.setIfInBounds_toArray, List.set_cons_zero, List.set_cons_succ]
  refine wpAnyH_ready (rs := [7]) (by kernel_rfl) (by simp) (AllReadyH.cons (i := 7) rfl (fun K hK => ?_) AllReadyH.nil)
  rw [if_pos (by rfl)]
  go_simp
  refine (HSM.out _ h0).mono ?_
  rintro e v1 ⟨rfl, hq⟩
  refine hK.out _ _ (h0.trans hq (by simp)) (fun h1 => ?_)
  clear hK K hq h0
  try simp only [List.getElem_toArray, List.getElem_cons_zero, List.getElem_cons_succ, Act.put, List.setIfInBounds_toArray, List.set_cons_zero, List.set_cons_succ]
  refine wpAnyH_take (i := 10) (v := .bool true) rfl (by kernel_rfl) (by kernel_rfl) (by kernel_rfl) (fun _ _ _ h => h) (Or.inl ⟨by rfl, fun w hSw => by have c0 := q4; go_simp⟩) h1 ?_
  try simp only [List.getElem_toArray, List.getElem_cons_zero, List.getElem_cons_succ, Act.put, List.setIfInBounds_toArray, List.set_cons_zero, List.set_cons_succ]
  refine wpAnyH_take (i := 11) (v := .bool true) rfl (by kernel_rfl) (by kernel_rfl) (by kernel_rfl) (fun _ _ _ h => h) (Or.inl ⟨by rfl, fun w hSw => by go_simp⟩) h1 ?_
  try simp only [List.getElem_toArray, List.getElem_cons_zero, List.getElem_cons_succ, Act.put, List.setIfInBounds_toArray, List.set_cons_zero, List.set_cons_succ]
  refine wpAnyH_done (by kernel_rfl) ?_ _
  go_wp2
  go_ret2
  exact ⟨none, 0, rfl, own_nil _ _ _, HB1.out.trans (h1.below HB1.out.size (by simp))⟩

set_option maxHeartbeats 1000000 in
set_option maxRecDepth 100000 in
theorem open_stored (ao : Option Addr) (n cap : Nat) (a p r s : Int) (ys : List UInt8) (w : World) (hy : ys.length = n) (hs : Sl w ao ys) (h1 : 1 ≤ r ∧ r ≤ 4096) (h2 : 1 ≤ p ∧ p ≤ r) (h3 : (n : Int) = p) (h4 : ((Pure.sum ys : Nat) : Int) = s) (h5 : p = r) :
    Calls Try.prog 18 #[.slice ao n cap, .agg #[.int .i64 a, .int .i64 p, .int .i64 r, .int .i64 s]] w (Ans w (ys, 0)) := by
  subst h3
  subst h5
  obtain ⟨p, hp⟩ : ∃ p : Int, (n : Int) = p := ⟨_, rfl⟩
  rw [hp] at h1 h2 ⊢
  obtain ⟨r, hr⟩ : ∃ r, p = r := ⟨_, rfl⟩
  obtain ⟨W1, hW1⟩ : ∃ W1, w.alloc (.cells #[.int .i64 a, .int .i64 p, .int .i64 p, .int .i64 s] 45) = W1 := ⟨_, rfl⟩
  have hnew := heap_new w (.cells #[.int .i64 a, .int .i64 p, .int .i64 p, .int .i64 s] 45)
  have HB1 : Hid (Below w.heap.size w W1) := by show Below _ _ _; rw [← hW1]; exact (Below.refl _ _).alloc (Nat.le_refl _) _
  rw [hW1] at hnew
  have c1 : W1.cell? ⟨w.heap.size, 1, none⟩ = some (.int .i64 p) := by rw [cell_of_row _ _ _ _ _ _ hnew]; rfl
  have c2 : W1.cell? ⟨w.heap.size, 2, none⟩ = some (.int .i64 p) := by rw [cell_of_row _ _ _ _ _ _ hnew]; rfl
  have c3 : W1.cell? ⟨w.heap.size, 3, none⟩ = some (.int .i64 s) := by rw [cell_of_row _ _ _ _ _ _ hnew]; rfl
  clear hnew
  have H1 := hide (fun W => within_yes p 1 4096 W h1)
  have H2 := hide (fun W => within_yes p 1 p W h2)
  have HSM := hide (sum_at (cap := cap) hy (by omega) (hs.kept (Kept.of_below HB1.out) (by simp)))
  have HSL := hide (hs.kept (Kept.of_below HB1.out) (by simp))
  have HY := hide hy
  have HN := hide hp
  have hn4 : n ≤ 4096 := by omega
  have q3 : ((n : Int) != p) = false := by simpa using hp
  have q4 : (((Pure.sum ys : Nat) : Int) != s) = false := by simpa using h4
  generalize Pure.sum ys = u at HSM q4
  clear h1 h2 h4 hy hs hp hr r
  unfold Ans
  go_enter Try.func18, Try.ntmps18
  go_upto_region 3 with (first
    | (have HA := H1; go_at_call 37; refine (H1.out _).mono ?_; rintro e w' ⟨rfl, hww⟩; obtain rfl := hww.symm; clear H1 HA)
    | (have HA := H2; go_at_call 37; refine (H2.out _).mono ?_; rintro e w' ⟨rfl, hww⟩; obtain rfl := hww.symm; clear H2 HA))
  clear hW1
  refine wp_region_held_drew (S := fun w' => Kept [] W1 w') (by kernel_rfl) ((Kept.refl [] W1).drew) (fun h0 => ?_)
  generalize World.drew W1 = v0 at h0 ⊢
  refine wpAnyH_take (i := 0) (v := .slice ao n cap) rfl (by kernel_rfl) (by kernel_rfl) (by kernel_rfl) (fun _ _ _ h => h) (Or.inl ⟨by rfl, fun w hSw => by go_simp⟩) h0 ?_
  try simp only [List.getElem_toArray, List.getElem_cons_zero, List.getElem_cons_succ, Act.put, List.setIfInBounds_toArray, List.set_cons_zero, List.set_cons_succ]
  refine wpAnyH_take (i := 1) (v := .int .i64 n) rfl (by kernel_rfl) (by kernel_rfl) (by kernel_rfl) (fun _ _ _ h => h) (Or.inl ⟨by rfl, fun w hSw => by go_simp⟩) h0 ?_
  try simp only [List.getElem_toArray, List.getElem_cons_zero, List.getElem_cons_succ, Act.put, List.setIfInBounds_toArray, List.set_cons_zero, List.set_cons_succ]
  refine wpAnyH_take (i := 2) (v := .pointer (some ⟨w.heap.size, 1, none⟩)) rfl (by kernel_rfl) (by kernel_rfl) (by kernel_rfl) (fun _ _ _ h => h) (Or.inl ⟨by rfl, fun w hSw => by go_simp⟩) h0 ?_
  try simp only [List.getElem_toArray, List.getElem_cons_zero, List.getElem_cons_succ, Act.put, List.setIfInBounds_toArray, List.set_cons_zero, List.set_cons_succ]
  refine wpAnyH_take (i := 3) (v := .int .i64 p) rfl (by kernel_rfl) (by kernel_rfl) (by kernel_rfl) (fun _ _ _ h => h) (Or.inl ⟨by rfl, fun w hSw => by have c0 := Kept.cellOf hSw c1 (by simp); go_simp⟩) h0 ?_
  try simp only [List.getElem_toArray, List.getElem_cons_zero, List.getElem_cons_succ, Act.put, List.setIfInBounds_toArray, List.set_cons_zero, List.set_cons_succ]
  refine wpAnyH_take (i := 4) (v := .bool false) rfl (by kernel_rfl) (by kernel_rfl) (by kernel_rfl) (fun _ _ _ h => h) (Or.inl ⟨by rfl, fun w hSw => by have c0 := q3; go_simp⟩) h0 ?_
  try simp only [List.getElem_toArray, List.getElem_cons_zero, List.getElem_cons_succ, Act.put, List.setIfInBounds_toArray, List.set_cons_zero, List.set_cons_succ]
  refine wpAnyH_take (i := 5) (v := .bool false) rfl (by kernel_rfl) (by kernel_rfl) (by kernel_rfl) (fun _ _ _ h => h) (Or.inl ⟨by rfl, fun w hSw => by go_simp⟩) h0 ?_
  try simp only [List.getElem_toArray, List.getElem_cons_zero, List.getElem_cons_succ, Act.put, List.setIfInBounds_toArray, List.set_cons_zero, List.set_cons_succ]
  refine wpAnyH_take (i := 6) (v := .slice ao n cap) rfl (by kernel_rfl) (by kernel_rfl) (by kernel_rfl) (fun _ _ _ h => h) (Or.inl ⟨by rfl, fun w hSw => by go_simp⟩) h0 ?_
  try simp only [List.getElem_toArray, List.getElem_cons_zero, List.getElem_cons_succ, Act.put, List.setIfInBounds_toArray, List.set_cons_zero, List.set_cons_succ]
  refine wpAnyH_take (i := 8) (v := .pointer (some ⟨w.heap.size, 3, none⟩)) rfl (by kernel_rfl) (by kernel_rfl) (by kernel_rfl) (fun _ _ _ h => h) (Or.inl ⟨by rfl, fun w hSw => by go_simp⟩) h0 ?_
  try simp only [List.getElem_toArray, List.getElem_cons_zero, List.getElem_cons_succ, Act.put, List.setIfInBounds_toArray, List.set_cons_zero, List.set_cons_succ]
  refine wpAnyH_take (i := 9) (v := .int .i64 s) rfl (by kernel_rfl) (by kernel_rfl) (by kernel_rfl) (fun _ _ _ h => h) (Or.inl ⟨by rfl, fun w hSw => by have c0 := Kept.cellOf hSw c3 (by simp); go_simp⟩) h0 ?_
  try simp only [List.getElem_toArray, List.getElem_cons_zero, List.getElem_cons_succ, Act.put, List.setIfInBounds_toArray, List.set_cons_zero, List.set_cons_succ]
  refine wpAnyH_ready (rs := [7]) (by kernel_rfl) (by simp) (AllReadyH.cons (i := 7) rfl (fun K hK => ?_) AllReadyH.nil)
  rw [if_pos (by rfl)]
  go_simp
  refine (HSM.out _ h0).mono ?_
  rintro e v1 ⟨rfl, hq⟩
  refine hK.out _ _ (h0.trans hq (by simp)) (fun h1 => ?_)
  clear hK K hq h0
  try simp only [List.getElem_toArray, List.getElem_cons_zero, List.getElem_cons_succ, Act.put, List.setIfInBounds_toArray, List.set_cons_zero, List.set_cons_succ]
  refine wpAnyH_take (i := 10) (v := .bool false) rfl (by kernel_rfl) (by kernel_rfl) (by kernel_rfl) (fun _ _ _ h => h) (Or.inl ⟨by rfl, fun w hSw => by have c0 := q4; go_simp⟩) h1 ?_
  try simp only [List.getElem_toArray, List.getElem_cons_zero, List.getElem_cons_succ, Act.put, List.setIfInBounds_toArray, List.set_cons_zero, List.set_cons_succ]
  refine wpAnyH_take (i := 11) (v := .bool false) rfl (by kernel_rfl) (by kernel_rfl) (by kernel_rfl) (fun _ _ _ h => h) (Or.inl ⟨by rfl, fun w hSw => by go_simp⟩) h1 ?_
  try simp only [List.getElem_toArray, List.getElem_cons_zero, List.getElem_cons_succ, Act.put, List.setIfInBounds_toArray, List.set_cons_zero, List.set_cons_succ]
  refine wpAnyH_done (by kernel_rfl) ?_ _
  have d1 := h1.cellOf c1 (by simp)
  have d2 := h1.cellOf c2 (by simp)
  rw [← HN.out] at d1 d2
  have HK := hide h1
  have hmk := run_make_row' (P := Try.prog) 23 5 (.int .u8 0) 1 Try.underlying23 Try.infoByte rfl .i64 .i64 n (by omega) (by omega)
  rw [made_bys] at hmk
  have HO := hide (copy_at (v1.alloc (.cells (bys (List.replicate n 0)).toArray 5)) v1.heap.size 0 n n ao n cap ys (List.replicate n 0) (heap_new _ _) HY.out (by simp) (Nat.le_refl _) (HSL.out.kept ((HK.out.trans ((Kept.refl [] v1).alloc _) (by simp))) (by simp)))
  clear c1 c2 c3 q3 q4 HSM h1
  obtain ⟨w2, hcp, hrow, hk2⟩ := HO.out
  have HR := hide hrow
  have HK2 := hide hk2
  clear hrow hk2 HO
  go_wp2
  go_ret2
  rw [HY.out]
  refine ⟨some ⟨v1.heap.size, 0, none⟩, n, rfl, ⟨by rw [bys_length, HY.out, Nat.mul_one], Or.inr ⟨v1.heap.size, n, (bys ys).toArray, rfl, ?_, ?_, Nat.le_refl _, by unfold maxLen; omega, by simp [bys_length, HY.out], by rw [Nat.mul_one]; exact List.take_of_length_le (by simp [bys_length, HY.out])⟩⟩, ?_⟩
  · exact Nat.le_trans HB1.out.size HK.out.size
  · have := HR.out
    rw [List.take_zero, List.nil_append, List.drop_of_length_le (by simp), List.append_nil] at this
    exact this
  · have e1 : Kept [] w v1 := (Kept.of_below HB1.out).trans HK.out (by simp)
    have e2 : Kept [] w w2 := (e1.alloc _).trans HK2.out (by simp; have := e1.size; omega)
    exact e2.below (Nat.le_refl _) (by simp)

set_option maxHeartbeats 1000000 in
set_option maxRecDepth 100000 in
theorem open_unp (ao : Option Addr) (n cap : Nat) (a p r s : Int) (ys : List UInt8) (w : World) (hy : ys.length = n) (hc : n ≤ cap) (hs : Sl w ao ys) (h1 : 1 ≤ r ∧ r ≤ 4096) (h2 : 1 ≤ p ∧ p ≤ r) (h3 : (n : Int) = p) (h4 : ((Pure.sum ys : Nat) : Int) = s) (h5 : p ≠ r) (R : List UInt8) (k : Nat) (hR : Prs.unpack ys r = (R, k)) :
    Calls Try.prog 18 #[.slice ao n cap, .agg #[.int .i64 a, .int .i64 p, .int .i64 r, .int .i64 s]] w (Ans w (if k = 0 then (R, 0) else ([], 110))) := by
  obtain ⟨W1, hW1⟩ : ∃ W1, w.alloc (.cells #[.int .i64 a, .int .i64 p, .int .i64 r, .int .i64 s] 45) = W1 := ⟨_, rfl⟩
  have hnew := heap_new w (.cells #[.int .i64 a, .int .i64 p, .int .i64 r, .int .i64 s] 45)
  have HB1 : Hid (Below w.heap.size w W1) := by show Below _ _ _; rw [← hW1]; exact (Below.refl _ _).alloc (Nat.le_refl _) _
  rw [hW1] at hnew
  have c1 : W1.cell? ⟨w.heap.size, 1, none⟩ = some (.int .i64 p) := by rw [cell_of_row _ _ _ _ _ _ hnew]; rfl
  have c2 : W1.cell? ⟨w.heap.size, 2, none⟩ = some (.int .i64 r) := by rw [cell_of_row _ _ _ _ _ _ hnew]; rfl
  have c3 : W1.cell? ⟨w.heap.size, 3, none⟩ = some (.int .i64 s) := by rw [cell_of_row _ _ _ _ _ _ hnew]; rfl
  clear hnew
  have H1 := hide (fun W => within_yes r 1 4096 W h1)
  have H2 := hide (fun W => within_yes p 1 r W h2)
  have HSM := hide (sum_at (cap := cap) hy (by omega) (hs.kept (Kept.of_below HB1.out) (by simp)))
  have HU := hide (fun W hB => unpack_at hy hc hs r W hB R k hR)
  have q3 : ((n : Int) != p) = false := by simpa using h3
  have q4 : (((Pure.sum ys : Nat) : Int) != s) = false := by simpa using h4
  have q5 : (p == r) = false := by simpa using h5
  generalize Pure.sum ys = u at HSM q4
  clear h1 h2 h3 h4 h5 hy hs hc hR
  by_cases hk : k = 0
  · rw [if_pos hk]
    have q6 : ((k : Int) != 0) = false := by simp [hk]
    clear hk
    unfold Ans
    go_enter Try.func18, Try.ntmps18
    go_upto_region 3 with (first
    | (have HA := H1; go_at_call 37; refine (H1.out _).mono ?_; rintro e w' ⟨rfl, hww⟩; obtain rfl := hww.symm; clear H1 HA)
    | (have HA := H2; go_at_call 37; refine (H2.out _).mono ?_; rintro e w' ⟨rfl, hww⟩; obtain rfl := hww.symm; clear H2 HA))
    clear hW1
    refine wp_region_held_drew (S := fun w' => Kept [] W1 w') (by kernel_rfl) ((Kept.refl [] W1).drew) (fun h0 => ?_)
    generalize World.drew W1 = v0 at h0 ⊢
    refine wpAnyH_take (i := 0) (v := .slice ao n cap) rfl (by kernel_rfl) (by kernel_rfl) (by kernel_rfl) (fun _ _ _ h => h) (Or.inl ⟨by rfl, fun w hSw => by go_simp⟩) h0 ?_
    try simp only [List.getElem_toArray, List.getElem_cons_zero, List.getElem_cons_succ, Act.put, List.setIfInBounds_toArray, List.set_cons_zero, List.set_cons_succ]
    refine wpAnyH_take (i := 1) (v := .int .i64 n) rfl (by kernel_rfl) (by kernel_rfl) (by kernel_rfl) (fun _ _ _ h => h) (Or.inl ⟨by rfl, fun w hSw => by go_simp⟩) h0 ?_
    try simp only [List.getElem_toArray, List.getElem_cons_zero, List.getElem_cons_succ, Act.put, List.setIfInBounds_toArray, List.set_cons_zero, List.set_cons_succ]
    refine wpAnyH_take (i := 2) (v := .pointer (some ⟨w.heap.size, 1, none⟩)) rfl (by kernel_rfl) (by kernel_rfl) (by kernel_rfl) (fun _ _ _ h => h) (Or.inl ⟨by rfl, fun w hSw => by go_simp⟩) h0 ?_
    try simp only [List.getElem_toArray, List.getElem_cons_zero, List.getElem_cons_succ, Act.put, List.setIfInBounds_toArray, List.set_cons_zero, List.set_cons_succ]
    refine wpAnyH_take (i := 3) (v := .int .i64 p) rfl (by kernel_rfl) (by kernel_rfl) (by kernel_rfl) (fun _ _ _ h => h) (Or.inl ⟨by rfl, fun w hSw => by have c0 := Kept.cellOf hSw c1 (by simp); go_simp⟩) h0 ?_
    try simp only [List.getElem_toArray, List.getElem_cons_zero, List.getElem_cons_succ, Act.put, List.setIfInBounds_toArray, List.set_cons_zero, List.set_cons_succ]
    refine wpAnyH_take (i := 4) (v := .bool false) rfl (by kernel_rfl) (by kernel_rfl) (by kernel_rfl) (fun _ _ _ h => h) (Or.inl ⟨by rfl, fun w hSw => by have c0 := q3; go_simp⟩) h0 ?_
    try simp only [List.getElem_toArray, List.getElem_cons_zero, List.getElem_cons_succ, Act.put, List.setIfInBounds_toArray, List.set_cons_zero, List.set_cons_succ]
    refine wpAnyH_take (i := 5) (v := .bool false) rfl (by kernel_rfl) (by kernel_rfl) (by kernel_rfl) (fun _ _ _ h => h) (Or.inl ⟨by rfl, fun w hSw => by go_simp⟩) h0 ?_
    try simp only [List.getElem_toArray, List.getElem_cons_zero, List.getElem_cons_succ, Act.put, List.setIfInBounds_toArray, List.set_cons_zero, List.set_cons_succ]
    refine wpAnyH_take (i := 6) (v := .slice ao n cap) rfl (by kernel_rfl) (by kernel_rfl) (by kernel_rfl) (fun _ _ _ h => h) (Or.inl ⟨by rfl, fun w hSw => by go_simp⟩) h0 ?_
    try simp only [List.getElem_toArray, List.getElem_cons_zero, List.getElem_cons_succ, Act.put, List.setIfInBounds_toArray, List.set_cons_zero, List.set_cons_succ]
    refine wpAnyH_take (i := 8) (v := .pointer (some ⟨w.heap.size, 3, none⟩)) rfl (by kernel_rfl) (by kernel_rfl) (by kernel_rfl) (fun _ _ _ h => h) (Or.inl ⟨by rfl, fun w hSw => by go_simp⟩) h0 ?_
    try simp only [List.getElem_toArray, List.getElem_cons_zero, List.getElem_cons_succ, Act.put, List.setIfInBounds_toArray, List.set_cons_zero, List.set_cons_succ]
    refine wpAnyH_take (i := 9) (v := .int .i64 s) rfl (by kernel_rfl) (by kernel_rfl) (by kernel_rfl) (fun _ _ _ h => h) (Or.inl ⟨by rfl, fun w hSw => by have c0 := Kept.cellOf hSw c3 (by simp); go_simp⟩) h0 ?_
    try simp only [List.getElem_toArray, List.getElem_cons_zero, List.getElem_cons_succ, Act.put, List.setIfInBounds_toArray, List.set_cons_zero, List.set_cons_succ]
    refine wpAnyH_ready (rs := [7]) (by kernel_rfl) (by simp) (AllReadyH.cons (i := 7) rfl (fun K hK => ?_) AllReadyH.nil)
    rw [if_pos (by rfl)]
    go_simp
    refine (HSM.out _ h0).mono ?_
    rintro e v1 ⟨rfl, hq⟩
    refine hK.out _ _ (h0.trans hq (by simp)) (fun h1 => ?_)
    clear hK K hq h0
    try simp only [List.getElem_toArray, List.getElem_cons_zero, List.getElem_cons_succ, Act.put, List.setIfInBounds_toArray, List.set_cons_zero, List.set_cons_succ]
    refine wpAnyH_take (i := 10) (v := .bool false) rfl (by kernel_rfl) (by kernel_rfl) (by kernel_rfl) (fun _ _ _ h => h) (Or.inl ⟨by rfl, fun w hSw => by have c0 := q4; go_simp⟩) h1 ?_
    try simp only [List.getElem_toArray, List.getElem_cons_zero, List.getElem_cons_succ, Act.put, List.setIfInBounds_toArray, List.set_cons_zero, List.set_cons_succ]
    refine wpAnyH_take (i := 11) (v := .bool false) rfl (by kernel_rfl) (by kernel_rfl) (by kernel_rfl) (fun _ _ _ h => h) (Or.inl ⟨by rfl, fun w hSw => by go_simp⟩) h1 ?_
    try simp only [List.getElem_toArray, List.getElem_cons_zero, List.getElem_cons_succ, Act.put, List.setIfInBounds_toArray, List.set_cons_zero, List.set_cons_succ]
    refine wpAnyH_done (by kernel_rfl) ?_ _
    have d1 := h1.cellOf c1 (by simp)
    have d2 := h1.cellOf c2 (by simp)
    have HK := hide ((Kept.of_below HB1.out).trans h1 (by simp))
    clear c1 c2 c3 q3 q4 HSM h1
    go_wp2_with (go_at_call 38; refine (HU.out _ (HK.out.below (Nat.le_refl _) (by simp))).mono ?_; rintro e w2 ⟨bo, bc, rfl, ho2, hb2⟩; have HO2 := hide ho2; have HB2 := hide hb2; clear ho2 hb2 HU)
    go_ret2
    exact ⟨bo, bc, rfl, World.ownsRow.mono HO2.out HK.out.size, (HK.out.trans (Kept.of_below HB2.out) (by simp)).below (Nat.le_refl _) (by simp)⟩
  · rw [if_neg hk]
    have q6 : ((k : Int) != 0) = true := by simp; omega
    clear hk
    unfold Ans
    go_enter Try.func18, Try.ntmps18
    go_upto_region 3 with (first
    | (have HA := H1; go_at_call 37; refine (H1.out _).mono ?_; rintro e w' ⟨rfl, hww⟩; obtain rfl := hww.symm; clear H1 HA)
    | (have HA := H2; go_at_call 37; refine (H2.out _).mono ?_; rintro e w' ⟨rfl, hww⟩; obtain rfl := hww.symm; clear H2 HA))
    clear hW1
    refine wp_region_held_drew (S := fun w' => Kept [] W1 w') (by kernel_rfl) ((Kept.refl [] W1).drew) (fun h0 => ?_)
    generalize World.drew W1 = v0 at h0 ⊢
    refine wpAnyH_take (i := 0) (v := .slice ao n cap) rfl (by kernel_rfl) (by kernel_rfl) (by kernel_rfl) (fun _ _ _ h => h) (Or.inl ⟨by rfl, fun w hSw => by go_simp⟩) h0 ?_
    try simp only [List.getElem_toArray, List.getElem_cons_zero, List.getElem_cons_succ, Act.put, List.setIfInBounds_toArray, List.set_cons_zero, List.set_cons_succ]
    refine wpAnyH_take (i := 1) (v := .int .i64 n) rfl (by kernel_rfl) (by kernel_rfl) (by kernel_rfl) (fun _ _ _ h => h) (Or.inl ⟨by rfl, fun w hSw => by go_simp⟩) h0 ?_
    try simp only [List.getElem_toArray, List.getElem_cons_zero, List.getElem_cons_succ, Act.put, List.setIfInBounds_toArray, List.set_cons_zero, List.set_cons_succ]
    refine wpAnyH_take (i := 2) (v := .pointer (some ⟨w.heap.size, 1, none⟩)) rfl (by kernel_rfl) (by kernel_rfl) (by kernel_rfl) (fun _ _ _ h => h) (Or.inl ⟨by rfl, fun w hSw => by go_simp⟩) h0 ?_
    try simp only [List.getElem_toArray, List.getElem_cons_zero, List.getElem_cons_succ, Act.put, List.setIfInBounds_toArray, List.set_cons_zero, List.set_cons_succ]
    refine wpAnyH_take (i := 3) (v := .int .i64 p) rfl (by kernel_rfl) (by kernel_rfl) (by kernel_rfl) (fun _ _ _ h => h) (Or.inl ⟨by rfl, fun w hSw => by have c0 := Kept.cellOf hSw c1 (by simp); go_simp⟩) h0 ?_
    try simp only [List.getElem_toArray, List.getElem_cons_zero, List.getElem_cons_succ, Act.put, List.setIfInBounds_toArray, List.set_cons_zero, List.set_cons_succ]
    refine wpAnyH_take (i := 4) (v := .bool false) rfl (by kernel_rfl) (by kernel_rfl) (by kernel_rfl) (fun _ _ _ h => h) (Or.inl ⟨by rfl, fun w hSw => by have c0 := q3; go_simp⟩) h0 ?_
    try simp only [List.getElem_toArray, List.getElem_cons_zero, List.getElem_cons_succ, Act.put, List.setIfInBounds_toArray, List.set_cons_zero, List.set_cons_succ]
    refine wpAnyH_take (i := 5) (v := .bool false) rfl (by kernel_rfl) (by kernel_rfl) (by kernel_rfl) (fun _ _ _ h => h) (Or.inl ⟨by rfl, fun w hSw => by go_simp⟩) h0 ?_
    try simp only [List.getElem_toArray, List.getElem_cons_zero, List.getElem_cons_succ, Act.put, List.setIfInBounds_toArray, List.set_cons_zero, List.set_cons_succ]
    refine wpAnyH_take (i := 6) (v := .slice ao n cap) rfl (by kernel_rfl) (by kernel_rfl) (by kernel_rfl) (fun _ _ _ h => h) (Or.inl ⟨by rfl, fun w hSw => by go_simp⟩) h0 ?_
    try simp only [List.getElem_toArray, List.getElem_cons_zero, List.getElem_cons_succ, Act.put, List.setIfInBounds_toArray, List.set_cons_zero, List.set_cons_succ]
    refine wpAnyH_take (i := 8) (v := .pointer (some ⟨w.heap.size, 3, none⟩)) rfl (by kernel_rfl) (by kernel_rfl) (by kernel_rfl) (fun _ _ _ h => h) (Or.inl ⟨by rfl, fun w hSw => by go_simp⟩) h0 ?_
    try simp only [List.getElem_toArray, List.getElem_cons_zero, List.getElem_cons_succ, Act.put, List.setIfInBounds_toArray, List.set_cons_zero, List.set_cons_succ]
    refine wpAnyH_take (i := 9) (v := .int .i64 s) rfl (by kernel_rfl) (by kernel_rfl) (by kernel_rfl) (fun _ _ _ h => h) (Or.inl ⟨by rfl, fun w hSw => by have c0 := Kept.cellOf hSw c3 (by simp); go_simp⟩) h0 ?_
    try simp only [List.getElem_toArray, List.getElem_cons_zero, List.getElem_cons_succ, Act.put, List.setIfInBounds_toArray, List.set_cons_zero, List.set_cons_succ]
    refine wpAnyH_ready (rs := [7]) (by kernel_rfl) (by simp) (AllReadyH.cons (i := 7) rfl (fun K hK => ?_) AllReadyH.nil)
    rw [if_pos (by rfl)]
    go_simp
    refine (HSM.out _ h0).mono ?_
    rintro e v1 ⟨rfl, hq⟩
    refine hK.out _ _ (h0.trans hq (by simp)) (fun h1 => ?_)
    clear hK K hq h0
    try simp only [List.getElem_toArray, List.getElem_cons_zero, List.getElem_cons_succ, Act.put, List.setIfInBounds_toArray, List.set_cons_zero, List.set_cons_succ]
    refine wpAnyH_take (i := 10) (v := .bool false) rfl (by kernel_rfl) (by kernel_rfl) (by kernel_rfl) (fun _ _ _ h => h) (Or.inl ⟨by rfl, fun w hSw => by have c0 := q4; go_simp⟩) h1 ?_
    try simp only [List.getElem_toArray, List.getElem_cons_zero, List.getElem_cons_succ, Act.put, List.setIfInBounds_toArray, List.set_cons_zero, List.set_cons_succ]
    refine wpAnyH_take (i := 11) (v := .bool false) rfl (by kernel_rfl) (by kernel_rfl) (by kernel_rfl) (fun _ _ _ h => h) (Or.inl ⟨by rfl, fun w hSw => by go_simp⟩) h1 ?_
    try simp only [List.getElem_toArray, List.getElem_cons_zero, List.getElem_cons_succ, Act.put, List.setIfInBounds_toArray, List.set_cons_zero, List.set_cons_succ]
    refine wpAnyH_done (by kernel_rfl) ?_ _
    have d1 := h1.cellOf c1 (by simp)
    have d2 := h1.cellOf c2 (by simp)
    have HK := hide ((Kept.of_below HB1.out).trans h1 (by simp))
    clear c1 c2 c3 q3 q4 HSM h1
    go_wp2_with (go_at_call 38; refine (HU.out _ (HK.out.below (Nat.le_refl _) (by simp))).mono ?_; rintro e w2 ⟨bo, bc, rfl, ho2, hb2⟩; have HB2 := hide hb2; clear ho2 hb2 HU)
    go_ret2
    exact ⟨none, 0, rfl, own_nil _ _ _, (HK.out.trans (Kept.of_below HB2.out) (by simp)).below (Nat.le_refl _) (by simp)⟩

/-- block.Open. -/
theorem open_any (ao : Option Addr) (n cap : Nat) (b : Bk) (ys : List UInt8) (w : World) (hy : ys.length = n) (hc : n ≤ cap) (hs : Sl w ao ys) :
    Calls Try.prog 18 #[.slice ao n cap, .agg b.cells.toArray] w (Ans w (Blk.opn ys b)) := by
  obtain ⟨a, p, r, s⟩ := b
  unfold Blk.opn
  simp only [Blk.bad, hy]
  show Calls _ _ #[_, .agg #[.int .i64 a, .int .i64 p, .int .i64 r, .int .i64 s]] _ _
  by_cases h1 : 1 ≤ r ∧ r ≤ 4096
  · by_cases h2 : 1 ≤ p ∧ p ≤ r
    · by_cases h3 : (n : Int) = p
      · by_cases h4 : ((Pure.sum ys : Nat) : Int) = s
        · rw [if_neg (by omega)]
          by_cases h5 : p = r
          · rw [if_pos h5]
            exact open_stored ao n cap a p r s ys w hy hs h1 h2 h3 h4 h5
          · rw [if_neg h5]
            exact open_unp ao n cap a p r s ys w hy hc hs h1 h2 h3 h4 h5 _ _ rfl
        · rw [if_pos (by omega)]
          exact open_sum ao n cap a p r s ys w hy hs h1 h2 h3 h4
      · rw [if_pos (by omega)]
        exact open_len ao n cap a p r s w h1 h2 h3
    · rw [if_pos (by omega)]
      exact open_pk ao n cap a p r s w h1 h2
  · rw [if_pos (by omega)]
    exact open_raw ao n cap a p r s w h1

end Go.Proofs.Ytdnbpklnkmgmkaa
