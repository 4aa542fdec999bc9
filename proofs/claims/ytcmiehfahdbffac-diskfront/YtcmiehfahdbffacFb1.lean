/-
  Contract: freightlaw5.move.
-/
import Derived.Test.YtcmiehfahdbffacFb0
import Derived.Test.YtcmiehfahdbffacJa
namespace Go.Proofs.Ytcmiehfahdbffac
open Go.RowKit Dsk
set_option linter.unusedVariables false
set_option linter.unusedSimpArgs false

set_option maxHeartbeats 1600000 in
set_option maxRecDepth 100000 in
theorem move_ax {X : Nat → Prop} {wa w : World} {p : Nat} {S : Ds} {N : Nat} (h : Ax X wa w p S N) (hN : N ≤ 268435456) (m : Mov) (hf : m.1.length ≤ 4611686018427387904) (ht : m.2.length ≤ 4611686018427387904) :
    Calls Try.prog 22 #[.pointer (some ⟨p, 0, none⟩), .agg #[encStr m.1, encStr m.2]] w fun e w' => e = .returned (.int .i64 (moveD S m).1) ∧ Ax X wa w' p (moveD S m).2 (N + 2) := by
  obtain ⟨f, t⟩ := m
  obtain ⟨w1, hw1⟩ : ∃ w1, w1 = w.alloc (.cells #[encStr f, encStr t] 52) := ⟨_, rfl⟩
  have hk1 : Kept [] w w1 := by rw [hw1]; exact (Kept.refl [] w).alloc _
  have hb1 : w1.heap[w.heap.size]? = some (.cells #[encStr f, encStr t] 52 (0, 0)) := by rw [hw1]; exact (MapKept.heap_alloc w _).1
  have i0 : w1.cell? ⟨w.heap.size, 0, none⟩ = some (encStr f) := by rw [cell_of_row w1 _ 0 _ _ _ hb1]; rfl
  have i1 : w1.cell? ⟨w.heap.size, 1, none⟩ = some (encStr t) := by rw [cell_of_row w1 _ 1 _ _ _ hb1]; rfl
  have h1 := h.kept hk1
  by_cases hm : t = []
  · subst hm
    have e : moveD S (f, []) = S.remove f := by simp [moveD]
    rw [e]
    have hc := remove_ax h1 hN f hf
    clear h h1 hb1 hk1 e
    go_enter Try.func22, Try.ntmps22
    go_upto_region 1 with (fail)
    rw [← hw1]
    clear hw1
    go_wp2_with (go_at_call 50; refine hc.mono ?_; rintro e w2 ⟨rfl, ha⟩; have HA := hide ha; clear ha hc)
    go_ret
    exact ⟨rfl, HA.out⟩
  · have e : moveD S (f, t) = S.rename f t := by simp [moveD, hm]
    rw [e]
    have hc := rename_ax h1 hN f t hf ht
    have hne : (t == []) = false := by simpa using hm
    clear h h1 hb1 hk1 e
    go_enter Try.func22, Try.ntmps22
    go_upto_region 1 with (fail)
    rw [← hw1]
    clear hw1
    go_wp2_with (go_at_call 51; refine hc.mono ?_; rintro e w2 ⟨rfl, ha⟩; have HA := hide ha; clear ha hc)
    go_ret
    exact ⟨rfl, HA.out⟩
end Go.Proofs.Ytcmiehfahdbffac
