/-
  The walk: freightlaw11.BlockCovers.
-/
import Derived.Test.YtieklkbclkokeaaBh
namespace Go.Proofs.Ytieklkbclkokeaa
open Go.RowKit
set_option linter.unusedVariables false
set_option linter.unusedSimpArgs false

set_option maxHeartbeats 1000000 in
theorem covers_walk (s a n : Int) (w : World) (h1 : (Lit.int .i64 s).wf = true) (h2 : (Lit.int .i64 a).wf = true) (h3 : (Lit.int .i64 n).wf = true) :
    Calls Try.prog 6 #[.int .i64 s, .int .i64 a, .int .i64 n] w fun e w' => e = .returned (.bool true) ∧ Below w.heap.size w w' := by
  have H1 := hide (cover_any s a n w)
  have H2 := hide (refcover_any s a n)
  have HK := hide known_ok
  unfold CvEnd at H1 H2
  generalize (Blk.cover s a n).1 = x at H1 H2
  generalize (Blk.cover s a n).2 = y at H1 H2
  have qx : (x == x) = true := by simp
  have qy : (y == y) = true := by simp
  clear h1 h2 h3
  go_enter Try.func6, Try.ntmps6
  go_wp2_with (first
    | (go_at_call 22; refine H1.out.mono ?_; rintro e w1 ⟨rfl, k1, hw1⟩; have HW1 := hide hw1; clear hw1 H1)
    | (go_at_call 23; refine (H2.out _).mono ?_; rintro e w2 ⟨rfl, k2, hw2⟩; have HW2 := hide hw2; clear hw2 H2)
    | (go_at_call 17; refine (HK.out _).mono ?_; rintro e w3 ⟨rfl, hk3⟩; have HK3 := hide hk3; clear hk3 HK))
  go_ret
  refine ⟨rfl, ?_⟩
  have e1 : Kept [] w w2 := by rw [HW2.out, HW1.out]; exact ((Kept.refl [] w).drewN _).drewN _
  exact (e1.trans HK3.out (by simp)).below (Nat.le_refl _) (by simp)

end Go.Proofs.Ytieklkbclkokeaa
