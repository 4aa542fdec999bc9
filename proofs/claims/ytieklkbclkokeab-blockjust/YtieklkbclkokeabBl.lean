/-
  The walk: freightlaw11.BlockJust.
-/
import Derived.Test.YtieklkbclkokeabBh
namespace Go.Proofs.Ytieklkbclkokeab
open Go.RowKit
set_option linter.unusedVariables false
set_option linter.unusedSimpArgs false

/-- Where the blocks of Cover lie. -/
theorem cover_facts {s a n q r : Int} (hs : 16 ≤ s) (hs2 : s ≤ 4096) (ha : 0 ≤ a) (ha2 : a ≤ 2147483647) (hn : 1 ≤ n) (hn2 : n ≤ 2147483647) (hq : a / s = q) (hr : (a + n - 1) / s = r) :
    0 ≤ q ∧ q ≤ r ∧ q * s ≤ a ∧ a < (q + 1) * s ∧ a + n ≤ (r + 1) * s ∧ r * s < a + n ∧ 0 ≤ q * s ∧ (q + 1) * s ≤ 2147487744 ∧ (r + 1) * s ≤ 4294971390 ∧ 0 ≤ r * s := by
  have e1 := Int.ediv_mul_le a (show s ≠ 0 by omega)
  have e2 := Int.lt_ediv_add_one_mul_self a (show 0 < s by omega)
  have e3 := Int.ediv_mul_le (a + n - 1) (show s ≠ 0 by omega)
  have e4 := Int.lt_ediv_add_one_mul_self (a + n - 1) (show 0 < s by omega)
  rw [hq] at e1 e2
  rw [hr] at e3 e4
  have h0 : 0 ≤ q := by rw [← hq]; exact Int.ediv_nonneg ha (by omega)
  have hqr : q ≤ r := by rw [← hq, ← hr]; exact Int.ediv_le_ediv (by omega) (by omega)
  have x1 : (q + 1) * s = q * s + s := by rw [Int.add_mul, Int.one_mul]
  have x2 : (r + 1) * s = r * s + s := by rw [Int.add_mul, Int.one_mul]
  have h1 : 0 ≤ q * s := Int.mul_nonneg h0 (by omega)
  have h2 : 0 ≤ r * s := Int.mul_nonneg (by omega) (by omega)
  refine ⟨h0, hqr, e1, e2, by omega, by omega, h1, by omega, by omega, h2⟩

def JuEnd (w : World) (e : Ending) (w' : World) : Prop := e = .returned (.bool true) ∧ Below w.heap.size w w'
theorem JuEnd.of {w w1 w2 : World} {k : Nat} (h1 : w1 = w.drewN k) (h2 : Kept [] w1 w2) : Below w.heap.size w w2 := by
  subst h1
  exact (((Kept.refl [] w).drewN k).trans h2 (by simp)).below (Nat.le_refl _) (by simp)

set_option maxHeartbeats 2000000 in
set_option maxRecDepth 100000 in
theorem just_bad (s a n : Int) (w : World) (hz : Blk.cover s a n = (0, 0)) (hb : s < 16 ∨ (¬ s < 16 ∧ 4096 < s) ∨ (¬ s < 16 ∧ ¬ 4096 < s ∧ a < 0) ∨ (¬ s < 16 ∧ ¬ 4096 < s ∧ ¬ a < 0 ∧ 1000000 < a ∧ 2147483647 < a) ∨ (¬ s < 16 ∧ ¬ 4096 < s ∧ ¬ a < 0 ∧ 1000000 < a ∧ ¬ 2147483647 < a ∧ n < 1) ∨ (¬ s < 16 ∧ ¬ 4096 < s ∧ ¬ a < 0 ∧ 1000000 < a ∧ ¬ 2147483647 < a ∧ ¬ n < 1 ∧ 2147483647 < n) ∨ (¬ s < 16 ∧ ¬ 4096 < s ∧ ¬ a < 0 ∧ ¬ 1000000 < a ∧ ¬ 2147483647 < a ∧ n < 1) ∨ (¬ s < 16 ∧ ¬ 4096 < s ∧ ¬ a < 0 ∧ ¬ 1000000 < a ∧ ¬ 2147483647 < a ∧ ¬ n < 1 ∧ 1000000 < n ∧ 2147483647 < n)) :
    Calls Try.prog 3 #[.int .i64 s, .int .i64 a, .int .i64 n] w (JuEnd w) := by
  have H1 := hide (cover_any s a n w)
  have HK := hide known_ok
  unfold CvEnd at H1
  rw [hz] at H1
  clear hz
  unfold JuEnd
  rcases hb with h | ⟨h1, h2⟩ | ⟨h1, h2, h3⟩ | ⟨h1, h2, h3, h4, h5⟩ | ⟨h1, h2, h3, h4, h5, h6⟩ | ⟨h1, h2, h3, h4, h5, h6, h7⟩ | ⟨h1, h2, h3, h4, h5, h6⟩ | ⟨h1, h2, h3, h4, h5, h6, h7, h8⟩
  all_goals
    go_enter Try.func3, Try.ntmps3
    go_wp2_with (first
      | (go_at_call 5; refine H1.out.mono ?_; rintro e w1 ⟨rfl, k1, hw1⟩; have HW1 := hide hw1; clear hw1 H1)
      | (go_at_call 6; refine (HK.out _).mono ?_; rintro e w3 ⟨rfl, hk3⟩; have HK3 := hide hk3; clear hk3 HK))
    go_ret
    exact ⟨rfl, JuEnd.of HW1.out HK3.out⟩

set_option maxHeartbeats 2000000 in
set_option maxRecDepth 100000 in
theorem just_ok (s a n : Int) (w : World) (hs : 16 ≤ s) (hs2 : s ≤ 4096) (ha : 0 ≤ a) (ha2 : a ≤ 2147483647) (hn : 1 ≤ n) (hn2 : n ≤ 2147483647) :
    Calls Try.prog 3 #[.int .i64 s, .int .i64 a, .int .i64 n] w (JuEnd w) := by
  have H1 := hide (cover_any s a n w)
  have HK := hide known_ok
  obtain ⟨q, hq⟩ : ∃ q, a / s = q := ⟨_, rfl⟩
  obtain ⟨r, hr⟩ : ∃ r, (a + n - 1) / s = r := ⟨_, rfl⟩
  have hz : Blk.cover s a n = (q, r + 1) := by
    unfold Blk.cover
    rw [if_pos ⟨hs, hs2, ha, ha2, hn, hn2⟩, hq, hr]
  obtain ⟨f1, f2, f3, f4, f5, f6, f7, f8, f9, f10⟩ := cover_facts hs hs2 ha ha2 hn hn2 hq hr
  unfold CvEnd at H1
  rw [hz] at H1
  obtain ⟨A, hA⟩ : ∃ A, q * s = A := ⟨_, rfl⟩
  obtain ⟨B, hB⟩ : ∃ B, (q + 1) * s = B := ⟨_, rfl⟩
  obtain ⟨C, hC⟩ : ∃ C, (r + 1) * s = C := ⟨_, rfl⟩
  obtain ⟨D, hD⟩ : ∃ D, r * s = D := ⟨_, rfl⟩
  have hrr : r + 1 - 1 = r := by omega
  have hrb : r ≤ 4294967296 := by
    have := Int.ediv_le_self s (show 0 ≤ a + n - 1 by omega)
    omega
  rw [hA] at f3 f7
  rw [hB] at f4 f8
  rw [hC] at f5 f9
  rw [hD] at f6 f10
  have g1 : ¬ s < 16 := by omega
  have g2 : ¬ 4096 < s := by omega
  have g3 : ¬ a < 0 := by omega
  have g4 : ¬ 2147483647 < a := by omega
  have g5 : ¬ n < 1 := by omega
  have g6 : ¬ 2147483647 < n := by omega
  have g7 : q < r + 1 := by omega
  clear hq hr hz hs hs2 ha ha2 hn hn2
  unfold JuEnd
  by_cases h1 : 1000000 < a
  · go_enter Try.func3, Try.ntmps3
    go_wp2_with (first
      | (go_at_call 5; refine H1.out.mono ?_; rintro e w1 ⟨rfl, k1, hw1⟩; have HW1 := hide hw1; clear hw1 H1)
      | (go_at_call 6; refine (HK.out _).mono ?_; rintro e w3 ⟨rfl, hk3⟩; have HK3 := hide hk3; clear hk3 HK))
    go_ret
    exact ⟨rfl, JuEnd.of HW1.out HK3.out⟩
  · by_cases h2 : 1000000 < n
    · go_enter Try.func3, Try.ntmps3
      go_wp2_with (first
        | (go_at_call 5; refine H1.out.mono ?_; rintro e w1 ⟨rfl, k1, hw1⟩; have HW1 := hide hw1; clear hw1 H1)
        | (go_at_call 6; refine (HK.out _).mono ?_; rintro e w3 ⟨rfl, hk3⟩; have HK3 := hide hk3; clear hk3 HK))
      go_ret
      exact ⟨rfl, JuEnd.of HW1.out HK3.out⟩
    · go_enter Try.func3, Try.ntmps3
      go_wp2_with (first
        | (go_at_call 5; refine H1.out.mono ?_; rintro e w1 ⟨rfl, k1, hw1⟩; have HW1 := hide hw1; clear hw1 H1)
        | (go_at_call 6; refine (HK.out _).mono ?_; rintro e w3 ⟨rfl, hk3⟩; have HK3 := hide hk3; clear hk3 HK))
      go_ret
      exact ⟨rfl, JuEnd.of HW1.out HK3.out⟩

theorem just_walk (s a n : Int) (w : World) (h1 : (Lit.int .i64 s).wf = true) (h2 : (Lit.int .i64 a).wf = true) (h3 : (Lit.int .i64 n).wf = true) :
    Calls Try.prog 3 #[.int .i64 s, .int .i64 a, .int .i64 n] w fun e w' => e = .returned (.bool true) ∧ Below w.heap.size w w' := by
  by_cases h : Blk.okCov s a n
  · exact just_ok s a n w h.1 h.2.1 h.2.2.1 h.2.2.2.1 h.2.2.2.2.1 h.2.2.2.2.2
  · refine just_bad s a n w (by unfold Blk.cover; rw [if_neg h]) ?_
    unfold Blk.okCov at h
    omega

end Go.Proofs.Ytieklkbclkokeab
