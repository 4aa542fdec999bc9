/-
  Contracts: package block's small functions; Cover, and the document's.
-/
import Derived.Test.YtdnbpklnkmgmkaaXa
import Derived.Test.YtdnbpklnkmgmkaaBa
import Derived.Test.YtdnbpklnkmgmkaaSum
namespace Go.Proofs.Ytdnbpklnkmgmkaa
open Go.RowKit
set_option linter.unusedVariables false
set_option linter.unusedSimpArgs false

theorem within_yes (v a b : Int) (w : World) (h : a ≤ v ∧ v ≤ b) :
    Calls Try.prog 37 #[.int .i64 v, .int .i64 a, .int .i64 b] w fun e w' => e = .returned (.bool true) ∧ w' = w := by
  obtain ⟨h1, h2⟩ := h
  go_enter Try.func37, Try.ntmps37
  go_wp2
  go_ret
  exact ⟨rfl, rfl⟩

theorem within_no (v a b : Int) (w : World) (h : ¬ (a ≤ v ∧ v ≤ b)) :
    Calls Try.prog 37 #[.int .i64 v, .int .i64 a, .int .i64 b] w fun e w' => e = .returned (.bool false) ∧ w' = w := by
  by_cases h1 : a ≤ v
  · have h2 : ¬ v ≤ b := fun h2 => h ⟨h1, h2⟩
    clear h
    go_enter Try.func37, Try.ntmps37
    go_wp2
    go_ret
    exact ⟨rfl, rfl⟩
  · clear h
    go_enter Try.func37, Try.ntmps37
    go_wp2
    go_ret
    exact ⟨rfl, rfl⟩

theorem isSize_yes (s : Int) (w : World) (h : 16 ≤ s ∧ s ≤ 4096) :
    Calls Try.prog 29 #[.int .i64 s] w fun e w' => e = .returned (.bool true) ∧ w' = w := by
  have H := hide (within_yes s 16 4096 w h)
  clear h
  go_enter Try.func29, Try.ntmps29
  go_wp2_with (go_at_call 37; refine H.out.mono ?_; rintro e w' ⟨rfl, rfl⟩)
  go_ret
  exact ⟨rfl, rfl⟩

theorem isSize_no (s : Int) (w : World) (h : ¬ (16 ≤ s ∧ s ≤ 4096)) :
    Calls Try.prog 29 #[.int .i64 s] w fun e w' => e = .returned (.bool false) ∧ w' = w := by
  have H := hide (within_no s 16 4096 w h)
  clear h
  go_enter Try.func29, Try.ntmps29
  go_wp2_with (go_at_call 37; refine H.out.mono ?_; rintro e w' ⟨rfl, rfl⟩)
  go_ret
  exact ⟨rfl, rfl⟩

theorem refIsSize_yes (s : Int) (w : World) (h : 16 ≤ s ∧ s ≤ 4096) :
    Calls Try.prog 26 #[.int .i64 s] w fun e w' => e = .returned (.bool true) ∧ w' = w := by
  obtain ⟨h1, h2⟩ := h
  go_enter Try.func26, Try.ntmps26
  go_wp2
  go_ret
  exact ⟨rfl, rfl⟩

theorem refIsSize_no (s : Int) (w : World) (h : ¬ (16 ≤ s ∧ s ≤ 4096)) :
    Calls Try.prog 26 #[.int .i64 s] w fun e w' => e = .returned (.bool false) ∧ w' = w := by
  by_cases h1 : 16 ≤ s
  · have h2 : ¬ s ≤ 4096 := fun h2 => h ⟨h1, h2⟩
    clear h
    go_enter Try.func26, Try.ntmps26
    go_wp2
    go_ret
    exact ⟨rfl, rfl⟩
  · clear h
    go_enter Try.func26, Try.ntmps26
    go_wp2
    go_ret
    exact ⟨rfl, rfl⟩

theorem count_ok (n s : Int) (w : World) (h0 : 0 ≤ n) (h1 : n ≤ 1000000) (h2 : 16 ≤ s) (h3 : s ≤ 4096) (c : Int) (hc : (n + s - 1) / s = c) :
    Calls Try.prog 33 #[.int .i64 n, .int .i64 s] w fun e w' => e = .returned (.int .i64 c) ∧ w' = w := by
  have hd : Int.tdiv (n + s - 1) s = c := by rw [Int.tdiv_eq_ediv_of_nonneg (by omega)]; exact hc
  have hb : 0 ≤ c ∧ c ≤ n + s - 1 := by
    rw [← hc]
    exact ⟨Int.ediv_nonneg (by omega) (by omega), Int.ediv_le_self _ (by omega)⟩
  obtain ⟨hb1, hb2⟩ := hb
  have hs0 : ¬ s = 0 := by omega
  clear hc
  go_enter Try.func33, Try.ntmps33
  go_wp2
  go_ret
  exact ⟨rfl, rfl⟩

theorem ends_ok (k n s : Int) (w : World) (hk0 : 0 ≤ k) (hk : k ≤ 70000) (h0 : 0 ≤ n) (h1 : n ≤ 1000000) (h2 : 16 ≤ s) (h3 : s ≤ 4096) (a b : Int) (ha : k * s = a) (hb : min ((k + 1) * s) n = b) :
    Calls Try.prog 34 #[.int .i64 k, .int .i64 n, .int .i64 s] w fun e w' => e = .returned (.tuple #[.int .i64 a, .int .i64 b]) ∧ w' = w := by
  obtain ⟨c, hc⟩ : ∃ c, (k + 1) * s = c := ⟨_, rfl⟩
  rw [hc] at hb
  have hA : 0 ≤ a ∧ a ≤ 70000 * 4096 := by
    rw [← ha]
    exact ⟨Int.mul_nonneg hk0 (by omega), Int.mul_le_mul hk h3 (by omega) (by omega)⟩
  have hC : 0 ≤ c ∧ c ≤ 70001 * 4096 := by
    rw [← hc]
    exact ⟨Int.mul_nonneg (by omega) (by omega), Int.mul_le_mul (by omega) h3 (by omega) (by omega)⟩
  obtain ⟨hA1, hA2⟩ := hA
  obtain ⟨hC1, hC2⟩ := hC
  go_enter Try.func34, Try.ntmps34
  go_wp2
  · go_ret2
    obtain rfl : n = b := by omega
    exact ⟨rfl, rfl⟩
  · go_ret2
    obtain rfl : c = b := by omega
    exact ⟨rfl, rfl⟩

theorem quo_ok {a s q : Int} (ha : 0 ≤ a) (hs : 16 ≤ s) (h : a / s = q) : Int.tdiv a s = q ∧ 0 ≤ q ∧ q ≤ a := by
  refine ⟨by rw [Int.tdiv_eq_ediv_of_nonneg ha]; exact h, ?_, ?_⟩
  · rw [← h]; exact Int.ediv_nonneg ha (by omega)
  · rw [← h]; exact Int.ediv_le_self _ ha

def CvEnd (w : World) (x y : Int) (e : Ending) (w' : World) : Prop := e = .returned (.tuple #[.int .i64 x, .int .i64 y]) ∧ ∃ k, w' = w.drewN k

set_option maxHeartbeats 1000000 in
theorem cover_any (s a n : Int) (w : World) :
    Calls Try.prog 35 #[.int .i64 s, .int .i64 a, .int .i64 n] w (CvEnd w (Blk.cover s a n).1 (Blk.cover s a n).2) := by
  unfold CvEnd
  by_cases h1 : 16 ≤ s ∧ s ≤ 4096
  · have H1 := hide (isSize_yes s w h1)
    by_cases h2 : 0 ≤ a ∧ a ≤ 2147483647
    · have H2 := hide (within_yes a 0 2147483647 w h2)
      by_cases h3 : 1 ≤ n ∧ n ≤ 2147483647
      · have H3 := hide (within_yes n 1 2147483647 w h3)
        obtain ⟨q, hq⟩ : ∃ q, a / s = q := ⟨_, rfl⟩
        obtain ⟨r, hr⟩ : ∃ r, (a + n - 1) / s = r := ⟨_, rfl⟩
        have HC : Hid (Blk.cover s a n = (q, r + 1)) := by
          show _ = _
          unfold Blk.cover
          rw [if_pos ⟨h1.1, h1.2, h2.1, h2.2, h3.1, h3.2⟩, hq, hr]
        obtain ⟨t1, t2, t3⟩ := quo_ok h2.1 h1.1 hq
        obtain ⟨t4, t5, t6⟩ := quo_ok (a := a + n - 1) (by omega) h1.1 hr
        have hs0 : ¬ s = 0 := by omega
        obtain ⟨g1, g2⟩ := h1
        obtain ⟨g3, g4⟩ := h2
        obtain ⟨g5, g6⟩ := h3
        rw [HC.out]
        clear hq hr
        go_enter Try.func35, Try.ntmps35
        go_wp2_with (first
          | (have HA := H1; go_at_call 29; refine H1.out.mono ?_; rintro e w' ⟨rfl, rfl⟩; clear H1 HA)
          | (go_at_call_of 37 (Value.int IntKind.i64 a); refine H2.out.mono ?_; rintro e w' ⟨rfl, rfl⟩; clear H2)
          | (go_at_call_of 37 (Value.int IntKind.i64 n); refine H3.out.mono ?_; rintro e w' ⟨rfl, rfl⟩; clear H3))
        go_quiet (fail)
        go_wp2
        go_ret2
        exact ⟨rfl, nq, rfl⟩
      · have H3 := hide (within_no n 1 2147483647 w h3)
        have HC : Hid (Blk.cover s a n = (0, 0)) := by
          show _ = _
          unfold Blk.cover
          rw [if_neg (fun h => h3 ⟨h.2.2.2.2.1, h.2.2.2.2.2⟩)]
        rw [HC.out]
        clear h1 h2 h3
        go_enter Try.func35, Try.ntmps35
        go_wp2_with (first
          | (have HA := H1; go_at_call 29; refine H1.out.mono ?_; rintro e w' ⟨rfl, rfl⟩; clear H1 HA)
          | (have HA := H2; go_at_call 37; refine H2.out.mono ?_; rintro e w' ⟨rfl, rfl⟩; clear H2 HA)
          | (have HA := H3; go_at_call 37; refine H3.out.mono ?_; rintro e w' ⟨rfl, rfl⟩; clear H3 HA))
        go_ret2
        exact ⟨rfl, 0, rfl⟩
    · have H2 := hide (within_no a 0 2147483647 w h2)
      have HC : Hid (Blk.cover s a n = (0, 0)) := by
        show _ = _
        unfold Blk.cover
        rw [if_neg (fun h => h2 ⟨h.2.2.1, h.2.2.2.1⟩)]
      rw [HC.out]
      clear h1 h2
      go_enter Try.func35, Try.ntmps35
      go_wp2_with (first
        | (have HA := H1; go_at_call 29; refine H1.out.mono ?_; rintro e w' ⟨rfl, rfl⟩; clear H1 HA)
        | (have HA := H2; go_at_call 37; refine H2.out.mono ?_; rintro e w' ⟨rfl, rfl⟩; clear H2 HA))
      go_ret2
      exact ⟨rfl, 0, rfl⟩
  · have H1 := hide (isSize_no s w h1)
    have HC : Hid (Blk.cover s a n = (0, 0)) := by
      show _ = _
      unfold Blk.cover
      rw [if_neg (fun h => h1 ⟨h.1, h.2.1⟩)]
    rw [HC.out]
    clear h1
    go_enter Try.func35, Try.ntmps35
    go_wp2_with (first
      | (have HA := H1; go_at_call 29; refine H1.out.mono ?_; rintro e w' ⟨rfl, rfl⟩; clear H1 HA))
    go_ret2
    exact ⟨rfl, 0, rfl⟩

end Go.Proofs.Ytdnbpklnkmgmkaa
