/-
  Contract: block.Valid. (Written by tools/bg.py.)
-/
import Derived.Test.YtdnbpklnkmgmkaaBe
import Derived.Deep.QuietTactic
import Derived.BigQuiet
namespace Go.Proofs.Ytdnbpklnkmgmkaa
open Go.RowKit
set_option linter.unusedVariables false
set_option linter.unusedSimpArgs false

theorem Blk.valid_no {L : List Bk} {row s : Int} (h : ¬ (Blk.mayBe L.length row s ∧ Blk.okTo L row s L.length)) : Blk.valid L row s = false := by unfold Blk.valid; simp only [decide_eq_false_iff_not]; exact h
theorem Blk.valid_yes {L : List Bk} {row s : Int} (h : Blk.mayBe L.length row s ∧ Blk.okTo L row s L.length) : Blk.valid L row s = true := by unfold Blk.valid; simp only [decide_eq_true_eq]; exact h

set_option maxHeartbeats 1000000 in
theorem valid_row (ao : Option Addr) (n cap : Nat) (row s : Int) (w : World) (h : ¬ (0 ≤ row ∧ row ≤ 65536)) :
    Calls Try.prog 19 #[.slice ao n cap, .int .i64 row, .int .i64 s] w fun e w' => e = .returned (.bool false) ∧ Kept [] w w' := by
  have H1 := hide (within_no row 0 65536 w h)
  clear h
  go_enter Try.func19, Try.ntmps19
  go_wp2_with (have HA := H1; go_at_call 37; refine H1.out.mono ?_; rintro e w' ⟨rfl, hww⟩; obtain rfl := hww.symm; clear H1 HA)
  go_ret
  exact ⟨rfl, Kept.refl _ _⟩

set_option maxHeartbeats 1000000 in
theorem valid_size (ao : Option Addr) (n cap : Nat) (row s : Int) (w : World) (h : 0 ≤ row ∧ row ≤ 65536) (h2 : ¬ (16 ≤ s ∧ s ≤ 4096)) :
    Calls Try.prog 19 #[.slice ao n cap, .int .i64 row, .int .i64 s] w fun e w' => e = .returned (.bool false) ∧ Kept [] w w' := by
  have H1 := hide (within_yes row 0 65536 w h)
  have H2 := hide (isSize_no s w h2)
  clear h h2
  go_enter Try.func19, Try.ntmps19
  go_wp2_with (first | (have HA := H1; go_at_call 37; refine H1.out.mono ?_; rintro e w' ⟨rfl, hww⟩; obtain rfl := hww.symm; clear H1 HA) | (have HA := H2; go_at_call 29; refine H2.out.mono ?_; rintro e w' ⟨rfl, hww⟩; obtain rfl := hww.symm; clear H2 HA))
  go_ret
  exact ⟨rfl, Kept.refl _ _⟩

set_option maxHeartbeats 1000000 in
theorem valid_count (ao : Option Addr) (n cap : Nat) (row s : Int) (w : World) (h : 0 ≤ row ∧ row ≤ 65536) (h2 : 16 ≤ s ∧ s ≤ 4096) (c : Int) (hc : (row + s - 1) / s = c) (h3 : (n : Int) ≠ c) :
    Calls Try.prog 19 #[.slice ao n cap, .int .i64 row, .int .i64 s] w fun e w' => e = .returned (.bool false) ∧ Kept [] w w' := by
  have H1 := hide (within_yes row 0 65536 w h)
  have H2 := hide (isSize_yes s w h2)
  have H3 := hide (count_ok row s w h.1 (by omega) h2.1 h2.2 c hc)
  have q : ((n : Int) != c) = true := by simpa using h3
  clear h h2 hc h3
  go_enter Try.func19, Try.ntmps19
  go_wp2_with (first | (have HA := H1; go_at_call 37; refine H1.out.mono ?_; rintro e w' ⟨rfl, hww⟩; obtain rfl := hww.symm; clear H1 HA) | (have HA := H2; go_at_call 29; refine H2.out.mono ?_; rintro e w' ⟨rfl, hww⟩; obtain rfl := hww.symm; clear H2 HA) | (have HA := H3; go_at_call 33; refine H3.out.mono ?_; rintro e w' ⟨rfl, hww⟩; obtain rfl := hww.symm; clear H3 HA))
  go_ret
  exact ⟨rfl, Kept.refl _ _⟩

set_option maxHeartbeats 4000000 in
set_option maxRecDepth 100000 in
theorem valid_loop (ao : Option Addr) (n cap : Nat) (L : List Bk) (row s : Int) (w : World) (hn : L.length = n) (hL : Blks w ao L) (h : 0 ≤ row ∧ row ≤ 65536) (h2 : 16 ≤ s ∧ s ≤ 4096) (hc : (row + s - 1) / s = n) (vb : Bool) (hvb : Blk.valid L row s = vb) :
    Calls Try.prog 19 #[.slice ao n cap, .int .i64 row, .int .i64 s] w fun e w' => e = .returned (.bool vb) ∧ Kept [] w w' := by
  have H1 := hide (within_yes row 0 65536 w h)
  have H2 := hide (isSize_yes s w h2)
  have H3 := hide (count_ok row s w h.1 (by omega) h2.1 h2.2 n hc)
  have q : ((n : Int) != (n : Int)) = false := by simp
  have HMB : Hid (Blk.mayBe n row s) := ⟨h.1, h.2, h2.1, h2.2, hc.symm⟩
  have hn7 : n ≤ 69631 := by
    have := Int.ediv_le_self s (show 0 ≤ row + s - 1 by omega)
    omega
  obtain ⟨hr0, hr1⟩ := h
  obtain ⟨hs0, hs1⟩ := h2
  have HVB := hide hvb
  have HL := hide hL
  have HN := hide hn
  clear hc hvb hL hn
  go_enter Try.func19, Try.ntmps19
  go_upto_region 3 with (first | (have HA := H1; go_at_call 37; refine H1.out.mono ?_; rintro e w' ⟨rfl, hww⟩; obtain rfl := hww.symm; clear H1 HA) | (have HA := H2; go_at_call 29; refine H2.out.mono ?_; rintro e w' ⟨rfl, hww⟩; obtain rfl := hww.symm; clear H2 HA) | (have HA := H3; go_at_call 33; refine H3.out.mono ?_; rintro e w' ⟨rfl, hww⟩; obtain rfl := hww.symm; clear H3 HA))
  clear q
  go_wp2
  go_loopw [29] (fun x wr => ∃ k : Nat, k ≤ n ∧ x = .int .i64 k ∧ Hid (Blk.okTo L row s k) ∧ Hid (Kept [] w wr)) (fun x wr => n - (intOf x).toNat)
  case atStart => exact ⟨0, Nat.zero_le _, rfl, fun j hj => by omega, Kept.refl _ _⟩
  case round =>
    obtain ⟨k, hk, rfl, HTO, HK⟩ := hrel
    by_cases hlt : k < n
    · obtain ⟨b, off, hda, hbl, hcell⟩ := HL.out.open (by intro h; have := HN.out; rw [h] at this; simp at this; omega)
      subst hda
      have hrg0 := hcell k (by rw [HN.out]; exact hlt)
      have HOKI : Hid (Blk.okAt L row s k ↔ Blk.okAt L row s k) := Iff.rfl
      have HBAD0 : Hid (¬ Blk.okAt L row s k → vb = false) := fun hno => by
        rw [← HVB.out]
        refine Blk.valid_no (fun h => hno (h.2 k (by rw [HN.out]; exact hlt)))
      have HGO0 : Hid (Blk.okAt L row s k → Blk.okTo L row s (k + 1)) := fun hok => Blk.okTo_succ.2 ⟨HTO.out, hok⟩
      have HPV : Hid (0 < k → Blk.okAt L row s (k - 1) ∧ w.rangeAt b (off + (k - 1) * 4) (L.getD (k - 1) bk0).cells) := fun h0 => ⟨HTO.out (k - 1) (by omega), hcell (k - 1) (by rw [HN.out]; omega)⟩
      clear hcell HTO
      obtain ⟨F, hF⟩ : ∃ F, (k : Int) * s = F := ⟨_, rfl⟩
      obtain ⟨T2, hT2⟩ : ∃ T2, min (((k : Int) + 1) * s) row = T2 := ⟨_, rfl⟩
      have HEN := hide (fun W => ends_ok (k : Int) row s W (by omega) (by omega) hr0 (by omega) hs0 hs1 F T2 hF hT2)
      have hFb : 0 ≤ F ∧ F ≤ 70000 * 4096 := by
        rw [← hF]
        exact ⟨Int.mul_nonneg (by omega) (by omega), Int.mul_le_mul (by omega) hs1 (by omega) (by omega)⟩
      have hTb : 0 ≤ T2 ∧ T2 ≤ 65536 := by
        have : 0 ≤ ((k : Int) + 1) * s := Int.mul_nonneg (by omega) (by omega)
        omega
      obtain ⟨hF0, hF1⟩ := hFb
      obtain ⟨hT0, hT1⟩ := hTb
      unfold Blk.okAt at HBAD0 HGO0
      unfold Blk.okAt at HPV
      rw [hF, hT2] at HBAD0 HGO0
      generalize hbk : L.getD k bk0 = bk at HBAD0 HGO0 hrg0
      obtain ⟨a, p, r, u⟩ := bk
      generalize hbq : L.getD (k - 1) bk0 = bq at HBAD0 HGO0 HPV
      obtain ⟨a', p', r', u'⟩ := bq
      simp only at HBAD0 HGO0 HPV
      simp only [Bk.cells] at hrg0
      have hrg : wr.rangeAt b (off + k * 4) [.int .i64 a, .int .i64 p, .int .i64 r, .int .i64 u] := fun j v hv => HK.out.cellOf (hrg0 j v hv) (by simp)
      have HLT : Hid (0 < k → w.cell? ⟨b, off + (k - 1) * 4, none⟩ = some (.int .i64 a') ∧ w.cell? ⟨b, off + (k - 1) * 4 + 1, none⟩ = some (.int .i64 p') ∧ 0 ≤ a' ∧ a' ≤ 2147483647 ∧ 1 ≤ p' ∧ p' ≤ 65536) := fun h0 => by
        obtain ⟨g, hg⟩ := HPV.out h0
        refine ⟨hg 0 _ rfl, hg 1 _ rfl, g.2.2.2.2.2.1, g.2.2.2.2.2.2.1, g.2.1, ?_⟩
        have := g.1
        have := g.2.2.1
        have : 0 ≤ ((k - 1 : Nat) : Int) * s := Int.mul_nonneg (by omega) (by omega)
        omega
      have hinf := Try.infoBlk4
      clear HPV hbk hbq hrg0 hF hT2 HOKI
      go_upto_region 6 with (first
        | refine wpList_load_mid rfl 45 (.tmp 32) rfl b (off + k * 4) rfl [.int .i64 a, .int .i64 p, .int .i64 r, .int .i64 u] _ hrg Try.underlying45 rfl hinf ?_
        | refine wpList_store_rowTo rfl 45 (.tmp 8) (.tmp 33) rfl rfl wr.heap.size #[.int .i64 a, .int .i64 p, .int .i64 r, .int .i64 u] rfl rfl 45 #[.int .i64 0, .int .i64 0, .int .i64 0, .int .i64 0] (heap_new _ _) Try.infoBlk4 rfl (blk_all _ _ _ _) ?_)
      have hk6 : Kept [] wr ((wr.alloc (.cells #[.int .i64 0, .int .i64 0, .int .i64 0, .int .i64 0] 45)).setRow wr.heap.size #[.int .i64 a, .int .i64 p, .int .i64 r, .int .i64 u]) := kept_setRow ((Kept.refl [] wr).alloc _) (by intro h; omega) _
      have hrw : RB ((wr.alloc (.cells #[.int .i64 0, .int .i64 0, .int .i64 0, .int .i64 0] 45)).setRow wr.heap.size #[.int .i64 a, .int .i64 p, .int .i64 r, .int .i64 u]) wr.heap.size #[.int .i64 a, .int .i64 p, .int .i64 r, .int .i64 u] := setRow_heap _ _ _ _ _ _ (heap_new _ _)
      generalize (wr.alloc (.cells #[.int .i64 0, .int .i64 0, .int .i64 0, .int .i64 0] 45)).setRow wr.heap.size #[.int .i64 a, .int .i64 p, .int .i64 r, .int .i64 u] = W6 at hk6 hrw ⊢
      have HK6 := hide hk6
      have c0 : W6.cell? ⟨wr.heap.size, 0, none⟩ = some (.int .i64 a) := by rw [cell_of_row _ _ _ _ _ _ hrw]; rfl
      have c1 : W6.cell? ⟨wr.heap.size, 1, none⟩ = some (.int .i64 p) := by rw [cell_of_row _ _ _ _ _ _ hrw]; rfl
      have c2 : W6.cell? ⟨wr.heap.size, 2, none⟩ = some (.int .i64 r) := by rw [cell_of_row _ _ _ _ _ _ hrw]; rfl
      have c3 : W6.cell? ⟨wr.heap.size, 3, none⟩ = some (.int .i64 u) := by rw [cell_of_row _ _ _ _ _ _ hrw]; rfl
      generalize wr.heap.size = gb at c0 c1 c2 c3 ⊢
      clear hk6 hrw hrg hinf HL HN HVB HMB
      by_cases g1 : r = T2 - F
      · have q1 : (r != T2 - F) = false := by simpa using g1
        by_cases g2 : 1 ≤ p ∧ p ≤ r
        · have H1 := hide (fun W => within_yes p 1 r W g2)
          by_cases g3 : 0 ≤ u ∧ u ≤ 4294967295
          · have H2 := hide (fun W => within_yes u 0 4294967295 W g3)
            by_cases g4 : 0 ≤ a ∧ a ≤ 2147483647
            · have H3 := hide (fun W => within_yes a 0 2147483647 W g4)
              have HBAD : Hid (¬ (r = T2 - F ∧ 1 ≤ p ∧ p ≤ r ∧ 0 ≤ u ∧ u ≤ 4294967295 ∧ 0 ≤ a ∧ a ≤ 2147483647 ∧ (0 < k → a = a' + p')) → vb = false) := HBAD0
              have HRD : Hid ((0 < k → a = a' + p') → Blk.okTo L row s (k + 1)) := fun h6 => HGO0.out ⟨g1, g2.1, g2.2, g3.1, g3.2, g4.1, g4.2, h6⟩
              clear HBAD0 HGO0 g1 g2 g3 g4
              by_cases g5 : 0 < k
              · by_cases g6 : a = a' + p'
                · as_aux_lemma =>
                  have qk : (0 : Int) < (k : Int) := by omega
                  have qd : decide ((0 : Int) < (k : Int)) = true := by simp; omega
                  obtain ⟨d0, d1, b1, b2, b3, b4⟩ := HLT.out (by omega)
                  have e0 := HK6.out.cellOf (HK.out.cellOf d0 (by simp)) (by simp)
                  have e1 := HK6.out.cellOf (HK.out.cellOf d1 (by simp)) (by simp)
                  have qn : decide (0 < k) = true := by simpa using g5
                  obtain ⟨m, hm⟩ : ∃ m, k - 1 = m := ⟨_, rfl⟩
                  rw [hm] at e0 e1
                  have hmn : m < n := by omega
                  have em : ((k : Int) - 1) = (m : Int) := by omega
                  have wm : IntKind.i64.wrap ((k : Int) - 1) = (m : Int) := by rw [IntKind.wrap_i64]; omega
                  have wp : IntKind.i64.wrap (a' + p') = a' + p' := by rw [IntKind.wrap_i64]; omega
                  clear hm
                  have q5 : (a != a' + p') = false := by simpa using g6
                  have HOK : Hid (Blk.okTo L row s (k + 1)) := HRD.out (fun _ => g6)
                  clear HBAD HRD HLT d0 d1 g5 g6
                  go_upto_region 11 with (first
                      | (go_at_call 34; refine (HEN.out _).mono ?_; rintro e w' ⟨rfl, hww⟩; obtain rfl := hww.symm; clear HEN)
                      | (have HA := H1; go_at_call 37; refine (H1.out _).mono ?_; rintro e w' ⟨rfl, hww⟩; obtain rfl := hww.symm; clear H1 HA)
                      | (have HA := H2; go_at_call 37; refine (H2.out _).mono ?_; rintro e w' ⟨rfl, hww⟩; obtain rfl := hww.symm; clear H2 HA)
                      | (have HA := H3; go_at_call 37; refine (H3.out _).mono ?_; rintro e w' ⟨rfl, hww⟩; obtain rfl := hww.symm; clear H3 HA))
                  clear c1 c2 c3
                  go_quiet (fail)
                  go_wp2
                  go_roundw
                  case rel => exact ⟨k + 1, by omega, by go_num, HOK, (HK.out.trans HK6.out (by simp)).drewN _⟩
                  case measure => simp [intOf]; omega
                · as_aux_lemma =>
                  have qk : (0 : Int) < (k : Int) := by omega
                  have qd : decide ((0 : Int) < (k : Int)) = true := by simp; omega
                  obtain ⟨d0, d1, b1, b2, b3, b4⟩ := HLT.out (by omega)
                  have e0 := HK6.out.cellOf (HK.out.cellOf d0 (by simp)) (by simp)
                  have e1 := HK6.out.cellOf (HK.out.cellOf d1 (by simp)) (by simp)
                  have qn : decide (0 < k) = true := by simpa using g5
                  obtain ⟨m, hm⟩ : ∃ m, k - 1 = m := ⟨_, rfl⟩
                  rw [hm] at e0 e1
                  have hmn : m < n := by omega
                  have em : ((k : Int) - 1) = (m : Int) := by omega
                  have wm : IntKind.i64.wrap ((k : Int) - 1) = (m : Int) := by rw [IntKind.wrap_i64]; omega
                  have wp : IntKind.i64.wrap (a' + p') = a' + p' := by rw [IntKind.wrap_i64]; omega
                  clear hm
                  have q5 : (a != a' + p') = true := by simpa using g6
                  have HV : Hid (vb = false) := HBAD.out (fun h => g6 (h.2.2.2.2.2.2.2 (by omega)))
                  clear HBAD HRD HLT d0 d1 g5 g6
                  go_upto_region 11 with (first
                      | (go_at_call 34; refine (HEN.out _).mono ?_; rintro e w' ⟨rfl, hww⟩; obtain rfl := hww.symm; clear HEN)
                      | (have HA := H1; go_at_call 37; refine (H1.out _).mono ?_; rintro e w' ⟨rfl, hww⟩; obtain rfl := hww.symm; clear H1 HA)
                      | (have HA := H2; go_at_call 37; refine (H2.out _).mono ?_; rintro e w' ⟨rfl, hww⟩; obtain rfl := hww.symm; clear H2 HA)
                      | (have HA := H3; go_at_call 37; refine (H3.out _).mono ?_; rintro e w' ⟨rfl, hww⟩; obtain rfl := hww.symm; clear H3 HA))
                  clear c1 c2 c3
                  go_quiet (fail)
                  go_wp2
                  go_ret
                  exact ⟨by rw [HV.out]; rfl, (HK.out.trans HK6.out (by simp)).drewN _⟩
              · as_aux_lemma =>
                  have qk : ¬ (0 : Int) < (k : Int) := by omega
                  have qd : decide ((0 : Int) < (k : Int)) = false := by simp; omega
                  have qn : decide (0 < k) = false := by simpa using g5
                  have HOK : Hid (Blk.okTo L row s (k + 1)) := HRD.out (fun h => absurd h g5)
                  clear HBAD HRD HLT g5
                  go_upto_region 11 with (first
                      | (go_at_call 34; refine (HEN.out _).mono ?_; rintro e w' ⟨rfl, hww⟩; obtain rfl := hww.symm; clear HEN)
                      | (have HA := H1; go_at_call 37; refine (H1.out _).mono ?_; rintro e w' ⟨rfl, hww⟩; obtain rfl := hww.symm; clear H1 HA)
                      | (have HA := H2; go_at_call 37; refine (H2.out _).mono ?_; rintro e w' ⟨rfl, hww⟩; obtain rfl := hww.symm; clear H2 HA)
                      | (have HA := H3; go_at_call 37; refine (H3.out _).mono ?_; rintro e w' ⟨rfl, hww⟩; obtain rfl := hww.symm; clear H3 HA))
                  clear c1 c2 c3
                  go_quiet (fail)
                  go_wp2
                  go_roundw
                  case rel => exact ⟨k + 1, by omega, by go_num, HOK, (HK.out.trans HK6.out (by simp)).drewN _⟩
                  case measure => simp [intOf]; omega
            · have HBAD := HBAD0
              have HRD := HGO0
              clear HBAD0 HGO0 g1 g2 g3
              have H3 := hide (fun W => within_no a 0 2147483647 W g4)
              have HV : Hid (vb = false) := HBAD.out (fun h => g4 ⟨h.2.2.2.2.2.1, h.2.2.2.2.2.2.1⟩)
              clear HBAD HLT HRD g4
              go_wp2_with (first
                  | (go_at_call 34; refine (HEN.out _).mono ?_; rintro e w' ⟨rfl, hww⟩; obtain rfl := hww.symm; clear HEN)
                  | (have HA := H1; go_at_call 37; refine (H1.out _).mono ?_; rintro e w' ⟨rfl, hww⟩; obtain rfl := hww.symm; clear H1 HA)
                  | (have HA := H2; go_at_call 37; refine (H2.out _).mono ?_; rintro e w' ⟨rfl, hww⟩; obtain rfl := hww.symm; clear H2 HA)
                  | (have HA := H3; go_at_call 37; refine (H3.out _).mono ?_; rintro e w' ⟨rfl, hww⟩; obtain rfl := hww.symm; clear H3 HA))
              go_ret
              exact ⟨by rw [HV.out]; rfl, HK.out.trans HK6.out (by simp)⟩
          · have HBAD := HBAD0
            have HRD := HGO0
            clear HBAD0 HGO0 g1 g2
            have H2 := hide (fun W => within_no u 0 4294967295 W g3)
            have HV : Hid (vb = false) := HBAD.out (fun h => g3 ⟨h.2.2.2.1, h.2.2.2.2.1⟩)
            clear HBAD HLT HRD g3
            go_wp2_with (first
                | (go_at_call 34; refine (HEN.out _).mono ?_; rintro e w' ⟨rfl, hww⟩; obtain rfl := hww.symm; clear HEN)
                | (have HA := H1; go_at_call 37; refine (H1.out _).mono ?_; rintro e w' ⟨rfl, hww⟩; obtain rfl := hww.symm; clear H1 HA)
                | (have HA := H2; go_at_call 37; refine (H2.out _).mono ?_; rintro e w' ⟨rfl, hww⟩; obtain rfl := hww.symm; clear H2 HA))
            go_ret
            exact ⟨by rw [HV.out]; rfl, HK.out.trans HK6.out (by simp)⟩
        · have HBAD := HBAD0
          have HRD := HGO0
          clear HBAD0 HGO0 g1
          have H1 := hide (fun W => within_no p 1 r W g2)
          have HV : Hid (vb = false) := HBAD.out (fun h => g2 ⟨h.2.1, h.2.2.1⟩)
          clear HBAD HLT HRD g2
          go_wp2_with (first
              | (go_at_call 34; refine (HEN.out _).mono ?_; rintro e w' ⟨rfl, hww⟩; obtain rfl := hww.symm; clear HEN)
              | (have HA := H1; go_at_call 37; refine (H1.out _).mono ?_; rintro e w' ⟨rfl, hww⟩; obtain rfl := hww.symm; clear H1 HA))
          go_ret
          exact ⟨by rw [HV.out]; rfl, HK.out.trans HK6.out (by simp)⟩
      · have HBAD := HBAD0
        have HRD := HGO0
        clear HBAD0 HGO0
        have q1 : (r != T2 - F) = true := by simpa using g1
        have HV : Hid (vb = false) := HBAD.out (fun h => g1 h.1)
        clear HBAD HLT HRD g1
        go_wp2_with (first
            | (go_at_call 34; refine (HEN.out _).mono ?_; rintro e w' ⟨rfl, hww⟩; obtain rfl := hww.symm; clear HEN))
        go_ret
        exact ⟨by rw [HV.out]; rfl, HK.out.trans HK6.out (by simp)⟩
    · obtain rfl : k = n := by omega
      have HV : Hid (vb = true) := by
        show _ = _
        rw [← HVB.out]
        exact Blk.valid_yes (by rw [HN.out]; exact ⟨HMB.out, HTO.out⟩)
      clear HTO HL HVB HMB HN
      go_wp2
      go_ret
      exact ⟨by rw [HV.out]; rfl, HK.out⟩

/-- block.Valid. -/
theorem valid_any (ao : Option Addr) (n cap : Nat) (L : List Bk) (row s : Int) (w : World) (hn : L.length = n) (hL : Blks w ao L) :
    Calls Try.prog 19 #[.slice ao n cap, .int .i64 row, .int .i64 s] w fun e w' => e = .returned (.bool (Blk.valid L row s)) ∧ Kept [] w w' := by
  by_cases h1 : 0 ≤ row ∧ row ≤ 65536
  · by_cases h2 : 16 ≤ s ∧ s ≤ 4096
    · by_cases h3 : (n : Int) = (row + s - 1) / s
      · exact valid_loop ao n cap L row s w hn hL h1 h2 h3.symm _ rfl
      · rw [Blk.valid_no (fun h => h3 (by rw [← hn]; exact h.1.2.2.2.2))]
        exact valid_count ao n cap row s w h1 h2 _ rfl h3
    · rw [Blk.valid_no (fun h => h2 ⟨h.1.2.2.1, h.1.2.2.2.1⟩)]
      exact valid_size ao n cap row s w h1 h2
  · rw [Blk.valid_no (fun h => h1 ⟨h.1.1, h.1.2.1⟩)]
    exact valid_row ao n cap row s w h1

end Go.Proofs.Ytdnbpklnkmgmkaa
