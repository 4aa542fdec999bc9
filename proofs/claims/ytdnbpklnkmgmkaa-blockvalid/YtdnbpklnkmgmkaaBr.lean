/-
  Contract: freightref11.Valid. (Written by tools/br.py.)
-/
import Derived.Test.YtdnbpklnkmgmkaaBg
import Derived.Deep.QuietTactic
import Derived.BigQuiet
namespace Go.Proofs.Ytdnbpklnkmgmkaa
open Go.RowKit
set_option linter.unusedVariables false
set_option linter.unusedSimpArgs false

set_option maxHeartbeats 1000000 in
set_option maxRecDepth 100000 in
theorem refvalid_neg (ao : Option Addr) (n cap : Nat) (row s : Int) (w : World) (h : row < 0) :
    Calls Try.prog 20 #[.slice ao n cap, .int .i64 row, .int .i64 s] w fun e w' => e = .returned (.bool false) ∧ Kept [] w w' := by
  go_enter Try.func20, Try.ntmps20
  go_wp2
  go_ret
  exact ⟨rfl, Kept.refl _ _⟩

set_option maxHeartbeats 1000000 in
set_option maxRecDepth 100000 in
theorem refvalid_big (ao : Option Addr) (n cap : Nat) (row s : Int) (w : World) (h0 : ¬ row < 0) (h : 65536 < row) :
    Calls Try.prog 20 #[.slice ao n cap, .int .i64 row, .int .i64 s] w fun e w' => e = .returned (.bool false) ∧ Kept [] w w' := by
  go_enter Try.func20, Try.ntmps20
  go_wp2
  go_ret
  exact ⟨rfl, Kept.refl _ _⟩

set_option maxHeartbeats 1000000 in
set_option maxRecDepth 100000 in
theorem refvalid_size (ao : Option Addr) (n cap : Nat) (row s : Int) (w : World) (h0 : ¬ row < 0) (h : ¬ 65536 < row) (h2 : ¬ (16 ≤ s ∧ s ≤ 4096)) :
    Calls Try.prog 20 #[.slice ao n cap, .int .i64 row, .int .i64 s] w fun e w' => e = .returned (.bool false) ∧ Kept [] w w' := by
  have H2 := hide (refIsSize_no s w h2)
  clear h2
  go_enter Try.func20, Try.ntmps20
  go_wp2_with (go_at_call 26; refine H2.out.mono ?_; rintro e w' ⟨rfl, hww⟩; obtain rfl := hww.symm; clear H2)
  go_ret
  exact ⟨rfl, Kept.refl _ _⟩

set_option maxHeartbeats 1000000 in
set_option maxRecDepth 100000 in
theorem refvalid_count (ao : Option Addr) (n cap : Nat) (row s : Int) (w : World) (h0 : ¬ row < 0) (h : ¬ 65536 < row) (h2 : 16 ≤ s ∧ s ≤ 4096) (c : Int) (hc : (row + s - 1) / s = c) (h3 : (n : Int) ≠ c) :
    Calls Try.prog 20 #[.slice ao n cap, .int .i64 row, .int .i64 s] w fun e w' => e = .returned (.bool false) ∧ Kept [] w w' := by
  have H2 := hide (refIsSize_yes s w h2)
  have hd := (quo_ok (by omega) h2.1 hc).1
  have hs0 : ¬ s = 0 := by omega
  have w1 : IntKind.i64.wrap (row + s) = row + s := by rw [IntKind.wrap_i64]; omega
  have w2 : IntKind.i64.wrap (row + s - 1) = row + s - 1 := by rw [IntKind.wrap_i64]; omega
  have hcb := (quo_ok (by omega) h2.1 hc).2
  have q : ((n : Int) != c) = true := by simpa using h3
  obtain ⟨hs1, hs2⟩ := h2
  clear hc h3
  go_enter Try.func20, Try.ntmps20
  go_wp2_with (go_at_call 26; refine H2.out.mono ?_; rintro e w' ⟨rfl, hww⟩; obtain rfl := hww.symm; clear H2)
  go_ret
  exact ⟨rfl, Kept.refl _ _⟩

theorem Blk.last_raw {row s : Int} {n k : Nat} (h0 : 0 ≤ row) (hs : 16 ≤ s) (hc : (row + s - 1) / s = n) (hk : k < n) : min (((k : Int) + 1) * s) row - (k : Int) * s = if (k : Int) = (n : Int) - 1 then row - (k : Int) * s else s := by
  have h1 : (n : Int) * s ≤ row + s - 1 := by rw [← hc]; exact Int.ediv_mul_le _ (by omega)
  have h2 : row + s - 1 < ((n : Int) + 1) * s := by rw [← hc]; exact Int.lt_ediv_add_one_mul_self _ (by omega)
  have e1 : ((k : Int) + 1) * s = (k : Int) * s + s := by rw [Int.add_mul, Int.one_mul]
  have e2 : ((n : Int) + 1) * s = (n : Int) * s + s := by rw [Int.add_mul, Int.one_mul]
  split
  · next h =>
    have e3 : (n : Int) * s = ((k : Int) + 1) * s := by congr 1; omega
    omega
  · next h =>
    have h3 : ((k : Int) + 2) * s ≤ (n : Int) * s := Int.mul_le_mul_of_nonneg_right (by omega) (by omega)
    have e4 : ((k : Int) + 2) * s = (k : Int) * s + 2 * s := by rw [Int.add_mul]
    omega

set_option maxHeartbeats 8000000 in
set_option maxRecDepth 100000 in
theorem refvalid_loop (ao : Option Addr) (n cap : Nat) (L : List Bk) (row s : Int) (w : World) (hn : L.length = n) (hL : Blks w ao L) (h0 : ¬ row < 0) (h : ¬ 65536 < row) (h2 : 16 ≤ s ∧ s ≤ 4096) (hc : (row + s - 1) / s = n) (vb : Bool) (hvb : Blk.valid L row s = vb) :
    Calls Try.prog 20 #[.slice ao n cap, .int .i64 row, .int .i64 s] w fun e w' => e = .returned (.bool vb) ∧ Kept [] w w' := by
  have H2 := hide (refIsSize_yes s w h2)
  have hd := (quo_ok (by omega) h2.1 hc).1
  have hs0 : ¬ s = 0 := by omega
  have w1 : IntKind.i64.wrap (row + s) = row + s := by rw [IntKind.wrap_i64]; omega
  have w2 : IntKind.i64.wrap (row + s - 1) = row + s - 1 := by rw [IntKind.wrap_i64]; omega
  have q : ((n : Int) != (n : Int)) = false := by simp
  have HMB : Hid (Blk.mayBe n row s) := ⟨by omega, by omega, h2.1, h2.2, hc.symm⟩
  have hn7 : n ≤ 69631 := by
    have := Int.ediv_le_self s (show 0 ≤ row + s - 1 by omega)
    omega
  have HLR : Hid (∀ k, k < n → min (((k : Int) + 1) * s) row - (k : Int) * s = if (k : Int) = (n : Int) - 1 then row - (k : Int) * s else s) := fun k hk => Blk.last_raw (by omega) h2.1 hc hk
  obtain ⟨hs1, hs2⟩ := h2
  have HVB := hide hvb
  have HL := hide hL
  have HN := hide hn
  clear hc hvb hL hn
  go_enter Try.func20, Try.ntmps20
  go_upto_region 3 with (go_at_call 26; refine H2.out.mono ?_; rintro e w' ⟨rfl, hww⟩; obtain rfl := hww.symm; clear H2)
  clear q hd w1 w2
  go_wp2
  go_loopw [7] (fun x wr => ∃ k : Nat, k ≤ n ∧ x = .int .i64 k ∧ Hid (Blk.okTo L row s k) ∧ Hid (Kept [] w wr)) (fun x wr => n - (intOf x).toNat)
  case atStart => exact ⟨0, Nat.zero_le _, rfl, fun j hj => by omega, Kept.refl _ _⟩
  case round =>
    obtain ⟨k, hk, rfl, HTO, HK⟩ := hrel
    by_cases hlt : k < n
    · obtain ⟨b, off, hda, hbl, hcell⟩ := HL.out.open (by intro h; have := HN.out; rw [h] at this; simp at this; omega)
      subst hda
      have hrg0 := hcell k (by rw [HN.out]; exact hlt)
      have HBAD0 : Hid (¬ Blk.okAt L row s k → vb = false) := fun hno => by
        rw [← HVB.out]
        refine Blk.valid_no (fun h => hno (h.2 k (by rw [HN.out]; exact hlt)))
      have HGO0 : Hid (Blk.okAt L row s k → Blk.okTo L row s (k + 1)) := fun hok => Blk.okTo_succ.2 ⟨HTO.out, hok⟩
      have HPV : Hid (0 < k → Blk.okAt L row s (k - 1) ∧ w.rangeAt b (off + (k - 1) * 4) (L.getD (k - 1) bk0).cells) := fun h0 => ⟨HTO.out (k - 1) (by omega), hcell (k - 1) (by rw [HN.out]; omega)⟩
      clear hcell HTO
      obtain ⟨F, hF⟩ : ∃ F, (k : Int) * s = F := ⟨_, rfl⟩
      have hFb : 0 ≤ F ∧ F ≤ 70000 * 4096 := by
        rw [← hF]
        exact ⟨Int.mul_nonneg (by omega) (by omega), Int.mul_le_mul (by omega) hs2 (by omega) (by omega)⟩
      obtain ⟨hF0, hF1⟩ := hFb
      have hXX := HLR.out k hlt
      unfold Blk.okAt at HBAD0 HGO0
      unfold Blk.okAt at HPV
      rw [hXX] at HBAD0 HGO0
      rw [hF] at HBAD0 HGO0
      generalize hbk : L.getD k bk0 = bk at HBAD0 HGO0 hrg0
      obtain ⟨a, p, r, u⟩ := bk
      generalize hbq : L.getD (k - 1) bk0 = bq at HBAD0 HGO0 HPV
      obtain ⟨a', p', r', u'⟩ := bq
      simp only at HBAD0 HGO0 HPV
      simp only [Bk.cells] at hrg0
      have hrg : wr.rangeAt b (off + k * 4) [.int .i64 a, .int .i64 p, .int .i64 r, .int .i64 u] := fun j v hv => HK.out.cellOf (hrg0 j v hv) (by simp)
      have HLT : Hid (0 < k → w.cell? ⟨b, off + (k - 1) * 4, none⟩ = some (.int .i64 a') ∧ w.cell? ⟨b, off + (k - 1) * 4 + 1, none⟩ = some (.int .i64 p') ∧ 0 ≤ a' ∧ a' ≤ 2147483647 ∧ 1 ≤ p' ∧ p' ≤ 65536) := fun h0 => by
        obtain ⟨g, hg⟩ := HPV.out h0
        refine ⟨hg 0 _ rfl, hg 1 _ rfl, g.2.2.2.2.2.1, g.2.2.2.2.2.2.1, g.2.1, ?_⟩
        have := g.1
        have := g.2.2.1
        have : 0 ≤ ((k - 1 : Nat) : Int) * s := Int.mul_nonneg (by omega) (by omega)
        omega
      have hinf := Try.infoBlk4
      have hltI : (k : Int) < (n : Int) := by omega
      have wks : IntKind.i64.wrap ((k : Int) * s) = F := by rw [hF, IntKind.wrap_i64]; omega
      have wrf : IntKind.i64.wrap (row - F) = row - F := by rw [IntKind.wrap_i64]; omega
      have wn1 : IntKind.i64.wrap ((n : Int) - 1) = (n : Int) - 1 := by rw [IntKind.wrap_i64]; omega
      clear HPV hbk hbq hrg0 hXX HLR
      go_upto_region 7 with (first
        | refine wpList_load_mid rfl 45 (.tmp 40) rfl b (off + k * 4) rfl [.int .i64 a, .int .i64 p, .int .i64 r, .int .i64 u] _ hrg Try.underlying45 rfl hinf ?_
        | refine wpList_store_rowTo rfl 45 (.tmp 8) (.tmp 41) rfl rfl wr.heap.size #[.int .i64 a, .int .i64 p, .int .i64 r, .int .i64 u] rfl rfl 45 #[.int .i64 0, .int .i64 0, .int .i64 0, .int .i64 0] (heap_new _ _) Try.infoBlk4 rfl (blk_all _ _ _ _) ?_)
      have hk6 : Kept [] wr ((wr.alloc (.cells #[.int .i64 0, .int .i64 0, .int .i64 0, .int .i64 0] 45)).setRow wr.heap.size #[.int .i64 a, .int .i64 p, .int .i64 r, .int .i64 u]) := kept_setRow ((Kept.refl [] wr).alloc _) (by intro h; omega) _
      have hrw : RB ((wr.alloc (.cells #[.int .i64 0, .int .i64 0, .int .i64 0, .int .i64 0] 45)).setRow wr.heap.size #[.int .i64 a, .int .i64 p, .int .i64 r, .int .i64 u]) wr.heap.size #[.int .i64 a, .int .i64 p, .int .i64 r, .int .i64 u] := setRow_heap _ _ _ _ _ _ (heap_new _ _)
      generalize (wr.alloc (.cells #[.int .i64 0, .int .i64 0, .int .i64 0, .int .i64 0] 45)).setRow wr.heap.size #[.int .i64 a, .int .i64 p, .int .i64 r, .int .i64 u] = W6 at hk6 hrw ⊢
      have HK6 := hide hk6
      have c0 : W6.cell? ⟨wr.heap.size, 0, none⟩ = some (.int .i64 a) := by rw [cell_of_row _ _ _ _ _ _ hrw]; rfl
      have c1 : W6.cell? ⟨wr.heap.size, 1, none⟩ = some (.int .i64 p) := by rw [cell_of_row _ _ _ _ _ _ hrw]; rfl
      have c2 : W6.cell? ⟨wr.heap.size, 2, none⟩ = some (.int .i64 r) := by rw [cell_of_row _ _ _ _ _ _ hrw]; rfl
      have c3 : W6.cell? ⟨wr.heap.size, 3, none⟩ = some (.int .i64 u) := by rw [cell_of_row _ _ _ _ _ _ hrw]; rfl
      generalize wr.heap.size = gb at c0 c1 c2 c3 ⊢
      clear hk6 hrw hrg hinf HL HN HVB HMB
      by_cases gl : (k : Int) = (n : Int) - 1
      · rw [if_pos gl] at HBAD0 HGO0
        have glb : ((k : Int) == (n : Int) - 1) = true := by simpa using gl
        obtain ⟨X, hX⟩ : ∃ X, row - F = X := ⟨_, rfl⟩
        rw [hX] at HBAD0 HGO0 wrf
        have hXb : -300000000 ≤ X ∧ X ≤ 65536 := by omega
        obtain ⟨hX1, hX2⟩ := hXb
        have HBAD := HBAD0
        have HGO := HGO0
        clear HBAD0 HGO0 gl
        go_upto_region 10 with (fail)
        clear glb wks wrf wn1 hF hX
        by_cases g0 : r = X
        · skip
          by_cases g1 : 1 ≤ p
          · skip
            by_cases g2 : p ≤ X
            · skip
              by_cases g3 : 0 ≤ u
              · skip
                by_cases g4 : u ≤ 4294967295
                · skip
                  by_cases g5 : 0 ≤ a
                  · skip
                    by_cases g6 : a ≤ 2147483647
                    · skip
                      have HRD : Hid ((0 < k → a = a' + p') → Blk.okTo L row s (k + 1)) := fun h6 => HGO.out ⟨g0, g1, by omega, g3, g4, g5, g6, h6⟩
                      clear HGO
                      by_cases g7 : 0 < k
                      · by_cases g8 : a = a' + p'
                        · as_aux_lemma =>
                          have qk : (0 : Int) < (k : Int) := by omega
                          have qd : decide ((0 : Int) < (k : Int)) = true := by simp; omega
                          obtain ⟨d0, d1, b1, b2, b3, b4⟩ := HLT.out (by omega)
                          have e0 := HK6.out.cellOf (HK.out.cellOf d0 (by simp)) (by simp)
                          have e1 := HK6.out.cellOf (HK.out.cellOf d1 (by simp)) (by simp)
                          have qn : decide (0 < k) = true := by simpa using g7
                          obtain ⟨m, hm⟩ : ∃ m, k - 1 = m := ⟨_, rfl⟩
                          rw [hm] at e0 e1
                          have hmn : m < n := by omega
                          have em : ((k : Int) - 1) = (m : Int) := by omega
                          have wm : IntKind.i64.wrap ((k : Int) - 1) = (m : Int) := by rw [IntKind.wrap_i64]; omega
                          have wp : IntKind.i64.wrap (a' + p') = a' + p' := by rw [IntKind.wrap_i64]; omega
                          clear hm
                          have q0 : (r != X) = false := by simpa using g0
                          have q1 : ¬ (p < 1) := by omega
                          have qd1 : decide (p < 1) = false := by simp; omega
                          have q2 : ¬ (X < p) := by omega
                          have qd2 : decide (X < p) = false := by simp; omega
                          have q3 : ¬ (u < 0) := by omega
                          have qd3 : decide (u < 0) = false := by simp; omega
                          have q4 : ¬ (4294967295 < u) := by omega
                          have qd4 : decide (4294967295 < u) = false := by simp; omega
                          have q5 : ¬ (a < 0) := by omega
                          have qd5 : decide (a < 0) = false := by simp; omega
                          have q6 : ¬ (2147483647 < a) := by omega
                          have qd6 : decide (2147483647 < a) = false := by simp; omega
                          have q8 : (a != a' + p') = false := by simpa using g8
                          have HOK : Hid (Blk.okTo L row s (k + 1)) := HRD.out (fun _ => g8)
                          clear HBAD HRD HLT g0 g1 g2 g3 g4 g5 g6 d0 d1 g7 g8
                          go_upto_region 12 with (fail)
                          clear c1 c2 c3
                          go_quiet (fail)
                          go_wp2
                          go_roundw
                          case rel => exact ⟨k + 1, by omega, by go_num, HOK, (HK.out.trans HK6.out (by simp)).drewN _⟩
                          case measure => simp [intOf]; omega
                        · as_aux_lemma =>
                          have qk : (0 : Int) < (k : Int) := by omega
                          have qd : decide ((0 : Int) < (k : Int)) = true := by simp; omega
                          obtain ⟨d0, d1, b1, b2, b3, b4⟩ := HLT.out (by omega)
                          have e0 := HK6.out.cellOf (HK.out.cellOf d0 (by simp)) (by simp)
                          have e1 := HK6.out.cellOf (HK.out.cellOf d1 (by simp)) (by simp)
                          have qn : decide (0 < k) = true := by simpa using g7
                          obtain ⟨m, hm⟩ : ∃ m, k - 1 = m := ⟨_, rfl⟩
                          rw [hm] at e0 e1
                          have hmn : m < n := by omega
                          have em : ((k : Int) - 1) = (m : Int) := by omega
                          have wm : IntKind.i64.wrap ((k : Int) - 1) = (m : Int) := by rw [IntKind.wrap_i64]; omega
                          have wp : IntKind.i64.wrap (a' + p') = a' + p' := by rw [IntKind.wrap_i64]; omega
                          clear hm
                          have q0 : (r != X) = false := by simpa using g0
                          have q1 : ¬ (p < 1) := by omega
                          have qd1 : decide (p < 1) = false := by simp; omega
                          have q2 : ¬ (X < p) := by omega
                          have qd2 : decide (X < p) = false := by simp; omega
                          have q3 : ¬ (u < 0) := by omega
                          have qd3 : decide (u < 0) = false := by simp; omega
                          have q4 : ¬ (4294967295 < u) := by omega
                          have qd4 : decide (4294967295 < u) = false := by simp; omega
                          have q5 : ¬ (a < 0) := by omega
                          have qd5 : decide (a < 0) = false := by simp; omega
                          have q6 : ¬ (2147483647 < a) := by omega
                          have qd6 : decide (2147483647 < a) = false := by simp; omega
                          have q8 : (a != a' + p') = true := by simpa using g8
                          have HV : Hid (vb = false) := HBAD.out (fun h => g8 (h.2.2.2.2.2.2.2 (by omega)))
                          clear HBAD HRD HLT g0 g1 g2 g3 g4 g5 g6 d0 d1 g7 g8
                          go_upto_region 12 with (fail)
                          clear c1 c2 c3
                          go_quiet (fail)
                          go_wp2
                          go_ret
                          exact ⟨by rw [HV.out]; rfl, (HK.out.trans HK6.out (by simp)).drewN _⟩
                      · as_aux_lemma =>
                        have qk : ¬ (0 : Int) < (k : Int) := by omega
                        have qd : decide ((0 : Int) < (k : Int)) = false := by simp; omega
                        have qn : decide (0 < k) = false := by simpa using g7
                        have HOK : Hid (Blk.okTo L row s (k + 1)) := HRD.out (fun h => absurd h g7)
                        have q0 : (r != X) = false := by simpa using g0
                        have q1 : ¬ (p < 1) := by omega
                        have qd1 : decide (p < 1) = false := by simp; omega
                        have q2 : ¬ (X < p) := by omega
                        have qd2 : decide (X < p) = false := by simp; omega
                        have q3 : ¬ (u < 0) := by omega
                        have qd3 : decide (u < 0) = false := by simp; omega
                        have q4 : ¬ (4294967295 < u) := by omega
                        have qd4 : decide (4294967295 < u) = false := by simp; omega
                        have q5 : ¬ (a < 0) := by omega
                        have qd5 : decide (a < 0) = false := by simp; omega
                        have q6 : ¬ (2147483647 < a) := by omega
                        have qd6 : decide (2147483647 < a) = false := by simp; omega
                        clear HBAD HRD HLT g0 g1 g2 g3 g4 g5 g6 g7
                        go_upto_region 12 with (fail)
                        clear c1 c2 c3
                        go_quiet (fail)
                        go_wp2
                        go_roundw
                        case rel => exact ⟨k + 1, by omega, by go_num, HOK, (HK.out.trans HK6.out (by simp)).drewN _⟩
                        case measure => simp [intOf]; omega
                    · as_aux_lemma =>
                      have q0 : (r != X) = false := by simpa using g0
                      have q1 : ¬ (p < 1) := by omega
                      have qd1 : decide (p < 1) = false := by simp; omega
                      have q2 : ¬ (X < p) := by omega
                      have qd2 : decide (X < p) = false := by simp; omega
                      have q3 : ¬ (u < 0) := by omega
                      have qd3 : decide (u < 0) = false := by simp; omega
                      have q4 : ¬ (4294967295 < u) := by omega
                      have qd4 : decide (4294967295 < u) = false := by simp; omega
                      have q5 : ¬ (a < 0) := by omega
                      have qd5 : decide (a < 0) = false := by simp; omega
                      have q6 : 2147483647 < a := by omega
                      have HV : Hid (vb = false) := HBAD.out (fun h => g6 h.2.2.2.2.2.2.1)
                      clear HBAD HGO HLT g0 g1 g2 g3 g4 g5 g6
                      go_wp2
                      go_ret
                      exact ⟨by rw [HV.out]; rfl, HK.out.trans HK6.out (by simp)⟩
                  · as_aux_lemma =>
                    have q0 : (r != X) = false := by simpa using g0
                    have q1 : ¬ (p < 1) := by omega
                    have qd1 : decide (p < 1) = false := by simp; omega
                    have q2 : ¬ (X < p) := by omega
                    have qd2 : decide (X < p) = false := by simp; omega
                    have q3 : ¬ (u < 0) := by omega
                    have qd3 : decide (u < 0) = false := by simp; omega
                    have q4 : ¬ (4294967295 < u) := by omega
                    have qd4 : decide (4294967295 < u) = false := by simp; omega
                    have q5 : a < 0 := by omega
                    have HV : Hid (vb = false) := HBAD.out (fun h => g5 h.2.2.2.2.2.1)
                    clear HBAD HGO HLT g0 g1 g2 g3 g4 g5
                    go_wp2
                    go_ret
                    exact ⟨by rw [HV.out]; rfl, HK.out.trans HK6.out (by simp)⟩
                · as_aux_lemma =>
                  have q0 : (r != X) = false := by simpa using g0
                  have q1 : ¬ (p < 1) := by omega
                  have qd1 : decide (p < 1) = false := by simp; omega
                  have q2 : ¬ (X < p) := by omega
                  have qd2 : decide (X < p) = false := by simp; omega
                  have q3 : ¬ (u < 0) := by omega
                  have qd3 : decide (u < 0) = false := by simp; omega
                  have q4 : 4294967295 < u := by omega
                  have HV : Hid (vb = false) := HBAD.out (fun h => g4 h.2.2.2.2.1)
                  clear HBAD HGO HLT g0 g1 g2 g3 g4
                  go_wp2
                  go_ret
                  exact ⟨by rw [HV.out]; rfl, HK.out.trans HK6.out (by simp)⟩
              · as_aux_lemma =>
                have q0 : (r != X) = false := by simpa using g0
                have q1 : ¬ (p < 1) := by omega
                have qd1 : decide (p < 1) = false := by simp; omega
                have q2 : ¬ (X < p) := by omega
                have qd2 : decide (X < p) = false := by simp; omega
                have q3 : u < 0 := by omega
                have HV : Hid (vb = false) := HBAD.out (fun h => g3 h.2.2.2.1)
                clear HBAD HGO HLT g0 g1 g2 g3
                go_wp2
                go_ret
                exact ⟨by rw [HV.out]; rfl, HK.out.trans HK6.out (by simp)⟩
            · as_aux_lemma =>
              have q0 : (r != X) = false := by simpa using g0
              have q1 : ¬ (p < 1) := by omega
              have qd1 : decide (p < 1) = false := by simp; omega
              have q2 : X < p := by omega
              have HV : Hid (vb = false) := HBAD.out (fun h => g2 (by have h1 := h.1; have h2 := h.2.2.1; omega))
              clear HBAD HGO HLT g0 g1 g2
              go_wp2
              go_ret
              exact ⟨by rw [HV.out]; rfl, HK.out.trans HK6.out (by simp)⟩
          · as_aux_lemma =>
            have q0 : (r != X) = false := by simpa using g0
            have q1 : p < 1 := by omega
            have HV : Hid (vb = false) := HBAD.out (fun h => g1 h.2.1)
            clear HBAD HGO HLT g0 g1
            go_wp2
            go_ret
            exact ⟨by rw [HV.out]; rfl, HK.out.trans HK6.out (by simp)⟩
        · as_aux_lemma =>
          have q0 : (r != X) = true := by simpa using g0
          have HV : Hid (vb = false) := HBAD.out (fun h => g0 h.1)
          clear HBAD HGO HLT g0
          go_wp2
          go_ret
          exact ⟨by rw [HV.out]; rfl, HK.out.trans HK6.out (by simp)⟩
      · rw [if_neg gl] at HBAD0 HGO0
        have glb : ((k : Int) == (n : Int) - 1) = false := by simpa using gl
        obtain ⟨X, hX⟩ : ∃ X, s = X := ⟨_, rfl⟩
        have HBAD := HBAD0
        have HGO := HGO0
        clear HBAD0 HGO0
        go_upto_region 10 with (fail)
        clear glb wks wrf wn1 hF gl
        subst hX
        by_cases g0 : r = s
        · skip
          by_cases g1 : 1 ≤ p
          · skip
            by_cases g2 : p ≤ s
            · skip
              by_cases g3 : 0 ≤ u
              · skip
                by_cases g4 : u ≤ 4294967295
                · skip
                  by_cases g5 : 0 ≤ a
                  · skip
                    by_cases g6 : a ≤ 2147483647
                    · skip
                      have HRD : Hid ((0 < k → a = a' + p') → Blk.okTo L row s (k + 1)) := fun h6 => HGO.out ⟨g0, g1, by omega, g3, g4, g5, g6, h6⟩
                      clear HGO
                      by_cases g7 : 0 < k
                      · by_cases g8 : a = a' + p'
                        · as_aux_lemma =>
                          have qk : (0 : Int) < (k : Int) := by omega
                          have qd : decide ((0 : Int) < (k : Int)) = true := by simp; omega
                          obtain ⟨d0, d1, b1, b2, b3, b4⟩ := HLT.out (by omega)
                          have e0 := HK6.out.cellOf (HK.out.cellOf d0 (by simp)) (by simp)
                          have e1 := HK6.out.cellOf (HK.out.cellOf d1 (by simp)) (by simp)
                          have qn : decide (0 < k) = true := by simpa using g7
                          obtain ⟨m, hm⟩ : ∃ m, k - 1 = m := ⟨_, rfl⟩
                          rw [hm] at e0 e1
                          have hmn : m < n := by omega
                          have em : ((k : Int) - 1) = (m : Int) := by omega
                          have wm : IntKind.i64.wrap ((k : Int) - 1) = (m : Int) := by rw [IntKind.wrap_i64]; omega
                          have wp : IntKind.i64.wrap (a' + p') = a' + p' := by rw [IntKind.wrap_i64]; omega
                          clear hm
                          have q0 : (r != s) = false := by simpa using g0
                          have q1 : ¬ (p < 1) := by omega
                          have qd1 : decide (p < 1) = false := by simp; omega
                          have q2 : ¬ (s < p) := by omega
                          have qd2 : decide (s < p) = false := by simp; omega
                          have q3 : ¬ (u < 0) := by omega
                          have qd3 : decide (u < 0) = false := by simp; omega
                          have q4 : ¬ (4294967295 < u) := by omega
                          have qd4 : decide (4294967295 < u) = false := by simp; omega
                          have q5 : ¬ (a < 0) := by omega
                          have qd5 : decide (a < 0) = false := by simp; omega
                          have q6 : ¬ (2147483647 < a) := by omega
                          have qd6 : decide (2147483647 < a) = false := by simp; omega
                          have q8 : (a != a' + p') = false := by simpa using g8
                          have HOK : Hid (Blk.okTo L row s (k + 1)) := HRD.out (fun _ => g8)
                          clear HBAD HRD HLT g0 g1 g2 g3 g4 g5 g6 d0 d1 g7 g8
                          go_upto_region 12 with (fail)
                          clear c1 c2 c3
                          go_quiet (fail)
                          go_wp2
                          go_roundw
                          case rel => exact ⟨k + 1, by omega, by go_num, HOK, (HK.out.trans HK6.out (by simp)).drewN _⟩
                          case measure => simp [intOf]; omega
                        · as_aux_lemma =>
                          have qk : (0 : Int) < (k : Int) := by omega
                          have qd : decide ((0 : Int) < (k : Int)) = true := by simp; omega
                          obtain ⟨d0, d1, b1, b2, b3, b4⟩ := HLT.out (by omega)
                          have e0 := HK6.out.cellOf (HK.out.cellOf d0 (by simp)) (by simp)
                          have e1 := HK6.out.cellOf (HK.out.cellOf d1 (by simp)) (by simp)
                          have qn : decide (0 < k) = true := by simpa using g7
                          obtain ⟨m, hm⟩ : ∃ m, k - 1 = m := ⟨_, rfl⟩
                          rw [hm] at e0 e1
                          have hmn : m < n := by omega
                          have em : ((k : Int) - 1) = (m : Int) := by omega
                          have wm : IntKind.i64.wrap ((k : Int) - 1) = (m : Int) := by rw [IntKind.wrap_i64]; omega
                          have wp : IntKind.i64.wrap (a' + p') = a' + p' := by rw [IntKind.wrap_i64]; omega
                          clear hm
                          have q0 : (r != s) = false := by simpa using g0
                          have q1 : ¬ (p < 1) := by omega
                          have qd1 : decide (p < 1) = false := by simp; omega
                          have q2 : ¬ (s < p) := by omega
                          have qd2 : decide (s < p) = false := by simp; omega
                          have q3 : ¬ (u < 0) := by omega
                          have qd3 : decide (u < 0) = false := by simp; omega
                          have q4 : ¬ (4294967295 < u) := by omega
                          have qd4 : decide (4294967295 < u) = false := by simp; omega
                          have q5 : ¬ (a < 0) := by omega
                          have qd5 : decide (a < 0) = false := by simp; omega
                          have q6 : ¬ (2147483647 < a) := by omega
                          have qd6 : decide (2147483647 < a) = false := by simp; omega
                          have q8 : (a != a' + p') = true := by simpa using g8
                          have HV : Hid (vb = false) := HBAD.out (fun h => g8 (h.2.2.2.2.2.2.2 (by omega)))
                          clear HBAD HRD HLT g0 g1 g2 g3 g4 g5 g6 d0 d1 g7 g8
                          go_upto_region 12 with (fail)
                          clear c1 c2 c3
                          go_quiet (fail)
                          go_wp2
                          go_ret
                          exact ⟨by rw [HV.out]; rfl, (HK.out.trans HK6.out (by simp)).drewN _⟩
                      · as_aux_lemma =>
                        have qk : ¬ (0 : Int) < (k : Int) := by omega
                        have qd : decide ((0 : Int) < (k : Int)) = false := by simp; omega
                        have qn : decide (0 < k) = false := by simpa using g7
                        have HOK : Hid (Blk.okTo L row s (k + 1)) := HRD.out (fun h => absurd h g7)
                        have q0 : (r != s) = false := by simpa using g0
                        have q1 : ¬ (p < 1) := by omega
                        have qd1 : decide (p < 1) = false := by simp; omega
                        have q2 : ¬ (s < p) := by omega
                        have qd2 : decide (s < p) = false := by simp; omega
                        have q3 : ¬ (u < 0) := by omega
                        have qd3 : decide (u < 0) = false := by simp; omega
                        have q4 : ¬ (4294967295 < u) := by omega
                        have qd4 : decide (4294967295 < u) = false := by simp; omega
                        have q5 : ¬ (a < 0) := by omega
                        have qd5 : decide (a < 0) = false := by simp; omega
                        have q6 : ¬ (2147483647 < a) := by omega
                        have qd6 : decide (2147483647 < a) = false := by simp; omega
                        clear HBAD HRD HLT g0 g1 g2 g3 g4 g5 g6 g7
                        go_upto_region 12 with (fail)
                        clear c1 c2 c3
                        go_quiet (fail)
                        go_wp2
                        go_roundw
                        case rel => exact ⟨k + 1, by omega, by go_num, HOK, (HK.out.trans HK6.out (by simp)).drewN _⟩
                        case measure => simp [intOf]; omega
                    · as_aux_lemma =>
                      have q0 : (r != s) = false := by simpa using g0
                      have q1 : ¬ (p < 1) := by omega
                      have qd1 : decide (p < 1) = false := by simp; omega
                      have q2 : ¬ (s < p) := by omega
                      have qd2 : decide (s < p) = false := by simp; omega
                      have q3 : ¬ (u < 0) := by omega
                      have qd3 : decide (u < 0) = false := by simp; omega
                      have q4 : ¬ (4294967295 < u) := by omega
                      have qd4 : decide (4294967295 < u) = false := by simp; omega
                      have q5 : ¬ (a < 0) := by omega
                      have qd5 : decide (a < 0) = false := by simp; omega
                      have q6 : 2147483647 < a := by omega
                      have HV : Hid (vb = false) := HBAD.out (fun h => g6 h.2.2.2.2.2.2.1)
                      clear HBAD HGO HLT g0 g1 g2 g3 g4 g5 g6
                      go_wp2
                      go_ret
                      exact ⟨by rw [HV.out]; rfl, HK.out.trans HK6.out (by simp)⟩
                  · as_aux_lemma =>
                    have q0 : (r != s) = false := by simpa using g0
                    have q1 : ¬ (p < 1) := by omega
                    have qd1 : decide (p < 1) = false := by simp; omega
                    have q2 : ¬ (s < p) := by omega
                    have qd2 : decide (s < p) = false := by simp; omega
                    have q3 : ¬ (u < 0) := by omega
                    have qd3 : decide (u < 0) = false := by simp; omega
                    have q4 : ¬ (4294967295 < u) := by omega
                    have qd4 : decide (4294967295 < u) = false := by simp; omega
                    have q5 : a < 0 := by omega
                    have HV : Hid (vb = false) := HBAD.out (fun h => g5 h.2.2.2.2.2.1)
                    clear HBAD HGO HLT g0 g1 g2 g3 g4 g5
                    go_wp2
                    go_ret
                    exact ⟨by rw [HV.out]; rfl, HK.out.trans HK6.out (by simp)⟩
                · as_aux_lemma =>
                  have q0 : (r != s) = false := by simpa using g0
                  have q1 : ¬ (p < 1) := by omega
                  have qd1 : decide (p < 1) = false := by simp; omega
                  have q2 : ¬ (s < p) := by omega
                  have qd2 : decide (s < p) = false := by simp; omega
                  have q3 : ¬ (u < 0) := by omega
                  have qd3 : decide (u < 0) = false := by simp; omega
                  have q4 : 4294967295 < u := by omega
                  have HV : Hid (vb = false) := HBAD.out (fun h => g4 h.2.2.2.2.1)
                  clear HBAD HGO HLT g0 g1 g2 g3 g4
                  go_wp2
                  go_ret
                  exact ⟨by rw [HV.out]; rfl, HK.out.trans HK6.out (by simp)⟩
              · as_aux_lemma =>
                have q0 : (r != s) = false := by simpa using g0
                have q1 : ¬ (p < 1) := by omega
                have qd1 : decide (p < 1) = false := by simp; omega
                have q2 : ¬ (s < p) := by omega
                have qd2 : decide (s < p) = false := by simp; omega
                have q3 : u < 0 := by omega
                have HV : Hid (vb = false) := HBAD.out (fun h => g3 h.2.2.2.1)
                clear HBAD HGO HLT g0 g1 g2 g3
                go_wp2
                go_ret
                exact ⟨by rw [HV.out]; rfl, HK.out.trans HK6.out (by simp)⟩
            · as_aux_lemma =>
              have q0 : (r != s) = false := by simpa using g0
              have q1 : ¬ (p < 1) := by omega
              have qd1 : decide (p < 1) = false := by simp; omega
              have q2 : s < p := by omega
              have HV : Hid (vb = false) := HBAD.out (fun h => g2 (by have h1 := h.1; have h2 := h.2.2.1; omega))
              clear HBAD HGO HLT g0 g1 g2
              go_wp2
              go_ret
              exact ⟨by rw [HV.out]; rfl, HK.out.trans HK6.out (by simp)⟩
          · as_aux_lemma =>
            have q0 : (r != s) = false := by simpa using g0
            have q1 : p < 1 := by omega
            have HV : Hid (vb = false) := HBAD.out (fun h => g1 h.2.1)
            clear HBAD HGO HLT g0 g1
            go_wp2
            go_ret
            exact ⟨by rw [HV.out]; rfl, HK.out.trans HK6.out (by simp)⟩
        · as_aux_lemma =>
          have q0 : (r != s) = true := by simpa using g0
          have HV : Hid (vb = false) := HBAD.out (fun h => g0 h.1)
          clear HBAD HGO HLT g0
          go_wp2
          go_ret
          exact ⟨by rw [HV.out]; rfl, HK.out.trans HK6.out (by simp)⟩
    · obtain rfl : k = n := by omega
      have HV : Hid (vb = true) := by
        show _ = _
        rw [← HVB.out]
        exact Blk.valid_yes (by rw [HN.out]; exact ⟨HMB.out, HTO.out⟩)
      clear HTO HL HVB HMB HN HLR
      go_wp2
      go_ret
      exact ⟨by rw [HV.out]; rfl, HK.out⟩

/-- freightref11.Valid. -/
theorem refvalid_any (ao : Option Addr) (n cap : Nat) (L : List Bk) (row s : Int) (w : World) (hn : L.length = n) (hL : Blks w ao L) :
    Calls Try.prog 20 #[.slice ao n cap, .int .i64 row, .int .i64 s] w fun e w' => e = .returned (.bool (Blk.valid L row s)) ∧ Kept [] w w' := by
  by_cases h0 : row < 0
  · rw [Blk.valid_no (fun h => by have := h.1.1; omega)]
    exact refvalid_neg ao n cap row s w h0
  by_cases h1 : 65536 < row
  · rw [Blk.valid_no (fun h => by have := h.1.2.1; omega)]
    exact refvalid_big ao n cap row s w h0 h1
  by_cases h2 : 16 ≤ s ∧ s ≤ 4096
  · by_cases h3 : (n : Int) = (row + s - 1) / s
    · exact refvalid_loop ao n cap L row s w hn hL h0 h1 h2 h3.symm _ rfl
    · rw [Blk.valid_no (fun h => h3 (by rw [← hn]; exact h.1.2.2.2.2))]
      exact refvalid_count ao n cap row s w h0 h1 h2 _ rfl h3
  · rw [Blk.valid_no (fun h => h2 ⟨h.1.2.2.1, h.1.2.2.2.1⟩)]
    exact refvalid_size ao n cap row s w h0 h1 h2

end Go.Proofs.Ytdnbpklnkmgmkaa
