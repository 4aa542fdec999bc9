/-
  Contracts: freightref4.alike, match.
-/
import Derived.Test.YtdnbpklnkmgmkaaVh
namespace Go.Proofs.Ytdnbpklnkmgmkaa
open Go.RowKit
set_option linter.unusedVariables false
set_option linter.unusedSimpArgs false

set_option maxHeartbeats 2000000 in
set_option maxRecDepth 100000 in
theorem refalike_ok (pb po N pc f t : Nat) (data : List UInt8) (w : World) (hN : data.length = N) (hmax : N ≤ 4096) (hf : f < t) (ht : t ≤ N) (hc : ∀ i, i < data.length → w.cell? ⟨pb, po + i, none⟩ = some (.int .u8 (data.getD i 0).toNat)) :
    Calls Try.prog 43 #[.slice (some ⟨pb, po, none⟩) N pc, .int .i64 f, .int .i64 t] w fun e w' => e = .returned (.int .i64 (Prs.alike data f t 66 : Nat)) ∧ Kept [] w w' := by
  have HN := hide hN
  have HC := hide hc
  clear hN hc
  go_enter Try.func43, Try.ntmps43
  go_wp2
  go_loopw [7] (fun i wr => ∃ k : Nat, k ≤ 66 ∧ i = .int .i64 k ∧ Hid (k ≤ Prs.alike data f t 66 ∧ Kept [] w wr)) (fun i _ => 66 - (intOf i).toNat)
  case atStart => exact ⟨0, by omega, rfl, Nat.zero_le _, Kept.refl _ _⟩
  case round =>
    obtain ⟨k, hk66, rfl, HK⟩ := hrel
    by_cases h66 : k < 66
    · have hq1 : (k : Int) < 66 := by omega
      have hw1 : IntKind.i64.wrap ((t : Int) + (k : Int)) = (t : Int) + (k : Int) := by simp [IntKind.wrap, IntKind.bits, IntKind.signed]; omega
      have hw2 : IntKind.i64.wrap ((f : Int) + (k : Int)) = (f : Int) + (k : Int) := by simp [IntKind.wrap, IntKind.bits, IntKind.signed]; omega
      by_cases hin : t + k < N
      · have hq2 : (t : Int) + (k : Int) < (N : Int) := by omega
        have cx : wr.cell? ⟨pb, po + (f + k), none⟩ = some (.int .u8 (data.getD (f + k) 0).toNat) := HK.out.2.cellOf (HC.out (f + k) (by have := HN.out; omega)) (by simp)
        have cy : wr.cell? ⟨pb, po + (t + k), none⟩ = some (.int .u8 (data.getD (t + k) 0).toNat) := HK.out.2.cellOf (HC.out (t + k) (by have := HN.out; omega)) (by simp)
        obtain ⟨tk, htk⟩ : ∃ tk, tk = t + k := ⟨_, rfl⟩
        obtain ⟨fk, hfk⟩ : ∃ fk, fk = f + k := ⟨_, rfl⟩
        have hw3 : IntKind.i64.wrap ((t : Int) + (k : Int)) = (tk : Int) := by rw [hw1]; omega
        have hw4 : IntKind.i64.wrap ((f : Int) + (k : Int)) = (fk : Int) := by rw [hw2]; omega
        rw [← htk] at cy hin
        rw [← hfk] at cx
        have g1 : (tk : Int) < (N : Int) := by omega
        have g2 : (fk : Int) < (N : Int) := by omega
        have HT := hide (And.intro htk hfk)
        clear hw1 hw2 hq2 htk hfk
        by_cases hbe : data.getD fk 0 = data.getD tk 0
        · have hne : (((data.getD fk 0).toNat : Int) == ((data.getD tk 0).toNat : Int)) = true := by rw [hbe]; simp
          generalize (data.getD tk 0).toNat = xx at cy hne
          generalize (data.getD fk 0).toNat = yy at cx hne
          go_wp2
          go_quiet (fail)
          have HK2 := hide (HK.out.2.drewN nq)
          clear cx cy hw3 hw4
          generalize wr.drewN nq = w6 at HK2 ⊢
          go_wp2
          go_roundw
          case rel => exact ⟨k + 1, by omega, by go_num, Prs.alike_goes data f t k (by have := HN.out; omega) HK.out.1 (by unfold Prs.mostAt; have := HN.out; have := HT.out; omega) (by rw [← HT.out.1, ← HT.out.2]; exact hbe), HK2.out⟩
          case measure => simp [intOf]; omega
        · have hne : (((data.getD fk 0).toNat : Int) == ((data.getD tk 0).toNat : Int)) = false := by
            simp only [beq_eq_false_iff_ne, ne_eq, Int.natCast_inj]
            exact fun e => hbe (UInt8.toNat_inj.1 e)
          generalize (data.getD tk 0).toNat = xx at cy hne
          generalize (data.getD fk 0).toNat = yy at cx hne
          go_wp2
          go_quiet (fail)
          have HK2 := hide (HK.out.2.drewN nq)
          clear cx cy hw3 hw4
          generalize wr.drewN nq = w6 at HK2 ⊢
          go_wp2
          go_ret
          exact ⟨by rw [Prs.alike_ends data f t k HK.out.1 (by rw [← HT.out.1, ← HT.out.2]; exact hbe)]; rfl, HK2.out⟩
      · obtain ⟨tk, htk⟩ : ∃ tk, tk = t + k := ⟨_, rfl⟩
        have hw3 : IntKind.i64.wrap ((t : Int) + (k : Int)) = (tk : Int) := by rw [hw1]; omega
        have hq2 : ¬ ((tk : Int) < (N : Int)) := by omega
        have hq3 : ¬ (tk < N) := by omega
        have HIN := hide hin
        clear hw1 hw2 htk hin
        go_wp2
        go_quiet (fail)
        have HK2 := hide (HK.out.2.drewN nq)
        generalize wr.drewN nq = w6 at HK2 ⊢
        go_wp2
        go_ret
        have := Prs.alike_in data 66 f t (by have := HN.out; omega)
        exact ⟨by rw [show Prs.alike data f t 66 = k by have := HN.out; have := HK.out.1; have := HIN.out; omega]; rfl, HK2.out⟩
    · obtain rfl : k = 66 := by omega
      go_wp2
      go_quiet (fail)
      have HK2 := hide (HK.out.2.drewN nq)
      generalize wr.drewN nq = w6 at HK2 ⊢
      go_wp2
      go_ret
      have := Prs.alike_le data 66 f t
      exact ⟨by rw [show Prs.alike data f t 66 = 66 by have := HK.out.1; omega]; rfl, HK2.out⟩

set_option maxHeartbeats 2000000 in
set_option maxRecDepth 100000 in
theorem refmatch_ok (pb po N pc t : Nat) (data : List UInt8) (w : World) (hN : data.length = N) (hmax : N ≤ 4096) (ht : t ≤ N) (hc : ∀ i, i < data.length → w.cell? ⟨pb, po + i, none⟩ = some (.int .u8 (data.getD i 0).toNat)) :
    Calls Try.prog 39 #[.slice (some ⟨pb, po, none⟩) N pc, .int .i64 t] w fun e w' => e = .returned (.tuple #[.int .i64 ((Prs.mtch data t).1 : Nat), .int .i64 ((Prs.mtch data t).2 : Nat)]) ∧ Kept [] w w' := by
  have HN := hide hN
  have HC := hide hc
  clear hN hc
  go_enter Try.func39, Try.ntmps39
  go_wp2
  go_loopw [6, 7, 8] (fun l d i wr => ∃ (D ml md : Nat), D ≤ Prs.far t ∧ l = .int .i64 ml ∧ d = .int .i64 md ∧ i = .int .i64 ((D + 1 : Nat) : Int) ∧ Hid (Prs.best data t D = (ml, md) ∧ Kept [] w wr)) (fun _ _ i _ => 1026 - (intOf i).toNat)
  case atStart => exact ⟨0, 0, 0, Nat.zero_le _, rfl, rfl, rfl, rfl, Kept.refl _ _⟩
  case round =>
    obtain ⟨D, ml, md, hD, rfl, rfl, rfl, HK⟩ := hrel
    have hfar : Prs.far t ≤ 1024 ∧ Prs.far t ≤ t := by unfold Prs.far; omega
    by_cases hlt : D < Prs.far t
    · have hq1 : (((D + 1 : Nat) : Int) ≤ 1024) := by omega
      have hq2 : (((D + 1 : Nat) : Int) ≤ (t : Int)) := by omega
      obtain ⟨f, hf⟩ : ∃ f, f = t - (D + 1) := ⟨_, rfl⟩
      have hft : (t : Int) - ((D : Int) + 1) = (f : Int) := by omega
      have HA : Hid (Calls Try.prog 43 #[.slice (some ⟨pb, po, none⟩) N pc, .int .i64 f, .int .i64 t] wr fun e w' => e = .returned (.int .i64 (Prs.alike data f t 66 : Nat)) ∧ Kept [] wr w') := refalike_ok pb po N pc f t data wr HN.out hmax (by omega) ht (fun i hi => HK.out.2.cellOf (HC.out i hi) (by simp))
      have hb := Prs.best_succ data t D
      rw [HK.out.1, ← hf] at hb
      have hal := Prs.alike_le data 66 f t
      generalize Prs.alike data f t 66 = A at HA hb hal
      by_cases hA : ml < A
      · rw [if_pos hA] at hb
        have HB := hide hb
        have hq3 : ((ml : Int) < (A : Int)) := by omega
        clear hb hf
        go_wp2_with (go_at_call 43; refine HA.out.mono ?_; rintro e w2 ⟨rfl, hk2⟩)
        go_roundw
        case rel => exact ⟨D + 1, A, D + 1, by omega, rfl, by go_num, by go_num, HB.out, HK.out.2.trans hk2 (by simp)⟩
        case measure => simp [intOf]; omega
      · rw [if_neg hA] at hb
        have HB := hide hb
        have hq3 : ¬ ((ml : Int) < (A : Int)) := by omega
        clear hb hf
        go_wp2_with (go_at_call 43; refine HA.out.mono ?_; rintro e w2 ⟨rfl, hk2⟩)
        go_roundw
        case rel => exact ⟨D + 1, ml, md, by omega, rfl, rfl, by go_num, HB.out, HK.out.2.trans hk2 (by simp)⟩
        case measure => simp [intOf]; omega
    · have hDf : D = Prs.far t := by omega
      have hres : Prs.mtch data t = (ml, md) := by unfold Prs.mtch; rw [← hDf]; exact HK.out.1
      have HR := hide hres
      by_cases h1024 : D < 1024
      · have hq1 : (((D + 1 : Nat) : Int) ≤ 1024) := by omega
        have hq2 : ¬ (((D + 1 : Nat) : Int) ≤ (t : Int)) := by unfold Prs.far at hDf; omega
        clear hDf hres hlt
        go_wp2
        go_ret2
        exact ⟨by rw [HR.out]; rfl, HK.out.2⟩
      · have hq1 : ¬ (((D + 1 : Nat) : Int) ≤ 1024) := by omega
        clear hDf hres hlt
        go_wp2
        go_ret2
        exact ⟨by rw [HR.out]; rfl, HK.out.2⟩

end Go.Proofs.Ytdnbpklnkmgmkaa
