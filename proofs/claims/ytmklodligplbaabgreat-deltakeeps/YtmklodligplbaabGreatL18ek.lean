import Derived.Test.YtmklodligplbaabGreatX18bk
open Go.RowKit
set_option linter.unusedVariables false
set_option linter.unusedSimpArgs false
set_option maxRecDepth 100000
set_option maxHeartbeats 0
namespace Go.Proofs.YtmklodligplbaabGreat
open Dlt
theorem rmay_f1 (s : Sig) (ao : Option Addr) (n cap : Nat) (w : World) (hI : SigIn w s ao n cap) (hg : (isW s.width && isZ s.size) = false) :
  Calls Tryz.prog 59 #[.agg (s.cells (.slice ao n cap)).toArray] w fun e w' => e = .returned (.bool false) ∧ Kept [] w w' := by
 have k1 := ka w (.cells (s.cells (.slice ao n cap)).toArray 26)
 have hA := SigAt.new w s (.slice ao n cap)
 obtain ⟨A, hAe⟩ := nm (w.heap.size)
 rw [hAe] at hA
 have HI := hide (hI.kept k1)
 have hn63 : n <= 9223372036854775807 := Nat.le_trans hI.le hI.max
 clear hI
 go_enter Tryz.func59, Tryz.ntmps59
 go_upto_region 1 with (fail)
 clear hAe
 have HK1 := hide k1
 clear k1
 generalize w.alloc (.cells (s.cells (.slice ao n cap)).toArray 26) = w1 at *
 have a0 := hA.cell (Sig.c0 _ _)
 have a1 := hA.cell (Sig.c1 _ _)
 have a2 := hA.cell (Sig.c2 _ _)
 have a5 := hA.cell (Sig.cv _ _)
 have HRB := hide hA.base
 have HA := hide hA
 clear hA
 have hil := idlen s.hb
 have HZ := hide (fun W => rsized_ok s.width s.size W)
 have hz0 := HZ.out
 rw [hg] at hz0
 clear HZ hg
 generalize s.width = xw at *
 generalize s.size = xz at *
 generalize s.length = xl at *
 refine th w1 fun h0 => ?_
 generalize World.drew w1 = v0 at h0  ⊢
 refine t1 0 (.pointer (some ⟨A, 0, none⟩)) h0 ?_
 simp only [zz]
 refine t2 1 (.int .i64 xw) rfl h0 ?_ (fun w h => by have c := qc h a0; go_simp)
 simp only [zz]
 refine t1 2 (.pointer (some ⟨A, 1, none⟩)) h0 ?_
 simp only [zz]
 refine t2 3 (.int .i64 xz) rfl h0 ?_ (fun w h => by have c := qc h a1; go_simp)
 simp only [zz]
 refine rd 4 fun K hK => ?_
 go_simp
 refine (hz0 v0).mono ?_
 rintro e v1 ⟨rfl, hw⟩
 refine hK.out _ _ (by rw [hw]; exact h0) (fun h1 => ?_)
 clear hK K
 try simp only [zz]
 clear hw h0 hz0
 refine t1 5 (.bool true) h1 ?_
 simp only [zz]
 refine t1 6 (.bool true) h1 ?_
 simp only [zz]
 refine t3 7 h1 ?_
 simp only [zz]
 refine t3 8 h1 ?_
 simp only [zz]
 refine t3 9 h1 ?_
 simp only [zz]
 refine t1 10 (.bool true) h1 ?_
 simp only [zz]
 refine t1 11 (.bool true) h1 ?_
 simp only [zz]
 refine t3 12 h1 ?_
 simp only [zz]
 refine t3 13 h1 ?_
 simp only [zz]
 refine t3 14 h1 ?_
 simp only [zz]
 refine t1 15 (.bool true) h1 ?_
 simp only [zz]
 refine t1 16 (.bool true) h1 ?_
 simp only [zz]
 refine t3 17 h1 ?_
 simp only [zz]
 refine t3 18 h1 ?_
 simp only [zz]
 refine t3 19 h1 ?_
 simp only [zz]
 refine t3 20 h1 ?_
 simp only [zz]
 refine t3 21 h1 ?_
 simp only [zz]
 refine t3 22 h1 ?_
 simp only [zz]
 refine t3 23 h1 ?_
 simp only [zz]
 refine t3 24 h1 ?_
 simp only [zz]
 refine t3 25 h1 ?_
 simp only [zz]
 refine t1 26 (.bool true) h1 ?_
 simp only [zz]
 refine t1 27 (.bool true) h1 ?_
 simp only [zz]
 refine t3 28 h1 ?_
 simp only [zz]
 refine t3 29 h1 ?_
 simp only [zz]
 refine t3 30 h1 ?_
 simp only [zz]
 refine t3 31 h1 ?_
 simp only [zz]
 refine t1 32 (.bool true) h1 ?_
 simp only [zz]
 refine t1 33 (.bool true) h1 ?_
 simp only [zz]
 refine t3 34 h1 ?_
 simp only [zz]
 refine t3 35 h1 ?_
 simp only [zz]
 refine t3 36 h1 ?_
 simp only [zz]
 refine t3 37 h1 ?_
 simp only [zz]
 refine t3 38 h1 ?_
 simp only [zz]
 refine t3 39 h1 ?_
 simp only [zz]
 refine t1 40 (.bool true) h1 ?_
 simp only [zz]
 refine qd ?_
 have HKF := hide (HK1.out.tr h1)
 clear h1 a0 a1 a2 a5
 go_wp2
 go_ret
 exact ⟨rfl, HKF.out⟩
theorem rmay_f2 (s : Sig) (ao : Option Addr) (n cap : Nat) (w : World) (hI : SigIn w s ao n cap) (hg : (isW s.width && isZ s.size) = true) (hc : s.length < 0) :
  Calls Tryz.prog 59 #[.agg (s.cells (.slice ao n cap)).toArray] w fun e w' => e = .returned (.bool false) ∧ Kept [] w w' := by
 have k1 := ka w (.cells (s.cells (.slice ao n cap)).toArray 26)
 have hA := SigAt.new w s (.slice ao n cap)
 obtain ⟨A, hAe⟩ := nm (w.heap.size)
 rw [hAe] at hA
 have HI := hide (hI.kept k1)
 have hn63 : n <= 9223372036854775807 := Nat.le_trans hI.le hI.max
 clear hI
 go_enter Tryz.func59, Tryz.ntmps59
 go_upto_region 1 with (fail)
 clear hAe
 have HK1 := hide k1
 clear k1
 generalize w.alloc (.cells (s.cells (.slice ao n cap)).toArray 26) = w1 at *
 have a0 := hA.cell (Sig.c0 _ _)
 have a1 := hA.cell (Sig.c1 _ _)
 have a2 := hA.cell (Sig.c2 _ _)
 have a5 := hA.cell (Sig.cv _ _)
 have HRB := hide hA.base
 have HA := hide hA
 clear hA
 have hil := idlen s.hb
 have HZ := hide (fun W => rsized_ok s.width s.size W)
 have hz0 := HZ.out
 rw [hg] at hz0
 clear HZ hg
 generalize s.width = xw at *
 generalize s.size = xz at *
 generalize s.length = xl at *
 refine th w1 fun h0 => ?_
 generalize World.drew w1 = v0 at h0  ⊢
 refine t1 0 (.pointer (some ⟨A, 0, none⟩)) h0 ?_
 simp only [zz]
 refine t2 1 (.int .i64 xw) rfl h0 ?_ (fun w h => by have c := qc h a0; go_simp)
 simp only [zz]
 refine t1 2 (.pointer (some ⟨A, 1, none⟩)) h0 ?_
 simp only [zz]
 refine t2 3 (.int .i64 xz) rfl h0 ?_ (fun w h => by have c := qc h a1; go_simp)
 simp only [zz]
 refine rd 4 fun K hK => ?_
 go_simp
 refine (hz0 v0).mono ?_
 rintro e v1 ⟨rfl, hw⟩
 refine hK.out _ _ (by rw [hw]; exact h0) (fun h1 => ?_)
 clear hK K
 try simp only [zz]
 clear hw h0 hz0
 refine t1 5 (.bool false) h1 ?_
 simp only [zz]
 refine t1 6 (.bool false) h1 ?_
 simp only [zz]
 refine t1 7 (.pointer (some ⟨A, 2, none⟩)) h1 ?_
 simp only [zz]
 refine t2 8 (.int .i64 xl) rfl h1 ?_ (fun w h => by have c := qc h a2; go_simp)
 simp only [zz]
 refine t1 9 (.bool true) h1 ?_
 simp only [zz]
 refine t1 10 (.bool true) h1 ?_
 simp only [zz]
 refine t1 11 (.bool true) h1 ?_
 simp only [zz]
 refine t3 12 h1 ?_
 simp only [zz]
 refine t3 13 h1 ?_
 simp only [zz]
 refine t3 14 h1 ?_
 simp only [zz]
 refine t1 15 (.bool true) h1 ?_
 simp only [zz]
 refine t1 16 (.bool true) h1 ?_
 simp only [zz]
 refine t3 17 h1 ?_
 simp only [zz]
 refine t3 18 h1 ?_
 simp only [zz]
 refine t3 19 h1 ?_
 simp only [zz]
 refine t3 20 h1 ?_
 simp only [zz]
 refine t3 21 h1 ?_
 simp only [zz]
 refine t3 22 h1 ?_
 simp only [zz]
 refine t3 23 h1 ?_
 simp only [zz]
 refine t3 24 h1 ?_
 simp only [zz]
 refine t3 25 h1 ?_
 simp only [zz]
 refine t1 26 (.bool true) h1 ?_
 simp only [zz]
 refine t1 27 (.bool true) h1 ?_
 simp only [zz]
 refine t3 28 h1 ?_
 simp only [zz]
 refine t3 29 h1 ?_
 simp only [zz]
 refine t3 30 h1 ?_
 simp only [zz]
 refine t3 31 h1 ?_
 simp only [zz]
 refine t1 32 (.bool true) h1 ?_
 simp only [zz]
 refine t1 33 (.bool true) h1 ?_
 simp only [zz]
 refine t3 34 h1 ?_
 simp only [zz]
 refine t3 35 h1 ?_
 simp only [zz]
 refine t3 36 h1 ?_
 simp only [zz]
 refine t3 37 h1 ?_
 simp only [zz]
 refine t3 38 h1 ?_
 simp only [zz]
 refine t3 39 h1 ?_
 simp only [zz]
 refine t1 40 (.bool true) h1 ?_
 simp only [zz]
 refine qd ?_
 have HKF := hide (HK1.out.tr h1)
 clear h1 a0 a1 a2 a5
 go_wp2
 go_ret
 exact ⟨rfl, HKF.out⟩
theorem rmay_f3 (s : Sig) (ao : Option Addr) (n cap : Nat) (w : World) (hI : SigIn w s ao n cap) (hg : (isW s.width && isZ s.size) = true) (hb : ¬ s.length < 0) (hc : 131072 < s.length) :
  Calls Tryz.prog 59 #[.agg (s.cells (.slice ao n cap)).toArray] w fun e w' => e = .returned (.bool false) ∧ Kept [] w w' := by
 have k1 := ka w (.cells (s.cells (.slice ao n cap)).toArray 26)
 have hA := SigAt.new w s (.slice ao n cap)
 obtain ⟨A, hAe⟩ := nm (w.heap.size)
 rw [hAe] at hA
 have HI := hide (hI.kept k1)
 have hn63 : n <= 9223372036854775807 := Nat.le_trans hI.le hI.max
 clear hI
 go_enter Tryz.func59, Tryz.ntmps59
 go_upto_region 1 with (fail)
 clear hAe
 have HK1 := hide k1
 clear k1
 generalize w.alloc (.cells (s.cells (.slice ao n cap)).toArray 26) = w1 at *
 have a0 := hA.cell (Sig.c0 _ _)
 have a1 := hA.cell (Sig.c1 _ _)
 have a2 := hA.cell (Sig.c2 _ _)
 have a5 := hA.cell (Sig.cv _ _)
 have HRB := hide hA.base
 have HA := hide hA
 clear hA
 have hil := idlen s.hb
 have HZ := hide (fun W => rsized_ok s.width s.size W)
 have hz0 := HZ.out
 rw [hg] at hz0
 clear HZ hg
 generalize s.width = xw at *
 generalize s.size = xz at *
 generalize s.length = xl at *
 refine th w1 fun h0 => ?_
 generalize World.drew w1 = v0 at h0  ⊢
 refine t1 0 (.pointer (some ⟨A, 0, none⟩)) h0 ?_
 simp only [zz]
 refine t2 1 (.int .i64 xw) rfl h0 ?_ (fun w h => by have c := qc h a0; go_simp)
 simp only [zz]
 refine t1 2 (.pointer (some ⟨A, 1, none⟩)) h0 ?_
 simp only [zz]
 refine t2 3 (.int .i64 xz) rfl h0 ?_ (fun w h => by have c := qc h a1; go_simp)
 simp only [zz]
 refine rd 4 fun K hK => ?_
 go_simp
 refine (hz0 v0).mono ?_
 rintro e v1 ⟨rfl, hw⟩
 refine hK.out _ _ (by rw [hw]; exact h0) (fun h1 => ?_)
 clear hK K
 try simp only [zz]
 clear hw h0 hz0
 refine t1 5 (.bool false) h1 ?_
 simp only [zz]
 refine t1 6 (.bool false) h1 ?_
 simp only [zz]
 refine t1 7 (.pointer (some ⟨A, 2, none⟩)) h1 ?_
 simp only [zz]
 refine t2 8 (.int .i64 xl) rfl h1 ?_ (fun w h => by have c := qc h a2; go_simp)
 simp only [zz]
 refine t1 9 (.bool false) h1 ?_
 simp only [zz]
 refine t1 10 (.bool false) h1 ?_
 simp only [zz]
 refine t1 11 (.bool false) h1 ?_
 simp only [zz]
 refine t1 12 (.pointer (some ⟨A, 2, none⟩)) h1 ?_
 simp only [zz]
 refine t2 13 (.int .i64 xl) rfl h1 ?_ (fun w h => by have c := qc h a2; go_simp)
 simp only [zz]
 refine t1 14 (.bool true) h1 ?_
 simp only [zz]
 refine t1 15 (.bool true) h1 ?_
 simp only [zz]
 refine t1 16 (.bool true) h1 ?_
 simp only [zz]
 refine t3 17 h1 ?_
 simp only [zz]
 refine t3 18 h1 ?_
 simp only [zz]
 refine t3 19 h1 ?_
 simp only [zz]
 refine t3 20 h1 ?_
 simp only [zz]
 refine t3 21 h1 ?_
 simp only [zz]
 refine t3 22 h1 ?_
 simp only [zz]
 refine t3 23 h1 ?_
 simp only [zz]
 refine t3 24 h1 ?_
 simp only [zz]
 refine t3 25 h1 ?_
 simp only [zz]
 refine t1 26 (.bool true) h1 ?_
 simp only [zz]
 refine t1 27 (.bool true) h1 ?_
 simp only [zz]
 refine t3 28 h1 ?_
 simp only [zz]
 refine t3 29 h1 ?_
 simp only [zz]
 refine t3 30 h1 ?_
 simp only [zz]
 refine t3 31 h1 ?_
 simp only [zz]
 refine t1 32 (.bool true) h1 ?_
 simp only [zz]
 refine t1 33 (.bool true) h1 ?_
 simp only [zz]
 refine t3 34 h1 ?_
 simp only [zz]
 refine t3 35 h1 ?_
 simp only [zz]
 refine t3 36 h1 ?_
 simp only [zz]
 refine t3 37 h1 ?_
 simp only [zz]
 refine t3 38 h1 ?_
 simp only [zz]
 refine t3 39 h1 ?_
 simp only [zz]
 refine t1 40 (.bool true) h1 ?_
 simp only [zz]
 refine qd ?_
 have HKF := hide (HK1.out.tr h1)
 clear h1 a0 a1 a2 a5
 go_wp2
 go_ret
 exact ⟨rfl, HKF.out⟩
theorem rmay_f4 (s : Sig) (ao : Option Addr) (n cap : Nat) (w : World) (hI : SigIn w s ao n cap) (hg : (isW s.width && isZ s.size) = true) (hb : ¬ s.length < 0) (hc : ¬ 131072 < s.length) (hd : (n : Int) ≠ s.length / s.size) :
  Calls Tryz.prog 59 #[.agg (s.cells (.slice ao n cap)).toArray] w fun e w' => e = .returned (.bool false) ∧ Kept [] w w' := by
 have k1 := ka w (.cells (s.cells (.slice ao n cap)).toArray 26)
 have hA := SigAt.new w s (.slice ao n cap)
 obtain ⟨A, hAe⟩ := nm (w.heap.size)
 rw [hAe] at hA
 have HI := hide (hI.kept k1)
 have hn63 : n <= 9223372036854775807 := Nat.le_trans hI.le hI.max
 clear hI
 go_enter Tryz.func59, Tryz.ntmps59
 go_upto_region 1 with (fail)
 clear hAe
 have HK1 := hide k1
 clear k1
 generalize w.alloc (.cells (s.cells (.slice ao n cap)).toArray 26) = w1 at *
 have a0 := hA.cell (Sig.c0 _ _)
 have a1 := hA.cell (Sig.c1 _ _)
 have a2 := hA.cell (Sig.c2 _ _)
 have a5 := hA.cell (Sig.cv _ _)
 have HRB := hide hA.base
 have HA := hide hA
 clear hA
 have hil := idlen s.hb
 have HZ := hide (fun W => rsized_ok s.width s.size W)
 have hz2 : 16 <= s.size ∧ s.size <= 4096 := by rw [Bool.and_eq_true] at hg; exact Dlt.within_iff.1 hg.2
 have hw2 : 1 <= s.width ∧ s.width <= 32 := by rw [Bool.and_eq_true] at hg; exact Dlt.within_iff.1 hg.1
 have hz0 := HZ.out
 rw [hg] at hz0
 clear HZ hg
 generalize s.width = xw at *
 generalize s.size = xz at *
 generalize s.length = xl at *
 obtain ⟨Z, hZ⟩ := Int.eq_ofNat_of_zero_le (show 0 <= xz by omega)
 obtain ⟨N, hN⟩ := Int.eq_ofNat_of_zero_le (show 0 <= xl by omega)
 subst hZ
 subst hN
 obtain ⟨c, hcq⟩ := nm (N / Z)
 have hcn : c <= 131072 := by rw [<-hcq]; exact Nat.le_trans (Nat.div_le_self _ _) (by omega)
 have hdiv : (N : Int).tdiv (Z : Int) = (c : Int) := by rw [<-hcq, Int.ofNat_tdiv]
 have hcw : IntKind.i64.wrap (c : Int) = (c : Int) := wrap64 (by omega) (by omega)
 have hz9 : ((Z : Int) == 0) = false := by simp; omega
 have hzn : ¬ Z = 0 := by omega
 have hne : ((n : Int) != (c : Int)) = true := by
  rw [<-Int.natCast_ediv, hcq] at hd
  simpa using hd
 clear hd hcq
 refine th w1 fun h0 => ?_
 generalize World.drew w1 = v0 at h0  ⊢
 refine t1 0 (.pointer (some ⟨A, 0, none⟩)) h0 ?_
 simp only [zz]
 refine t2 1 (.int .i64 xw) rfl h0 ?_ (fun w h => by have c := qc h a0; go_simp)
 simp only [zz]
 refine t1 2 (.pointer (some ⟨A, 1, none⟩)) h0 ?_
 simp only [zz]
 refine t2 3 (.int .i64 Z) rfl h0 ?_ (fun w h => by have c := qc h a1; go_simp)
 simp only [zz]
 refine rd 4 fun K hK => ?_
 go_simp
 refine (hz0 v0).mono ?_
 rintro e v1 ⟨rfl, hw⟩
 refine hK.out _ _ (by rw [hw]; exact h0) (fun h1 => ?_)
 clear hK K
 try simp only [zz]
 clear hw h0 hz0
 refine t1 5 (.bool false) h1 ?_
 simp only [zz]
 refine t1 6 (.bool false) h1 ?_
 simp only [zz]
 refine t1 7 (.pointer (some ⟨A, 2, none⟩)) h1 ?_
 simp only [zz]
 refine t2 8 (.int .i64 N) rfl h1 ?_ (fun w h => by have c := qc h a2; go_simp)
 simp only [zz]
 refine t1 9 (.bool false) h1 ?_
 simp only [zz]
 refine t1 10 (.bool false) h1 ?_
 simp only [zz]
 refine t1 11 (.bool false) h1 ?_
 simp only [zz]
 refine t1 12 (.pointer (some ⟨A, 2, none⟩)) h1 ?_
 simp only [zz]
 refine t2 13 (.int .i64 N) rfl h1 ?_ (fun w h => by have c := qc h a2; go_simp)
 simp only [zz]
 refine t1 14 (.bool false) h1 ?_
 simp only [zz]
 refine t1 15 (.bool false) h1 ?_
 simp only [zz]
 refine t1 16 (.bool false) h1 ?_
 simp only [zz]
 refine t1 17 (.pointer (some ⟨A, 35, none⟩)) h1 ?_
 simp only [zz]
 refine t2 18 (.slice ao n cap) rfl h1 ?_ (fun w h => by have c := qc h a5; go_simp)
 simp only [zz]
 refine t1 19 (.int .i64 n) h1 ?_
 simp only [zz]
 refine t1 20 (.pointer (some ⟨A, 2, none⟩)) h1 ?_
 simp only [zz]
 refine t2 21 (.int .i64 N) rfl h1 ?_ (fun w h => by have c := qc h a2; go_simp)
 simp only [zz]
 refine t1 22 (.pointer (some ⟨A, 1, none⟩)) h1 ?_
 simp only [zz]
 refine t2 23 (.int .i64 Z) rfl h1 ?_ (fun w h => by have c := qc h a1; go_simp)
 simp only [zz]
 refine t2 24 (.int .i64 c) rfl h1 ?_ (fun w hSw => by go_simp; try (rw [if_neg hzn]); try (rw [hcw]))
 simp only [zz]
 refine t1 25 (.bool true) h1 ?_
 simp only [zz]
 refine t1 26 (.bool true) h1 ?_
 simp only [zz]
 refine t1 27 (.bool true) h1 ?_
 simp only [zz]
 refine t3 28 h1 ?_
 simp only [zz]
 refine t3 29 h1 ?_
 simp only [zz]
 refine t3 30 h1 ?_
 simp only [zz]
 refine t3 31 h1 ?_
 simp only [zz]
 refine t1 32 (.bool true) h1 ?_
 simp only [zz]
 refine t1 33 (.bool true) h1 ?_
 simp only [zz]
 refine t3 34 h1 ?_
 simp only [zz]
 refine t3 35 h1 ?_
 simp only [zz]
 refine t3 36 h1 ?_
 simp only [zz]
 refine t3 37 h1 ?_
 simp only [zz]
 refine t3 38 h1 ?_
 simp only [zz]
 refine t3 39 h1 ?_
 simp only [zz]
 refine t1 40 (.bool true) h1 ?_
 simp only [zz]
 refine qd ?_
 have HKF := hide (HK1.out.tr h1)
 clear h1 a0 a1 a2 a5
 go_wp2
 go_ret
 exact ⟨rfl, HKF.out⟩
theorem rmay_f5 (s : Sig) (ao : Option Addr) (n cap : Nat) (w : World) (hI : SigIn w s ao n cap) (hg : (isW s.width && isZ s.size) = true) (hb : ¬ s.length < 0) (hc : ¬ 131072 < s.length) (hd : (n : Int) = s.length / s.size) (he : 2048 < n) :
  Calls Tryz.prog 59 #[.agg (s.cells (.slice ao n cap)).toArray] w fun e w' => e = .returned (.bool false) ∧ Kept [] w w' := by
 have k1 := ka w (.cells (s.cells (.slice ao n cap)).toArray 26)
 have hA := SigAt.new w s (.slice ao n cap)
 obtain ⟨A, hAe⟩ := nm (w.heap.size)
 rw [hAe] at hA
 have HI := hide (hI.kept k1)
 have hn63 : n <= 9223372036854775807 := Nat.le_trans hI.le hI.max
 clear hI
 go_enter Tryz.func59, Tryz.ntmps59
 go_upto_region 1 with (fail)
 clear hAe
 have HK1 := hide k1
 clear k1
 generalize w.alloc (.cells (s.cells (.slice ao n cap)).toArray 26) = w1 at *
 have a0 := hA.cell (Sig.c0 _ _)
 have a1 := hA.cell (Sig.c1 _ _)
 have a2 := hA.cell (Sig.c2 _ _)
 have a5 := hA.cell (Sig.cv _ _)
 have HRB := hide hA.base
 have HA := hide hA
 clear hA
 have hil := idlen s.hb
 have HZ := hide (fun W => rsized_ok s.width s.size W)
 have hz2 : 16 <= s.size ∧ s.size <= 4096 := by rw [Bool.and_eq_true] at hg; exact Dlt.within_iff.1 hg.2
 have hw2 : 1 <= s.width ∧ s.width <= 32 := by rw [Bool.and_eq_true] at hg; exact Dlt.within_iff.1 hg.1
 have hz0 := HZ.out
 rw [hg] at hz0
 clear HZ hg
 generalize s.width = xw at *
 generalize s.size = xz at *
 generalize s.length = xl at *
 obtain ⟨Z, hZ⟩ := Int.eq_ofNat_of_zero_le (show 0 <= xz by omega)
 obtain ⟨N, hN⟩ := Int.eq_ofNat_of_zero_le (show 0 <= xl by omega)
 subst hZ
 subst hN
 obtain ⟨c, hcq⟩ := nm (N / Z)
 have hcn : c <= 131072 := by rw [<-hcq]; exact Nat.le_trans (Nat.div_le_self _ _) (by omega)
 have hdiv : (N : Int).tdiv (Z : Int) = (c : Int) := by rw [<-hcq, Int.ofNat_tdiv]
 have hcw : IntKind.i64.wrap (c : Int) = (c : Int) := wrap64 (by omega) (by omega)
 have hz9 : ((Z : Int) == 0) = false := by simp; omega
 have hzn : ¬ Z = 0 := by omega
 have hnc : n = c := by
  rw [<-Int.natCast_ediv, hcq] at hd
  omega
 subst hnc
 clear hd
 have HCQ := hide hcq
 clear hcq
 have he2 : (2048 : Int) < (n : Int) := by omega
 refine th w1 fun h0 => ?_
 generalize World.drew w1 = v0 at h0  ⊢
 refine t1 0 (.pointer (some ⟨A, 0, none⟩)) h0 ?_
 simp only [zz]
 refine t2 1 (.int .i64 xw) rfl h0 ?_ (fun w h => by have c := qc h a0; go_simp)
 simp only [zz]
 refine t1 2 (.pointer (some ⟨A, 1, none⟩)) h0 ?_
 simp only [zz]
 refine t2 3 (.int .i64 Z) rfl h0 ?_ (fun w h => by have c := qc h a1; go_simp)
 simp only [zz]
 refine rd 4 fun K hK => ?_
 go_simp
 refine (hz0 v0).mono ?_
 rintro e v1 ⟨rfl, hw⟩
 refine hK.out _ _ (by rw [hw]; exact h0) (fun h1 => ?_)
 clear hK K
 try simp only [zz]
 clear hw h0 hz0
 refine t1 5 (.bool false) h1 ?_
 simp only [zz]
 refine t1 6 (.bool false) h1 ?_
 simp only [zz]
 refine t1 7 (.pointer (some ⟨A, 2, none⟩)) h1 ?_
 simp only [zz]
 refine t2 8 (.int .i64 N) rfl h1 ?_ (fun w h => by have c := qc h a2; go_simp)
 simp only [zz]
 refine t1 9 (.bool false) h1 ?_
 simp only [zz]
 refine t1 10 (.bool false) h1 ?_
 simp only [zz]
 refine t1 11 (.bool false) h1 ?_
 simp only [zz]
 refine t1 12 (.pointer (some ⟨A, 2, none⟩)) h1 ?_
 simp only [zz]
 refine t2 13 (.int .i64 N) rfl h1 ?_ (fun w h => by have c := qc h a2; go_simp)
 simp only [zz]
 refine t1 14 (.bool false) h1 ?_
 simp only [zz]
 refine t1 15 (.bool false) h1 ?_
 simp only [zz]
 refine t1 16 (.bool false) h1 ?_
 simp only [zz]
 refine t1 17 (.pointer (some ⟨A, 35, none⟩)) h1 ?_
 simp only [zz]
 refine t2 18 (.slice ao n cap) rfl h1 ?_ (fun w h => by have c := qc h a5; go_simp)
 simp only [zz]
 refine t1 19 (.int .i64 n) h1 ?_
 simp only [zz]
 refine t1 20 (.pointer (some ⟨A, 2, none⟩)) h1 ?_
 simp only [zz]
 refine t2 21 (.int .i64 N) rfl h1 ?_ (fun w h => by have c := qc h a2; go_simp)
 simp only [zz]
 refine t1 22 (.pointer (some ⟨A, 1, none⟩)) h1 ?_
 simp only [zz]
 refine t2 23 (.int .i64 Z) rfl h1 ?_ (fun w h => by have c := qc h a1; go_simp)
 simp only [zz]
 refine t2 24 (.int .i64 n) rfl h1 ?_ (fun w hSw => by go_simp; try (rw [if_neg hzn]); try (rw [hcw]))
 simp only [zz]
 refine t1 25 (.bool false) h1 ?_
 simp only [zz]
 refine t1 26 (.bool false) h1 ?_
 simp only [zz]
 refine t1 27 (.bool false) h1 ?_
 simp only [zz]
 refine t1 28 (.pointer (some ⟨A, 35, none⟩)) h1 ?_
 simp only [zz]
 refine t2 29 (.slice ao n cap) rfl h1 ?_ (fun w h => by have c := qc h a5; go_simp)
 simp only [zz]
 refine t1 30 (.int .i64 n) h1 ?_
 simp only [zz]
 refine t1 31 (.bool true) h1 ?_
 simp only [zz]
 refine t1 32 (.bool true) h1 ?_
 simp only [zz]
 refine t1 33 (.bool true) h1 ?_
 simp only [zz]
 refine t3 34 h1 ?_
 simp only [zz]
 refine t3 35 h1 ?_
 simp only [zz]
 refine t3 36 h1 ?_
 simp only [zz]
 refine t3 37 h1 ?_
 simp only [zz]
 refine t3 38 h1 ?_
 simp only [zz]
 refine t3 39 h1 ?_
 simp only [zz]
 refine t1 40 (.bool true) h1 ?_
 simp only [zz]
 refine qd ?_
 have HKF := hide (HK1.out.tr h1)
 clear h1 a0 a1 a2 a5
 go_wp2
 go_ret
 exact ⟨rfl, HKF.out⟩
theorem rmay_f6 (s : Sig) (ao : Option Addr) (n cap : Nat) (w : World) (hI : SigIn w s ao n cap) (hg : (isW s.width && isZ s.size) = true) (hb : ¬ s.length < 0) (hc : ¬ 131072 < s.length) (hd : (n : Int) = s.length / s.size) (he : n <= 2048) (hf : nought s.width.toNat s.base = false) :
  Calls Tryz.prog 59 #[.agg (s.cells (.slice ao n cap)).toArray] w fun e w' => e = .returned (.bool false) ∧ Kept [] w w' := by
 have k1 := ka w (.cells (s.cells (.slice ao n cap)).toArray 26)
 have hA := SigAt.new w s (.slice ao n cap)
 obtain ⟨A, hAe⟩ := nm (w.heap.size)
 rw [hAe] at hA
 have HI := hide (hI.kept k1)
 have hn63 : n <= 9223372036854775807 := Nat.le_trans hI.le hI.max
 clear hI
 go_enter Tryz.func59, Tryz.ntmps59
 go_upto_region 1 with (fail)
 clear hAe
 have HK1 := hide k1
 clear k1
 generalize w.alloc (.cells (s.cells (.slice ao n cap)).toArray 26) = w1 at *
 have a0 := hA.cell (Sig.c0 _ _)
 have a1 := hA.cell (Sig.c1 _ _)
 have a2 := hA.cell (Sig.c2 _ _)
 have a5 := hA.cell (Sig.cv _ _)
 have HRB := hide hA.base
 have HA := hide hA
 clear hA
 have hil := idlen s.hb
 have HZ := hide (fun W => rsized_ok s.width s.size W)
 have hz2 : 16 <= s.size ∧ s.size <= 4096 := by rw [Bool.and_eq_true] at hg; exact Dlt.within_iff.1 hg.2
 have hw2 : 1 <= s.width ∧ s.width <= 32 := by rw [Bool.and_eq_true] at hg; exact Dlt.within_iff.1 hg.1
 have hWt0 : ∀ k : Nat, s.width = (k : Int) -> s.width.toNat = k := fun k hk => by omega
 obtain ⟨W, hWw⟩ := Int.eq_ofNat_of_zero_le (show 0 <= s.width by omega)
 have hnb := fun X => rnoughts_ok W s.base X (by omega) s.hb
 rw [hWt0 W hWw] at hf
 rw [hf] at hnb
 rw [hWw] at a0 hw2 HZ
 have HWW := hide hWw
 clear hWw hWt0 hf
 rw [HWW.out] at hg
 have hz0 := HZ.out
 rw [hg] at hz0
 clear HZ hg
 generalize s.size = xz at *
 generalize s.length = xl at *
 obtain ⟨Z, hZ⟩ := Int.eq_ofNat_of_zero_le (show 0 <= xz by omega)
 obtain ⟨N, hN⟩ := Int.eq_ofNat_of_zero_le (show 0 <= xl by omega)
 subst hZ
 subst hN
 obtain ⟨c, hcq⟩ := nm (N / Z)
 have hcn : c <= 131072 := by rw [<-hcq]; exact Nat.le_trans (Nat.div_le_self _ _) (by omega)
 have hdiv : (N : Int).tdiv (Z : Int) = (c : Int) := by rw [<-hcq, Int.ofNat_tdiv]
 have hcw : IntKind.i64.wrap (c : Int) = (c : Int) := wrap64 (by omega) (by omega)
 have hz9 : ((Z : Int) == 0) = false := by simp; omega
 have hzn : ¬ Z = 0 := by omega
 have hnc : n = c := by
  rw [<-Int.natCast_ediv, hcq] at hd
  omega
 subst hnc
 clear hd
 have HCQ := hide hcq
 clear hcq
 have he2 : (n : Int) <= 2048 := by omega
 refine th w1 fun h0 => ?_
 generalize World.drew w1 = v0 at h0  ⊢
 refine t1 0 (.pointer (some ⟨A, 0, none⟩)) h0 ?_
 simp only [zz]
 refine t2 1 (.int .i64 W) rfl h0 ?_ (fun w h => by have c := qc h a0; go_simp)
 simp only [zz]
 refine t1 2 (.pointer (some ⟨A, 1, none⟩)) h0 ?_
 simp only [zz]
 refine t2 3 (.int .i64 Z) rfl h0 ?_ (fun w h => by have c := qc h a1; go_simp)
 simp only [zz]
 refine rd 4 fun K hK => ?_
 go_simp
 refine (hz0 v0).mono ?_
 rintro e v1 ⟨rfl, hw⟩
 refine hK.out _ _ (by rw [hw]; exact h0) (fun h1 => ?_)
 clear hK K
 try simp only [zz]
 clear hw h0 hz0
 refine t1 5 (.bool false) h1 ?_
 simp only [zz]
 refine t1 6 (.bool false) h1 ?_
 simp only [zz]
 refine t1 7 (.pointer (some ⟨A, 2, none⟩)) h1 ?_
 simp only [zz]
 refine t2 8 (.int .i64 N) rfl h1 ?_ (fun w h => by have c := qc h a2; go_simp)
 simp only [zz]
 refine t1 9 (.bool false) h1 ?_
 simp only [zz]
 refine t1 10 (.bool false) h1 ?_
 simp only [zz]
 refine t1 11 (.bool false) h1 ?_
 simp only [zz]
 refine t1 12 (.pointer (some ⟨A, 2, none⟩)) h1 ?_
 simp only [zz]
 refine t2 13 (.int .i64 N) rfl h1 ?_ (fun w h => by have c := qc h a2; go_simp)
 simp only [zz]
 refine t1 14 (.bool false) h1 ?_
 simp only [zz]
 refine t1 15 (.bool false) h1 ?_
 simp only [zz]
 refine t1 16 (.bool false) h1 ?_
 simp only [zz]
 refine t1 17 (.pointer (some ⟨A, 35, none⟩)) h1 ?_
 simp only [zz]
 refine t2 18 (.slice ao n cap) rfl h1 ?_ (fun w h => by have c := qc h a5; go_simp)
 simp only [zz]
 refine t1 19 (.int .i64 n) h1 ?_
 simp only [zz]
 refine t1 20 (.pointer (some ⟨A, 2, none⟩)) h1 ?_
 simp only [zz]
 refine t2 21 (.int .i64 N) rfl h1 ?_ (fun w h => by have c := qc h a2; go_simp)
 simp only [zz]
 refine t1 22 (.pointer (some ⟨A, 1, none⟩)) h1 ?_
 simp only [zz]
 refine t2 23 (.int .i64 Z) rfl h1 ?_ (fun w h => by have c := qc h a1; go_simp)
 simp only [zz]
 refine t2 24 (.int .i64 n) rfl h1 ?_ (fun w hSw => by go_simp; try (rw [if_neg hzn]); try (rw [hcw]))
 simp only [zz]
 refine t1 25 (.bool false) h1 ?_
 simp only [zz]
 refine t1 26 (.bool false) h1 ?_
 simp only [zz]
 refine t1 27 (.bool false) h1 ?_
 simp only [zz]
 refine t1 28 (.pointer (some ⟨A, 35, none⟩)) h1 ?_
 simp only [zz]
 refine t2 29 (.slice ao n cap) rfl h1 ?_ (fun w h => by have c := qc h a5; go_simp)
 simp only [zz]
 refine t1 30 (.int .i64 n) h1 ?_
 simp only [zz]
 refine t1 31 (.bool false) h1 ?_
 simp only [zz]
 refine t1 32 (.bool false) h1 ?_
 simp only [zz]
 refine t1 33 (.bool false) h1 ?_
 simp only [zz]
 refine t1 34 (.pointer (some ⟨A, 3, none⟩)) h1 ?_
 simp only [zz]
 refine t4 35 (.agg (bys s.base).toArray) rfl (yieldsIf_load_mid (by rfl) _ _ rfl A 3 rfl (bys s.base) _ (fun W h j u hu => Kept.cellOf h (HRB.out j u hu) (by simp)) Tryz.underlying23 rfl hil) h1 ?_
 simp only [zz]
 refine t1 36 (.pointer (some ⟨A, 0, none⟩)) h1 ?_
 simp only [zz]
 refine t2 37 (.int .i64 W) rfl h1 ?_ (fun w h => by have c := qc h a0; go_simp)
 simp only [zz]
 refine rd 38 fun K hK => ?_
 go_simp
 refine (hnb v1).mono ?_
 rintro e v2 ⟨rfl, hq⟩
 refine hK.out _ _ (h1.tr hq) (fun h2 => ?_)
 clear hK K
 try simp only [zz]
 clear hq h1 hnb
 refine t1 39 (.bool true) h2 ?_
 simp only [zz]
 refine t1 40 (.bool true) h2 ?_
 simp only [zz]
 refine qd ?_
 have HKF := hide (HK1.out.tr h2)
 clear h2 a0 a1 a2 a5
 go_wp2
 go_ret
 exact ⟨rfl, HKF.out⟩
theorem rmay_tail (s : Sig) (ao : Option Addr) (n cap : Nat) (w : World) (hI : SigIn w s ao n cap) (hg : (isW s.width && isZ s.size) = true) (hb : ¬ s.length < 0) (hc : ¬ 131072 < s.length) (hd : (n : Int) = s.length / s.size) (he : n <= 2048) (hf : nought s.width.toNat s.base = true) :
  Calls Tryz.prog 59 #[.agg (s.cells (.slice ao n cap)).toArray] w fun e w' => e = .returned (.bool (s.blocks.all (okWk s.width.toNat))) ∧ Kept [] w w' := by
 have k1 := ka w (.cells (s.cells (.slice ao n cap)).toArray 26)
 have hA := SigAt.new w s (.slice ao n cap)
 obtain ⟨A, hAe⟩ := nm (w.heap.size)
 rw [hAe] at hA
 have HI := hide (hI.kept k1)
 have hn63 : n <= 9223372036854775807 := Nat.le_trans hI.le hI.max
 clear hI
 go_enter Tryz.func59, Tryz.ntmps59
 go_upto_region 1 with (fail)
 clear hAe
 have HK1 := hide k1
 clear k1
 generalize w.alloc (.cells (s.cells (.slice ao n cap)).toArray 26) = w1 at *
 have a0 := hA.cell (Sig.c0 _ _)
 have a1 := hA.cell (Sig.c1 _ _)
 have a2 := hA.cell (Sig.c2 _ _)
 have a5 := hA.cell (Sig.cv _ _)
 have HRB := hide hA.base
 have HA := hide hA
 clear hA
 have hil := idlen s.hb
 have HZ := hide (fun W => rsized_ok s.width s.size W)
 have hz2 : 16 <= s.size ∧ s.size <= 4096 := by rw [Bool.and_eq_true] at hg; exact Dlt.within_iff.1 hg.2
 have hw2 : 1 <= s.width ∧ s.width <= 32 := by rw [Bool.and_eq_true] at hg; exact Dlt.within_iff.1 hg.1
 have hWt0 : ∀ k : Nat, s.width = (k : Int) -> s.width.toNat = k := fun k hk => by omega
 obtain ⟨W, hWw⟩ := Int.eq_ofNat_of_zero_le (show 0 <= s.width by omega)
 have hnb := fun X => rnoughts_ok W s.base X (by omega) s.hb
 rw [hWt0 W hWw] at hf
 rw [hf] at hnb
 rw [hWw] at a0 hw2 HZ
 have HWW := hide hWw
 have HTN : Hid (s.width.toNat = W) := hWt0 W hWw
 clear hWw hWt0 hf
 rw [HWW.out] at hg
 have hz0 := HZ.out
 rw [hg] at hz0
 clear HZ hg
 generalize s.size = xz at *
 generalize s.length = xl at *
 obtain ⟨Z, hZ⟩ := Int.eq_ofNat_of_zero_le (show 0 <= xz by omega)
 obtain ⟨N, hN⟩ := Int.eq_ofNat_of_zero_le (show 0 <= xl by omega)
 subst hZ
 subst hN
 obtain ⟨c, hcq⟩ := nm (N / Z)
 have hcn : c <= 131072 := by rw [<-hcq]; exact Nat.le_trans (Nat.div_le_self _ _) (by omega)
 have hdiv : (N : Int).tdiv (Z : Int) = (c : Int) := by rw [<-hcq, Int.ofNat_tdiv]
 have hcw : IntKind.i64.wrap (c : Int) = (c : Int) := wrap64 (by omega) (by omega)
 have hz9 : ((Z : Int) == 0) = false := by simp; omega
 have hzn : ¬ Z = 0 := by omega
 have hnc : n = c := by
  rw [<-Int.natCast_ediv, hcq] at hd
  omega
 subst hnc
 clear hd
 have HCQ := hide hcq
 clear hcq
 have he2 : (n : Int) <= 2048 := by omega
 refine th w1 fun h0 => ?_
 generalize World.drew w1 = v0 at h0  ⊢
 refine t1 0 (.pointer (some ⟨A, 0, none⟩)) h0 ?_
 simp only [zz]
 refine t2 1 (.int .i64 W) rfl h0 ?_ (fun w h => by have c := qc h a0; go_simp)
 simp only [zz]
 refine t1 2 (.pointer (some ⟨A, 1, none⟩)) h0 ?_
 simp only [zz]
 refine t2 3 (.int .i64 Z) rfl h0 ?_ (fun w h => by have c := qc h a1; go_simp)
 simp only [zz]
 refine rd 4 fun K hK => ?_
 go_simp
 refine (hz0 v0).mono ?_
 rintro e v1 ⟨rfl, hw⟩
 refine hK.out _ _ (by rw [hw]; exact h0) (fun h1 => ?_)
 clear hK K
 try simp only [zz]
 clear hw h0 hz0
 refine t1 5 (.bool false) h1 ?_
 simp only [zz]
 refine t1 6 (.bool false) h1 ?_
 simp only [zz]
 refine t1 7 (.pointer (some ⟨A, 2, none⟩)) h1 ?_
 simp only [zz]
 refine t2 8 (.int .i64 N) rfl h1 ?_ (fun w h => by have c := qc h a2; go_simp)
 simp only [zz]
 refine t1 9 (.bool false) h1 ?_
 simp only [zz]
 refine t1 10 (.bool false) h1 ?_
 simp only [zz]
 refine t1 11 (.bool false) h1 ?_
 simp only [zz]
 refine t1 12 (.pointer (some ⟨A, 2, none⟩)) h1 ?_
 simp only [zz]
 refine t2 13 (.int .i64 N) rfl h1 ?_ (fun w h => by have c := qc h a2; go_simp)
 simp only [zz]
 refine t1 14 (.bool false) h1 ?_
 simp only [zz]
 refine t1 15 (.bool false) h1 ?_
 simp only [zz]
 refine t1 16 (.bool false) h1 ?_
 simp only [zz]
 refine t1 17 (.pointer (some ⟨A, 35, none⟩)) h1 ?_
 simp only [zz]
 refine t2 18 (.slice ao n cap) rfl h1 ?_ (fun w h => by have c := qc h a5; go_simp)
 simp only [zz]
 refine t1 19 (.int .i64 n) h1 ?_
 simp only [zz]
 refine t1 20 (.pointer (some ⟨A, 2, none⟩)) h1 ?_
 simp only [zz]
 refine t2 21 (.int .i64 N) rfl h1 ?_ (fun w h => by have c := qc h a2; go_simp)
 simp only [zz]
 refine t1 22 (.pointer (some ⟨A, 1, none⟩)) h1 ?_
 simp only [zz]
 refine t2 23 (.int .i64 Z) rfl h1 ?_ (fun w h => by have c := qc h a1; go_simp)
 simp only [zz]
 refine t2 24 (.int .i64 n) rfl h1 ?_ (fun w hSw => by go_simp; try (rw [if_neg hzn]); try (rw [hcw]))
 simp only [zz]
 refine t1 25 (.bool false) h1 ?_
 simp only [zz]
 refine t1 26 (.bool false) h1 ?_
 simp only [zz]
 refine t1 27 (.bool false) h1 ?_
 simp only [zz]
 refine t1 28 (.pointer (some ⟨A, 35, none⟩)) h1 ?_
 simp only [zz]
 refine t2 29 (.slice ao n cap) rfl h1 ?_ (fun w h => by have c := qc h a5; go_simp)
 simp only [zz]
 refine t1 30 (.int .i64 n) h1 ?_
 simp only [zz]
 refine t1 31 (.bool false) h1 ?_
 simp only [zz]
 refine t1 32 (.bool false) h1 ?_
 simp only [zz]
 refine t1 33 (.bool false) h1 ?_
 simp only [zz]
 refine t1 34 (.pointer (some ⟨A, 3, none⟩)) h1 ?_
 simp only [zz]
 refine t4 35 (.agg (bys s.base).toArray) rfl (yieldsIf_load_mid (by rfl) _ _ rfl A 3 rfl (bys s.base) _ (fun W h j u hu => Kept.cellOf h (HRB.out j u hu) (by simp)) Tryz.underlying23 rfl hil) h1 ?_
 simp only [zz]
 refine t1 36 (.pointer (some ⟨A, 0, none⟩)) h1 ?_
 simp only [zz]
 refine t2 37 (.int .i64 W) rfl h1 ?_ (fun w h => by have c := qc h a0; go_simp)
 simp only [zz]
 refine rd 38 fun K hK => ?_
 go_simp
 refine (hnb v1).mono ?_
 rintro e v2 ⟨rfl, hq⟩
 refine hK.out _ _ (h1.tr hq) (fun h2 => ?_)
 clear hK K
 try simp only [zz]
 clear hq h1 hnb
 refine t1 39 (.bool false) h2 ?_
 simp only [zz]
 refine t1 40 (.bool false) h2 ?_
 simp only [zz]
 refine qd ?_
 have HIN := hide h2
 clear h2 a1 a2
 have hzk := Tryz.zeroWeak
 go_wp2
 go_loopw [3] (fun x wr => ∃ k : Nat, k <= n ∧ x = .int .i64 k ∧ Hid (Kept [] w1 wr ∧ (s.blocks.take k).all (okWk W) = true)) (fun x wr => n - (intOf x).toNat)
 case atStart => exact ⟨0, Nat.zero_le _, rfl, ⟨HIN.out, by simp⟩⟩
 case round =>
  clear HIN
  obtain ⟨k, hk, rfl, HP⟩ := hrel
  have a5 := HP.out.1.cellOf a5 (by simp)
  have a0 := HP.out.1.cellOf a0 (by simp)
  by_cases hlt : k < n
  ·obtain ⟨ga, oa, rfl, hra⟩ := (HI.out.kept HP.out.1).at_ k (by rw [HI.out.len]; exact hlt)
   obtain ⟨e, he0⟩ := nm (s.blocks.getD k wk0)
   rw [he0] at hra
   have HST : Hid (okWk W e = true -> (s.blocks.take (k + 1)).all (okWk W) = true) := fun h => all_step (by rw [HI.out.len]; exact hlt) HP.out.2 (by rw [he0]; exact h)
   have HNO : Hid (okWk W e = false -> s.blocks.all (okWk W) = false) := fun h => by
    apply Bool.eq_false_iff.2
    intro hall
    have hm : e ∈ s.blocks := by rw [<-he0, List.getD_eq_getElem?_getD, List.getElem?_eq_getElem (by rw [HI.out.len]; exact hlt), Option.getD_some]; exact List.getElem_mem _
    rw [List.all_eq_true.1 hall e hm] at h
    cases h
   clear he0
   have hiw := Tryz.infoWk e
   have hiwA := Tryz.infoWkA e
   have haw := wk_all e
   have hzw := zeroK_size e
   have hnewz := heap_new wr (.cells zeroK 62)
   have kE : Kept [] wr ((wr.alloc (.cells zeroK 62)).setRow wr.heap.size e.cells.toArray) := withWk_kept wr e
   have hrow := row_rangeK (withWk_row wr e)
   have hrow : ((wr.alloc (.cells zeroK 62)).setRow wr.heap.size e.cells.toArray).rangeAt wr.heap.size 0 e.cells := hrow
   obtain ⟨E, hE⟩ := nm (wr.heap.size)
   rw [hE] at hnewz kE hrow
   go_upto_region 7 with (first
    | refine wpList_load_mid rfl 62 (.tmp 56) rfl ga (oa + k * 33) rfl e.cells _ hra Tryz.underlying62 rfl hiw ?_
    | refine wpList_store_rowTo rfl 62 (.tmp 4) (.tmp 57) rfl rfl E e.cells.toArray rfl rfl 62 zeroK hnewz hiwA hzw haw ?_)
   clear hE hiw hiwA haw hzw hnewz hra
   generalize (wr.alloc (.cells zeroK 62)).setRow E e.cells.toArray = we at kE hrow ⊢
   have c0 := hrow 0 _ e.su
   rw [Nat.zero_add] at c0
   have hid := wk_range hrow
   have hie := idlen e.hid
   have a0 := kE.cellOf a0 (by simp)
   have hnb := rnoughts_ok W e.id we (by omega) e.hid
   have HKE := hide (HP.out.1.tr kE)
   have HOK : Hid (okWk W e = (Dlt.within e.sum 0 4294967295 && nought W e.id)) := rfl
   have HIDN := hide hnb
   clear kE hrow HP hnb
   by_cases h1 : e.sum < 0
   ·have HF : Hid (s.blocks.all (okWk W) = false) := HNO.out (by rw [HOK.out, Dlt.within_no.2 (Or.inl h1)]; rfl)
    generalize e.sum = es at c0 h1
    clear HST HNO HOK HIDN hid hie
    go_wp2
    go_ret
    exact ⟨by rw [HTN.out, HF.out]; rfl, HK1.out.tr HKE.out⟩
   ·by_cases h2 : 4294967295 < e.sum
    ·have HF : Hid (s.blocks.all (okWk W) = false) := HNO.out (by rw [HOK.out, Dlt.within_no.2 (Or.inr h2)]; rfl)
     generalize e.sum = es at c0 h1 h2
     clear HST HNO HOK HIDN hid hie
     go_wp2
     go_ret
     exact ⟨by rw [HTN.out, HF.out]; rfl, HK1.out.tr HKE.out⟩
    ·have hwi : Dlt.within e.sum 0 4294967295 = true := Dlt.within_iff.2 (by omega)
     rw [hwi, Bool.true_and] at HOK
     have hnb := HIDN.out
     clear HIDN hwi
     generalize hes : e.sum = es at c0 h1 h2
     clear hes
     cases hno : nought W e.id with
     | false =>
      have HF : Hid (s.blocks.all (okWk W) = false) := HNO.out (by rw [HOK.out, hno])
      rw [hno] at hnb
      clear HST HNO HOK hno
      go_wp2_with (first
       | refine wpList_load_midW 23 (.tmp 67) rfl E 1 rfl (bys e.id) _ hid Tryz.underlying23 rfl hie (by kernel_rfl) ?_
       | (go_at_call 97; refine hnb.mono ?_; rintro r wn ⟨rfl, hkn⟩; have HN := hide hkn; clear hnb hkn))
      go_ret
      exact ⟨by rw [HTN.out, HF.out]; rfl, (HK1.out.tr HKE.out).tr HN.out⟩
     | true =>
      have HF := hide (HST.out (by rw [HOK.out, hno]))
      rw [hno] at hnb
      clear HST HNO HOK hno
      go_wp2_with (first
       | refine wpList_load_midW 23 (.tmp 67) rfl E 1 rfl (bys e.id) _ hid Tryz.underlying23 rfl hie (by kernel_rfl) ?_
       | (go_at_call 97; refine hnb.mono ?_; rintro r wn ⟨rfl, hkn⟩; have HN := hide hkn; clear hnb hkn))
      go_roundw
      case rel => exact ⟨k + 1, by omega, by go_num, ⟨HKE.out.tr HN.out, HF.out⟩⟩
      case measure => simp [intOf]; omega
  ·have HF : Hid (s.blocks.all (okWk s.width.toNat) = true) := by
    have h := HP.out.2
    rw [List.take_of_length_le (by rw [HI.out.len]; omega)] at h
    show _ = _
    rw [HTN.out]; exact h
   have HKF := hide (HK1.out.tr HP.out.1)
   clear HP
   go_wp2
   go_ret
   exact ⟨by rw [HF.out]; rfl, HKF.out⟩
theorem rmay_ok (s : Sig) (ao : Option Addr) (n cap : Nat) (w : World) (hI : SigIn w s ao n cap) :
  Calls Tryz.prog 59 #[.agg (s.cells (.slice ao n cap)).toArray] w fun e w' => e = .returned (.bool (may s)) ∧ Kept [] w w' := by
 have hl := hI.len
 cases hg : (isW s.width && isZ s.size) with
 | false =>
  have e : may s = false := by unfold may; rw [hg]; simp
  rw [e]; exact rmay_f1 s ao n cap w hI hg
 | true =>
  by_cases h1 : s.length < 0
  ·have e : may s = false := by unfold may; rw [hg, Dlt.within_no.2 (Or.inl h1)]; simp
   rw [e]; exact rmay_f2 s ao n cap w hI hg h1
  ·by_cases h2 : 131072 < s.length
   ·have e : may s = false := by unfold may; rw [hg, Dlt.within_no.2 (Or.inr h2)]; simp
    rw [e]; exact rmay_f3 s ao n cap w hI hg h1 h2
   ·by_cases h3 : (n : Int) = s.length / s.size
    ·by_cases h4 : 2048 < n
     ·have e : may s = false := by unfold may; rw [decide_eq_false (p := s.blocks.length <= 2048) (by omega)]; simp
      rw [e]; exact rmay_f5 s ao n cap w hI hg h1 h2 h3 h4
     ·cases h5 : nought s.width.toNat s.base with
      | false =>
       have e : may s = false := by unfold may; rw [h5]; simp
       rw [e]; exact rmay_f6 s ao n cap w hI hg h1 h2 h3 (by omega) h5
      | true =>
       have e : may s = s.blocks.all (okWk s.width.toNat) := by
        unfold may
        rw [hg, h5, Dlt.within_iff.2 (by omega), decide_eq_true (p := s.blocks.length <= 2048) (by omega), decide_eq_true (p := (s.blocks.length : Int) = s.length / s.size) (by rw [hl]; exact h3)]
        simp
       rw [e]; exact rmay_tail s ao n cap w hI hg h1 h2 h3 (by omega) h5
    ·have e : may s = false := by unfold may; rw [decide_eq_false (p := (s.blocks.length : Int) = s.length / s.size) (by rw [hl]; exact h3)]; simp
     rw [e]; exact rmay_f4 s ao n cap w hI hg h1 h2 h3
end Go.Proofs.YtmklodligplbaabGreat
