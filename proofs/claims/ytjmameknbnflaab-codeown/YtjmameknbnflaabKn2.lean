/-
  Contract: freightlaw1.known: the answers that the document fixes.
-/
import Derived.Test.YtjmameknbnflaabKn1
import Derived.Test.YtjmameknbnflaabWr3
import Derived.Test.YtjmameknbnflaabWr4
import Derived.Test.YtjmameknbnflaabWr5
import Derived.Test.YtjmameknbnflaabRd5
import Derived.Test.YtjmameknbnflaabRd6
import Derived.Test.YtjmameknbnflaabSum
import Derived.Lib.SlBytesConst
namespace Go.Proofs.Ytjmameknbnflaab
open Go.RowKit
set_option linter.unusedVariables false
set_option linter.unusedSimpArgs false

/-- A new Writer's cells. -/
def zeroW : Array Value := (wrow 0 0 none (List.replicate 64 0) 0).toArray
theorem Try.zeroWriter (W : World) : (zeroValue 31).run Try.prog W = .ok (.agg zeroW) W := by kernel_rfl

/-- A new Writer. -/
theorem wr_zero (w : World) : Wr (w.alloc (.cells zeroW 31)) w.heap.size [] [] := by
  refine ⟨⟨none, List.replicate 64 0, ⟨?_, by simp⟩, by simp, .nil⟩, by simp⟩
  rw [heap_alloc_new]
  rfl

theorem wnumber_i {b : Nat} {bs : List Nat} {ys : List UInt8} {w : World} (hW : Wr w b bs ys) (v : Int) (hv0 : 0 ≤ v) (hv : v ≤ 2147483647) (hsum : ys.length + 5 ≤ 140737488355328) :
    Calls Try.prog 11 #[.pointer (some ⟨b, 0, none⟩), .int .i64 v] w fun e w' => e = .returned (.tuple #[]) ∧ Wrote w w' b bs (ys ++ Pure.enc v.toNat) := by
  obtain ⟨n, rfl⟩ := Int.eq_ofNat_of_zero_le hv0
  exact wnumber_ok hW n (by omega) hsum
theorem wfixed_i {b : Nat} {bs : List Nat} {ys : List UInt8} {w : World} (hW : Wr w b bs ys) (v n : Int) (hv0 : 0 ≤ v) (hn1 : 1 ≤ n) (hn4 : n ≤ 4) (hv : v.toNat < 256 ^ n.toNat) (hsum : ys.length + 4 ≤ 140737488355328) :
    Calls Try.prog 21 #[.pointer (some ⟨b, 0, none⟩), .int .i64 v, .int .i64 n] w fun e w' => e = .returned (.tuple #[]) ∧ Wrote w w' b bs (ys ++ Pure.fix v.toNat n.toNat) := by
  obtain ⟨m, rfl⟩ := Int.eq_ofNat_of_zero_le hv0
  obtain ⟨k, rfl⟩ := Int.eq_ofNat_of_zero_le (show 0 ≤ n by omega)
  exact wfixed_ok hW m k (by omega) (by omega) (by simpa using hv) hsum

theorem sl_alloc (w : World) (xs : List UInt8) (t : TypeId) (fr : Nat × Nat) : Sl (w.alloc (.cells (bys xs).toArray t fr)) (some ⟨w.heap.size, 0, none⟩) xs := by
  refine Sl.of fun i hi => ?_
  rw [Nat.zero_add, World.cell?_alloc_mark]
  simpa using bys_at hi

set_option maxHeartbeats 2000000 in
set_option maxRecDepth 100000 in
theorem known_any (w : World) :
    Calls Try.prog 12 #[] w fun e w' => e = .returned (.bool true) ∧ Kept [] w w' := by
  have hzv := Try.zeroWriter
  have kc := fun (w : World) (C : Array Value) (n c : Nat) => Lib.run_convert_bytes_const (P := Try.prog) w 32 5 C n c Try.underlying32 Try.underlying5
  go_enter Try.func12, Try.ntmps12
  go_wp2_with (fail)
  have hz := wr_zero w
  have hk0 : Kept [] w (w.alloc (.cells zeroW 31)) := (Kept.refl [] w).alloc _
  generalize w.alloc _ = w0 at hz hk0 ⊢
  refine (wnumber_i hz 300 (by omega) (by omega) (by simp)).mono ?_
  rintro e w1 ⟨rfl, bs1, hw1, hk1, hs1⟩
  go_wp2_with (fail)
  refine (wfixed_i hw1 258 2 (by omega) (by omega) (by omega) (by decide) (by simp [Pure.enc_more, Pure.enc_small])).mono ?_
  rintro e w2 ⟨rfl, bs2, hw2, hk2, hs2⟩
  clear hw1 hz
  have e2 : [] ++ Pure.enc (Int.toNat 300) ++ Pure.fix (Int.toNat 258) (Int.toNat 2) = [172, 2, 1, 2] := by
    rw [show Int.toNat 300 = 300 from rfl, Pure.enc_more (by omega), Pure.enc_small (by omega)]; rfl
  rw [e2] at hw2
  have hk02 : Kept [] w w2 := (hk0.trans hk1 (by simp)).trans hk2 (by simp)
  clear e2 hk0 hk1 hk2 hs1 hs2
  have hb0 : w.heap.size < w2.heap.size := hw2.lt
  go_wp2_with (fail)
  refine (wtext_ok (hw2.alloc _) (some ⟨w2.heap.size, 0, none⟩) 2 2 [97, 98] rfl (sl_alloc w2 [97, 98] 5 (2, 3)) (by rintro a ⟨⟩; simp; omega) (by simp) (by simp) (by simp)).mono ?_
  rintro e w3 ⟨rfl, bs3, hw3, hk3, hs3⟩
  have e3 : [172, 2, 1, 2] ++ Pure.enc ([97, 98] : List UInt8).length ++ [97, 98] = [172, 2, 1, 2, 2, 97, 98] := by
    rw [show ([97, 98] : List UInt8).length = 2 from rfl, Pure.enc_small (by omega)]; rfl
  rw [e3] at hw3
  have hk03 : Kept [] w w3 := (hk02.alloc _).trans hk3 (by simp)
  have hb3 : w.heap.size < w3.heap.size := hw3.lt
  clear e3 hk02 hk3 hs3 hw2 hb0
  go_wp2_with (fail)
  refine (wraw_ok (hw3.alloc _) (some ⟨w3.heap.size, 0, none⟩) 1 1 [9] rfl (sl_alloc w3 [9] 5 (0, 0)) (by rintro a ⟨⟩; simp; omega) (by simp) (by simp)).mono ?_
  rintro e w4 ⟨rfl, bs4, hw4, hk4, hs4⟩
  have hk04 : Kept [] w w4 := (hk03.alloc _).trans hk4 (by simp)
  clear hk03 hk4 hs4 hw3 hb3
  go_wp2_with (fail)
  refine (wdata_ok hw4 (by simp)).mono ?_
  rintro e w5 ⟨ao5, cap5, rfl, hfr5, hnn5, hk5⟩
  have hk05 : Kept [] w w5 := hk04.trans hk5 (by simp)
  have hsl5 := hfr5.1
  have hao5 : ∀ a, ao5 = some a → a.block < w5.heap.size := fun a ha => (hfr5.2.2.2 a ha).2.1
  clear hw4 hk04 hk5 hnn5 hfr5
  go_wp2_with (fail)
  refine (read_any (some ⟨w5.heap.size, 0, none⟩) 9 9 [172, 2, 1, 2, 2, 97, 98, 9, 128] _ rfl (by simp) (sl_alloc w5 [172, 2, 1, 2, 2, 97, 98, 9, 128] 5 (0, 0)) (by simp)).mono ?_
  rintro e w6 ⟨b6, ao6, cap6, rfl, hb6, hal6, _, hrd6, hk6⟩
  have hk06 : Kept [] w w6 := (hk05.alloc _).trans hk6 (by simp)
  have hsl6 : Sl w6 ao5 [172, 2, 1, 2, 2, 97, 98, 9] := (hsl5.kept ((Kept.refl [] w5).alloc _) (by simp)).kept hk6 (by simp)
  have hb6' : ¬ b6 < w.heap.size := by have := hk05.size; simp at hb6; omega
  clear hk05 hk6 hsl5 hal6 hb6 hao5
  go_wp2_with (fail)
  refine (num_any _ _).mono ?_
  rintro e w' ⟨rfl, hw⟩
  obtain rfl := hw.symm
  go_wp2_with (fail)
  refine (bytes_any ao5 (some ⟨w6.heap.size, 0, none⟩) 8 cap5 8 8 [172, 2, 1, 2, 2, 97, 98, 9] [172, 2, 1, 2, 2, 97, 98, 9] _ rfl rfl (by omega) (hsl6.kept ((Kept.refl [] w6).alloc _) (by simp)) (sl_alloc w6 [172, 2, 1, 2, 2, 97, 98, 9] 5 (0, 0))).mono ?_
  rintro e w' ⟨rfl, n7, rfl⟩
  have hk07 := fun (o : Obj) (n : Nat) => (hk06.alloc o).drewN n
  have hrd7 := fun (o : Obj) (n : Nat) => (hrd6.kept ((Kept.refl [] w6).alloc o) (by simp) (by simp)).drewN n
  clear hk06 hrd6 hsl6
  have hk07' := hk07 (.cells (bys [172, 2, 1, 2, 2, 97, 98, 9]).toArray 5) n7
  have hrd7' := hrd7 (.cells (bys [172, 2, 1, 2, 2, 97, 98, 9]).toArray 5) n7
  clear hk07 hrd7
  generalize (w6.alloc _).drewN n7 = w7 at hk07' hrd7' ⊢
  go_wp2_with (fail)
  refine (rnumber_as hrd7' (v := 300) (k := 2) (by decide)).mono ?_
  rintro e w8 ⟨rfl, hk8, hrd8⟩
  have hk08 : Kept [] w w8 := hk07'.trans hk8 (by simpa using hb6')
  clear hk8 hk07' hrd7'
  go_wp2_with (fail)
  refine (rfixed_ok hrd8 2 (by omega) (by omega) (by decide)).mono ?_
  rintro e w9 ⟨rfl, hk9, hrd9⟩
  have hk09 : Kept [] w w9 := hk08.trans hk9 (by simpa using hb6')
  have e9 : Pure.be ((List.drop (0 + 2) ([172, 2, 1, 2, 2, 97, 98, 9, 128] : List UInt8)).take 2) = 258 := by decide
  rw [e9]
  clear hk9 hk08 hrd8 e9
  go_wp2_with (fail)
  refine (text_ok hrd9 2 (by omega) (v := 2) (k := 1) (by decide) (by omega) (by decide)).mono ?_
  rintro e w10 ⟨ao10, cap10, rfl, hfr10, hk10, hrd10⟩
  have hk010 : Kept [] w w10 := hk09.trans hk10 (by simpa using hb6')
  have hsl10 : Sl w10 ao10 [97, 98] := hfr10.1
  have hao10 : ∀ a, ao10 = some a → a.block ≠ b6 := fun a ha => by have := (hfr10.2.2.2 a ha).1; have := hrd9.lt; omega
  clear hk10 hk09 hfr10 hrd9
  go_wp2_with (fail)
  refine (raw_ok hrd10 1 (by decide)).mono ?_
  rintro e w11 ⟨ao11, cap11, rfl, hfr11, hk11, hrd11⟩
  have hk011 : Kept [] w w11 := hk010.trans hk11 (by simpa using hb6')
  have hsl11 : Sl w11 ao11 [9] := hfr11.1
  have hsl10b : Sl w11 ao10 [97, 98] := hsl10.kept hk11 (fun _ a ha => by simpa using hao10 a ha)
  have hao11 : ∀ a, ao11 = some a → a.block ≠ b6 := fun a ha => by have := (hfr11.2.2.2 a ha).1; have := hrd10.lt; omega
  clear hk11 hk010 hfr11 hrd10 hsl10
  go_wp2_with (fail)
  refine (left_ok hrd11).mono ?_
  rintro e w' ⟨rfl, n12, rfl⟩
  have hl12 : ((([172, 2, 1, 2, 2, 97, 98, 9, 128] : List UInt8).length - (0 + 2 + 2 + 1 + 2 + 1) : Nat) : Int) = 1 := by decide
  rw [hl12]
  clear hl12
  have hrd12 := hrd11.drewN n12
  have hk012 := hk011.drewN n12
  have hsl11b := hsl11.drewN n12
  have hsl10c := hsl10b.drewN n12
  clear hrd11 hk011 hsl11 hsl10b
  generalize w11.drewN n12 = w12 at hrd12 hk012 hsl11b hsl10c ⊢
  go_wp2_with (fail)
  refine (rnumber_no hrd12 (v := 0) (k := 0) (c := 10) (by decide) (by omega)).mono ?_
  rintro e w13 ⟨rfl, hk13, hrd13⟩
  have hk013 : Kept [] w w13 := hk012.trans hk13 (by simpa using hb6')
  have hs11 : Sl w13 ao11 [9] := hsl11b.kept hk13 (fun _ a ha => by simpa using hao11 a ha)
  have hs10 : Sl w13 ao10 [97, 98] := hsl10c.kept hk13 (fun _ a ha => by simpa using hao10 a ha)
  clear hk13 hk012 hsl11b hsl10c hrd12
  go_wp2_with (fail)
  refine (err_any hrd13).mono ?_
  rintro e w' ⟨rfl, n14, rfl⟩
  have hk014 := hk013.drewN n14
  have hs11b := hs11.drewN n14
  have hs10b := hs10.drewN n14
  clear hrd13 hk013 hs11 hs10
  generalize w13.drewN n14 = w14 at hk014 hs11b hs10b ⊢
  go_wp2_with (fail)
  refine (bytes_any ao10 (some ⟨w14.heap.size, 0, none⟩) 2 cap10 2 2 [97, 98] [97, 98] _ rfl rfl (by omega) (hs10b.kept ((Kept.refl [] w14).alloc _) (by simp)) (sl_alloc w14 [97, 98] 5 (2, 3))).mono ?_
  rintro e w' ⟨rfl, n15, rfl⟩
  have hk015 := (hk014.alloc (.cells (bys [97, 98]).toArray 5 (2, 3))).drewN n15
  have hs11c := (hs11b.kept ((Kept.refl [] w14).alloc (.cells (bys [97, 98]).toArray 5 (2, 3))) (by simp)).drewN n15
  clear hk014 hs11b hs10b
  generalize (w14.alloc _).drewN n15 = w15 at hk015 hs11c ⊢
  go_wp2_with (fail)
  refine (bytes_any ao11 (some ⟨w15.heap.size, 0, none⟩) 1 cap11 1 1 [9] [9] _ rfl rfl (by omega) (hs11c.kept ((Kept.refl [] w15).alloc _) (by simp)) (sl_alloc w15 [9] 5 (0, 0))).mono ?_
  rintro e w' ⟨rfl, n16, rfl⟩
  have hk016 := (hk015.alloc (.cells (bys [9]).toArray 5)).drewN n16
  clear hk015 hs11c
  generalize (w15.alloc _).drewN n16 = w16 at hk016 ⊢
  go_wp2_with (fail)
  refine (num_any _ _).mono ?_
  rintro e w' ⟨rfl, hw⟩
  obtain rfl := hw.symm
  go_wp2_with (fail)
  refine (sum_n (some ⟨w16.heap.size, 0, none⟩) 6 6 [112, 97, 108, 108, 101, 116] _ rfl (by simp) (sl_alloc w16 [112, 97, 108, 108, 101, 116] 5 (6, 7))).mono ?_
  rintro e w17 ⟨rfl, hb17⟩
  have hk017 : Kept [] w w17 := (hk016.alloc _).trans (Kept.of_below hb17) (by simp)
  have e17 : (Pure.sum [112, 97, 108, 108, 101, 116] : Int) = 1634575015 := by decide +kernel
  rw [e17]
  clear e17 hk016 hb17
  go_wp2
  go_ret
  exact ⟨rfl, hk017⟩

end Go.Proofs.Ytjmameknbnflaab
