import Derived.Test.YteckiednnaianaaGreatReqp
import Derived.Test.YteckiednnaianaaGreatRsqp
import Derived.Test.YteckiednnaianaaGreatRemp
import Derived.Test.YteckiednnaianaaGreatHpp
import Derived.ProofKit
import Derived.OpenShut
import Derived.Deep.Slices
import Derived.Lib.SmallJoins
import Derived.Deep.MidRow
namespace Go.Proofs.YteckiednnaianaaGreat
section
open Go.RowKit Dsk
set_option linter.unusedVariables false
set_option linter.unusedSimpArgs false
def stD : List Ro := [⟨some 3, [0], []⟩, ⟨some 4, [3], [0]⟩, ⟨some 5, [4], [1]⟩, ⟨some 6, [5], [2]⟩, ⟨some 7, [6], [3]⟩, ⟨some 8, [0], []⟩, ⟨some 9, [8], [5]⟩, ⟨some 10, [9], [6]⟩, ⟨some 11, [10], [7]⟩, ⟨some 12, [11], [8, 4]⟩, ⟨some 13, [7, 12], [4, 9]⟩, ⟨some 14, [13], [10, 9]⟩, ⟨some 15, [0, 14], [11]⟩, ⟨some 16, [15, 14], [12, 11]⟩, ⟨some 17, [16, 14], [13, 11]⟩, ⟨some 18, [17, 14], [14, 11]⟩, ⟨some 19, [18, 14], [15, 11, 11]⟩, ⟨some 20, [0, 14], [11]⟩, ⟨some 21, [20, 14], [17, 11]⟩, ⟨some 22, [21, 14], [18, 11]⟩, ⟨some 23, [22, 14], [19, 11]⟩, ⟨some 24, [23, 14], [20, 16, 11]⟩, ⟨some 25, [19, 24, 14], [16, 21, 11]⟩, ⟨some 26, [14, 25], [11, 22]⟩, ⟨some 27, [26], [23, 21]⟩, ⟨some 28, [0, 27], [24]⟩, ⟨some 29, [28, 27], [25, 24]⟩, ⟨some 30, [29, 27], [26, 24]⟩, ⟨some 31, [30, 27], [27, 24]⟩, ⟨some 32, [31, 27], [28, 24, 24]⟩, ⟨some 33, [0, 27], [24]⟩, ⟨some 34, [33, 27], [30, 24]⟩, ⟨some 35, [34, 27], [31, 24]⟩, ⟨some 36, [35, 27], [32, 24]⟩, ⟨some 37, [36, 27], [33, 29, 24]⟩, ⟨some 38, [32, 37, 27], [29, 34, 24]⟩, ⟨some 39, [27, 38], [24, 35]⟩, ⟨some 40, [39], [36, 34]⟩, ⟨some 41, [0, 40], [37]⟩, ⟨some 42, [41, 40], [38, 37]⟩, ⟨some 43, [42, 40], [39, 37]⟩, ⟨some 44, [43, 40], [40, 37]⟩, ⟨some 45, [44, 40], [41, 37, 37]⟩, ⟨some 46, [0, 40], [37]⟩, ⟨some 47, [46, 40], [43, 37]⟩, ⟨some 48, [47, 40], [44, 37]⟩, ⟨some 49, [48, 40], [45, 37]⟩, ⟨some 50, [49, 40], [46, 42, 37]⟩, ⟨some 51, [45, 50, 40], [42, 47, 37]⟩, ⟨some 52, [40, 51], [37, 48]⟩, ⟨some 53, [52], [49, 47]⟩, ⟨some 54, [0, 53], [50]⟩, ⟨some 55, [54, 53], [51, 50]⟩, ⟨some 56, [55, 53], [52, 50]⟩, ⟨some 57, [56, 53], [53, 50]⟩, ⟨some 58, [57, 53], [54, 50, 50]⟩, ⟨some 59, [0, 53], [50]⟩, ⟨some 60, [59, 53], [56, 50]⟩, ⟨some 61, [60, 53], [57, 50]⟩, ⟨some 62, [61, 53], [58, 50]⟩, ⟨some 63, [62, 53], [59, 55, 50]⟩, ⟨some 64, [58, 63, 53], [55, 60, 60, 50]⟩, ⟨some 65, [53, 64], [50, 61]⟩, ⟨some 66, [65], [62, 61]⟩, ⟨some 67, [0, 66], [63]⟩, ⟨some 68, [67, 66], [64, 63]⟩, ⟨some 69, [68, 66], [65, 63]⟩, ⟨some 70, [69, 66], [66, 63]⟩, ⟨some 71, [70, 66], [67, 63, 63]⟩, ⟨some 72, [0, 66], [63]⟩, ⟨some 73, [72, 66], [69, 63]⟩, ⟨some 74, [73, 66], [70, 63]⟩, ⟨some 75, [74, 66], [71, 63]⟩, ⟨some 76, [75, 66], [72, 68, 63]⟩, ⟨some 77, [71, 76, 66], [68, 73, 73, 63]⟩, ⟨some 78, [66, 77], [63, 74]⟩, ⟨some 79, [78], [75, 74]⟩, ⟨some 80, [0, 79], [76]⟩, ⟨some 81, [80, 79], [77, 76]⟩, ⟨some 82, [81, 79], [78, 76]⟩, ⟨some 83, [82, 79], [79, 76]⟩, ⟨some 84, [83, 79], [80, 76, 76]⟩, ⟨some 85, [0, 79], [76]⟩, ⟨some 86, [85, 79], [82, 76]⟩, ⟨some 87, [86, 79], [83, 76]⟩, ⟨some 88, [87, 79], [84, 76]⟩, ⟨some 89, [88, 79], [85, 81, 76]⟩, ⟨some 90, [84, 89, 79], [81, 86, 86, 76]⟩, ⟨some 91, [79, 90], [76, 87]⟩, ⟨some 92, [91], [88, 87]⟩, ⟨some 93, [0, 92], [89]⟩, ⟨some 94, [93, 92], [90, 89]⟩, ⟨some 95, [94, 92], [91, 89]⟩, ⟨some 96, [95, 92], [92, 89]⟩, ⟨some 97, [96, 92], [93, 89, 89]⟩, ⟨some 98, [0, 92], [89]⟩, ⟨some 99, [98, 92], [95, 89]⟩, ⟨some 100, [99, 92], [96, 89]⟩, ⟨some 101, [100, 92], [97, 89]⟩, ⟨some 102, [101, 92], [98, 94, 89]⟩, ⟨some 103, [97, 102, 92], [94, 99, 99, 89]⟩, ⟨some 104, [92, 103], [89, 100]⟩, ⟨some 2, [104], [101, 100, 0, 1, 2, 3, 4, 5, 6, 7, 8, 9, 10, 11, 12, 13, 14, 15, 16, 17, 18, 19, 20, 21, 22, 23, 24, 25, 26, 27, 28, 29, 30, 31, 32, 33, 34, 35, 36, 37, 38, 39, 40, 41, 42, 43, 44, 45, 46, 47, 48, 49, 50, 51, 52, 53, 54, 55, 56, 57, 58, 59, 60, 61, 62, 63, 64, 65, 66, 67, 68, 69, 70, 71, 72, 73, 74, 75, 76, 77, 78, 79, 80, 81, 82, 83, 84, 85, 86, 87, 88, 89, 90, 91, 92, 93, 94, 95, 96, 97, 98, 99, 100, 101]⟩]
set_option maxRecDepth 100000 in
theorem stChk : chkq stD [(false, 0), (false, 1), (false, 2), (false, 3), (false, 5), (false, 6), (false, 7), (false, 8), (true, 4), (true, 9), (false, 10), (false, 11), (false, 12), (false, 13), (false, 14), (false, 15), (false, 17), (false, 18), (false, 19), (false, 20), (true, 16), (true, 21), (false, 22), (false, 23), (false, 24), (false, 25), (false, 26), (false, 27), (false, 28), (false, 30), (false, 31), (false, 32), (false, 33), (true, 29), (true, 34), (false, 35), (false, 36), (false, 37), (false, 38), (false, 39), (false, 40), (false, 41), (false, 43), (false, 44), (false, 45), (false, 46), (true, 42), (true, 47), (false, 48), (false, 49), (false, 50), (false, 51), (false, 52), (false, 53), (false, 54), (false, 56), (false, 57), (false, 58), (false, 59), (true, 55), (true, 60), (true, 61), (false, 62), (false, 63), (false, 64), (false, 65), (false, 66), (false, 67), (false, 69), (false, 70), (false, 71), (false, 72), (true, 68), (true, 73), (true, 74), (false, 75), (false, 76), (false, 77), (false, 78), (false, 79), (false, 80), (false, 82), (false, 83), (false, 84), (false, 85), (true, 81), (true, 86), (true, 87), (false, 88), (false, 89), (false, 90), (false, 91), (false, 92), (false, 93), (false, 95), (false, 96), (false, 97), (false, 98), (true, 94), (true, 99), (true, 100), (false, 101), (false, 102)] 0 = true := by kernel_rfl
set_option maxHeartbeats 6400000 in
set_option maxRecDepth 100000 in
theorem stands_ok {X : Nat → Prop} {w : World} {P p q D : Nat} {bo : Option Nat} {R : List UInt8} {S : Ds} {N : Nat} (h : Pq X w P p q D bo R S N S N) (hN : N ≤ 268435456) :
  Calls Tryz.prog 11 #[.pointer (some ⟨P, 0, none⟩)] w fun e w' => e = .returned (.bool true) ∧ Kept [] w w' := by
 have HFB := hide (files_bd h.tw.bd1 h.tw.wf1)
 have HSB : Hid (S.safeFiles.length ≤ N ∧ ∀ f ∈ S.safeFiles, f.2.length ≤ N) := hide (by
  have hs := safes_bd h.tw.bd1 h.tw.wf1
  refine ⟨by simpa [Ds.safeFiles] using hs.1, fun f hf => ?_⟩
  obtain ⟨x, hx, rfl⟩ := List.mem_map.1 hf
  exact hs.2 x hx)
 have HRB : Hid (S.reads.length ≤ N) := hide h.tw.bd1.reads
 have HLB := hide (list_small h.tw.bd1 h.tw.wf1 [])
 have HQ := hide h
 have HR : Hid (Rp P p q w) := hide ⟨h.cell 0 _ rfl, h.cell 1 _ rfl⟩
 clear h
 go_enter Tryz.func11, Tryz.ntmps11
 go_upto_region 1 with (fail)
 have HQ0 : Hid (Pq X w.drew P p q D bo R S N S N) := hide (HQ.out.kept ((Kept.refl [] w).drew))
 have HK0 : Hid (Kept [] w w.drew) := hide ((Kept.refl [] w).drew)
 clear HQ
 dsimp only [List.append]
 refine wp_region_seq (S := (Rp P p q)) (D := stD) [(false, 0), (false, 1), (false, 2), (false, 3), (false, 5), (false, 6), (false, 7), (false, 8), (true, 4), (true, 9), (false, 10), (false, 11), (false, 12), (false, 13), (false, 14), (false, 15), (false, 17), (false, 18), (false, 19), (false, 20), (true, 16), (true, 21), (false, 22), (false, 23), (false, 24), (false, 25), (false, 26), (false, 27), (false, 28), (false, 30), (false, 31), (false, 32), (false, 33), (true, 29), (true, 34), (false, 35), (false, 36), (false, 37), (false, 38), (false, 39), (false, 40), (false, 41), (false, 43), (false, 44), (false, 45), (false, 46), (true, 42), (true, 47), (false, 48), (false, 49), (false, 50), (false, 51), (false, 52), (false, 53), (false, 54), (false, 56), (false, 57), (false, 58), (false, 59), (true, 55), (true, 60), (true, 61), (false, 62), (false, 63), (false, 64), (false, 65), (false, 66), (false, 67), (false, 69), (false, 70), (false, 71), (false, 72), (true, 68), (true, 73), (true, 74), (false, 75), (false, 76), (false, 77), (false, 78), (false, 79), (false, 80), (false, 82), (false, 83), (false, 84), (false, 85), (true, 81), (true, 86), (true, 87), (false, 88), (false, 89), (false, 90), (false, 91), (false, 92), (false, 93), (false, 95), (false, 96), (false, 97), (false, 98), (true, 94), (true, 99), (true, 100), (false, 101), (false, 102)] (by kernel_rfl) (by kernel_rfl) (by kernel_rfl) stChk (by kernel_rfl) (HR.out.kept ((Kept.refl [] w).drew)) (fun h0 => ?_)
 generalize World.drew w = v0 at h0 HQ0 HK0 ⊢
 refine seqH_take (i := 0) (v := .pointer (some ⟨P, 0, none⟩)) (d := some 3) rfl (by kernel_rfl) (fun _ _ _ h => h) (Or.inl ⟨by kernel_rfl, fun w hSw => by go_simp⟩) ?_
 try simp only [z4, z5, z6, z7, z8]
 refine seqH_take (i := 1) (v := .pointer (some ⟨P, 0, none⟩)) (d := some 4) rfl (by kernel_rfl) (fun _ _ _ h => h) (Or.inl ⟨by kernel_rfl, fun w hSw => by go_simp⟩) ?_
 try simp only [z4, z5, z6, z7, z8]
 refine seqH_take (i := 2) (v := .pointer (some ⟨P, 0, none⟩)) (d := some 5) rfl (by kernel_rfl) (fun _ _ _ h => h) (Or.inl ⟨by kernel_rfl, fun w hSw => by go_simp⟩) ?_
 try simp only [z4, z5, z6, z7, z8]
 refine seqH_take (i := 3) (v := .pointer (some ⟨p, 0, none⟩)) (d := some 6) rfl (by kernel_rfl) (fun _ _ _ h => h) (Or.inl ⟨by kernel_rfl, fun w hSw => by have c0 := hSw.p0; go_simp⟩) ?_
 try simp only [z4, z5, z6, z7, z8]
 refine seqH_take (i := 5) (v := .pointer (some ⟨P, 0, none⟩)) (d := some 8) rfl (by kernel_rfl) (fun _ _ _ h => h) (Or.inl ⟨by kernel_rfl, fun w hSw => by go_simp⟩) ?_
 try simp only [z4, z5, z6, z7, z8]
 refine seqH_take (i := 6) (v := .pointer (some ⟨P, 0, none⟩)) (d := some 9) rfl (by kernel_rfl) (fun _ _ _ h => h) (Or.inl ⟨by kernel_rfl, fun w hSw => by go_simp⟩) ?_
 try simp only [z4, z5, z6, z7, z8]
 refine seqH_take (i := 7) (v := .pointer (some ⟨P, 1, none⟩)) (d := some 10) rfl (by kernel_rfl) (fun _ _ _ h => h) (Or.inl ⟨by kernel_rfl, fun w hSw => by go_simp⟩) ?_
 try simp only [z4, z5, z6, z7, z8]
 refine seqH_take (i := 8) (v := .pointer (some ⟨q, 0, none⟩)) (d := some 11) rfl (by kernel_rfl) (fun _ _ _ h => h) (Or.inl ⟨by kernel_rfl, fun w hSw => by have c0 := hSw.p1; go_simp⟩) ?_
 try simp only [z4, z5, z6, z7, z8]
 refine seqH_run (i := 4) rfl (fun K hK => ?_)
 rw [if_pos (by kernel_rfl)]
 go_simp
 refine (off_p1 HQ0.out).mono ?_
 rintro e v1 ⟨rfl, hw⟩
 obtain rfl := hw.symm
 refine hK.out _ _ (h0) (fun h1 => ?_)
 clear hK K
 try simp only [z4, z5, z6, z7, z8]
 refine seqH_run (i := 9) rfl (fun K hK => ?_)
 rw [if_pos (by kernel_rfl)]
 go_simp
 refine (off_p2 HQ0.out).mono ?_
 rintro e v2 ⟨rfl, hw⟩
 obtain rfl := hw.symm
 refine hK.out _ _ (h1) (fun h2 => ?_)
 clear hK K
 try simp only [z4, z5, z6, z7, z8]
 refine seqH_take (i := 10) (v := .bool true) (d := some 13) rfl (by kernel_rfl) (fun _ _ _ h => h) (Or.inl ⟨by kernel_rfl, fun w hSw => by go_simp⟩) ?_
 try simp only [z4, z5, z6, z7, z8]
 refine seqH_take (i := 11) (v := .bool true) (d := some 14) rfl (by kernel_rfl) (fun _ _ _ h => h) (Or.inl ⟨by kernel_rfl, fun w hSw => by go_simp⟩) ?_
 try simp only [z4, z5, z6, z7, z8]
 refine seqH_take (i := 12) (v := .pointer (some ⟨P, 0, none⟩)) (d := some 15) rfl (by kernel_rfl) (fun _ _ _ h => h) (Or.inl ⟨by kernel_rfl, fun w hSw => by go_simp⟩) ?_
 try simp only [z4, z5, z6, z7, z8]
 refine seqH_take (i := 13) (v := .pointer (some ⟨P, 0, none⟩)) (d := some 16) rfl (by kernel_rfl) (fun _ _ _ h => h) (Or.inl ⟨by kernel_rfl, fun w hSw => by go_simp⟩) ?_
 try simp only [z4, z5, z6, z7, z8]
 refine seqH_take (i := 14) (v := .pointer (some ⟨P, 0, none⟩)) (d := some 17) rfl (by kernel_rfl) (fun _ _ _ h => h) (Or.inl ⟨by kernel_rfl, fun w hSw => by go_simp⟩) ?_
 try simp only [z4, z5, z6, z7, z8]
 refine seqH_take (i := 15) (v := .pointer (some ⟨p, 0, none⟩)) (d := some 18) rfl (by kernel_rfl) (fun _ _ _ h => h) (Or.inl ⟨by kernel_rfl, fun w hSw => by have c0 := hSw.p0; go_simp⟩) ?_
 try simp only [z4, z5, z6, z7, z8]
 refine seqH_take (i := 17) (v := .pointer (some ⟨P, 0, none⟩)) (d := some 20) rfl (by kernel_rfl) (fun _ _ _ h => h) (Or.inl ⟨by kernel_rfl, fun w hSw => by go_simp⟩) ?_
 try simp only [z4, z5, z6, z7, z8]
 refine seqH_take (i := 18) (v := .pointer (some ⟨P, 0, none⟩)) (d := some 21) rfl (by kernel_rfl) (fun _ _ _ h => h) (Or.inl ⟨by kernel_rfl, fun w hSw => by go_simp⟩) ?_
 try simp only [z4, z5, z6, z7, z8]
 refine seqH_take (i := 19) (v := .pointer (some ⟨P, 1, none⟩)) (d := some 22) rfl (by kernel_rfl) (fun _ _ _ h => h) (Or.inl ⟨by kernel_rfl, fun w hSw => by go_simp⟩) ?_
 try simp only [z4, z5, z6, z7, z8]
 refine seqH_take (i := 20) (v := .pointer (some ⟨q, 0, none⟩)) (d := some 23) rfl (by kernel_rfl) (fun _ _ _ h => h) (Or.inl ⟨by kernel_rfl, fun w hSw => by have c0 := hSw.p1; go_simp⟩) ?_
 try simp only [z4, z5, z6, z7, z8]
 refine seqH_run (i := 16) rfl (fun K hK => ?_)
 rw [if_pos (by kernel_rfl)]
 go_simp
 refine (strokes_p1 HQ0.out).mono ?_
 rintro e v3 ⟨rfl, hw⟩
 obtain rfl := hw.symm
 refine hK.out _ _ (h2) (fun h3 => ?_)
 clear hK K
 try simp only [z4, z5, z6, z7, z8]
 refine seqH_run (i := 21) rfl (fun K hK => ?_)
 rw [if_pos (by kernel_rfl)]
 go_simp
 refine (strokes_p2 HQ0.out).mono ?_
 rintro e v4 ⟨rfl, hw⟩
 obtain rfl := hw.symm
 refine hK.out _ _ (h3) (fun h4 => ?_)
 clear hK K
 try simp only [z4, z5, z6, z7, z8]
 refine seqH_take (i := 22) (v := .bool true) (d := some 25) rfl (by kernel_rfl) (fun _ _ _ h => h) (Or.inl ⟨by kernel_rfl, fun w hSw => by go_simp⟩) ?_
 try simp only [z4, z5, z6, z7, z8]
 refine seqH_take (i := 23) (v := .bool true) (d := some 26) rfl (by kernel_rfl) (fun _ _ _ h => h) (Or.inl ⟨by kernel_rfl, fun w hSw => by go_simp⟩) ?_
 try simp only [z4, z5, z6, z7, z8]
 refine seqH_take (i := 24) (v := .bool true) (d := some 27) rfl (by kernel_rfl) (fun _ _ _ h => h) (Or.inl ⟨by kernel_rfl, fun w hSw => by go_simp⟩) ?_
 try simp only [z4, z5, z6, z7, z8]
 refine seqH_take (i := 25) (v := .pointer (some ⟨P, 0, none⟩)) (d := some 28) rfl (by kernel_rfl) (fun _ _ _ h => h) (Or.inl ⟨by kernel_rfl, fun w hSw => by go_simp⟩) ?_
 try simp only [z4, z5, z6, z7, z8]
 refine seqH_take (i := 26) (v := .pointer (some ⟨P, 0, none⟩)) (d := some 29) rfl (by kernel_rfl) (fun _ _ _ h => h) (Or.inl ⟨by kernel_rfl, fun w hSw => by go_simp⟩) ?_
 try simp only [z4, z5, z6, z7, z8]
 refine seqH_take (i := 27) (v := .pointer (some ⟨P, 0, none⟩)) (d := some 30) rfl (by kernel_rfl) (fun _ _ _ h => h) (Or.inl ⟨by kernel_rfl, fun w hSw => by go_simp⟩) ?_
 try simp only [z4, z5, z6, z7, z8]
 refine seqH_take (i := 28) (v := .pointer (some ⟨p, 0, none⟩)) (d := some 31) rfl (by kernel_rfl) (fun _ _ _ h => h) (Or.inl ⟨by kernel_rfl, fun w hSw => by have c0 := hSw.p0; go_simp⟩) ?_
 try simp only [z4, z5, z6, z7, z8]
 refine seqH_take (i := 30) (v := .pointer (some ⟨P, 0, none⟩)) (d := some 33) rfl (by kernel_rfl) (fun _ _ _ h => h) (Or.inl ⟨by kernel_rfl, fun w hSw => by go_simp⟩) ?_
 try simp only [z4, z5, z6, z7, z8]
 refine seqH_take (i := 31) (v := .pointer (some ⟨P, 0, none⟩)) (d := some 34) rfl (by kernel_rfl) (fun _ _ _ h => h) (Or.inl ⟨by kernel_rfl, fun w hSw => by go_simp⟩) ?_
 try simp only [z4, z5, z6, z7, z8]
 refine seqH_take (i := 32) (v := .pointer (some ⟨P, 1, none⟩)) (d := some 35) rfl (by kernel_rfl) (fun _ _ _ h => h) (Or.inl ⟨by kernel_rfl, fun w hSw => by go_simp⟩) ?_
 try simp only [z4, z5, z6, z7, z8]
 refine seqH_take (i := 33) (v := .pointer (some ⟨q, 0, none⟩)) (d := some 36) rfl (by kernel_rfl) (fun _ _ _ h => h) (Or.inl ⟨by kernel_rfl, fun w hSw => by have c0 := hSw.p1; go_simp⟩) ?_
 try simp only [z4, z5, z6, z7, z8]
 refine seqH_run (i := 29) rfl (fun K hK => ?_)
 rw [if_pos (by kernel_rfl)]
 go_simp
 refine (used_p1 HQ0.out (by omega)).mono ?_
 rintro e v5 ⟨rfl, hk⟩
 have hk1 : Kept [] v0 v5 := hk
 have HQ1 : Hid (Pq X v5 P p q D bo R S N S N) := hide (HQ0.out.kept hk1)
 have HK1 : Hid (Kept [] w v5) := hide (HK0.out.trans hk1 (by simp))
 clear HQ0 HK0
 refine hK.out _ _ (h4.kept hk1) (fun h5 => ?_)
 clear hK K
 try simp only [z4, z5, z6, z7, z8]
 refine seqH_run (i := 34) rfl (fun K hK => ?_)
 rw [if_pos (by kernel_rfl)]
 go_simp
 refine (used_p2 HQ1.out (by omega)).mono ?_
 rintro e v6 ⟨rfl, hw⟩
 obtain rfl := hw.symm
 refine hK.out _ _ (h5) (fun h6 => ?_)
 clear hK K
 try simp only [z4, z5, z6, z7, z8]
 refine seqH_take (i := 35) (v := .bool true) (d := some 38) rfl (by kernel_rfl) (fun _ _ _ h => h) (Or.inl ⟨by kernel_rfl, fun w hSw => by go_simp⟩) ?_
 try simp only [z4, z5, z6, z7, z8]
 refine seqH_take (i := 36) (v := .bool true) (d := some 39) rfl (by kernel_rfl) (fun _ _ _ h => h) (Or.inl ⟨by kernel_rfl, fun w hSw => by go_simp⟩) ?_
 try simp only [z4, z5, z6, z7, z8]
 refine seqH_take (i := 37) (v := .bool true) (d := some 40) rfl (by kernel_rfl) (fun _ _ _ h => h) (Or.inl ⟨by kernel_rfl, fun w hSw => by go_simp⟩) ?_
 try simp only [z4, z5, z6, z7, z8]
 refine seqH_take (i := 38) (v := .pointer (some ⟨P, 0, none⟩)) (d := some 41) rfl (by kernel_rfl) (fun _ _ _ h => h) (Or.inl ⟨by kernel_rfl, fun w hSw => by go_simp⟩) ?_
 try simp only [z4, z5, z6, z7, z8]
 refine seqH_take (i := 39) (v := .pointer (some ⟨P, 0, none⟩)) (d := some 42) rfl (by kernel_rfl) (fun _ _ _ h => h) (Or.inl ⟨by kernel_rfl, fun w hSw => by go_simp⟩) ?_
 try simp only [z4, z5, z6, z7, z8]
 refine seqH_take (i := 40) (v := .pointer (some ⟨P, 0, none⟩)) (d := some 43) rfl (by kernel_rfl) (fun _ _ _ h => h) (Or.inl ⟨by kernel_rfl, fun w hSw => by go_simp⟩) ?_
 try simp only [z4, z5, z6, z7, z8]
 refine seqH_take (i := 41) (v := .pointer (some ⟨p, 0, none⟩)) (d := some 44) rfl (by kernel_rfl) (fun _ _ _ h => h) (Or.inl ⟨by kernel_rfl, fun w hSw => by have c0 := hSw.p0; go_simp⟩) ?_
 try simp only [z4, z5, z6, z7, z8]
 refine seqH_take (i := 43) (v := .pointer (some ⟨P, 0, none⟩)) (d := some 46) rfl (by kernel_rfl) (fun _ _ _ h => h) (Or.inl ⟨by kernel_rfl, fun w hSw => by go_simp⟩) ?_
 try simp only [z4, z5, z6, z7, z8]
 refine seqH_take (i := 44) (v := .pointer (some ⟨P, 0, none⟩)) (d := some 47) rfl (by kernel_rfl) (fun _ _ _ h => h) (Or.inl ⟨by kernel_rfl, fun w hSw => by go_simp⟩) ?_
 try simp only [z4, z5, z6, z7, z8]
 refine seqH_take (i := 45) (v := .pointer (some ⟨P, 1, none⟩)) (d := some 48) rfl (by kernel_rfl) (fun _ _ _ h => h) (Or.inl ⟨by kernel_rfl, fun w hSw => by go_simp⟩) ?_
 try simp only [z4, z5, z6, z7, z8]
 refine seqH_take (i := 46) (v := .pointer (some ⟨q, 0, none⟩)) (d := some 49) rfl (by kernel_rfl) (fun _ _ _ h => h) (Or.inl ⟨by kernel_rfl, fun w hSw => by have c0 := hSw.p1; go_simp⟩) ?_
 try simp only [z4, z5, z6, z7, z8]
 refine seqH_run (i := 42) rfl (fun K hK => ?_)
 rw [if_pos (by kernel_rfl)]
 go_simp
 refine (room_p1 HQ1.out).mono ?_
 rintro e v7 ⟨rfl, hw⟩
 obtain rfl := hw.symm
 refine hK.out _ _ (h6) (fun h7 => ?_)
 clear hK K
 try simp only [z4, z5, z6, z7, z8]
 refine seqH_run (i := 47) rfl (fun K hK => ?_)
 rw [if_pos (by kernel_rfl)]
 go_simp
 refine (room_p2 HQ1.out).mono ?_
 rintro e v8 ⟨rfl, hw⟩
 obtain rfl := hw.symm
 refine hK.out _ _ (h7) (fun h8 => ?_)
 clear hK K
 try simp only [z4, z5, z6, z7, z8]
 refine seqH_take (i := 48) (v := .bool true) (d := some 51) rfl (by kernel_rfl) (fun _ _ _ h => h) (Or.inl ⟨by kernel_rfl, fun w hSw => by go_simp⟩) ?_
 try simp only [z4, z5, z6, z7, z8]
 refine seqH_take (i := 49) (v := .bool true) (d := some 52) rfl (by kernel_rfl) (fun _ _ _ h => h) (Or.inl ⟨by kernel_rfl, fun w hSw => by go_simp⟩) ?_
 try simp only [z4, z5, z6, z7, z8]
 refine seqH_take (i := 50) (v := .bool true) (d := some 53) rfl (by kernel_rfl) (fun _ _ _ h => h) (Or.inl ⟨by kernel_rfl, fun w hSw => by go_simp⟩) ?_
 try simp only [z4, z5, z6, z7, z8]
 refine seqH_take (i := 51) (v := .pointer (some ⟨P, 0, none⟩)) (d := some 54) rfl (by kernel_rfl) (fun _ _ _ h => h) (Or.inl ⟨by kernel_rfl, fun w hSw => by go_simp⟩) ?_
 try simp only [z4, z5, z6, z7, z8]
 refine seqH_take (i := 52) (v := .pointer (some ⟨P, 0, none⟩)) (d := some 55) rfl (by kernel_rfl) (fun _ _ _ h => h) (Or.inl ⟨by kernel_rfl, fun w hSw => by go_simp⟩) ?_
 try simp only [z4, z5, z6, z7, z8]
 refine seqH_take (i := 53) (v := .pointer (some ⟨P, 0, none⟩)) (d := some 56) rfl (by kernel_rfl) (fun _ _ _ h => h) (Or.inl ⟨by kernel_rfl, fun w hSw => by go_simp⟩) ?_
 try simp only [z4, z5, z6, z7, z8]
 refine seqH_take (i := 54) (v := .pointer (some ⟨p, 0, none⟩)) (d := some 57) rfl (by kernel_rfl) (fun _ _ _ h => h) (Or.inl ⟨by kernel_rfl, fun w hSw => by have c0 := hSw.p0; go_simp⟩) ?_
 try simp only [z4, z5, z6, z7, z8]
 refine seqH_take (i := 56) (v := .pointer (some ⟨P, 0, none⟩)) (d := some 59) rfl (by kernel_rfl) (fun _ _ _ h => h) (Or.inl ⟨by kernel_rfl, fun w hSw => by go_simp⟩) ?_
 try simp only [z4, z5, z6, z7, z8]
 refine seqH_take (i := 57) (v := .pointer (some ⟨P, 0, none⟩)) (d := some 60) rfl (by kernel_rfl) (fun _ _ _ h => h) (Or.inl ⟨by kernel_rfl, fun w hSw => by go_simp⟩) ?_
 try simp only [z4, z5, z6, z7, z8]
 refine seqH_take (i := 58) (v := .pointer (some ⟨P, 1, none⟩)) (d := some 61) rfl (by kernel_rfl) (fun _ _ _ h => h) (Or.inl ⟨by kernel_rfl, fun w hSw => by go_simp⟩) ?_
 try simp only [z4, z5, z6, z7, z8]
 refine seqH_take (i := 59) (v := .pointer (some ⟨q, 0, none⟩)) (d := some 62) rfl (by kernel_rfl) (fun _ _ _ h => h) (Or.inl ⟨by kernel_rfl, fun w hSw => by have c0 := hSw.p1; go_simp⟩) ?_
 try simp only [z4, z5, z6, z7, z8]
 refine seqH_run (i := 55) rfl (fun K hK => ?_)
 rw [if_pos (by kernel_rfl)]
 go_simp
 refine (files_p1 HQ1.out (by omega)).mono ?_
 rintro e v9 ⟨v, rfl, ao, ac, rfl, hf, hk⟩
 have hk2 : Kept [] v5 v9 := hk
 have HQ2 : Hid (Pq X v9 P p q D bo R S N S N) := hide (HQ1.out.kept hk2)
 have HK2 : Hid (Kept [] w v9) := hide (HK1.out.trans hk2 (by simp))
 have HF0 := hide hf
 clear hf hk
 clear HQ1 HK1
 refine hK.out _ _ (h8.kept hk2) (fun h9 => ?_)
 clear hK K
 try simp only [z4, z5, z6, z7, z8]
 refine seqH_run (i := 60) rfl (fun K hK => ?_)
 rw [if_pos (by kernel_rfl)]
 go_simp
 refine (files_p2 HQ2.out (by omega)).mono ?_
 rintro e v10 ⟨v, rfl, bo2, bc, rfl, hf, hk⟩
 have hk3 : Kept [] v9 v10 := hk
 have HQ3 : Hid (Pq X v10 P p q D bo R S N S N) := hide (HQ2.out.kept hk3)
 have HK3 : Hid (Kept [] w v10) := hide (HK2.out.trans hk3 (by simp))
 have HF1 := hide (HF0.out.kept hk3)
 have HF2 := hide hf
 clear hf hk HF0
 clear HQ2 HK2
 refine hK.out _ _ (h9.kept hk3) (fun h10 => ?_)
 clear hK K
 try simp only [z4, z5, z6, z7, z8]
 refine seqH_run (i := 61) rfl (fun K hK => ?_)
 rw [if_pos (by kernel_rfl)]
 go_simp
 refine (files_yes ao bo2 _ ac bc S.files _ rfl (by have := HFB.out.1; omega) (fun f hf => by have := HFB.out.2 f hf; omega) HF1.out HF2.out).mono ?_
 rintro e v11 ⟨rfl, kk, hw⟩
 have hk4 : Kept [] v10 v11 := (by rw [hw]; exact (Kept.refl [] _).drewN kk)
 have HQ4 : Hid (Pq X v11 P p q D bo R S N S N) := hide (HQ3.out.kept hk4)
 have HK4 : Hid (Kept [] w v11) := hide (HK3.out.trans hk4 (by simp))
 clear hw HF1 HF2
 clear HQ3 HK3
 refine hK.out _ _ (h10.kept hk4) (fun h11 => ?_)
 clear hK K
 try simp only [z4, z5, z6, z7, z8]
 refine seqH_take (i := 62) (v := .bool true) (d := some 65) rfl (by kernel_rfl) (fun _ _ _ h => h) (Or.inl ⟨by kernel_rfl, fun w hSw => by go_simp⟩) ?_
 try simp only [z4, z5, z6, z7, z8]
 refine seqH_take (i := 63) (v := .bool true) (d := some 66) rfl (by kernel_rfl) (fun _ _ _ h => h) (Or.inl ⟨by kernel_rfl, fun w hSw => by go_simp⟩) ?_
 try simp only [z4, z5, z6, z7, z8]
 refine seqH_take (i := 64) (v := .pointer (some ⟨P, 0, none⟩)) (d := some 67) rfl (by kernel_rfl) (fun _ _ _ h => h) (Or.inl ⟨by kernel_rfl, fun w hSw => by go_simp⟩) ?_
 try simp only [z4, z5, z6, z7, z8]
 refine seqH_take (i := 65) (v := .pointer (some ⟨P, 0, none⟩)) (d := some 68) rfl (by kernel_rfl) (fun _ _ _ h => h) (Or.inl ⟨by kernel_rfl, fun w hSw => by go_simp⟩) ?_
 try simp only [z4, z5, z6, z7, z8]
 refine seqH_take (i := 66) (v := .pointer (some ⟨P, 0, none⟩)) (d := some 69) rfl (by kernel_rfl) (fun _ _ _ h => h) (Or.inl ⟨by kernel_rfl, fun w hSw => by go_simp⟩) ?_
 try simp only [z4, z5, z6, z7, z8]
 refine seqH_take (i := 67) (v := .pointer (some ⟨p, 0, none⟩)) (d := some 70) rfl (by kernel_rfl) (fun _ _ _ h => h) (Or.inl ⟨by kernel_rfl, fun w hSw => by have c0 := hSw.p0; go_simp⟩) ?_
 try simp only [z4, z5, z6, z7, z8]
 refine seqH_take (i := 69) (v := .pointer (some ⟨P, 0, none⟩)) (d := some 72) rfl (by kernel_rfl) (fun _ _ _ h => h) (Or.inl ⟨by kernel_rfl, fun w hSw => by go_simp⟩) ?_
 try simp only [z4, z5, z6, z7, z8]
 refine seqH_take (i := 70) (v := .pointer (some ⟨P, 0, none⟩)) (d := some 73) rfl (by kernel_rfl) (fun _ _ _ h => h) (Or.inl ⟨by kernel_rfl, fun w hSw => by go_simp⟩) ?_
 try simp only [z4, z5, z6, z7, z8]
 refine seqH_take (i := 71) (v := .pointer (some ⟨P, 1, none⟩)) (d := some 74) rfl (by kernel_rfl) (fun _ _ _ h => h) (Or.inl ⟨by kernel_rfl, fun w hSw => by go_simp⟩) ?_
 try simp only [z4, z5, z6, z7, z8]
 refine seqH_take (i := 72) (v := .pointer (some ⟨q, 0, none⟩)) (d := some 75) rfl (by kernel_rfl) (fun _ _ _ h => h) (Or.inl ⟨by kernel_rfl, fun w hSw => by have c0 := hSw.p1; go_simp⟩) ?_
 try simp only [z4, z5, z6, z7, z8]
 refine seqH_run (i := 68) rfl (fun K hK => ?_)
 rw [if_pos (by kernel_rfl)]
 go_simp
 refine (safe_p1 HQ4.out (by omega)).mono ?_
 rintro e v12 ⟨v, rfl, ao, ac, rfl, hf, hk⟩
 have hk5 : Kept [] v11 v12 := hk
 have HQ5 : Hid (Pq X v12 P p q D bo R S N S N) := hide (HQ4.out.kept hk5)
 have HK5 : Hid (Kept [] w v12) := hide (HK4.out.trans hk5 (by simp))
 have HF0 := hide hf
 clear hf hk
 clear HQ4 HK4
 refine hK.out _ _ (h11.kept hk5) (fun h12 => ?_)
 clear hK K
 try simp only [z4, z5, z6, z7, z8]
 refine seqH_run (i := 73) rfl (fun K hK => ?_)
 rw [if_pos (by kernel_rfl)]
 go_simp
 refine (safe_p2 HQ5.out (by omega)).mono ?_
 rintro e v13 ⟨v, rfl, bo2, bc, rfl, hf, hk⟩
 have hk6 : Kept [] v12 v13 := hk
 have HQ6 : Hid (Pq X v13 P p q D bo R S N S N) := hide (HQ5.out.kept hk6)
 have HK6 : Hid (Kept [] w v13) := hide (HK5.out.trans hk6 (by simp))
 have HF1 := hide (HF0.out.kept hk6)
 have HF2 := hide hf
 clear hf hk HF0
 clear HQ5 HK5
 refine hK.out _ _ (h12.kept hk6) (fun h13 => ?_)
 clear hK K
 try simp only [z4, z5, z6, z7, z8]
 refine seqH_run (i := 74) rfl (fun K hK => ?_)
 rw [if_pos (by kernel_rfl)]
 go_simp
 refine (files_yes ao bo2 _ ac bc S.safeFiles _ rfl (by have := HSB.out.1; omega) (fun f hf => by have := HSB.out.2 f hf; omega) HF1.out HF2.out).mono ?_
 rintro e v14 ⟨rfl, kk, hw⟩
 have hk7 : Kept [] v13 v14 := (by rw [hw]; exact (Kept.refl [] _).drewN kk)
 have HQ7 : Hid (Pq X v14 P p q D bo R S N S N) := hide (HQ6.out.kept hk7)
 have HK7 : Hid (Kept [] w v14) := hide (HK6.out.trans hk7 (by simp))
 clear hw HF1 HF2
 clear HQ6 HK6
 refine hK.out _ _ (h13.kept hk7) (fun h14 => ?_)
 clear hK K
 try simp only [z4, z5, z6, z7, z8]
 refine seqH_take (i := 75) (v := .bool true) (d := some 78) rfl (by kernel_rfl) (fun _ _ _ h => h) (Or.inl ⟨by kernel_rfl, fun w hSw => by go_simp⟩) ?_
 try simp only [z4, z5, z6, z7, z8]
 refine seqH_take (i := 76) (v := .bool true) (d := some 79) rfl (by kernel_rfl) (fun _ _ _ h => h) (Or.inl ⟨by kernel_rfl, fun w hSw => by go_simp⟩) ?_
 try simp only [z4, z5, z6, z7, z8]
 refine seqH_take (i := 77) (v := .pointer (some ⟨P, 0, none⟩)) (d := some 80) rfl (by kernel_rfl) (fun _ _ _ h => h) (Or.inl ⟨by kernel_rfl, fun w hSw => by go_simp⟩) ?_
 try simp only [z4, z5, z6, z7, z8]
 refine seqH_take (i := 78) (v := .pointer (some ⟨P, 0, none⟩)) (d := some 81) rfl (by kernel_rfl) (fun _ _ _ h => h) (Or.inl ⟨by kernel_rfl, fun w hSw => by go_simp⟩) ?_
 try simp only [z4, z5, z6, z7, z8]
 refine seqH_take (i := 79) (v := .pointer (some ⟨P, 0, none⟩)) (d := some 82) rfl (by kernel_rfl) (fun _ _ _ h => h) (Or.inl ⟨by kernel_rfl, fun w hSw => by go_simp⟩) ?_
 try simp only [z4, z5, z6, z7, z8]
 refine seqH_take (i := 80) (v := .pointer (some ⟨p, 0, none⟩)) (d := some 83) rfl (by kernel_rfl) (fun _ _ _ h => h) (Or.inl ⟨by kernel_rfl, fun w hSw => by have c0 := hSw.p0; go_simp⟩) ?_
 try simp only [z4, z5, z6, z7, z8]
 refine seqH_take (i := 82) (v := .pointer (some ⟨P, 0, none⟩)) (d := some 85) rfl (by kernel_rfl) (fun _ _ _ h => h) (Or.inl ⟨by kernel_rfl, fun w hSw => by go_simp⟩) ?_
 try simp only [z4, z5, z6, z7, z8]
 refine seqH_take (i := 83) (v := .pointer (some ⟨P, 0, none⟩)) (d := some 86) rfl (by kernel_rfl) (fun _ _ _ h => h) (Or.inl ⟨by kernel_rfl, fun w hSw => by go_simp⟩) ?_
 try simp only [z4, z5, z6, z7, z8]
 refine seqH_take (i := 84) (v := .pointer (some ⟨P, 1, none⟩)) (d := some 87) rfl (by kernel_rfl) (fun _ _ _ h => h) (Or.inl ⟨by kernel_rfl, fun w hSw => by go_simp⟩) ?_
 try simp only [z4, z5, z6, z7, z8]
 refine seqH_take (i := 85) (v := .pointer (some ⟨q, 0, none⟩)) (d := some 88) rfl (by kernel_rfl) (fun _ _ _ h => h) (Or.inl ⟨by kernel_rfl, fun w hSw => by have c0 := hSw.p1; go_simp⟩) ?_
 try simp only [z4, z5, z6, z7, z8]
 refine seqH_run (i := 81) rfl (fun K hK => ?_)
 rw [if_pos (by kernel_rfl)]
 go_simp
 refine (reads_p1 HQ7.out (by omega)).mono ?_
 rintro e v15 ⟨v, rfl, ao, ac, rfl, hf, hk⟩
 have hk8 : Kept [] v14 v15 := hk
 have HQ8 : Hid (Pq X v15 P p q D bo R S N S N) := hide (HQ7.out.kept hk8)
 have HK8 : Hid (Kept [] w v15) := hide (HK7.out.trans hk8 (by simp))
 have HF0 := hide hf
 clear hf hk
 clear HQ7 HK7
 refine hK.out _ _ (h14.kept hk8) (fun h15 => ?_)
 clear hK K
 try simp only [z4, z5, z6, z7, z8]
 refine seqH_run (i := 86) rfl (fun K hK => ?_)
 rw [if_pos (by kernel_rfl)]
 go_simp
 refine (reads_p2 HQ8.out (by omega)).mono ?_
 rintro e v16 ⟨v, rfl, bo2, bc, rfl, hf, hk⟩
 have hk9 : Kept [] v15 v16 := hk
 have HQ9 : Hid (Pq X v16 P p q D bo R S N S N) := hide (HQ8.out.kept hk9)
 have HK9 : Hid (Kept [] w v16) := hide (HK8.out.trans hk9 (by simp))
 have HF1 := hide (HF0.out.kept hk9)
 have HF2 := hide hf
 clear hf hk HF0
 clear HQ8 HK8
 refine hK.out _ _ (h15.kept hk9) (fun h16 => ?_)
 clear hK K
 try simp only [z4, z5, z6, z7, z8]
 refine seqH_run (i := 87) rfl (fun K hK => ?_)
 rw [if_pos (by kernel_rfl)]
 go_simp
 refine (spans_yes ao bo2 _ ac bc S.reads _ rfl (by have := HRB.out; omega) HF1.out HF2.out).mono ?_
 rintro e v17 ⟨rfl, kk, hw⟩
 have hk10 : Kept [] v16 v17 := (by rw [hw]; exact (Kept.refl [] _).drewN kk)
 have HQ10 : Hid (Pq X v17 P p q D bo R S N S N) := hide (HQ9.out.kept hk10)
 have HK10 : Hid (Kept [] w v17) := hide (HK9.out.trans hk10 (by simp))
 clear hw HF1 HF2
 clear HQ9 HK9
 refine hK.out _ _ (h16.kept hk10) (fun h17 => ?_)
 clear hK K
 try simp only [z4, z5, z6, z7, z8]
 refine seqH_take (i := 88) (v := .bool true) (d := some 91) rfl (by kernel_rfl) (fun _ _ _ h => h) (Or.inl ⟨by kernel_rfl, fun w hSw => by go_simp⟩) ?_
 try simp only [z4, z5, z6, z7, z8]
 refine seqH_take (i := 89) (v := .bool true) (d := some 92) rfl (by kernel_rfl) (fun _ _ _ h => h) (Or.inl ⟨by kernel_rfl, fun w hSw => by go_simp⟩) ?_
 try simp only [z4, z5, z6, z7, z8]
 refine seqH_take (i := 90) (v := .pointer (some ⟨P, 0, none⟩)) (d := some 93) rfl (by kernel_rfl) (fun _ _ _ h => h) (Or.inl ⟨by kernel_rfl, fun w hSw => by go_simp⟩) ?_
 try simp only [z4, z5, z6, z7, z8]
 refine seqH_take (i := 91) (v := .pointer (some ⟨P, 0, none⟩)) (d := some 94) rfl (by kernel_rfl) (fun _ _ _ h => h) (Or.inl ⟨by kernel_rfl, fun w hSw => by go_simp⟩) ?_
 try simp only [z4, z5, z6, z7, z8]
 refine seqH_take (i := 92) (v := .pointer (some ⟨P, 0, none⟩)) (d := some 95) rfl (by kernel_rfl) (fun _ _ _ h => h) (Or.inl ⟨by kernel_rfl, fun w hSw => by go_simp⟩) ?_
 try simp only [z4, z5, z6, z7, z8]
 refine seqH_take (i := 93) (v := .pointer (some ⟨p, 0, none⟩)) (d := some 96) rfl (by kernel_rfl) (fun _ _ _ h => h) (Or.inl ⟨by kernel_rfl, fun w hSw => by have c0 := hSw.p0; go_simp⟩) ?_
 try simp only [z4, z5, z6, z7, z8]
 refine seqH_take (i := 95) (v := .pointer (some ⟨P, 0, none⟩)) (d := some 98) rfl (by kernel_rfl) (fun _ _ _ h => h) (Or.inl ⟨by kernel_rfl, fun w hSw => by go_simp⟩) ?_
 try simp only [z4, z5, z6, z7, z8]
 refine seqH_take (i := 96) (v := .pointer (some ⟨P, 0, none⟩)) (d := some 99) rfl (by kernel_rfl) (fun _ _ _ h => h) (Or.inl ⟨by kernel_rfl, fun w hSw => by go_simp⟩) ?_
 try simp only [z4, z5, z6, z7, z8]
 refine seqH_take (i := 97) (v := .pointer (some ⟨P, 1, none⟩)) (d := some 100) rfl (by kernel_rfl) (fun _ _ _ h => h) (Or.inl ⟨by kernel_rfl, fun w hSw => by go_simp⟩) ?_
 try simp only [z4, z5, z6, z7, z8]
 refine seqH_take (i := 98) (v := .pointer (some ⟨q, 0, none⟩)) (d := some 101) rfl (by kernel_rfl) (fun _ _ _ h => h) (Or.inl ⟨by kernel_rfl, fun w hSw => by have c0 := hSw.p1; go_simp⟩) ?_
 try simp only [z4, z5, z6, z7, z8]
 refine seqH_run (i := 94) rfl (fun K hK => ?_)
 rw [if_pos (by kernel_rfl)]
 go_simp
 refine (list_p1 HQ10.out (by omega) [] (by decide)).mono ?_
 rintro e v18 ⟨v, rfl, hT⟩
 have hk11 : Kept [] v17 v18 := hT.keep
 have HQ11 : Hid (Pq X v18 P p q D bo R S N S N) := hide (HQ10.out.kept hk11)
 have HK11 : Hid (Kept [] w v18) := hide (HK10.out.trans hk11 (by simp))
 obtain ⟨ao, ac, hv, _⟩ := own_shape hT.row
 subst hv
 have HF0 := hide (Txs.of hT.row)
 have HT0 := hide hT
 clear hT HF0
 clear HQ10 HK10
 refine hK.out _ _ (h17.kept hk11) (fun h18 => ?_)
 clear hK K
 try simp only [z4, z5, z6, z7, z8]
 refine seqH_run (i := 99) rfl (fun K hK => ?_)
 rw [if_pos (by kernel_rfl)]
 go_simp
 refine (list_p2 HQ11.out (by omega) [] (by decide)).mono ?_
 rintro e v19 ⟨v, rfl, hT⟩
 have hk12 : Kept [] v18 v19 := hT.keep
 have HQ12 : Hid (Pq X v19 P p q D bo R S N S N) := hide (HQ11.out.kept hk12)
 have HK12 : Hid (Kept [] w v19) := hide (HK11.out.trans hk12 (by simp))
 have HF1 := hide (Txs.of (tl_kept HT0.out hk12).row)
 obtain ⟨bo2, bc, hv, _⟩ := own_shape hT.row
 subst hv
 have HF2 := hide (Txs.of hT.row)
 clear hT HT0
 clear HQ11 HK11
 refine hK.out _ _ (h18.kept hk12) (fun h19 => ?_)
 clear hK K
 try simp only [z4, z5, z6, z7, z8]
 refine seqH_run (i := 100) rfl (fun K hK => ?_)
 rw [if_pos (by kernel_rfl)]
 go_simp
 refine (names_yes ao bo2 _ ac bc (S.list []) _ rfl (by have := HLB.out; omega) HF1.out HF2.out).mono ?_
 rintro e v20 ⟨rfl, kk, hw⟩
 have hk13 : Kept [] v19 v20 := (by rw [hw]; exact (Kept.refl [] _).drewN kk)
 have HQ13 : Hid (Pq X v20 P p q D bo R S N S N) := hide (HQ12.out.kept hk13)
 have HK13 : Hid (Kept [] w v20) := hide (HK12.out.trans hk13 (by simp))
 clear hw HF1 HF2
 clear HQ12 HK12
 refine hK.out _ _ (h19.kept hk13) (fun h20 => ?_)
 clear hK K
 try simp only [z4, z5, z6, z7, z8]
 refine seqH_take (i := 101) (v := .bool true) (d := some 104) rfl (by kernel_rfl) (fun _ _ _ h => h) (Or.inl ⟨by kernel_rfl, fun w hSw => by go_simp⟩) ?_
 try simp only [z4, z5, z6, z7, z8]
 refine seqH_take (i := 102) (v := .bool true) (d := some 2) rfl (by kernel_rfl) (fun _ _ _ h => h) (Or.inl ⟨by kernel_rfl, fun w hSw => by go_simp⟩) ?_
 try simp only [z4, z5, z6, z7, z8]
 refine seqH_done ?_
 go_wp2
 go_ret
 exact ⟨rfl, HK13.out⟩
end

section
open Go.ChangeShapes Go.WideShapes Go.ChangeAt Go.RowKit Go.Deep Go.Joins Dsk
set_option linter.unusedVariables false
set_option linter.unusedSimpArgs false
structure Fm where
 f : By × By
 da : Option Addr
 dc : Nat
def fm0 : Fm := ⟨([], []), none, 0⟩
instance : Inhabited Fm := ⟨fm0⟩
def Fm.cells (s : Fm) : List Value := [encStr s.f.1, .slice s.da s.f.2.length s.dc]
structure FmIn (w : World) (s : Fm) : Prop where
 sl : Sl w s.da s.f.2
 nul : s.da = none → s.f.2.length = 0 ∧ s.dc = 0
 small : s.f.1.length ≤ 4611686018427387900 ∧ s.f.2.length ≤ 4611686018427387900
section
variable {H : Type} {enc : TypeId × Value → H} {w : World}
theorem str_less {y : DataW H × List MemPlace} {L : List UInt8} {P : Program} {t : TypeId} {q : List MemPlace} (hy : y = (.lit (.string (ByteArray.mk L.toArray).data.toList), q)) (h : ∀ k ∈ y.1.weights P t, k ≤ reachBytes) : L.length ≤ 4611686018427387900 := by
 subst hy
 have := h _ (by simp only [DataW.weights]; exact List.mem_singleton.2 rfl)
 have hr : reachBytes = 140737488351232 := rfl
 rw [hr] at this
 have h2 : L.length ≤ 140737488351232 := this
 omega
set_option maxRecDepth 100000 in
theorem open_file {n : Nat} {cs : List Value} {x : DataW H × List MemPlace} (h : DataW.trod enc Tryz.prog w 0 (fun _ => true) true n 26 cs = some x) (hw : ∀ n ∈ x.1.weights Tryz.prog 26, n ≤ reachBytes) :
  ∃ s : Fm, cs = s.cells ∧ FmIn w s := by
 obtain ⟨xs, m, rfl, hx, hl, hlen, hf⟩ := DataW.trod_struct Tryz.underlying26 h
 have hcl : Tryz.prog.cellsOf 26 = 2 := by kernel_rfl
 have hcs : Tryz.prog.cellsOf 9 = 1 := by kernel_rfl
 have hcd : Tryz.prog.cellsOf 24 = 1 := by kernel_rfl
 rw [hcl] at hl
 match cs, hl with
 | [a0, a1], _ =>
 match xs, hlen with
 | [y0, y1], _ =>
  have h0 := hf 0 _ rfl
  have h1 := hf 1 _ rfl
  simp only [hcs, hcd, List.drop_zero, List.drop_succ_cons, List.take_succ_cons, List.take_zero, List.getElem?_cons_zero, List.getElem?_cons_succ] at h0 h1
  obtain ⟨s1, e0, hy0, _⟩ := DataW.trod_string Tryz.underlying9 h0
  have wt0 : ∀ k ∈ y0.1.weights Tryz.prog 9, k ≤ reachBytes := fun j hj => hw j (by
   rw [hx]
   simp only [DataW.weights, Tryz.underlying26, DataW.weightsEach, List.mem_append, List.map_cons, List.map_nil]
   simp [DataW.weightsEach, hj])
  obtain ⟨ao, mm, cap, xs5, e1, i1, i2, i3, i4, i5, _⟩ := open_bytes h1 (fun j hj => hw j (by
   rw [hx]
   simp only [DataW.weights, Tryz.underlying26, DataW.weightsEach, List.mem_append, List.map_cons, List.map_nil]
   simp [DataW.weightsEach, hj]))
  cases e0; cases e1
  obtain ⟨⟨L1⟩⟩ := s1
  subst i1
  exact ⟨⟨(L1, xs5), ao, cap⟩, rfl, ⟨i4, fun h => by obtain ⟨q1, q2⟩ := i5 h; exact ⟨by show xs5.length = 0; first | exact q1 | (rw [q1]; rfl), q2⟩, str_less hy0 wt0, by show xs5.length ≤ _; omega⟩⟩
set_option maxRecDepth 100000 in
theorem open_files {fuel : Nat} {v : Value} {x : DataW H × List MemPlace} (h : DataW.trod enc Tryz.prog w 0 (fun _ => true) true fuel 22 [v] = some x) (hw : ∀ n ∈ x.1.weights Tryz.prog 22, n ≤ reachBytes) :
  ∃ ao n cap L, v = .slice ao n cap ∧ L.length = n ∧ n ≤ 4611686018427387900 ∧ (∀ f ∈ L, f.1.length ≤ 4611686018427387900 ∧ f.2.length ≤ 4611686018427387900) ∧ Fio w ao L := by
 rcases open_slice Tryz.underlying22 h with ⟨hcs, _⟩ | ⟨a, len, cap, m, n, D, Pl, hcs, _, hl, hm, hmm, hxx, hx⟩
 ·cases hcs
  exact ⟨none, 0, 0, [], rfl, rfl, by omega, by simp, fun i hi => by simp at hi⟩
 ·cases hcs
  have hcl : Tryz.prog.cellsOf 26 = 2 := by kernel_rfl
  simp only [if_true] at hmm
  subst hmm
  rw [hcl] at hx
  unfold maxLen at hm
  obtain ⟨b, off, spot⟩ := a
  have hwt : (len : Nat) * 40 ≤ 140737488351232 ∨ True := .inr trivial
  have hwD : ∀ i, i < len → ∀ n ∈ (D i).weights Tryz.prog 26, n ≤ reachBytes := by
   intro i hi n hn
   refine hw n ?_
   rw [hxx]
   simp only [DataW.weights, Tryz.underlying22, List.mem_cons, List.mem_append]
   exact .inr (.inl (weights_all (List.mem_map_of_mem (List.mem_range.2 hi)) hn))
  have hel : ∀ i, i < len → ∃ c : Fm, spot = none ∧ (∀ j v, c.cells[j]? = some v → w.cell? ⟨b, off + i * 2 + j, none⟩ = some v) ∧ FmIn w c := by
   intro i hi
   obtain ⟨cs', h1, h2⟩ := hx i (by omega)
   obtain ⟨s, rfl, hin⟩ := open_file h2 (hwD i hi)
   obtain ⟨_, _, h3⟩ := World.cells?_some h1
   have hsp : spot = none := by
    obtain ⟨cs0, g1, g2⟩ := hx 0 (by omega)
    obtain ⟨s0, rfl, _⟩ := open_file g2 (hwD 0 (by omega))
    obtain ⟨_, _, g3⟩ := World.cells?_some g1
    have h5 := g3 0 (by omega)
    rw [show (((⟨b, off, spot⟩ : Addr).add (0 * 2)).add 0) = ⟨b, off, spot⟩ by simp [Addr.add]] at h5
    exact World.cell?_spot (a := ⟨b, off, spot⟩) h5
   subst hsp
   refine ⟨s, rfl, fun j v hv => ?_, hin⟩
   have hj : j < 2 := by have := (List.getElem?_eq_some_iff.1 hv).1; simpa [Fm.cells] using this
   have g := h3 j hj
   rw [Addr.add_mid, Addr.add_mid] at g
   rw [g]
   exact hv
  have hlen : len ≤ 4611686018427387900 := by
   have hb1 : Tryz.prog.bytesOf 26 = 40 := by kernel_rfl
   have := hw (((List.range len).map D ++ (List.range (m - len)).map fun j => D (len + j)).length * 40) (by
    rw [hxx]
    simp only [DataW.weights, Tryz.underlying22, hb1]
    simp)
   have hr : reachBytes = 140737488351232 := rfl
   rw [hr] at this
   simp at this
   omega
  obtain ⟨f, hf⟩ := choose_lt (α := Fm) hel
  refine ⟨_, len, _, (List.range len).map (fun i => (f i).f), rfl, by simp, hlen, fun g hg => ?_, fun i hi => ?_⟩
  ·obtain ⟨i, hi, rfl⟩ := List.mem_map.1 hg
   exact (hf i (List.mem_range.1 hi)).2.2.small
  ·have hi' : i < len := by simpa using hi
   obtain ⟨hsp, hc, hin⟩ := hf i hi'
   subst hsp
   exact ⟨b, off, rfl, (f i).f, by simp [hi'], hc 0 _ rfl, (f i).da, (f i).dc, hc 1 _ rfl, hin.sl, hin.nul⟩
end
end

end Go.Proofs.YteckiednnaianaaGreat
