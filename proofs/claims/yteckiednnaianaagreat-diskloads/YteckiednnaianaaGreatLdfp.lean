import Derived.Test.YteckiednnaianaaGreatLdep
import Derived.Test.YteckiednnaianaaGreatRsqp
namespace Go.Proofs.YteckiednnaianaaGreat
open Go.RowKit Dsk
set_option linter.unusedVariables false
set_option linter.unusedSimpArgs false
section
variable {w wr : World} {G : Nat} {B : Nat → Nat} {rv : Value} {L : List (By × By)} {N : Nat}
theorem Rmy.shape (h : Rmy w wr G B rv L N N) (hN : 0 < N) : ∃ g rc, rv = .slice (some ⟨g, 0, none⟩) N rc := by
 rcases h.rows.2 with ⟨_, e⟩ | ⟨g, cap, cur, e, _⟩
 ·omega
 ·exact ⟨g, cap, e⟩
structure Rlk (wr : World) (G R b j : Nat) (x d : By) : Prop where
 c1 : wr.cell? ⟨G, j * 2, none⟩ = some (encStr x)
 c2 : wr.cell? ⟨G, j * 2 + 1, none⟩ = some (.slice (some ⟨b, 0, none⟩) d.length (d.length + 5))
 c3 : wr.cell? ⟨R, j, none⟩ = some (.slice (some ⟨b, 0, none⟩) (d.length + 5) (d.length + 5))
 sl : Sl wr (some ⟨b, 0, none⟩) d
 mrk : ∀ k, d.length ≤ k → k < d.length + 5 → wr.cell? ⟨b, k, none⟩ = some (.int .u8 171)
theorem Rmy.look {R rc : Nat} (h : Rmy w wr G B (.slice (some ⟨R, 0, none⟩) N rc) L N N) {j : Nat} (hj : j < N) : Rlk wr G R (B j) j (fl L j).1 (fl L j).2 := by
 obtain ⟨cs, o1, o2, o3⟩ := h.out
 have hb := (h.blk j hj).1
 have hcell : ∀ k, k < (fl L j).2.length + 5 → wr.cell? ⟨B j, k, none⟩ = some (.int .u8 ((rmD (fl L j).2).getD k 0).toNat) := fun k hk => by
  rw [cell_of_row wr (B j) k _ _ _ hb, List.getElem?_toArray]
  exact bys_at (by rw [rmD_len]; exact hk)
 refine ⟨?_, ?_, ?_, fun k hk => ⟨B j, 0, rfl, ?_⟩, fun k h1 h2 => ?_⟩
 ·rw [cell_of_row wr G _ _ _ _ o1]; exact (o3 j hj).1
 ·rw [cell_of_row wr G _ _ _ _ o1]; exact (o3 j hj).2
 ·have := h.rows.cells (g := R) rfl j (rsl (B j) ((fl L j).2.length + 5)) (by rw [List.getElem?_map, List.getElem?_range hj]; rfl)
  rwa [add0] at this
 ·rw [Nat.zero_add, hcell k (by omega), rmD_lo hk]
 ·rw [hcell k h2, rmD_hi (by omega) h2]; rfl
theorem Rlk.kept {w' : World} {R b j : Nat} {x d : By} (h : Rlk wr G R b j x d) (hk : Kept [] wr w') : Rlk w' G R b j x d := ⟨hk.cellOf h.c1 (by simp), hk.cellOf h.c2 (by simp), hk.cellOf h.c3 (by simp), h.sl.kept hk (by simp), fun k h1 h2 => hk.cellOf (h.mrk k h1 h2) (by simp)⟩
end
def lfD : List Ro := [⟨some 22, [7], []⟩, ⟨some 23, [2], []⟩, ⟨some 24, [23], [1]⟩, ⟨some 25, [22, 24], [0, 2]⟩, ⟨some 26, [25], [3]⟩, ⟨some 27, [0, 26], [4]⟩, ⟨some 28, [7, 26], [4]⟩, ⟨some 29, [27, 28, 26], [5, 6, 4]⟩, ⟨some 30, [29, 26], [7, 4]⟩, ⟨some 31, [30, 26], [8, 4]⟩, ⟨some 32, [2, 26], [4]⟩, ⟨some 33, [7, 26], [4]⟩, ⟨some 34, [32, 33, 26], [10, 11, 4]⟩, ⟨some 35, [34, 26], [12, 4]⟩, ⟨some 36, [35, 26], [13, 4]⟩, ⟨some 37, [31, 36, 26], [9, 14, 4]⟩, ⟨some 38, [37, 26], [15, 4, 4]⟩, ⟨some 39, [0, 38], [16]⟩, ⟨some 40, [7, 38], [16]⟩, ⟨some 41, [39, 40, 38], [17, 18, 16]⟩, ⟨some 42, [41, 38], [19, 16]⟩, ⟨some 43, [42, 38], [20, 16]⟩, ⟨some 44, [2, 38], [16]⟩, ⟨some 45, [7, 38], [16]⟩, ⟨some 46, [44, 45, 38], [22, 23, 16]⟩, ⟨some 47, [46, 38], [24, 16]⟩, ⟨some 48, [47, 38], [25, 16]⟩, ⟨some 49, [43, 48, 38], [21, 26, 16, 16]⟩, ⟨some 50, [49, 38], [27, 16]⟩, ⟨some 51, [38, 50, 26], [16, 28, 4]⟩, ⟨some 52, [51, 26], [29, 27, 4]⟩, ⟨some 53, [1, 52], [30]⟩, ⟨some 54, [7, 52], [30]⟩, ⟨some 55, [53, 54, 52], [31, 32, 30]⟩, ⟨some 56, [55, 52], [33, 30]⟩, ⟨some 57, [8, 52], [30]⟩, ⟨some 58, [56, 57, 52], [34, 35, 30]⟩, ⟨some 59, [2, 52], [30]⟩, ⟨some 60, [7, 52], [30]⟩, ⟨some 61, [59, 60, 52], [37, 38, 30]⟩, ⟨some 62, [61, 52], [39, 30]⟩, ⟨some 63, [62, 52], [40, 30]⟩, ⟨some 64, [58, 63, 52], [36, 41, 30, 30]⟩, ⟨some 65, [64, 52], [42, 30]⟩, ⟨some 66, [52, 65, 26], [30, 43, 4]⟩, ⟨some 67, [26, 66], [4, 44]⟩, ⟨some 68, [67], [45, 42]⟩, ⟨some 69, [7, 68], [46]⟩, ⟨some 70, [2, 68], [46]⟩, ⟨some 71, [70, 68], [48, 46]⟩, ⟨some 72, [69, 71, 68], [47, 49, 46]⟩, ⟨some 73, [72, 68], [50, 46, 46]⟩, ⟨some 74, [0, 73], [51]⟩, ⟨some 75, [7, 73], [51]⟩, ⟨some 76, [74, 75, 73], [52, 53, 51]⟩, ⟨some 77, [76, 73], [54, 51]⟩, ⟨some 78, [77, 73], [55, 51]⟩, ⟨some 79, [78, 73], [56, 51]⟩, ⟨some 80, [79, 73], [57, 51, 51]⟩, ⟨some 81, [0, 80], [58]⟩, ⟨some 82, [7, 80], [58]⟩, ⟨some 83, [81, 82, 80], [59, 60, 58]⟩, ⟨some 84, [83, 80], [61, 58]⟩, ⟨some 85, [84, 80], [62, 58]⟩, ⟨some 86, [85, 80], [63, 58]⟩, ⟨some 87, [86, 80], [64, 58]⟩, ⟨some 88, [80, 87, 73], [58, 65, 51]⟩, ⟨some 89, [73, 88, 68], [51, 66, 46]⟩, ⟨some 90, [68, 89], [46, 67]⟩]
set_option maxRecDepth 100000 in
theorem lfChkI : chkq lfD [(false, 0), (false, 1), (false, 2), (false, 3), (false, 4), (false, 5), (false, 6), (false, 7), (false, 8), (false, 9), (false, 10), (false, 11), (false, 12), (false, 13), (false, 14), (false, 15), (false, 16), (false, 17), (false, 18), (false, 19), (false, 20), (false, 21), (false, 22), (false, 23), (false, 24), (false, 25), (false, 26), (true, 27), (false, 28), (false, 29), (false, 30), (false, 31), (false, 32), (false, 33), (false, 34), (false, 35), (false, 36), (false, 37), (false, 38), (false, 39), (false, 40), (false, 41), (true, 42), (false, 43), (false, 44), (false, 45), (false, 46), (false, 47), (false, 48), (false, 49), (false, 50), (false, 51), (false, 52), (false, 53), (false, 54), (false, 55), (false, 56), (false, 57), (false, 58), (false, 59), (false, 60), (false, 61), (false, 62), (false, 63), (false, 64), (false, 65), (false, 66), (false, 67), (false, 68)] 0 = true := by kernel_rfl
set_option maxRecDepth 100000 in
theorem lfChkO : chkq lfD [(false, 0), (false, 1), (false, 2), (false, 3), (false, 4), (false, 5), (false, 6), (false, 7), (false, 8), (false, 9), (false, 10), (false, 11), (false, 12), (false, 13), (false, 14), (false, 15), (false, 16), (false, 17), (false, 18), (false, 19), (false, 20), (false, 21), (false, 22), (false, 23), (false, 24), (false, 25), (false, 26), (false, 27), (false, 28), (false, 29), (false, 30), (false, 31), (false, 32), (false, 33), (false, 34), (false, 35), (false, 36), (false, 37), (false, 38), (false, 39), (false, 40), (false, 41), (false, 42), (false, 43), (false, 44), (false, 45), (false, 46), (false, 47), (false, 48), (false, 49), (false, 50), (false, 51), (false, 52), (false, 53), (false, 54), (false, 55), (false, 56), (false, 57), (false, 58), (false, 59), (false, 60), (false, 61), (false, 62), (false, 63), (false, 64), (false, 65), (false, 66), (false, 67), (false, 68)] 0 = true := by kernel_rfl
set_option maxHeartbeats 6400000 in
set_option maxRecDepth 100000 in
theorem left5_ok {w0 : World} (ao : Option Addr) (n c G R rc N : Nat) (B : Nat → Nat) (L : List (By × By)) (w : World) (hx : L.length = n) (hN1 : N ≤ n + 5) (hN2 : n + 5 ≤ N) (hn : n ≤ 100000) (hM : ∀ f ∈ L, f.1.length ≤ 4611686018427387900 ∧ f.2.length ≤ 100000) (h1 : Fio w ao L) (hr : Rmy w0 w G B (.slice (some ⟨R, 0, none⟩) N rc) L N N) :
  Calls Tryz.prog 9 #[.slice (some ⟨G, 0, none⟩) N N, .slice (some ⟨R, 0, none⟩) N rc, .slice ao n c] w fun e w' => e = .returned (.bool true) ∧ Kept [] w w' := by
 have HX := hide hx
 have H1 := hide h1
 have HM := hide hM
 have HR := hide hr
 clear hx h1 hM hr
 go_enter Tryz.func9, Tryz.ntmps9
 go_wp2
 go_loopw [7] (fun i wr => ∃ k : Nat, k ≤ N ∧ i = .int .i64 k ∧ Hid (Kept [] w wr)) (fun i wr => N - (intOf i).toNat)
 case atStart => exact ⟨0, Nat.zero_le _, rfl, hide (Kept.refl [] w)⟩
 case round =>
  obtain ⟨i, hi, rfl, HK⟩ := hrel
  by_cases hiN : i < N
  ·have hlk := (HR.out.look hiN).kept HK.out
   generalize B i = b at hlk
   by_cases hin : i < n
   ·obtain ⟨b1, off, hao, ⟨x, d⟩, hs, e1w, bo1, bc1, e2w, s1, hzn⟩ := H1.out i (by rw [HX.out]; exact hin)
    have hdl := (HM.out _ (List.mem_of_getElem? hs)).2
    rw [fl_in hs] at hlk
    dsimp only at e1w e2w s1 hdl hlk
    subst hao
    have e1 := HK.out.cellOf e1w (by simp)
    have e2 := HK.out.cellOf e2w (by simp)
    have HSD := hide (s1.kept HK.out (by simp))
    have HLK := hide hlk
    have c1 := hlk.c1
    have c2 := hlk.c2
    have c3 := hlk.c3
    obtain ⟨z, hzd⟩ : ∃ z, d.length = z := ⟨_, rfl⟩
    obtain ⟨zc, hzc0⟩ : ∃ zc, d.length + 5 = zc := ⟨_, rfl⟩
    have HZ := hide hzd
    have HZC := hide hzc0
    rw [hzc0] at c2 c3
    rw [hzd] at hdl e2 c2
    have hzc : (zc : Int) - 5 = (z : Int) := by omega
    have hzl : z ≤ zc := by omega
    clear hzd hs e1w e2w s1 hzn hlk hzc0
    go_upto_region 5 with (fail)
    have HK0 : Hid (Kept [] w wr.drew) := hide (HK.out.drew)
    have HS1 : Hid (Sl wr.drew (some ⟨b, 0, none⟩) d) := hide (HLK.out.sl.kept ((Kept.refl [] wr).drew) (by simp))
    have HS2 : Hid (Sl wr.drew bo1 d) := hide (HSD.out.kept ((Kept.refl [] wr).drew) (by simp))
    dsimp only [List.append]
    refine wp_region_seq (S := fun w' => Kept [] wr w') (D := lfD) [(false, 0), (false, 1), (false, 2), (false, 3), (false, 4), (false, 5), (false, 6), (false, 7), (false, 8), (false, 9), (false, 10), (false, 11), (false, 12), (false, 13), (false, 14), (false, 15), (false, 16), (false, 17), (false, 18), (false, 19), (false, 20), (false, 21), (false, 22), (false, 23), (false, 24), (false, 25), (false, 26), (true, 27), (false, 28), (false, 29), (false, 30), (false, 31), (false, 32), (false, 33), (false, 34), (false, 35), (false, 36), (false, 37), (false, 38), (false, 39), (false, 40), (false, 41), (true, 42), (false, 43), (false, 44), (false, 45), (false, 46), (false, 47), (false, 48), (false, 49), (false, 50), (false, 51), (false, 52), (false, 53), (false, 54), (false, 55), (false, 56), (false, 57), (false, 58), (false, 59), (false, 60), (false, 61), (false, 62), (false, 63), (false, 64), (false, 65), (false, 66), (false, 67), (false, 68)] (by kernel_rfl) (by kernel_rfl) (by kernel_rfl) lfChkI (by kernel_rfl) ((Kept.refl [] wr).drew) (fun h0 => ?_)
    generalize World.drew wr = v0 at h0 HK0 HS1 HS2 ⊢
    refine seqH_take (i := 0) (v := .int .i64 i) (d := some 22) rfl (by kernel_rfl) (fun _ _ _ h => h) (Or.inl ⟨by kernel_rfl, fun w hSw => by go_simp⟩) ?_
    try simp only [z4, z5, z6, z7, z8]
    refine seqH_take (i := 1) (v := .slice (some ⟨b1, off, none⟩) n c) (d := some 23) rfl (by kernel_rfl) (fun _ _ _ h => h) (Or.inl ⟨by kernel_rfl, fun w hSw => by go_simp⟩) ?_
    try simp only [z4, z5, z6, z7, z8]
    refine seqH_take (i := 2) (v := .int .i64 n) (d := some 24) rfl (by kernel_rfl) (fun _ _ _ h => h) (Or.inl ⟨by kernel_rfl, fun w hSw => by go_simp⟩) ?_
    try simp only [z4, z5, z6, z7, z8]
    refine seqH_take (i := 3) (v := .bool true) (d := some 25) rfl (by kernel_rfl) (fun _ _ _ h => h) (Or.inl ⟨by kernel_rfl, fun w hSw => by go_simp⟩) ?_
    try simp only [z4, z5, z6, z7, z8]
    refine seqH_take (i := 4) (v := .bool true) (d := some 26) rfl (by kernel_rfl) (fun _ _ _ h => h) (Or.inl ⟨by kernel_rfl, fun w hSw => by go_simp⟩) ?_
    try simp only [z4, z5, z6, z7, z8]
    refine seqH_take (i := 5) (v := .slice (some ⟨G, 0, none⟩) N N) (d := some 27) rfl (by kernel_rfl) (fun _ _ _ h => h) (Or.inl ⟨by kernel_rfl, fun w hSw => by go_simp⟩) ?_
    try simp only [z4, z5, z6, z7, z8]
    refine seqH_take (i := 6) (v := .int .i64 i) (d := some 28) rfl (by kernel_rfl) (fun _ _ _ h => h) (Or.inl ⟨by kernel_rfl, fun w hSw => by go_simp⟩) ?_
    try simp only [z4, z5, z6, z7, z8]
    refine seqH_take (i := 7) (v := .pointer (some ⟨G, i * 2, none⟩)) (d := some 29) rfl (by kernel_rfl) (fun _ _ _ h => h) (Or.inl ⟨by kernel_rfl, fun w hSw => by go_simp⟩) ?_
    try simp only [z4, z5, z6, z7, z8]
    refine seqH_take (i := 8) (v := .pointer (some ⟨G, i * 2, none⟩)) (d := some 30) rfl (by kernel_rfl) (fun _ _ _ h => h) (Or.inl ⟨by kernel_rfl, fun w hSw => by go_simp⟩) ?_
    try simp only [z4, z5, z6, z7, z8]
    refine seqH_take (i := 9) (v := encStr x) (d := some 31) rfl (by kernel_rfl) (fun _ _ _ h => h) (Or.inl ⟨by kernel_rfl, fun w hSw => by have c0 := Kept.cellOf hSw c1 (by simp); go_simp⟩) ?_
    try simp only [z4, z5, z6, z7, z8]
    refine seqH_take (i := 10) (v := .slice (some ⟨b1, off, none⟩) n c) (d := some 32) rfl (by kernel_rfl) (fun _ _ _ h => h) (Or.inl ⟨by kernel_rfl, fun w hSw => by go_simp⟩) ?_
    try simp only [z4, z5, z6, z7, z8]
    refine seqH_take (i := 11) (v := .int .i64 i) (d := some 33) rfl (by kernel_rfl) (fun _ _ _ h => h) (Or.inl ⟨by kernel_rfl, fun w hSw => by go_simp⟩) ?_
    try simp only [z4, z5, z6, z7, z8]
    refine seqH_take (i := 12) (v := .pointer (some ⟨b1, off + i * 2, none⟩)) (d := some 34) rfl (by kernel_rfl) (fun _ _ _ h => h) (Or.inl ⟨by kernel_rfl, fun w hSw => by go_simp⟩) ?_
    try simp only [z4, z5, z6, z7, z8]
    refine seqH_take (i := 13) (v := .pointer (some ⟨b1, off + i * 2, none⟩)) (d := some 35) rfl (by kernel_rfl) (fun _ _ _ h => h) (Or.inl ⟨by kernel_rfl, fun w hSw => by go_simp⟩) ?_
    try simp only [z4, z5, z6, z7, z8]
    refine seqH_take (i := 14) (v := encStr x) (d := some 36) rfl (by kernel_rfl) (fun _ _ _ h => h) (Or.inl ⟨by kernel_rfl, fun w hSw => by have c0 := Kept.cellOf hSw e1 (by simp); go_simp⟩) ?_
    try simp only [z4, z5, z6, z7, z8]
    refine seqH_take (i := 15) (v := .bool false) (d := some 37) rfl (by kernel_rfl) (fun _ _ _ h => h) (Or.inl ⟨by kernel_rfl, fun w hSw => by go_simp⟩) ?_
    try simp only [z4, z5, z6, z7, z8]
    refine seqH_take (i := 16) (v := .bool false) (d := some 38) rfl (by kernel_rfl) (fun _ _ _ h => h) (Or.inl ⟨by kernel_rfl, fun w hSw => by go_simp⟩) ?_
    try simp only [z4, z5, z6, z7, z8]
    refine seqH_take (i := 17) (v := .slice (some ⟨G, 0, none⟩) N N) (d := some 39) rfl (by kernel_rfl) (fun _ _ _ h => h) (Or.inl ⟨by kernel_rfl, fun w hSw => by go_simp⟩) ?_
    try simp only [z4, z5, z6, z7, z8]
    refine seqH_take (i := 18) (v := .int .i64 i) (d := some 40) rfl (by kernel_rfl) (fun _ _ _ h => h) (Or.inl ⟨by kernel_rfl, fun w hSw => by go_simp⟩) ?_
    try simp only [z4, z5, z6, z7, z8]
    refine seqH_take (i := 19) (v := .pointer (some ⟨G, i * 2, none⟩)) (d := some 41) rfl (by kernel_rfl) (fun _ _ _ h => h) (Or.inl ⟨by kernel_rfl, fun w hSw => by go_simp⟩) ?_
    try simp only [z4, z5, z6, z7, z8]
    refine seqH_take (i := 20) (v := .pointer (some ⟨G, i * 2 + 1, none⟩)) (d := some 42) rfl (by kernel_rfl) (fun _ _ _ h => h) (Or.inl ⟨by kernel_rfl, fun w hSw => by go_simp⟩) ?_
    try simp only [z4, z5, z6, z7, z8]
    refine seqH_take (i := 21) (v := .slice (some ⟨b, 0, none⟩) z zc) (d := some 43) rfl (by kernel_rfl) (fun _ _ _ h => h) (Or.inl ⟨by kernel_rfl, fun w hSw => by have c0 := Kept.cellOf hSw c2 (by simp); go_simp⟩) ?_
    try simp only [z4, z5, z6, z7, z8]
    refine seqH_take (i := 22) (v := .slice (some ⟨b1, off, none⟩) n c) (d := some 44) rfl (by kernel_rfl) (fun _ _ _ h => h) (Or.inl ⟨by kernel_rfl, fun w hSw => by go_simp⟩) ?_
    try simp only [z4, z5, z6, z7, z8]
    refine seqH_take (i := 23) (v := .int .i64 i) (d := some 45) rfl (by kernel_rfl) (fun _ _ _ h => h) (Or.inl ⟨by kernel_rfl, fun w hSw => by go_simp⟩) ?_
    try simp only [z4, z5, z6, z7, z8]
    refine seqH_take (i := 24) (v := .pointer (some ⟨b1, off + i * 2, none⟩)) (d := some 46) rfl (by kernel_rfl) (fun _ _ _ h => h) (Or.inl ⟨by kernel_rfl, fun w hSw => by go_simp⟩) ?_
    try simp only [z4, z5, z6, z7, z8]
    refine seqH_take (i := 25) (v := .pointer (some ⟨b1, off + i * 2 + 1, none⟩)) (d := some 47) rfl (by kernel_rfl) (fun _ _ _ h => h) (Or.inl ⟨by kernel_rfl, fun w hSw => by go_simp⟩) ?_
    try simp only [z4, z5, z6, z7, z8]
    refine seqH_take (i := 26) (v := .slice bo1 z bc1) (d := some 48) rfl (by kernel_rfl) (fun _ _ _ h => h) (Or.inl ⟨by kernel_rfl, fun w hSw => by have c0 := Kept.cellOf hSw e2 (by simp); go_simp⟩) ?_
    try simp only [z4, z5, z6, z7, z8]
    refine seqH_run (i := 27) rfl (fun K hK => ?_)
    rw [if_pos (by kernel_rfl)]
    go_simp
    refine (bytes_yes (some ⟨b, 0, none⟩) bo1 z zc bc1 d _ HZ.out (by omega) HS1.out HS2.out).mono ?_
    rintro e v1 ⟨rfl, kk, hw⟩
    have hk1 : Kept [] v0 v1 := by rw [hw]; exact (Kept.refl [] _).drewN kk
    have HS1 := hide (HS1.out.kept hk1 (by simp))
    have HS2 := hide (HS2.out.kept hk1 (by simp))
    have HK0 := hide (HK0.out.trans hk1 (by simp))
    clear hw
    refine hK.out _ _ (h0.trans hk1 (by simp)) (fun h1 => ?_)
    clear hK K
    try simp only [z4, z5, z6, z7, z8]
    refine seqH_take (i := 28) (v := .bool false) (d := some 50) rfl (by kernel_rfl) (fun _ _ _ h => h) (Or.inl ⟨by kernel_rfl, fun w hSw => by go_simp⟩) ?_
    try simp only [z4, z5, z6, z7, z8]
    refine seqH_take (i := 29) (v := .bool false) (d := some 51) rfl (by kernel_rfl) (fun _ _ _ h => h) (Or.inl ⟨by kernel_rfl, fun w hSw => by go_simp⟩) ?_
    try simp only [z4, z5, z6, z7, z8]
    refine seqH_take (i := 30) (v := .bool false) (d := some 52) rfl (by kernel_rfl) (fun _ _ _ h => h) (Or.inl ⟨by kernel_rfl, fun w hSw => by go_simp⟩) ?_
    try simp only [z4, z5, z6, z7, z8]
    refine seqH_take (i := 31) (v := .slice (some ⟨R, 0, none⟩) N rc) (d := some 53) rfl (by kernel_rfl) (fun _ _ _ h => h) (Or.inl ⟨by kernel_rfl, fun w hSw => by go_simp⟩) ?_
    try simp only [z4, z5, z6, z7, z8]
    refine seqH_take (i := 32) (v := .int .i64 i) (d := some 54) rfl (by kernel_rfl) (fun _ _ _ h => h) (Or.inl ⟨by kernel_rfl, fun w hSw => by go_simp⟩) ?_
    try simp only [z4, z5, z6, z7, z8]
    refine seqH_take (i := 33) (v := .pointer (some ⟨R, i, none⟩)) (d := some 55) rfl (by kernel_rfl) (fun _ _ _ h => h) (Or.inl ⟨by kernel_rfl, fun w hSw => by go_simp⟩) ?_
    try simp only [z4, z5, z6, z7, z8]
    refine seqH_take (i := 34) (v := .slice (some ⟨b, 0, none⟩) zc zc) (d := some 56) rfl (by kernel_rfl) (fun _ _ _ h => h) (Or.inl ⟨by kernel_rfl, fun w hSw => by have c0 := Kept.cellOf hSw c3 (by simp); go_simp⟩) ?_
    try simp only [z4, z5, z6, z7, z8]
    refine seqH_take (i := 35) (v := .int .i64 z) (d := some 57) rfl (by kernel_rfl) (fun _ _ _ h => h) (Or.inl ⟨by kernel_rfl, fun w hSw => by go_simp⟩) ?_
    try simp only [z4, z5, z6, z7, z8]
    refine seqH_take (i := 36) (v := .slice (some ⟨b, 0, none⟩) z zc) (d := some 58) rfl (by kernel_rfl) (fun _ _ _ h => h) (Or.inl ⟨by kernel_rfl, fun w hSw => by go_simp⟩) ?_
    try simp only [z4, z5, z6, z7, z8]
    refine seqH_take (i := 37) (v := .slice (some ⟨b1, off, none⟩) n c) (d := some 59) rfl (by kernel_rfl) (fun _ _ _ h => h) (Or.inl ⟨by kernel_rfl, fun w hSw => by go_simp⟩) ?_
    try simp only [z4, z5, z6, z7, z8]
    refine seqH_take (i := 38) (v := .int .i64 i) (d := some 60) rfl (by kernel_rfl) (fun _ _ _ h => h) (Or.inl ⟨by kernel_rfl, fun w hSw => by go_simp⟩) ?_
    try simp only [z4, z5, z6, z7, z8]
    refine seqH_take (i := 39) (v := .pointer (some ⟨b1, off + i * 2, none⟩)) (d := some 61) rfl (by kernel_rfl) (fun _ _ _ h => h) (Or.inl ⟨by kernel_rfl, fun w hSw => by go_simp⟩) ?_
    try simp only [z4, z5, z6, z7, z8]
    refine seqH_take (i := 40) (v := .pointer (some ⟨b1, off + i * 2 + 1, none⟩)) (d := some 62) rfl (by kernel_rfl) (fun _ _ _ h => h) (Or.inl ⟨by kernel_rfl, fun w hSw => by go_simp⟩) ?_
    try simp only [z4, z5, z6, z7, z8]
    refine seqH_take (i := 41) (v := .slice bo1 z bc1) (d := some 63) rfl (by kernel_rfl) (fun _ _ _ h => h) (Or.inl ⟨by kernel_rfl, fun w hSw => by have c0 := Kept.cellOf hSw e2 (by simp); go_simp⟩) ?_
    try simp only [z4, z5, z6, z7, z8]
    refine seqH_run (i := 42) rfl (fun K hK => ?_)
    rw [if_pos (by kernel_rfl)]
    go_simp
    refine (bytes_yes (some ⟨b, 0, none⟩) bo1 z zc bc1 d _ HZ.out (by omega) HS1.out HS2.out).mono ?_
    rintro e v2 ⟨rfl, kk, hw⟩
    have hk2 : Kept [] v1 v2 := by rw [hw]; exact (Kept.refl [] _).drewN kk
    have HS1 := hide (HS1.out.kept hk2 (by simp))
    have HS2 := hide (HS2.out.kept hk2 (by simp))
    have HK0 := hide (HK0.out.trans hk2 (by simp))
    clear hw
    refine hK.out _ _ (h1.trans hk2 (by simp)) (fun h2 => ?_)
    clear hK K
    try simp only [z4, z5, z6, z7, z8]
    refine seqH_take (i := 43) (v := .bool false) (d := some 65) rfl (by kernel_rfl) (fun _ _ _ h => h) (Or.inl ⟨by kernel_rfl, fun w hSw => by go_simp⟩) ?_
    try simp only [z4, z5, z6, z7, z8]
    refine seqH_take (i := 44) (v := .bool false) (d := some 66) rfl (by kernel_rfl) (fun _ _ _ h => h) (Or.inl ⟨by kernel_rfl, fun w hSw => by go_simp⟩) ?_
    try simp only [z4, z5, z6, z7, z8]
    refine seqH_take (i := 45) (v := .bool false) (d := some 67) rfl (by kernel_rfl) (fun _ _ _ h => h) (Or.inl ⟨by kernel_rfl, fun w hSw => by go_simp⟩) ?_
    try simp only [z4, z5, z6, z7, z8]
    refine seqH_take (i := 46) (v := .bool false) (d := some 68) rfl (by kernel_rfl) (fun _ _ _ h => h) (Or.inl ⟨by kernel_rfl, fun w hSw => by go_simp⟩) ?_
    try simp only [z4, z5, z6, z7, z8]
    refine seqH_take (i := 47) (v := .int .i64 i) (d := some 69) rfl (by kernel_rfl) (fun _ _ _ h => h) (Or.inl ⟨by kernel_rfl, fun w hSw => by go_simp⟩) ?_
    try simp only [z4, z5, z6, z7, z8]
    refine seqH_take (i := 48) (v := .slice (some ⟨b1, off, none⟩) n c) (d := some 70) rfl (by kernel_rfl) (fun _ _ _ h => h) (Or.inl ⟨by kernel_rfl, fun w hSw => by go_simp⟩) ?_
    try simp only [z4, z5, z6, z7, z8]
    refine seqH_take (i := 49) (v := .int .i64 n) (d := some 71) rfl (by kernel_rfl) (fun _ _ _ h => h) (Or.inl ⟨by kernel_rfl, fun w hSw => by go_simp⟩) ?_
    try simp only [z4, z5, z6, z7, z8]
    refine seqH_take (i := 50) (v := .bool false) (d := some 72) rfl (by kernel_rfl) (fun _ _ _ h => h) (Or.inl ⟨by kernel_rfl, fun w hSw => by go_simp⟩) ?_
    try simp only [z4, z5, z6, z7, z8]
    refine seqH_take (i := 51) (v := .bool false) (d := some 73) rfl (by kernel_rfl) (fun _ _ _ h => h) (Or.inl ⟨by kernel_rfl, fun w hSw => by go_simp⟩) ?_
    try simp only [z4, z5, z6, z7, z8]
    refine seqH_take (i := 52) (v := undef) (d := some 74) rfl (by kernel_rfl) (fun _ _ _ h => h) (Or.inr ⟨by kernel_rfl, rfl⟩) ?_
    try simp only [z4, z5, z6, z7, z8]
    refine seqH_take (i := 53) (v := undef) (d := some 75) rfl (by kernel_rfl) (fun _ _ _ h => h) (Or.inr ⟨by kernel_rfl, rfl⟩) ?_
    try simp only [z4, z5, z6, z7, z8]
    refine seqH_take (i := 54) (v := undef) (d := some 76) rfl (by kernel_rfl) (fun _ _ _ h => h) (Or.inr ⟨by kernel_rfl, rfl⟩) ?_
    try simp only [z4, z5, z6, z7, z8]
    refine seqH_take (i := 55) (v := undef) (d := some 77) rfl (by kernel_rfl) (fun _ _ _ h => h) (Or.inr ⟨by kernel_rfl, rfl⟩) ?_
    try simp only [z4, z5, z6, z7, z8]
    refine seqH_take (i := 56) (v := undef) (d := some 78) rfl (by kernel_rfl) (fun _ _ _ h => h) (Or.inr ⟨by kernel_rfl, rfl⟩) ?_
    try simp only [z4, z5, z6, z7, z8]
    refine seqH_take (i := 57) (v := undef) (d := some 79) rfl (by kernel_rfl) (fun _ _ _ h => h) (Or.inr ⟨by kernel_rfl, rfl⟩) ?_
    try simp only [z4, z5, z6, z7, z8]
    refine seqH_take (i := 58) (v := undef) (d := some 80) rfl (by kernel_rfl) (fun _ _ _ h => h) (Or.inr ⟨by kernel_rfl, rfl⟩) ?_
    try simp only [z4, z5, z6, z7, z8]
    refine seqH_take (i := 59) (v := undef) (d := some 81) rfl (by kernel_rfl) (fun _ _ _ h => h) (Or.inr ⟨by kernel_rfl, rfl⟩) ?_
    try simp only [z4, z5, z6, z7, z8]
    refine seqH_take (i := 60) (v := undef) (d := some 82) rfl (by kernel_rfl) (fun _ _ _ h => h) (Or.inr ⟨by kernel_rfl, rfl⟩) ?_
    try simp only [z4, z5, z6, z7, z8]
    refine seqH_take (i := 61) (v := undef) (d := some 83) rfl (by kernel_rfl) (fun _ _ _ h => h) (Or.inr ⟨by kernel_rfl, rfl⟩) ?_
    try simp only [z4, z5, z6, z7, z8]
    refine seqH_take (i := 62) (v := undef) (d := some 84) rfl (by kernel_rfl) (fun _ _ _ h => h) (Or.inr ⟨by kernel_rfl, rfl⟩) ?_
    try simp only [z4, z5, z6, z7, z8]
    refine seqH_take (i := 63) (v := undef) (d := some 85) rfl (by kernel_rfl) (fun _ _ _ h => h) (Or.inr ⟨by kernel_rfl, rfl⟩) ?_
    try simp only [z4, z5, z6, z7, z8]
    refine seqH_take (i := 64) (v := undef) (d := some 86) rfl (by kernel_rfl) (fun _ _ _ h => h) (Or.inr ⟨by kernel_rfl, rfl⟩) ?_
    try simp only [z4, z5, z6, z7, z8]
    refine seqH_take (i := 65) (v := undef) (d := some 87) rfl (by kernel_rfl) (fun _ _ _ h => h) (Or.inr ⟨by kernel_rfl, rfl⟩) ?_
    try simp only [z4, z5, z6, z7, z8]
    refine seqH_take (i := 66) (v := undef) (d := some 88) rfl (by kernel_rfl) (fun _ _ _ h => h) (Or.inr ⟨by kernel_rfl, rfl⟩) ?_
    try simp only [z4, z5, z6, z7, z8]
    refine seqH_take (i := 67) (v := .bool false) (d := some 89) rfl (by kernel_rfl) (fun _ _ _ h => h) (Or.inl ⟨by kernel_rfl, fun w hSw => by go_simp⟩) ?_
    try simp only [z4, z5, z6, z7, z8]
    refine seqH_take (i := 68) (v := .bool false) (d := some 90) rfl (by kernel_rfl) (fun _ _ _ h => h) (Or.inl ⟨by kernel_rfl, fun w hSw => by go_simp⟩) ?_
    try simp only [z4, z5, z6, z7, z8]
    refine seqH_done ?_
    try clear HS1 HS2
    obtain ⟨wq, hwq⟩ : ∃ x, x = v2 := ⟨_, rfl⟩
    rw [← hwq] at HK0 ⊢
    have HKQ : Hid (Kept [] wr wq) := hide (by rw [hwq]; exact h2)
    have HLQ := hide (HLK.out.kept HKQ.out)
    clear HLK hwq
    go_wp2
    go_loopw [9] (fun kv wx => ∃ k : Nat, z ≤ k ∧ k ≤ zc ∧ kv = .int .i64 k ∧ wx = wq) (fun kv wx => zc - (intOf kv).toNat)
    case atStart => exact ⟨z, by omega, by omega, rfl, by first | rfl | trivial⟩
    case round =>
     obtain ⟨k, hk1, hk2, rfl, hww⟩ := hrel
     obtain rfl := hww.symm
     have c3 := HLQ.out.c3
     rw [HZC.out] at c3
     by_cases hkz : k < zc
     ·have cm := HLQ.out.mrk k (by rw [HZ.out]; exact hk1) (by rw [HZC.out]; exact hkz)
      go_wp2
      go_roundw
      case rel => exact ⟨k + 1, by omega, by omega, by go_num, by first | rfl | trivial⟩
      case measure => simp [intOf]; omega
     ·go_wp2
      go_roundw
      case rel => exact ⟨i + 1, by omega, by go_num, HK0⟩
      case measure => simp [intOf]; omega
   ·rw [fl_out (by rw [HX.out]; exact hin)] at hlk
    have HLK := hide hlk
    have c1 : wr.cell? ⟨G, i * 2, none⟩ = some (.string { data := #[109, 97, 114, 107] }) := hlk.c1
    have c2 : wr.cell? ⟨G, i * 2 + 1, none⟩ = some (.slice (some ⟨b, 0, none⟩) 0 5) := hlk.c2
    have c3 : wr.cell? ⟨R, i, none⟩ = some (.slice (some ⟨b, 0, none⟩) 5 5) := hlk.c3
    obtain ⟨zc, hzc0⟩ : ∃ zc : Nat, 5 = zc := ⟨_, rfl⟩
    have HZ : Hid (([] : By).length = 0) := hide rfl
    have HZC : Hid (([] : By).length + 5 = zc) := hide hzc0
    rw [hzc0] at c2 c3
    have hzc : (zc : Int) - 5 = 0 := by omega
    clear hzc0 hlk
    have hni : n ≤ i := by omega
    go_upto_region 5 with (fail)
    have HK0 : Hid (Kept [] w wr.drew) := hide (HK.out.drew)
    dsimp only [List.append]
    refine wp_region_seq (S := fun w' => Kept [] wr w') (D := lfD) [(false, 0), (false, 1), (false, 2), (false, 3), (false, 4), (false, 5), (false, 6), (false, 7), (false, 8), (false, 9), (false, 10), (false, 11), (false, 12), (false, 13), (false, 14), (false, 15), (false, 16), (false, 17), (false, 18), (false, 19), (false, 20), (false, 21), (false, 22), (false, 23), (false, 24), (false, 25), (false, 26), (false, 27), (false, 28), (false, 29), (false, 30), (false, 31), (false, 32), (false, 33), (false, 34), (false, 35), (false, 36), (false, 37), (false, 38), (false, 39), (false, 40), (false, 41), (false, 42), (false, 43), (false, 44), (false, 45), (false, 46), (false, 47), (false, 48), (false, 49), (false, 50), (false, 51), (false, 52), (false, 53), (false, 54), (false, 55), (false, 56), (false, 57), (false, 58), (false, 59), (false, 60), (false, 61), (false, 62), (false, 63), (false, 64), (false, 65), (false, 66), (false, 67), (false, 68)] (by kernel_rfl) (by kernel_rfl) (by kernel_rfl) lfChkO (by kernel_rfl) ((Kept.refl [] wr).drew) (fun h0 => ?_)
    generalize World.drew wr = v0 at h0 HK0 ⊢
    refine seqH_take (i := 0) (v := .int .i64 i) (d := some 22) rfl (by kernel_rfl) (fun _ _ _ h => h) (Or.inl ⟨by kernel_rfl, fun w hSw => by go_simp⟩) ?_
    try simp only [z4, z5, z6, z7, z8]
    refine seqH_take (i := 1) (v := .slice ao n c) (d := some 23) rfl (by kernel_rfl) (fun _ _ _ h => h) (Or.inl ⟨by kernel_rfl, fun w hSw => by go_simp⟩) ?_
    try simp only [z4, z5, z6, z7, z8]
    refine seqH_take (i := 2) (v := .int .i64 n) (d := some 24) rfl (by kernel_rfl) (fun _ _ _ h => h) (Or.inl ⟨by kernel_rfl, fun w hSw => by go_simp⟩) ?_
    try simp only [z4, z5, z6, z7, z8]
    refine seqH_take (i := 3) (v := .bool false) (d := some 25) rfl (by kernel_rfl) (fun _ _ _ h => h) (Or.inl ⟨by kernel_rfl, fun w hSw => by go_simp⟩) ?_
    try simp only [z4, z5, z6, z7, z8]
    refine seqH_take (i := 4) (v := .bool false) (d := some 26) rfl (by kernel_rfl) (fun _ _ _ h => h) (Or.inl ⟨by kernel_rfl, fun w hSw => by go_simp⟩) ?_
    try simp only [z4, z5, z6, z7, z8]
    refine seqH_take (i := 5) (v := undef) (d := some 27) rfl (by kernel_rfl) (fun _ _ _ h => h) (Or.inr ⟨by kernel_rfl, rfl⟩) ?_
    try simp only [z4, z5, z6, z7, z8]
    refine seqH_take (i := 6) (v := undef) (d := some 28) rfl (by kernel_rfl) (fun _ _ _ h => h) (Or.inr ⟨by kernel_rfl, rfl⟩) ?_
    try simp only [z4, z5, z6, z7, z8]
    refine seqH_take (i := 7) (v := undef) (d := some 29) rfl (by kernel_rfl) (fun _ _ _ h => h) (Or.inr ⟨by kernel_rfl, rfl⟩) ?_
    try simp only [z4, z5, z6, z7, z8]
    refine seqH_take (i := 8) (v := undef) (d := some 30) rfl (by kernel_rfl) (fun _ _ _ h => h) (Or.inr ⟨by kernel_rfl, rfl⟩) ?_
    try simp only [z4, z5, z6, z7, z8]
    refine seqH_take (i := 9) (v := undef) (d := some 31) rfl (by kernel_rfl) (fun _ _ _ h => h) (Or.inr ⟨by kernel_rfl, rfl⟩) ?_
    try simp only [z4, z5, z6, z7, z8]
    refine seqH_take (i := 10) (v := undef) (d := some 32) rfl (by kernel_rfl) (fun _ _ _ h => h) (Or.inr ⟨by kernel_rfl, rfl⟩) ?_
    try simp only [z4, z5, z6, z7, z8]
    refine seqH_take (i := 11) (v := undef) (d := some 33) rfl (by kernel_rfl) (fun _ _ _ h => h) (Or.inr ⟨by kernel_rfl, rfl⟩) ?_
    try simp only [z4, z5, z6, z7, z8]
    refine seqH_take (i := 12) (v := undef) (d := some 34) rfl (by kernel_rfl) (fun _ _ _ h => h) (Or.inr ⟨by kernel_rfl, rfl⟩) ?_
    try simp only [z4, z5, z6, z7, z8]
    refine seqH_take (i := 13) (v := undef) (d := some 35) rfl (by kernel_rfl) (fun _ _ _ h => h) (Or.inr ⟨by kernel_rfl, rfl⟩) ?_
    try simp only [z4, z5, z6, z7, z8]
    refine seqH_take (i := 14) (v := undef) (d := some 36) rfl (by kernel_rfl) (fun _ _ _ h => h) (Or.inr ⟨by kernel_rfl, rfl⟩) ?_
    try simp only [z4, z5, z6, z7, z8]
    refine seqH_take (i := 15) (v := undef) (d := some 37) rfl (by kernel_rfl) (fun _ _ _ h => h) (Or.inr ⟨by kernel_rfl, rfl⟩) ?_
    try simp only [z4, z5, z6, z7, z8]
    refine seqH_take (i := 16) (v := undef) (d := some 38) rfl (by kernel_rfl) (fun _ _ _ h => h) (Or.inr ⟨by kernel_rfl, rfl⟩) ?_
    try simp only [z4, z5, z6, z7, z8]
    refine seqH_take (i := 17) (v := undef) (d := some 39) rfl (by kernel_rfl) (fun _ _ _ h => h) (Or.inr ⟨by kernel_rfl, rfl⟩) ?_
    try simp only [z4, z5, z6, z7, z8]
    refine seqH_take (i := 18) (v := undef) (d := some 40) rfl (by kernel_rfl) (fun _ _ _ h => h) (Or.inr ⟨by kernel_rfl, rfl⟩) ?_
    try simp only [z4, z5, z6, z7, z8]
    refine seqH_take (i := 19) (v := undef) (d := some 41) rfl (by kernel_rfl) (fun _ _ _ h => h) (Or.inr ⟨by kernel_rfl, rfl⟩) ?_
    try simp only [z4, z5, z6, z7, z8]
    refine seqH_take (i := 20) (v := undef) (d := some 42) rfl (by kernel_rfl) (fun _ _ _ h => h) (Or.inr ⟨by kernel_rfl, rfl⟩) ?_
    try simp only [z4, z5, z6, z7, z8]
    refine seqH_take (i := 21) (v := undef) (d := some 43) rfl (by kernel_rfl) (fun _ _ _ h => h) (Or.inr ⟨by kernel_rfl, rfl⟩) ?_
    try simp only [z4, z5, z6, z7, z8]
    refine seqH_take (i := 22) (v := undef) (d := some 44) rfl (by kernel_rfl) (fun _ _ _ h => h) (Or.inr ⟨by kernel_rfl, rfl⟩) ?_
    try simp only [z4, z5, z6, z7, z8]
    refine seqH_take (i := 23) (v := undef) (d := some 45) rfl (by kernel_rfl) (fun _ _ _ h => h) (Or.inr ⟨by kernel_rfl, rfl⟩) ?_
    try simp only [z4, z5, z6, z7, z8]
    refine seqH_take (i := 24) (v := undef) (d := some 46) rfl (by kernel_rfl) (fun _ _ _ h => h) (Or.inr ⟨by kernel_rfl, rfl⟩) ?_
    try simp only [z4, z5, z6, z7, z8]
    refine seqH_take (i := 25) (v := undef) (d := some 47) rfl (by kernel_rfl) (fun _ _ _ h => h) (Or.inr ⟨by kernel_rfl, rfl⟩) ?_
    try simp only [z4, z5, z6, z7, z8]
    refine seqH_take (i := 26) (v := undef) (d := some 48) rfl (by kernel_rfl) (fun _ _ _ h => h) (Or.inr ⟨by kernel_rfl, rfl⟩) ?_
    try simp only [z4, z5, z6, z7, z8]
    refine seqH_take (i := 27) (v := undef) (d := some 49) rfl (by kernel_rfl) (fun _ _ _ h => h) (Or.inr ⟨by kernel_rfl, rfl⟩) ?_
    try simp only [z4, z5, z6, z7, z8]
    refine seqH_take (i := 28) (v := undef) (d := some 50) rfl (by kernel_rfl) (fun _ _ _ h => h) (Or.inr ⟨by kernel_rfl, rfl⟩) ?_
    try simp only [z4, z5, z6, z7, z8]
    refine seqH_take (i := 29) (v := undef) (d := some 51) rfl (by kernel_rfl) (fun _ _ _ h => h) (Or.inr ⟨by kernel_rfl, rfl⟩) ?_
    try simp only [z4, z5, z6, z7, z8]
    refine seqH_take (i := 30) (v := undef) (d := some 52) rfl (by kernel_rfl) (fun _ _ _ h => h) (Or.inr ⟨by kernel_rfl, rfl⟩) ?_
    try simp only [z4, z5, z6, z7, z8]
    refine seqH_take (i := 31) (v := undef) (d := some 53) rfl (by kernel_rfl) (fun _ _ _ h => h) (Or.inr ⟨by kernel_rfl, rfl⟩) ?_
    try simp only [z4, z5, z6, z7, z8]
    refine seqH_take (i := 32) (v := undef) (d := some 54) rfl (by kernel_rfl) (fun _ _ _ h => h) (Or.inr ⟨by kernel_rfl, rfl⟩) ?_
    try simp only [z4, z5, z6, z7, z8]
    refine seqH_take (i := 33) (v := undef) (d := some 55) rfl (by kernel_rfl) (fun _ _ _ h => h) (Or.inr ⟨by kernel_rfl, rfl⟩) ?_
    try simp only [z4, z5, z6, z7, z8]
    refine seqH_take (i := 34) (v := undef) (d := some 56) rfl (by kernel_rfl) (fun _ _ _ h => h) (Or.inr ⟨by kernel_rfl, rfl⟩) ?_
    try simp only [z4, z5, z6, z7, z8]
    refine seqH_take (i := 35) (v := undef) (d := some 57) rfl (by kernel_rfl) (fun _ _ _ h => h) (Or.inr ⟨by kernel_rfl, rfl⟩) ?_
    try simp only [z4, z5, z6, z7, z8]
    refine seqH_take (i := 36) (v := undef) (d := some 58) rfl (by kernel_rfl) (fun _ _ _ h => h) (Or.inr ⟨by kernel_rfl, rfl⟩) ?_
    try simp only [z4, z5, z6, z7, z8]
    refine seqH_take (i := 37) (v := undef) (d := some 59) rfl (by kernel_rfl) (fun _ _ _ h => h) (Or.inr ⟨by kernel_rfl, rfl⟩) ?_
    try simp only [z4, z5, z6, z7, z8]
    refine seqH_take (i := 38) (v := undef) (d := some 60) rfl (by kernel_rfl) (fun _ _ _ h => h) (Or.inr ⟨by kernel_rfl, rfl⟩) ?_
    try simp only [z4, z5, z6, z7, z8]
    refine seqH_take (i := 39) (v := undef) (d := some 61) rfl (by kernel_rfl) (fun _ _ _ h => h) (Or.inr ⟨by kernel_rfl, rfl⟩) ?_
    try simp only [z4, z5, z6, z7, z8]
    refine seqH_take (i := 40) (v := undef) (d := some 62) rfl (by kernel_rfl) (fun _ _ _ h => h) (Or.inr ⟨by kernel_rfl, rfl⟩) ?_
    try simp only [z4, z5, z6, z7, z8]
    refine seqH_take (i := 41) (v := undef) (d := some 63) rfl (by kernel_rfl) (fun _ _ _ h => h) (Or.inr ⟨by kernel_rfl, rfl⟩) ?_
    try simp only [z4, z5, z6, z7, z8]
    refine seqH_take (i := 42) (v := undef) (d := some 64) rfl (by kernel_rfl) (fun _ _ _ h => h) (Or.inr ⟨by kernel_rfl, rfl⟩) ?_
    try simp only [z4, z5, z6, z7, z8]
    refine seqH_take (i := 43) (v := undef) (d := some 65) rfl (by kernel_rfl) (fun _ _ _ h => h) (Or.inr ⟨by kernel_rfl, rfl⟩) ?_
    try simp only [z4, z5, z6, z7, z8]
    refine seqH_take (i := 44) (v := undef) (d := some 66) rfl (by kernel_rfl) (fun _ _ _ h => h) (Or.inr ⟨by kernel_rfl, rfl⟩) ?_
    try simp only [z4, z5, z6, z7, z8]
    refine seqH_take (i := 45) (v := .bool false) (d := some 67) rfl (by kernel_rfl) (fun _ _ _ h => h) (Or.inl ⟨by kernel_rfl, fun w hSw => by go_simp⟩) ?_
    try simp only [z4, z5, z6, z7, z8]
    refine seqH_take (i := 46) (v := .bool false) (d := some 68) rfl (by kernel_rfl) (fun _ _ _ h => h) (Or.inl ⟨by kernel_rfl, fun w hSw => by go_simp⟩) ?_
    try simp only [z4, z5, z6, z7, z8]
    refine seqH_take (i := 47) (v := .int .i64 i) (d := some 69) rfl (by kernel_rfl) (fun _ _ _ h => h) (Or.inl ⟨by kernel_rfl, fun w hSw => by go_simp⟩) ?_
    try simp only [z4, z5, z6, z7, z8]
    refine seqH_take (i := 48) (v := .slice ao n c) (d := some 70) rfl (by kernel_rfl) (fun _ _ _ h => h) (Or.inl ⟨by kernel_rfl, fun w hSw => by go_simp⟩) ?_
    try simp only [z4, z5, z6, z7, z8]
    refine seqH_take (i := 49) (v := .int .i64 n) (d := some 71) rfl (by kernel_rfl) (fun _ _ _ h => h) (Or.inl ⟨by kernel_rfl, fun w hSw => by go_simp⟩) ?_
    try simp only [z4, z5, z6, z7, z8]
    refine seqH_take (i := 50) (v := .bool true) (d := some 72) rfl (by kernel_rfl) (fun _ _ _ h => h) (Or.inl ⟨by kernel_rfl, fun w hSw => by go_simp⟩) ?_
    try simp only [z4, z5, z6, z7, z8]
    refine seqH_take (i := 51) (v := .bool true) (d := some 73) rfl (by kernel_rfl) (fun _ _ _ h => h) (Or.inl ⟨by kernel_rfl, fun w hSw => by go_simp⟩) ?_
    try simp only [z4, z5, z6, z7, z8]
    refine seqH_take (i := 52) (v := .slice (some ⟨G, 0, none⟩) N N) (d := some 74) rfl (by kernel_rfl) (fun _ _ _ h => h) (Or.inl ⟨by kernel_rfl, fun w hSw => by go_simp⟩) ?_
    try simp only [z4, z5, z6, z7, z8]
    refine seqH_take (i := 53) (v := .int .i64 i) (d := some 75) rfl (by kernel_rfl) (fun _ _ _ h => h) (Or.inl ⟨by kernel_rfl, fun w hSw => by go_simp⟩) ?_
    try simp only [z4, z5, z6, z7, z8]
    refine seqH_take (i := 54) (v := .pointer (some ⟨G, i * 2, none⟩)) (d := some 76) rfl (by kernel_rfl) (fun _ _ _ h => h) (Or.inl ⟨by kernel_rfl, fun w hSw => by go_simp⟩) ?_
    try simp only [z4, z5, z6, z7, z8]
    refine seqH_take (i := 55) (v := .pointer (some ⟨G, i * 2, none⟩)) (d := some 77) rfl (by kernel_rfl) (fun _ _ _ h => h) (Or.inl ⟨by kernel_rfl, fun w hSw => by go_simp⟩) ?_
    try simp only [z4, z5, z6, z7, z8]
    refine seqH_take (i := 56) (v := .string { data := #[109, 97, 114, 107] }) (d := some 78) rfl (by kernel_rfl) (fun _ _ _ h => h) (Or.inl ⟨by kernel_rfl, fun w hSw => by have c0 := Kept.cellOf hSw c1 (by simp); go_simp⟩) ?_
    try simp only [z4, z5, z6, z7, z8]
    refine seqH_take (i := 57) (v := .bool false) (d := some 79) rfl (by kernel_rfl) (fun _ _ _ h => h) (Or.inl ⟨by kernel_rfl, fun w hSw => by go_simp⟩) ?_
    try simp only [z4, z5, z6, z7, z8]
    refine seqH_take (i := 58) (v := .bool false) (d := some 80) rfl (by kernel_rfl) (fun _ _ _ h => h) (Or.inl ⟨by kernel_rfl, fun w hSw => by go_simp⟩) ?_
    try simp only [z4, z5, z6, z7, z8]
    refine seqH_take (i := 59) (v := .slice (some ⟨G, 0, none⟩) N N) (d := some 81) rfl (by kernel_rfl) (fun _ _ _ h => h) (Or.inl ⟨by kernel_rfl, fun w hSw => by go_simp⟩) ?_
    try simp only [z4, z5, z6, z7, z8]
    refine seqH_take (i := 60) (v := .int .i64 i) (d := some 82) rfl (by kernel_rfl) (fun _ _ _ h => h) (Or.inl ⟨by kernel_rfl, fun w hSw => by go_simp⟩) ?_
    try simp only [z4, z5, z6, z7, z8]
    refine seqH_take (i := 61) (v := .pointer (some ⟨G, i * 2, none⟩)) (d := some 83) rfl (by kernel_rfl) (fun _ _ _ h => h) (Or.inl ⟨by kernel_rfl, fun w hSw => by go_simp⟩) ?_
    try simp only [z4, z5, z6, z7, z8]
    refine seqH_take (i := 62) (v := .pointer (some ⟨G, i * 2 + 1, none⟩)) (d := some 84) rfl (by kernel_rfl) (fun _ _ _ h => h) (Or.inl ⟨by kernel_rfl, fun w hSw => by go_simp⟩) ?_
    try simp only [z4, z5, z6, z7, z8]
    refine seqH_take (i := 63) (v := .slice (some ⟨b, 0, none⟩) 0 zc) (d := some 85) rfl (by kernel_rfl) (fun _ _ _ h => h) (Or.inl ⟨by kernel_rfl, fun w hSw => by have c0 := Kept.cellOf hSw c2 (by simp); go_simp⟩) ?_
    try simp only [z4, z5, z6, z7, z8]
    refine seqH_take (i := 64) (v := .int .i64 0) (d := some 86) rfl (by kernel_rfl) (fun _ _ _ h => h) (Or.inl ⟨by kernel_rfl, fun w hSw => by go_simp⟩) ?_
    try simp only [z4, z5, z6, z7, z8]
    refine seqH_take (i := 65) (v := .bool false) (d := some 87) rfl (by kernel_rfl) (fun _ _ _ h => h) (Or.inl ⟨by kernel_rfl, fun w hSw => by go_simp⟩) ?_
    try simp only [z4, z5, z6, z7, z8]
    refine seqH_take (i := 66) (v := .bool false) (d := some 88) rfl (by kernel_rfl) (fun _ _ _ h => h) (Or.inl ⟨by kernel_rfl, fun w hSw => by go_simp⟩) ?_
    try simp only [z4, z5, z6, z7, z8]
    refine seqH_take (i := 67) (v := .bool false) (d := some 89) rfl (by kernel_rfl) (fun _ _ _ h => h) (Or.inl ⟨by kernel_rfl, fun w hSw => by go_simp⟩) ?_
    try simp only [z4, z5, z6, z7, z8]
    refine seqH_take (i := 68) (v := .bool false) (d := some 90) rfl (by kernel_rfl) (fun _ _ _ h => h) (Or.inl ⟨by kernel_rfl, fun w hSw => by go_simp⟩) ?_
    try simp only [z4, z5, z6, z7, z8]
    refine seqH_done ?_
    obtain ⟨wq, hwq⟩ : ∃ x, x = v0 := ⟨_, rfl⟩
    rw [← hwq] at HK0 ⊢
    have HKQ : Hid (Kept [] wr wq) := hide (by rw [hwq]; exact h0)
    have HLQ := hide (HLK.out.kept HKQ.out)
    clear HLK hwq
    go_wp2
    go_loopw [9] (fun kv wx => ∃ k : Nat, 0 ≤ k ∧ k ≤ zc ∧ kv = .int .i64 k ∧ wx = wq) (fun kv wx => zc - (intOf kv).toNat)
    case atStart => exact ⟨0, by omega, by omega, rfl, by first | rfl | trivial⟩
    case round =>
     obtain ⟨k, hk1, hk2, rfl, hww⟩ := hrel
     obtain rfl := hww.symm
     have c3 := HLQ.out.c3
     rw [HZC.out] at c3
     by_cases hkz : k < zc
     ·have cm := HLQ.out.mrk k (by rw [HZ.out]; exact hk1) (by rw [HZC.out]; exact hkz)
      go_wp2
      go_roundw
      case rel => exact ⟨k + 1, by omega, by omega, by go_num, by first | rfl | trivial⟩
      case measure => simp [intOf]; omega
     ·go_wp2
      go_roundw
      case rel => exact ⟨i + 1, by omega, by go_num, HK0⟩
      case measure => simp [intOf]; omega
  ·go_wp2
   go_ret
   exact ⟨rfl, HK.out⟩
end Go.Proofs.YteckiednnaianaaGreat
