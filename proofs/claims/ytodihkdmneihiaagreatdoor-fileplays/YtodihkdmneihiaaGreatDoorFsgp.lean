import Derived.Test.YtodihkdmneihiaaGreatDoorRfcp
namespace Go.Proofs.YtodihkdmneihiaaGreatDoor
open Go.RowKit Dsk
set_option linter.unusedVariables false
set_option linter.unusedSimpArgs false
theorem safes_bz {S : Ds} {N : Nat} (hb : S.Bd N) (hw : S.Wf) : S.safeFiles.length ≤ N ∧ ∀ f ∈ S.safeFiles, f.2.length ≤ N := by
 have h1 : S.safe.length ≤ N := by have := hb.nm; omega
 refine ⟨by simpa [Ds.safeFiles] using h1, fun f hf => ?_⟩
 obtain ⟨x, hx, rfl⟩ := List.mem_map.1 hf
 have := hb.th x.2 (hw.lt x.2 (Ds.safe_lives hx))
 show (S.th x.2).safe.length ≤ N
 omega
def Tfz (w w' : World) (v : Value) (L : List (By × By)) : Prop := ∃ ao c, v = .slice ao L.length c ∧ Fis w' ao L ∧ Kept [] w w'
theorem Tfz.of {w w' : World} {v : Value} {L : List (By × By)} {B : Nat} {vs : List Value} (h : Fls w' B v L vs) (hk : Kept [] w w') : Tfz w w' v L := by
 obtain ⟨ao, c, rfl, _⟩ := own_shape h.row
 obtain ⟨h1, h2⟩ := Fis.of h
 rw [h2]
 exact ⟨ao, c, rfl, h1, hk⟩
section
variable {X : Nat → Prop} {w : World} {P p q : Nat} {S : Ds} {N : Nat} {T : Ds} {M : Nat}
theorem off_z1 (h : Pz X w P p q S N T M) : Calls Tryz.prog 41 #[.pointer (some ⟨p, 0, none⟩)] w fun e w' => e = .returned (.bool (!S.on)) ∧ w' = w := by
 obtain ⟨Y, _, h1, _⟩ := h.one
 exact off_ax h1
theorem off_z2 (h : Pz X w P p q S N T M) : Calls Tryz.prog 42 #[.pointer (some ⟨q, 0, none⟩)] w fun e w' => e = .returned (.bool (!T.on)) ∧ w' = w := by
 obtain ⟨Y, _, h1, _⟩ := h.two
 exact roff_rx h1
theorem strokes_z1 (h : Pz X w P p q S N T M) : Calls Tryz.prog 14 #[.pointer (some ⟨p, 0, none⟩)] w fun e w' => e = .returned (.int .i64 S.strokes) ∧ w' = w := by
 obtain ⟨Y, _, h1, _⟩ := h.one
 exact strokes_ax h1
theorem strokes_z2 (h : Pz X w P p q S N T M) : Calls Tryz.prog 43 #[.pointer (some ⟨q, 0, none⟩)] w fun e w' => e = .returned (.int .i64 T.strokes) ∧ w' = w := by
 obtain ⟨Y, _, h1, _⟩ := h.two
 exact rstrokes_rx h1
theorem files_z1 (h : Pz X w P p q S N T M) (hN : N ≤ 268435456) : Calls Tryz.prog 45 #[.pointer (some ⟨p, 0, none⟩)] w fun e w' => ∃ v, e = .returned v ∧ Tfz w w' v S.files := by
 obtain ⟨Y, _, h1, _⟩ := h.one
 refine (files_ax h1 hN).mono ?_
 rintro e w' ⟨v, vs, rfl, h1, h2⟩
 exact ⟨v, rfl, Tfz.of h1 h2⟩
theorem files_z2 (h : Pz X w P p q S N T M) (hM : M ≤ 268435456) : Calls Tryz.prog 46 #[.pointer (some ⟨q, 0, none⟩)] w fun e w' => ∃ v, e = .returned v ∧ Tfz w w' v T.files := by
 obtain ⟨Y, _, h1, _⟩ := h.two
 refine (rfiles_rx h1 hM).mono ?_
 rintro e w' ⟨v, vs, rfl, h1, h2⟩
 exact ⟨v, rfl, Tfz.of h1 h2⟩
theorem safe_z1 (h : Pz X w P p q S N T M) (hN : N ≤ 268435456) : Calls Tryz.prog 47 #[.pointer (some ⟨p, 0, none⟩)] w fun e w' => ∃ v, e = .returned v ∧ Tfz w w' v S.safeFiles := by
 obtain ⟨Y, _, h1, _⟩ := h.one
 refine (safe_ax h1 hN).mono ?_
 rintro e w' ⟨v, vs, rfl, h1, h2⟩
 exact ⟨v, rfl, Tfz.of h1 h2⟩
theorem safe_z2 (h : Pz X w P p q S N T M) (hM : M ≤ 268435456) : Calls Tryz.prog 48 #[.pointer (some ⟨q, 0, none⟩)] w fun e w' => ∃ v, e = .returned v ∧ Tfz w w' v T.safeFiles := by
 obtain ⟨Y, _, h1, _⟩ := h.two
 refine (rsafe_rx h1 hM).mono ?_
 rintro e w' ⟨v, vs, rfl, h1, h2⟩
 exact ⟨v, rfl, Tfz.of h1 h2⟩
end
structure Rpz (P p q : Nat) (v : World) : Prop where
 p0 : v.cell? ⟨P, 0, none⟩ = some (.pointer (some ⟨p, 0, none⟩))
 p1 : v.cell? ⟨P, 1, none⟩ = some (.pointer (some ⟨q, 0, none⟩))
theorem Rpz.kept {P p q : Nat} {v v' : World} (h : Rpz P p q v) (hk : Kept [] v v') : Rpz P p q v' := ⟨hk.cellOf h.p0 (by simp), hk.cellOf h.p1 (by simp)⟩
theorem Pz.rp {X : Nat → Prop} {w : World} {P p q : Nat} {S : Ds} {N : Nat} {T : Ds} {M : Nat} (h : Pz X w P p q S N T M) : Rpz P p q w := ⟨by rw [cell_of_row w P 0 _ _ _ h.cell]; rfl, by rw [cell_of_row w P 1 _ _ _ h.cell]; rfl⟩
def szD : List Ro := [⟨some 3, [0], []⟩, ⟨some 4, [3], [0]⟩, ⟨some 5, [4], [1]⟩, ⟨some 6, [5], [2]⟩, ⟨some 7, [6], [3]⟩, ⟨some 8, [0], []⟩, ⟨some 9, [8], [5]⟩, ⟨some 10, [9], [6]⟩, ⟨some 11, [10], [7]⟩, ⟨some 12, [11], [8, 4]⟩, ⟨some 13, [7, 12], [4, 9]⟩, ⟨some 14, [13], [10, 9]⟩, ⟨some 15, [0, 14], [11]⟩, ⟨some 16, [15, 14], [12, 11]⟩, ⟨some 17, [16, 14], [13, 11]⟩, ⟨some 18, [17, 14], [14, 11]⟩, ⟨some 19, [18, 14], [15, 11, 11]⟩, ⟨some 20, [0, 14], [11]⟩, ⟨some 21, [20, 14], [17, 11]⟩, ⟨some 22, [21, 14], [18, 11]⟩, ⟨some 23, [22, 14], [19, 11]⟩, ⟨some 24, [23, 14], [20, 16, 11]⟩, ⟨some 25, [19, 24, 14], [16, 21, 11]⟩, ⟨some 26, [14, 25], [11, 22]⟩, ⟨some 27, [26], [23, 21]⟩, ⟨some 28, [0, 27], [24]⟩, ⟨some 29, [28, 27], [25, 24]⟩, ⟨some 30, [29, 27], [26, 24]⟩, ⟨some 31, [30, 27], [27, 24]⟩, ⟨some 32, [31, 27], [28, 24, 24]⟩, ⟨some 33, [0, 27], [24]⟩, ⟨some 34, [33, 27], [30, 24]⟩, ⟨some 35, [34, 27], [31, 24]⟩, ⟨some 36, [35, 27], [32, 24]⟩, ⟨some 37, [36, 27], [33, 29, 24]⟩, ⟨some 38, [32, 37, 27], [29, 34, 34, 24]⟩, ⟨some 39, [27, 38], [24, 35]⟩, ⟨some 40, [39], [36, 35]⟩, ⟨some 41, [0, 40], [37]⟩, ⟨some 42, [41, 40], [38, 37]⟩, ⟨some 43, [42, 40], [39, 37]⟩, ⟨some 44, [43, 40], [40, 37]⟩, ⟨some 45, [44, 40], [41, 37, 37]⟩, ⟨some 46, [0, 40], [37]⟩, ⟨some 47, [46, 40], [43, 37]⟩, ⟨some 48, [47, 40], [44, 37]⟩, ⟨some 49, [48, 40], [45, 37]⟩, ⟨some 50, [49, 40], [46, 42, 37]⟩, ⟨some 51, [45, 50, 40], [42, 47, 47, 37]⟩, ⟨some 52, [40, 51], [37, 48]⟩, ⟨some 2, [52], [49, 48, 0, 1, 2, 3, 4, 5, 6, 7, 8, 9, 10, 11, 12, 13, 14, 15, 16, 17, 18, 19, 20, 21, 22, 23, 24, 25, 26, 27, 28, 29, 30, 31, 32, 33, 34, 35, 36, 37, 38, 39, 40, 41, 42, 43, 44, 45, 46, 47, 48, 49]⟩]
set_option maxRecDepth 100000 in
theorem szChk : chkq szD [(false, 0), (false, 1), (false, 2), (false, 3), (false, 5), (false, 6), (false, 7), (false, 8), (true, 4), (true, 9), (false, 10), (false, 11), (false, 12), (false, 13), (false, 14), (false, 15), (false, 17), (false, 18), (false, 19), (false, 20), (true, 16), (true, 21), (false, 22), (false, 23), (false, 24), (false, 25), (false, 26), (false, 27), (false, 28), (false, 30), (false, 31), (false, 32), (false, 33), (true, 29), (true, 34), (true, 35), (false, 36), (false, 37), (false, 38), (false, 39), (false, 40), (false, 41), (false, 43), (false, 44), (false, 45), (false, 46), (true, 42), (true, 47), (true, 48), (false, 49), (false, 50)] 0 = true := by kernel_rfl
set_option maxHeartbeats 6400000 in
set_option maxRecDepth 100000 in
theorem stands6_ok {X : Nat → Prop} {w : World} {P p q : Nat} {S : Ds} {N M : Nat} (h : Pz X w P p q S N S M) (hN : N ≤ 268435456) (hM : M ≤ 268435456) :
  Calls Tryz.prog 9 #[.pointer (some ⟨P, 0, none⟩)] w fun e w' => e = .returned (.bool true) ∧ Kept [] w w' := by
 have HFB : Hid (S.files.length ≤ N ∧ ∀ f ∈ S.files, f.2.length ≤ N + N) := hide (files_small h.tw.wf1 h.tw.bd1)
 have HSB := hide (safes_bz h.tw.bd1 h.tw.wf1)
 have HQ := hide h
 have HR : Hid (Rpz P p q w) := hide h.rp
 clear h
 go_enter Tryz.func9, Tryz.ntmps9
 go_upto_region 1 with (fail)
 have HQ0 : Hid (Pz X w.drew P p q S N S M) := hide (HQ.out.kept ((Kept.refl [] w).drew))
 have HK0 : Hid (Kept [] w w.drew) := hide ((Kept.refl [] w).drew)
 clear HQ
 try dsimp only [List.append]
 refine wp_region_seq (S := (Rpz P p q)) (D := szD) [(false, 0), (false, 1), (false, 2), (false, 3), (false, 5), (false, 6), (false, 7), (false, 8), (true, 4), (true, 9), (false, 10), (false, 11), (false, 12), (false, 13), (false, 14), (false, 15), (false, 17), (false, 18), (false, 19), (false, 20), (true, 16), (true, 21), (false, 22), (false, 23), (false, 24), (false, 25), (false, 26), (false, 27), (false, 28), (false, 30), (false, 31), (false, 32), (false, 33), (true, 29), (true, 34), (true, 35), (false, 36), (false, 37), (false, 38), (false, 39), (false, 40), (false, 41), (false, 43), (false, 44), (false, 45), (false, 46), (true, 42), (true, 47), (true, 48), (false, 49), (false, 50)] (by kernel_rfl) (by kernel_rfl) (by kernel_rfl) szChk (by kernel_rfl) (HR.out.kept ((Kept.refl [] w).drew)) (fun h0 => ?_)
 generalize World.drew w = v0 at h0 HQ0 HK0 ⊢
 refine seqH_take (i := 0) (v := .pointer (some ⟨P, 0, none⟩)) (d := some 3) rfl (by kernel_rfl) (fun _ _ _ h => h) (Or.inl ⟨by kernel_rfl, fun w hSw => by go_simp⟩) ?_
 try simp only [z4, z5, z6, z7, z8]
 refine seqH_take (i := 1) (v := .pointer (some ⟨P, 0, none⟩)) (d := some 4) rfl (by kernel_rfl) (fun _ _ _ h => h) (Or.inl ⟨by kernel_rfl, fun w hSw => by go_simp⟩) ?_
 try simp only [z4, z5, z6, z7, z8]
 refine seqH_take (i := 2) (v := .pointer (some ⟨P, 0, none⟩)) (d := some 5) rfl (by kernel_rfl) (fun _ _ _ h => h) (Or.inl ⟨by kernel_rfl, fun w hSw => by go_simp⟩) ?_
 try simp only [z4, z5, z6, z7, z8]
 refine seqH_take (i := 3) (v := .pointer (some ⟨p, 0, none⟩)) (d := some 6) rfl (by kernel_rfl) (fun _ _ _ h => h) (Or.inl ⟨by kernel_rfl, fun w hSw => by have c0 := hSw.p0; go_simp⟩) ?_
 try simp only [z4, z5, z6, z7, z8]
 refine seqH_take (i := 5) (v := .pointer (some ⟨P, 0, none⟩)) (d := some 8) rfl (by kernel_rfl) (fun _ _ _ h => h) (Or.inl ⟨by kernel_rfl, fun w hSw => by go_simp⟩) ?_
 try simp only [z4, z5, z6, z7, z8]
 refine seqH_take (i := 6) (v := .pointer (some ⟨P, 0, none⟩)) (d := some 9) rfl (by kernel_rfl) (fun _ _ _ h => h) (Or.inl ⟨by kernel_rfl, fun w hSw => by go_simp⟩) ?_
 try simp only [z4, z5, z6, z7, z8]
 refine seqH_take (i := 7) (v := .pointer (some ⟨P, 1, none⟩)) (d := some 10) rfl (by kernel_rfl) (fun _ _ _ h => h) (Or.inl ⟨by kernel_rfl, fun w hSw => by go_simp⟩) ?_
 try simp only [z4, z5, z6, z7, z8]
 refine seqH_take (i := 8) (v := .pointer (some ⟨q, 0, none⟩)) (d := some 11) rfl (by kernel_rfl) (fun _ _ _ h => h) (Or.inl ⟨by kernel_rfl, fun w hSw => by have c0 := hSw.p1; go_simp⟩) ?_
 try simp only [z4, z5, z6, z7, z8]
 refine seqH_run (i := 4) rfl (fun K hK => ?_)
 rw [if_pos (by kernel_rfl)]
 go_simp
 refine (off_z1 HQ0.out).mono ?_
 rintro e v1 ⟨rfl, hw⟩
 obtain rfl := hw.symm
 refine hK.out _ _ (h0) (fun h1 => ?_)
 clear hK K
 try simp only [z4, z5, z6, z7, z8]
 refine seqH_run (i := 9) rfl (fun K hK => ?_)
 rw [if_pos (by kernel_rfl)]
 go_simp
 refine (off_z2 HQ0.out).mono ?_
 rintro e v2 ⟨rfl, hw⟩
 obtain rfl := hw.symm
 refine hK.out _ _ (h1) (fun h2 => ?_)
 clear hK K
 try simp only [z4, z5, z6, z7, z8]
 refine seqH_take (i := 10) (v := .bool true) (d := some 13) rfl (by kernel_rfl) (fun _ _ _ h => h) (Or.inl ⟨by kernel_rfl, fun w hSw => by go_simp⟩) ?_
 try simp only [z4, z5, z6, z7, z8]
 refine seqH_take (i := 11) (v := .bool true) (d := some 14) rfl (by kernel_rfl) (fun _ _ _ h => h) (Or.inl ⟨by kernel_rfl, fun w hSw => by go_simp⟩) ?_
 try simp only [z4, z5, z6, z7, z8]
 refine seqH_take (i := 12) (v := .pointer (some ⟨P, 0, none⟩)) (d := some 15) rfl (by kernel_rfl) (fun _ _ _ h => h) (Or.inl ⟨by kernel_rfl, fun w hSw => by go_simp⟩) ?_
 try simp only [z4, z5, z6, z7, z8]
 refine seqH_take (i := 13) (v := .pointer (some ⟨P, 0, none⟩)) (d := some 16) rfl (by kernel_rfl) (fun _ _ _ h => h) (Or.inl ⟨by kernel_rfl, fun w hSw => by go_simp⟩) ?_
 try simp only [z4, z5, z6, z7, z8]
 refine seqH_take (i := 14) (v := .pointer (some ⟨P, 0, none⟩)) (d := some 17) rfl (by kernel_rfl) (fun _ _ _ h => h) (Or.inl ⟨by kernel_rfl, fun w hSw => by go_simp⟩) ?_
 try simp only [z4, z5, z6, z7, z8]
 refine seqH_take (i := 15) (v := .pointer (some ⟨p, 0, none⟩)) (d := some 18) rfl (by kernel_rfl) (fun _ _ _ h => h) (Or.inl ⟨by kernel_rfl, fun w hSw => by have c0 := hSw.p0; go_simp⟩) ?_
 try simp only [z4, z5, z6, z7, z8]
 refine seqH_take (i := 17) (v := .pointer (some ⟨P, 0, none⟩)) (d := some 20) rfl (by kernel_rfl) (fun _ _ _ h => h) (Or.inl ⟨by kernel_rfl, fun w hSw => by go_simp⟩) ?_
 try simp only [z4, z5, z6, z7, z8]
 refine seqH_take (i := 18) (v := .pointer (some ⟨P, 0, none⟩)) (d := some 21) rfl (by kernel_rfl) (fun _ _ _ h => h) (Or.inl ⟨by kernel_rfl, fun w hSw => by go_simp⟩) ?_
 try simp only [z4, z5, z6, z7, z8]
 refine seqH_take (i := 19) (v := .pointer (some ⟨P, 1, none⟩)) (d := some 22) rfl (by kernel_rfl) (fun _ _ _ h => h) (Or.inl ⟨by kernel_rfl, fun w hSw => by go_simp⟩) ?_
 try simp only [z4, z5, z6, z7, z8]
 refine seqH_take (i := 20) (v := .pointer (some ⟨q, 0, none⟩)) (d := some 23) rfl (by kernel_rfl) (fun _ _ _ h => h) (Or.inl ⟨by kernel_rfl, fun w hSw => by have c0 := hSw.p1; go_simp⟩) ?_
 try simp only [z4, z5, z6, z7, z8]
 refine seqH_run (i := 16) rfl (fun K hK => ?_)
 rw [if_pos (by kernel_rfl)]
 go_simp
 refine (strokes_z1 HQ0.out).mono ?_
 rintro e v3 ⟨rfl, hw⟩
 obtain rfl := hw.symm
 refine hK.out _ _ (h2) (fun h3 => ?_)
 clear hK K
 try simp only [z4, z5, z6, z7, z8]
 refine seqH_run (i := 21) rfl (fun K hK => ?_)
 rw [if_pos (by kernel_rfl)]
 go_simp
 refine (strokes_z2 HQ0.out).mono ?_
 rintro e v4 ⟨rfl, hw⟩
 obtain rfl := hw.symm
 refine hK.out _ _ (h3) (fun h4 => ?_)
 clear hK K
 try simp only [z4, z5, z6, z7, z8]
 refine seqH_take (i := 22) (v := .bool true) (d := some 25) rfl (by kernel_rfl) (fun _ _ _ h => h) (Or.inl ⟨by kernel_rfl, fun w hSw => by go_simp⟩) ?_
 try simp only [z4, z5, z6, z7, z8]
 refine seqH_take (i := 23) (v := .bool true) (d := some 26) rfl (by kernel_rfl) (fun _ _ _ h => h) (Or.inl ⟨by kernel_rfl, fun w hSw => by go_simp⟩) ?_
 try simp only [z4, z5, z6, z7, z8]
 refine seqH_take (i := 24) (v := .bool true) (d := some 27) rfl (by kernel_rfl) (fun _ _ _ h => h) (Or.inl ⟨by kernel_rfl, fun w hSw => by go_simp⟩) ?_
 try simp only [z4, z5, z6, z7, z8]
 refine seqH_take (i := 25) (v := .pointer (some ⟨P, 0, none⟩)) (d := some 28) rfl (by kernel_rfl) (fun _ _ _ h => h) (Or.inl ⟨by kernel_rfl, fun w hSw => by go_simp⟩) ?_
 try simp only [z4, z5, z6, z7, z8]
 refine seqH_take (i := 26) (v := .pointer (some ⟨P, 0, none⟩)) (d := some 29) rfl (by kernel_rfl) (fun _ _ _ h => h) (Or.inl ⟨by kernel_rfl, fun w hSw => by go_simp⟩) ?_
 try simp only [z4, z5, z6, z7, z8]
 refine seqH_take (i := 27) (v := .pointer (some ⟨P, 0, none⟩)) (d := some 30) rfl (by kernel_rfl) (fun _ _ _ h => h) (Or.inl ⟨by kernel_rfl, fun w hSw => by go_simp⟩) ?_
 try simp only [z4, z5, z6, z7, z8]
 refine seqH_take (i := 28) (v := .pointer (some ⟨p, 0, none⟩)) (d := some 31) rfl (by kernel_rfl) (fun _ _ _ h => h) (Or.inl ⟨by kernel_rfl, fun w hSw => by have c0 := hSw.p0; go_simp⟩) ?_
 try simp only [z4, z5, z6, z7, z8]
 refine seqH_take (i := 30) (v := .pointer (some ⟨P, 0, none⟩)) (d := some 33) rfl (by kernel_rfl) (fun _ _ _ h => h) (Or.inl ⟨by kernel_rfl, fun w hSw => by go_simp⟩) ?_
 try simp only [z4, z5, z6, z7, z8]
 refine seqH_take (i := 31) (v := .pointer (some ⟨P, 0, none⟩)) (d := some 34) rfl (by kernel_rfl) (fun _ _ _ h => h) (Or.inl ⟨by kernel_rfl, fun w hSw => by go_simp⟩) ?_
 try simp only [z4, z5, z6, z7, z8]
 refine seqH_take (i := 32) (v := .pointer (some ⟨P, 1, none⟩)) (d := some 35) rfl (by kernel_rfl) (fun _ _ _ h => h) (Or.inl ⟨by kernel_rfl, fun w hSw => by go_simp⟩) ?_
 try simp only [z4, z5, z6, z7, z8]
 refine seqH_take (i := 33) (v := .pointer (some ⟨q, 0, none⟩)) (d := some 36) rfl (by kernel_rfl) (fun _ _ _ h => h) (Or.inl ⟨by kernel_rfl, fun w hSw => by have c0 := hSw.p1; go_simp⟩) ?_
 try simp only [z4, z5, z6, z7, z8]
 refine seqH_run (i := 29) rfl (fun K hK => ?_)
 rw [if_pos (by kernel_rfl)]
 go_simp
 refine (files_z1 HQ0.out (by omega)).mono ?_
 rintro e v5 ⟨v, rfl, ao, ac, rfl, hf, hk⟩
 have hk1 : Kept [] v0 v5 := hk
 have HQ1 : Hid (Pz X v5 P p q S N S M) := hide (HQ0.out.kept hk1)
 have HK1 : Hid (Kept [] w v5) := hide (HK0.out.trans hk1 (by simp))
 have HF0 := hide hf
 clear hf hk
 clear HQ0 HK0
 refine hK.out _ _ (h4.kept hk1) (fun h5 => ?_)
 clear hK K
 try simp only [z4, z5, z6, z7, z8]
 refine seqH_run (i := 34) rfl (fun K hK => ?_)
 rw [if_pos (by kernel_rfl)]
 go_simp
 refine (files_z2 HQ1.out (by omega)).mono ?_
 rintro e v6 ⟨v, rfl, bo2, bc, rfl, hf, hk⟩
 have hk2 : Kept [] v5 v6 := hk
 have HQ2 : Hid (Pz X v6 P p q S N S M) := hide (HQ1.out.kept hk2)
 have HK2 : Hid (Kept [] w v6) := hide (HK1.out.trans hk2 (by simp))
 have HF1 := hide (HF0.out.kept hk2)
 have HF2 := hide hf
 clear hf hk HF0
 clear HQ1 HK1
 refine hK.out _ _ (h5.kept hk2) (fun h6 => ?_)
 clear hK K
 try simp only [z4, z5, z6, z7, z8]
 refine seqH_run (i := 35) rfl (fun K hK => ?_)
 rw [if_pos (by kernel_rfl)]
 go_simp
 refine (files6_yes ao bo2 _ ac bc S.files _ rfl (by have := HFB.out.1; omega) (fun f hf => by have := HFB.out.2 f hf; omega) HF1.out HF2.out).mono ?_
 rintro e v7 ⟨rfl, kk, hw⟩
 have hk3 : Kept [] v6 v7 := (by rw [hw]; exact (Kept.refl [] _).drewN kk)
 have HQ3 : Hid (Pz X v7 P p q S N S M) := hide (HQ2.out.kept hk3)
 have HK3 : Hid (Kept [] w v7) := hide (HK2.out.trans hk3 (by simp))
 clear hw HF1 HF2
 clear HQ2 HK2
 refine hK.out _ _ (h6.kept hk3) (fun h7 => ?_)
 clear hK K
 try simp only [z4, z5, z6, z7, z8]
 refine seqH_take (i := 36) (v := .bool true) (d := some 39) rfl (by kernel_rfl) (fun _ _ _ h => h) (Or.inl ⟨by kernel_rfl, fun w hSw => by go_simp⟩) ?_
 try simp only [z4, z5, z6, z7, z8]
 refine seqH_take (i := 37) (v := .bool true) (d := some 40) rfl (by kernel_rfl) (fun _ _ _ h => h) (Or.inl ⟨by kernel_rfl, fun w hSw => by go_simp⟩) ?_
 try simp only [z4, z5, z6, z7, z8]
 refine seqH_take (i := 38) (v := .pointer (some ⟨P, 0, none⟩)) (d := some 41) rfl (by kernel_rfl) (fun _ _ _ h => h) (Or.inl ⟨by kernel_rfl, fun w hSw => by go_simp⟩) ?_
 try simp only [z4, z5, z6, z7, z8]
 refine seqH_take (i := 39) (v := .pointer (some ⟨P, 0, none⟩)) (d := some 42) rfl (by kernel_rfl) (fun _ _ _ h => h) (Or.inl ⟨by kernel_rfl, fun w hSw => by go_simp⟩) ?_
 try simp only [z4, z5, z6, z7, z8]
 refine seqH_take (i := 40) (v := .pointer (some ⟨P, 0, none⟩)) (d := some 43) rfl (by kernel_rfl) (fun _ _ _ h => h) (Or.inl ⟨by kernel_rfl, fun w hSw => by go_simp⟩) ?_
 try simp only [z4, z5, z6, z7, z8]
 refine seqH_take (i := 41) (v := .pointer (some ⟨p, 0, none⟩)) (d := some 44) rfl (by kernel_rfl) (fun _ _ _ h => h) (Or.inl ⟨by kernel_rfl, fun w hSw => by have c0 := hSw.p0; go_simp⟩) ?_
 try simp only [z4, z5, z6, z7, z8]
 refine seqH_take (i := 43) (v := .pointer (some ⟨P, 0, none⟩)) (d := some 46) rfl (by kernel_rfl) (fun _ _ _ h => h) (Or.inl ⟨by kernel_rfl, fun w hSw => by go_simp⟩) ?_
 try simp only [z4, z5, z6, z7, z8]
 refine seqH_take (i := 44) (v := .pointer (some ⟨P, 0, none⟩)) (d := some 47) rfl (by kernel_rfl) (fun _ _ _ h => h) (Or.inl ⟨by kernel_rfl, fun w hSw => by go_simp⟩) ?_
 try simp only [z4, z5, z6, z7, z8]
 refine seqH_take (i := 45) (v := .pointer (some ⟨P, 1, none⟩)) (d := some 48) rfl (by kernel_rfl) (fun _ _ _ h => h) (Or.inl ⟨by kernel_rfl, fun w hSw => by go_simp⟩) ?_
 try simp only [z4, z5, z6, z7, z8]
 refine seqH_take (i := 46) (v := .pointer (some ⟨q, 0, none⟩)) (d := some 49) rfl (by kernel_rfl) (fun _ _ _ h => h) (Or.inl ⟨by kernel_rfl, fun w hSw => by have c0 := hSw.p1; go_simp⟩) ?_
 try simp only [z4, z5, z6, z7, z8]
 refine seqH_run (i := 42) rfl (fun K hK => ?_)
 rw [if_pos (by kernel_rfl)]
 go_simp
 refine (safe_z1 HQ3.out (by omega)).mono ?_
 rintro e v8 ⟨v, rfl, ao, ac, rfl, hf, hk⟩
 have hk4 : Kept [] v7 v8 := hk
 have HQ4 : Hid (Pz X v8 P p q S N S M) := hide (HQ3.out.kept hk4)
 have HK4 : Hid (Kept [] w v8) := hide (HK3.out.trans hk4 (by simp))
 have HF0 := hide hf
 clear hf hk
 clear HQ3 HK3
 refine hK.out _ _ (h7.kept hk4) (fun h8 => ?_)
 clear hK K
 try simp only [z4, z5, z6, z7, z8]
 refine seqH_run (i := 47) rfl (fun K hK => ?_)
 rw [if_pos (by kernel_rfl)]
 go_simp
 refine (safe_z2 HQ4.out (by omega)).mono ?_
 rintro e v9 ⟨v, rfl, bo2, bc, rfl, hf, hk⟩
 have hk5 : Kept [] v8 v9 := hk
 have HQ5 : Hid (Pz X v9 P p q S N S M) := hide (HQ4.out.kept hk5)
 have HK5 : Hid (Kept [] w v9) := hide (HK4.out.trans hk5 (by simp))
 have HF1 := hide (HF0.out.kept hk5)
 have HF2 := hide hf
 clear hf hk HF0
 clear HQ4 HK4
 refine hK.out _ _ (h8.kept hk5) (fun h9 => ?_)
 clear hK K
 try simp only [z4, z5, z6, z7, z8]
 refine seqH_run (i := 48) rfl (fun K hK => ?_)
 rw [if_pos (by kernel_rfl)]
 go_simp
 refine (files6_yes ao bo2 _ ac bc S.safeFiles _ rfl (by have := HSB.out.1; omega) (fun f hf => by have := HSB.out.2 f hf; omega) HF1.out HF2.out).mono ?_
 rintro e v10 ⟨rfl, kk, hw⟩
 have hk6 : Kept [] v9 v10 := (by rw [hw]; exact (Kept.refl [] _).drewN kk)
 have HQ6 : Hid (Pz X v10 P p q S N S M) := hide (HQ5.out.kept hk6)
 have HK6 : Hid (Kept [] w v10) := hide (HK5.out.trans hk6 (by simp))
 clear hw HF1 HF2
 clear HQ5 HK5
 refine hK.out _ _ (h9.kept hk6) (fun h10 => ?_)
 clear hK K
 try simp only [z4, z5, z6, z7, z8]
 refine seqH_take (i := 49) (v := .bool true) (d := some 52) rfl (by kernel_rfl) (fun _ _ _ h => h) (Or.inl ⟨by kernel_rfl, fun w hSw => by go_simp⟩) ?_
 try simp only [z4, z5, z6, z7, z8]
 refine seqH_take (i := 50) (v := .bool true) (d := some 2) rfl (by kernel_rfl) (fun _ _ _ h => h) (Or.inl ⟨by kernel_rfl, fun w hSw => by go_simp⟩) ?_
 try simp only [z4, z5, z6, z7, z8]
 refine seqH_done ?_
 go_wp2
 go_ret
 exact ⟨rfl, HK6.out⟩
end Go.Proofs.YtodihkdmneihiaaGreatDoor
