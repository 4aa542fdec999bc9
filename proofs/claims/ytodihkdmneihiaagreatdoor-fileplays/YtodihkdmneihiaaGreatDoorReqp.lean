import Derived.Test.YtodihkdmneihiaaGreatDoorRel3p
import Derived.Test.YtodihkdmneihiaaGreatDoorRepp
namespace Go.Proofs.YtodihkdmneihiaaGreatDoor
open Go.RowKit Dsk
set_option linter.unusedVariables false
set_option linter.unusedSimpArgs false
section
variable {w : World} {q : Nat} {S : Ds} {A : Nat → Nat} {o : Lab} {nv bv tv sv : Value}
set_option maxHeartbeats 3200000 in
set_option maxRecDepth 100000 in
theorem rfiles_ok (h : RDx w q S A o nv bv tv sv) (hlv : ∀ p ∈ S.shown, p.2 ∈ S.lives) (hn : S.shown.length ≤ 268435456) (hb : ∀ p ∈ S.shown, (S.th p.2).shown.length ≤ 268435456) :
  Calls Tryz.prog 46 #[.pointer (some ⟨q, 0, none⟩)] w fun e w' => ∃ v, e = .returned v ∧ (∃ vs, Fls w' w.heap.size v S.files vs) ∧ Kept [] w w' := by
 obtain ⟨no, nc, rfl⟩ := h.nvs
 have c2 := h.cell 2 _ rfl
 obtain ⟨M, hM⟩ : ∃ M, S.shown.length = M := ⟨_, rfl⟩
 have hFL : S.files.length = M := by rw [← hM]; simp [Ds.files, Ds.safeFiles]
 rw [hM] at hn c2 h
 have HM := hide hM
 have HFL := hide hFL
 have HH := hide h
 have HLV := hide hlv
 have HBD := hide hb
 have HC2 := hide c2
 clear h hlv hb hM hFL
 go_enter Tryz.func46, Tryz.ntmps46
 go_wp2
 clear c2
 go_loopw [3, 4] (fun f i wr => ∃ k : Nat, k ≤ M ∧ i = .int .i64 k ∧ Hid ((∃ vs, Fls wr w.heap.size f (S.files.take k) vs) ∧ Kept [] w wr) ∧ ∃ fo fc, f = .slice fo k fc) (fun f i wr => M - (intOf i).toNat)
 case atStart => exact ⟨0, by omega, rfl, hide ⟨⟨[], by simpa using Fls.start w w.heap.size⟩, Kept.refl _ _⟩, none, 0, rfl⟩
 case round =>
  obtain ⟨k, hk, rfl, HR, fo, fc, rfl⟩ := hrel
  obtain ⟨⟨vs, hF⟩, hkw⟩ := HR.out
  clear HR
  have c2 := hkw.cellOf HC2.out (by simp)
  by_cases hlt : k < M
  ·have hHr := HH.out.kept hkw
   obtain ⟨⟨nm, id⟩, hp⟩ : ∃ q, S.shown[k]? = some q := ⟨S.shown[k]'(by rw [HM.out]; exact hlt), List.getElem?_eq_getElem _⟩
   have hmem := List.mem_of_getElem? hp
   obtain ⟨gn, rfl, hc0, hc1⟩ := nms_cell (n := M) (by have := hHr.now; rw [HM.out] at this ⊢; exact this) hp
   obtain ⟨sv1, hv1, rv1, R1, ht⟩ := hHr.th id (HLV.out _ hmem)
   obtain ⟨bo, bc, rfl, _⟩ := ht.shown.shape
   have hts : wr.cell? ⟨A id, 1, none⟩ = some (.slice bo (S.th id).shown.length bc) := by rw [cell_of_row wr _ 1 _ _ _ ht.cells]; rfl
   have hle := HBD.out _ hmem
   have hfk : S.files[k]? = some (nm, (S.th id).shown) := by simp [Ds.files, Ds.safeFiles, hp]
   have HCP : Hid (∀ v, Kept [] wr v → _) := hide (fun v (hv : Kept [] wr v) => copiedB_ok (.slice bo (S.th id).shown.length bc) (S.th id).shown.length (S.th id).shown v (ht.shown.kept hv) (by simp only at hle; omega))
   have hsz := hkw.size
   have HST : Hid (∀ v, Kept [] wr v → ∀ g4 c4 w4, w4.ownsRow 0 5 1 (.slice (some ⟨g4, 0, none⟩) (S.th id).shown.length c4) (S.th id).shown.length (bys (S.th id).shown) → Kept [] v w4 → v.heap.size ≤ g4 → ∃ ga gc w5, (Builtin.append_ #[72, 72] 72 #[.slice fo k fc, .slice (some ⟨w4.heap.size, 0, none⟩) 1 1]).run Tryz.prog (w4.alloc (.cells #[encStr nm, .slice (some ⟨g4, 0, none⟩) (S.th id).shown.length c4] 157)) = .ok (.slice (some ⟨ga, 0, none⟩) (k + 1) gc) w5 ∧ Hid ((∃ vs', Fls w5 w.heap.size (.slice (some ⟨ga, 0, none⟩) (k + 1) gc) (S.files.take (k + 1)) vs') ∧ Kept [] w w5)) := hide (fun v hv g4 c4 w4 h1 h2 h3 => by
    have hlen : (S.files.take k).length = k := by rw [List.length_take, HFL.out]; omega
    have hkr : Kept [] wr w4 := hv.trans h2 (by simp)
    have hr4 := own_keeps hF.row (Keep.ofNone (F := fun _ => False) hkr) (fun _ _ h => h)
    rw [hlen] at hr4
    have hr4' := ownsRow_base_a hr4 (Nat.zero_le _)
    obtain ⟨ga, gc, w5, e1, e2, e3, e4, _⟩ := run_app (P := Tryz.prog) w4 72 72 157 Tryz.underlying72 Tryz.infoFile rfl (by decide) _ k _ hr4' [encStr nm, .slice (some ⟨g4, 0, none⟩) (S.th id).shown.length c4] rfl (fun z hz => by simp only [List.mem_cons, List.not_mem_nil, or_false] at hz; rcases hz with rfl | rfl <;> rfl) (by unfold maxLen; omega) (by omega)
    have hK5 := e3 (fun j => (Value.slice fo k fc).ownBlock = some j) (fun _ e => e)
    refine ⟨ga, gc, w5, e1, hide ⟨⟨vs ++ [.slice (some ⟨g4, 0, none⟩) (S.th id).shown.length c4], ?_⟩, ?_⟩⟩
    ·rw [show S.files.take (k + 1) = S.files.take k ++ [(nm, (S.th id).shown)] by rw [List.take_add_one, hfk]; rfl]
     refine hF.step hkr hsz (OwnB.of h1) (fun g e => ?_) (by rw [hlen]; exact e2) e3 (fun g' hg' => ?_)
     ·simp only [Value.ownBlock] at e
      injection e with e
      rw [← e]; exact Nat.le_trans hv.size h3
     ·simp only [Value.ownBlock, Option.some.injEq] at hg'
      subst hg'
      rcases e4 with e | e
      ·exact .inl e.symm
      ·exact .inr e
    ·have hkw4 := hkw.trans hkr (by simp)
     exact ⟨hK5.os.trans hkw4.os, hK5.tape.trans hkw4.tape, hK5.output.trans hkw4.output, Nat.le_trans hkw4.size hK5.size, fun i hi _ => (hK5.block i (Nat.lt_of_lt_of_le hi hkw4.size) (fun e => by have := (hF.row.lt i e).1; omega)).trans (hkw4.block i hi (by simp))⟩)
   simp only at hle
   generalize (S.th id).shown.length = z at hts hle HCP HST
   generalize A id = ab at hts hc1
   clear ht hmem hp hHr hF hkw hfk
   go_upto_region 7 with (fail)
   refine wp_region_late (fun w' => Kept [] wr w') (fun i => i == 23) (by kernel_rfl) ?_
   have h0 : Kept [] wr wr.drew := (Kept.refl [] wr).drew
   generalize World.drew wr = v0 at h0  ⊢
   refine wpAnyL_free (i := 0) (v := .slice fo k fc) rfl (by kernel_rfl) (by kernel_rfl) (by kernel_rfl) (fun _ _ _ h => h) (Or.inl ⟨by rfl, fun w _ => by go_simp⟩) ?_
   try simp only [z1, z2, z3, z4, z5, z6, z7, z8]
   refine wpAnyL_free (i := 1) (v := .pointer (some ⟨q, 0, none⟩)) rfl (by kernel_rfl) (by kernel_rfl) (by kernel_rfl) (fun _ _ _ h => h) (Or.inl ⟨by rfl, fun w _ => by go_simp⟩) ?_
   try simp only [z1, z2, z3, z4, z5, z6, z7, z8]
   refine wpAnyL_free (i := 2) (v := .pointer (some ⟨q, 0, none⟩)) rfl (by kernel_rfl) (by kernel_rfl) (by kernel_rfl) (fun _ _ _ h => h) (Or.inl ⟨by rfl, fun w _ => by go_simp⟩) ?_
   try simp only [z1, z2, z3, z4, z5, z6, z7, z8]
   refine wpAnyL_free (i := 3) (v := .pointer (some ⟨q, 2, none⟩)) rfl (by kernel_rfl) (by kernel_rfl) (by kernel_rfl) (fun _ _ _ h => h) (Or.inl ⟨by rfl, fun w _ => by go_simp⟩) ?_
   try simp only [z1, z2, z3, z4, z5, z6, z7, z8]
   refine wpAnyL_take (i := 4) (v := .slice (some ⟨gn, 0, none⟩) M nc) rfl (by kernel_rfl) (by kernel_rfl) (by kernel_rfl) (by kernel_rfl) (by kernel_rfl) (fun _ _ _ h => h) (Or.inl ⟨by rfl, fun w hSw => by have q0 := Kept.cellOf hSw c2 (by simp); go_simp⟩) h0 ?_
   try simp only [z1, z2, z3, z4, z5, z6, z7, z8]
   refine wpAnyL_free (i := 5) (v := .int .i64 k) rfl (by kernel_rfl) (by kernel_rfl) (by kernel_rfl) (fun _ _ _ h => h) (Or.inl ⟨by rfl, fun w _ => by go_simp⟩) ?_
   try simp only [z1, z2, z3, z4, z5, z6, z7, z8]
   refine wpAnyL_free (i := 6) (v := .pointer (some ⟨gn, k * 2, none⟩)) rfl (by kernel_rfl) (by kernel_rfl) (by kernel_rfl) (fun _ _ _ h => h) (Or.inl ⟨by rfl, fun w _ => by have q0 := hlt; go_simp⟩) ?_
   try simp only [z1, z2, z3, z4, z5, z6, z7, z8]
   refine wpAnyL_free (i := 7) (v := .pointer (some ⟨gn, k * 2, none⟩)) rfl (by kernel_rfl) (by kernel_rfl) (by kernel_rfl) (fun _ _ _ h => h) (Or.inl ⟨by rfl, fun w _ => by go_simp⟩) ?_
   try simp only [z1, z2, z3, z4, z5, z6, z7, z8]
   refine wpAnyL_take (i := 8) (v := encStr nm) rfl (by kernel_rfl) (by kernel_rfl) (by kernel_rfl) (by kernel_rfl) (by kernel_rfl) (fun _ _ _ h => h) (Or.inl ⟨by rfl, fun w hSw => by have q0 := Kept.cellOf hSw hc0 (by simp); go_simp⟩) h0 ?_
   try simp only [z1, z2, z3, z4, z5, z6, z7, z8]
   refine wpAnyL_free (i := 9) (v := .pointer (some ⟨q, 0, none⟩)) rfl (by kernel_rfl) (by kernel_rfl) (by kernel_rfl) (fun _ _ _ h => h) (Or.inl ⟨by rfl, fun w _ => by go_simp⟩) ?_
   try simp only [z1, z2, z3, z4, z5, z6, z7, z8]
   refine wpAnyL_free (i := 10) (v := .pointer (some ⟨q, 0, none⟩)) rfl (by kernel_rfl) (by kernel_rfl) (by kernel_rfl) (fun _ _ _ h => h) (Or.inl ⟨by rfl, fun w _ => by go_simp⟩) ?_
   try simp only [z1, z2, z3, z4, z5, z6, z7, z8]
   refine wpAnyL_free (i := 11) (v := .pointer (some ⟨q, 2, none⟩)) rfl (by kernel_rfl) (by kernel_rfl) (by kernel_rfl) (fun _ _ _ h => h) (Or.inl ⟨by rfl, fun w _ => by go_simp⟩) ?_
   try simp only [z1, z2, z3, z4, z5, z6, z7, z8]
   refine wpAnyL_take (i := 12) (v := .slice (some ⟨gn, 0, none⟩) M nc) rfl (by kernel_rfl) (by kernel_rfl) (by kernel_rfl) (by kernel_rfl) (by kernel_rfl) (fun _ _ _ h => h) (Or.inl ⟨by rfl, fun w hSw => by have q0 := Kept.cellOf hSw c2 (by simp); go_simp⟩) h0 ?_
   try simp only [z1, z2, z3, z4, z5, z6, z7, z8]
   refine wpAnyL_free (i := 13) (v := .int .i64 k) rfl (by kernel_rfl) (by kernel_rfl) (by kernel_rfl) (fun _ _ _ h => h) (Or.inl ⟨by rfl, fun w _ => by go_simp⟩) ?_
   try simp only [z1, z2, z3, z4, z5, z6, z7, z8]
   refine wpAnyL_free (i := 14) (v := .pointer (some ⟨gn, k * 2, none⟩)) rfl (by kernel_rfl) (by kernel_rfl) (by kernel_rfl) (fun _ _ _ h => h) (Or.inl ⟨by rfl, fun w _ => by have q0 := hlt; go_simp⟩) ?_
   try simp only [z1, z2, z3, z4, z5, z6, z7, z8]
   refine wpAnyL_free (i := 15) (v := .pointer (some ⟨gn, k * 2 + 1, none⟩)) rfl (by kernel_rfl) (by kernel_rfl) (by kernel_rfl) (fun _ _ _ h => h) (Or.inl ⟨by rfl, fun w _ => by go_simp⟩) ?_
   try simp only [z1, z2, z3, z4, z5, z6, z7, z8]
   refine wpAnyL_take (i := 16) (v := .pointer (some ⟨ab, 0, none⟩)) rfl (by kernel_rfl) (by kernel_rfl) (by kernel_rfl) (by kernel_rfl) (by kernel_rfl) (fun _ _ _ h => h) (Or.inl ⟨by rfl, fun w hSw => by have q0 := Kept.cellOf hSw hc1 (by simp); go_simp⟩) h0 ?_
   try simp only [z1, z2, z3, z4, z5, z6, z7, z8]
   refine wpAnyL_free (i := 17) (v := .pointer (some ⟨ab, 0, none⟩)) rfl (by kernel_rfl) (by kernel_rfl) (by kernel_rfl) (fun _ _ _ h => h) (Or.inl ⟨by rfl, fun w _ => by go_simp⟩) ?_
   try simp only [z1, z2, z3, z4, z5, z6, z7, z8]
   refine wpAnyL_free (i := 18) (v := .pointer (some ⟨ab, 1, none⟩)) rfl (by kernel_rfl) (by kernel_rfl) (by kernel_rfl) (fun _ _ _ h => h) (Or.inl ⟨by rfl, fun w _ => by go_simp⟩) ?_
   try simp only [z1, z2, z3, z4, z5, z6, z7, z8]
   refine wpAnyL_take (i := 19) (v := .slice bo z bc) rfl (by kernel_rfl) (by kernel_rfl) (by kernel_rfl) (by kernel_rfl) (by kernel_rfl) (fun _ _ _ h => h) (Or.inl ⟨by rfl, fun w hSw => by have q0 := Kept.cellOf hSw hts (by simp); go_simp⟩) h0 ?_
   try simp only [z1, z2, z3, z4, z5, z6, z7, z8]
   refine wpAnyL_one (i := 20) (by kernel_rfl) rfl (fun K hK => ?_)
   rw [if_pos (by rfl)]
   go_simp
   refine (HCP.out v0 h0).mono ?_
   rintro e w4 ⟨g4, c4, rfl, hr4, hk4, hg4⟩
   obtain ⟨ga, gc, w5, hap, H5⟩ := HST.out v0 h0 g4 c4 w4 hr4 hk4 hg4
   refine hK.out _ _ (fun _ _ => h0.trans hk4 (by simp)) ?_
   clear hK K
   try simp only [z1, z2, z3, z4, z5, z6, z7, z8]
   refine wpAnyL_free (i := 21) (v := .agg #[encStr nm, .slice (some ⟨g4, 0, none⟩) z c4]) rfl (by kernel_rfl) (by kernel_rfl) (by kernel_rfl) (fun _ _ _ h => h) (Or.inl ⟨by rfl, fun w _ => by go_simp⟩) ?_
   try simp only [z1, z2, z3, z4, z5, z6, z7, z8]
   refine wpAnyL_one (i := 22) (by kernel_rfl) rfl (fun K hK => ?_)
   rw [if_pos (by rfl)]
   go_simp
   refine hK.out _ _ (fun _ _ => (h0.trans hk4 (by simp)).alloc _) ?_
   clear hK K
   try simp only [z1, z2, z3, z4, z5, z6, z7, z8]
   refine wpAnyL_one (i := 23) (by kernel_rfl) rfl (fun K hK => ?_)
   rw [if_pos (by rfl)]
   refine wp_append_run (.tmp 16) (.tmp 38) 72 72 rfl (.slice fo k fc) (.slice (some ⟨w4.heap.size, 0, none⟩) 1 1) rfl rfl (.slice (some ⟨ga, 0, none⟩) (k + 1) gc) w5 hap ?_
   refine hK.out _ _ (fun _ h => by cases h) ?_
   clear hK K
   try simp only [z1, z2, z3, z4, z5, z6, z7, z8]
   refine wpAnyL_free (i := 24) (v := .slice (some ⟨ga, 0, none⟩) (k + 1) gc) rfl (by kernel_rfl) (by kernel_rfl) (by kernel_rfl) (fun _ _ _ h => h) (Or.inl ⟨by rfl, fun w _ => by go_simp⟩) ?_
   try simp only [z1, z2, z3, z4, z5, z6, z7, z8]
   refine wpAnyL_done (by kernel_rfl) ?_ _
   go_wp2
   go_roundw
   case rel => exact ⟨k + 1, by omega, by go_num, H5, _, _, rfl⟩
   case measure => simp [intOf]; omega
  ·have HE : Hid ((∃ vs, Fls wr w.heap.size (.slice fo k fc) S.files vs) ∧ Kept [] w wr) := hide ⟨⟨vs, by rw [List.take_of_length_le (by rw [HFL.out]; omega)] at hF; exact hF⟩, hkw⟩
   clear hF hkw
   go_wp2
   go_ret
   exact ⟨_, rfl, HE.out⟩
set_option maxHeartbeats 3200000 in
set_option maxRecDepth 100000 in
theorem rsafe_ok (h : RDx w q S A o nv bv tv sv) (hlv : ∀ p ∈ S.safe, p.2 ∈ S.lives) (hn : S.safe.length ≤ 268435456) (hb : ∀ p ∈ S.safe, (S.th p.2).safe.length ≤ 268435456) :
  Calls Tryz.prog 48 #[.pointer (some ⟨q, 0, none⟩)] w fun e w' => ∃ v, e = .returned v ∧ (∃ vs, Fls w' w.heap.size v S.safeFiles vs) ∧ Kept [] w w' := by
 obtain ⟨no, nc, rfl⟩ := h.bvs
 have c2 := h.cell 3 _ rfl
 obtain ⟨M, hM⟩ : ∃ M, S.safe.length = M := ⟨_, rfl⟩
 have hFL : S.safeFiles.length = M := by rw [← hM]; simp [Ds.files, Ds.safeFiles]
 rw [hM] at hn c2 h
 have HM := hide hM
 have HFL := hide hFL
 have HH := hide h
 have HLV := hide hlv
 have HBD := hide hb
 have HC2 := hide c2
 clear h hlv hb hM hFL
 go_enter Tryz.func48, Tryz.ntmps48
 go_wp2
 clear c2
 go_loopw [3, 4] (fun f i wr => ∃ k : Nat, k ≤ M ∧ i = .int .i64 k ∧ Hid ((∃ vs, Fls wr w.heap.size f (S.safeFiles.take k) vs) ∧ Kept [] w wr) ∧ ∃ fo fc, f = .slice fo k fc) (fun f i wr => M - (intOf i).toNat)
 case atStart => exact ⟨0, by omega, rfl, hide ⟨⟨[], by simpa using Fls.start w w.heap.size⟩, Kept.refl _ _⟩, none, 0, rfl⟩
 case round =>
  obtain ⟨k, hk, rfl, HR, fo, fc, rfl⟩ := hrel
  obtain ⟨⟨vs, hF⟩, hkw⟩ := HR.out
  clear HR
  have c2 := hkw.cellOf HC2.out (by simp)
  by_cases hlt : k < M
  ·have hHr := HH.out.kept hkw
   obtain ⟨⟨nm, id⟩, hp⟩ : ∃ q, S.safe[k]? = some q := ⟨S.safe[k]'(by rw [HM.out]; exact hlt), List.getElem?_eq_getElem _⟩
   have hmem := List.mem_of_getElem? hp
   obtain ⟨gn, rfl, hc0, hc1⟩ := nms_cell (n := M) (by have := hHr.before; rw [HM.out] at this ⊢; exact this) hp
   obtain ⟨sv1, hv1, rv1, R1, ht⟩ := hHr.th id (HLV.out _ hmem)
   obtain ⟨bo, bc, rfl, _⟩ := ht.safe.shape
   have hts : wr.cell? ⟨A id, 0, none⟩ = some (.slice bo (S.th id).safe.length bc) := by rw [cell_of_row wr _ 0 _ _ _ ht.cells]; rfl
   have hle := HBD.out _ hmem
   have hfk : S.safeFiles[k]? = some (nm, (S.th id).safe) := by simp [Ds.files, Ds.safeFiles, hp]
   have HCP : Hid (∀ v, Kept [] wr v → _) := hide (fun v (hv : Kept [] wr v) => copiedB_ok (.slice bo (S.th id).safe.length bc) (S.th id).safe.length (S.th id).safe v (ht.safe.kept hv) (by simp only at hle; omega))
   have hsz := hkw.size
   have HST : Hid (∀ v, Kept [] wr v → ∀ g4 c4 w4, w4.ownsRow 0 5 1 (.slice (some ⟨g4, 0, none⟩) (S.th id).safe.length c4) (S.th id).safe.length (bys (S.th id).safe) → Kept [] v w4 → v.heap.size ≤ g4 → ∃ ga gc w5, (Builtin.append_ #[72, 72] 72 #[.slice fo k fc, .slice (some ⟨w4.heap.size, 0, none⟩) 1 1]).run Tryz.prog (w4.alloc (.cells #[encStr nm, .slice (some ⟨g4, 0, none⟩) (S.th id).safe.length c4] 157)) = .ok (.slice (some ⟨ga, 0, none⟩) (k + 1) gc) w5 ∧ Hid ((∃ vs', Fls w5 w.heap.size (.slice (some ⟨ga, 0, none⟩) (k + 1) gc) (S.safeFiles.take (k + 1)) vs') ∧ Kept [] w w5)) := hide (fun v hv g4 c4 w4 h1 h2 h3 => by
    have hlen : (S.safeFiles.take k).length = k := by rw [List.length_take, HFL.out]; omega
    have hkr : Kept [] wr w4 := hv.trans h2 (by simp)
    have hr4 := own_keeps hF.row (Keep.ofNone (F := fun _ => False) hkr) (fun _ _ h => h)
    rw [hlen] at hr4
    have hr4' := ownsRow_base_a hr4 (Nat.zero_le _)
    obtain ⟨ga, gc, w5, e1, e2, e3, e4, _⟩ := run_app (P := Tryz.prog) w4 72 72 157 Tryz.underlying72 Tryz.infoFile rfl (by decide) _ k _ hr4' [encStr nm, .slice (some ⟨g4, 0, none⟩) (S.th id).safe.length c4] rfl (fun z hz => by simp only [List.mem_cons, List.not_mem_nil, or_false] at hz; rcases hz with rfl | rfl <;> rfl) (by unfold maxLen; omega) (by omega)
    have hK5 := e3 (fun j => (Value.slice fo k fc).ownBlock = some j) (fun _ e => e)
    refine ⟨ga, gc, w5, e1, hide ⟨⟨vs ++ [.slice (some ⟨g4, 0, none⟩) (S.th id).safe.length c4], ?_⟩, ?_⟩⟩
    ·rw [show S.safeFiles.take (k + 1) = S.safeFiles.take k ++ [(nm, (S.th id).safe)] by rw [List.take_add_one, hfk]; rfl]
     refine hF.step hkr hsz (OwnB.of h1) (fun g e => ?_) (by rw [hlen]; exact e2) e3 (fun g' hg' => ?_)
     ·simp only [Value.ownBlock] at e
      injection e with e
      rw [← e]; exact Nat.le_trans hv.size h3
     ·simp only [Value.ownBlock, Option.some.injEq] at hg'
      subst hg'
      rcases e4 with e | e
      ·exact .inl e.symm
      ·exact .inr e
    ·have hkw4 := hkw.trans hkr (by simp)
     exact ⟨hK5.os.trans hkw4.os, hK5.tape.trans hkw4.tape, hK5.output.trans hkw4.output, Nat.le_trans hkw4.size hK5.size, fun i hi _ => (hK5.block i (Nat.lt_of_lt_of_le hi hkw4.size) (fun e => by have := (hF.row.lt i e).1; omega)).trans (hkw4.block i hi (by simp))⟩)
   simp only at hle
   generalize (S.th id).safe.length = z at hts hle HCP HST
   generalize A id = ab at hts hc1
   clear ht hmem hp hHr hF hkw hfk
   go_upto_region 7 with (fail)
   refine wp_region_late (fun w' => Kept [] wr w') (fun i => i == 23) (by kernel_rfl) ?_
   have h0 : Kept [] wr wr.drew := (Kept.refl [] wr).drew
   generalize World.drew wr = v0 at h0  ⊢
   refine wpAnyL_free (i := 0) (v := .slice fo k fc) rfl (by kernel_rfl) (by kernel_rfl) (by kernel_rfl) (fun _ _ _ h => h) (Or.inl ⟨by rfl, fun w _ => by go_simp⟩) ?_
   try simp only [z1, z2, z3, z4, z5, z6, z7, z8]
   refine wpAnyL_free (i := 1) (v := .pointer (some ⟨q, 0, none⟩)) rfl (by kernel_rfl) (by kernel_rfl) (by kernel_rfl) (fun _ _ _ h => h) (Or.inl ⟨by rfl, fun w _ => by go_simp⟩) ?_
   try simp only [z1, z2, z3, z4, z5, z6, z7, z8]
   refine wpAnyL_free (i := 2) (v := .pointer (some ⟨q, 0, none⟩)) rfl (by kernel_rfl) (by kernel_rfl) (by kernel_rfl) (fun _ _ _ h => h) (Or.inl ⟨by rfl, fun w _ => by go_simp⟩) ?_
   try simp only [z1, z2, z3, z4, z5, z6, z7, z8]
   refine wpAnyL_free (i := 3) (v := .pointer (some ⟨q, 3, none⟩)) rfl (by kernel_rfl) (by kernel_rfl) (by kernel_rfl) (fun _ _ _ h => h) (Or.inl ⟨by rfl, fun w _ => by go_simp⟩) ?_
   try simp only [z1, z2, z3, z4, z5, z6, z7, z8]
   refine wpAnyL_take (i := 4) (v := .slice (some ⟨gn, 0, none⟩) M nc) rfl (by kernel_rfl) (by kernel_rfl) (by kernel_rfl) (by kernel_rfl) (by kernel_rfl) (fun _ _ _ h => h) (Or.inl ⟨by rfl, fun w hSw => by have q0 := Kept.cellOf hSw c2 (by simp); go_simp⟩) h0 ?_
   try simp only [z1, z2, z3, z4, z5, z6, z7, z8]
   refine wpAnyL_free (i := 5) (v := .int .i64 k) rfl (by kernel_rfl) (by kernel_rfl) (by kernel_rfl) (fun _ _ _ h => h) (Or.inl ⟨by rfl, fun w _ => by go_simp⟩) ?_
   try simp only [z1, z2, z3, z4, z5, z6, z7, z8]
   refine wpAnyL_free (i := 6) (v := .pointer (some ⟨gn, k * 2, none⟩)) rfl (by kernel_rfl) (by kernel_rfl) (by kernel_rfl) (fun _ _ _ h => h) (Or.inl ⟨by rfl, fun w _ => by have q0 := hlt; go_simp⟩) ?_
   try simp only [z1, z2, z3, z4, z5, z6, z7, z8]
   refine wpAnyL_free (i := 7) (v := .pointer (some ⟨gn, k * 2, none⟩)) rfl (by kernel_rfl) (by kernel_rfl) (by kernel_rfl) (fun _ _ _ h => h) (Or.inl ⟨by rfl, fun w _ => by go_simp⟩) ?_
   try simp only [z1, z2, z3, z4, z5, z6, z7, z8]
   refine wpAnyL_take (i := 8) (v := encStr nm) rfl (by kernel_rfl) (by kernel_rfl) (by kernel_rfl) (by kernel_rfl) (by kernel_rfl) (fun _ _ _ h => h) (Or.inl ⟨by rfl, fun w hSw => by have q0 := Kept.cellOf hSw hc0 (by simp); go_simp⟩) h0 ?_
   try simp only [z1, z2, z3, z4, z5, z6, z7, z8]
   refine wpAnyL_free (i := 9) (v := .pointer (some ⟨q, 0, none⟩)) rfl (by kernel_rfl) (by kernel_rfl) (by kernel_rfl) (fun _ _ _ h => h) (Or.inl ⟨by rfl, fun w _ => by go_simp⟩) ?_
   try simp only [z1, z2, z3, z4, z5, z6, z7, z8]
   refine wpAnyL_free (i := 10) (v := .pointer (some ⟨q, 0, none⟩)) rfl (by kernel_rfl) (by kernel_rfl) (by kernel_rfl) (fun _ _ _ h => h) (Or.inl ⟨by rfl, fun w _ => by go_simp⟩) ?_
   try simp only [z1, z2, z3, z4, z5, z6, z7, z8]
   refine wpAnyL_free (i := 11) (v := .pointer (some ⟨q, 3, none⟩)) rfl (by kernel_rfl) (by kernel_rfl) (by kernel_rfl) (fun _ _ _ h => h) (Or.inl ⟨by rfl, fun w _ => by go_simp⟩) ?_
   try simp only [z1, z2, z3, z4, z5, z6, z7, z8]
   refine wpAnyL_take (i := 12) (v := .slice (some ⟨gn, 0, none⟩) M nc) rfl (by kernel_rfl) (by kernel_rfl) (by kernel_rfl) (by kernel_rfl) (by kernel_rfl) (fun _ _ _ h => h) (Or.inl ⟨by rfl, fun w hSw => by have q0 := Kept.cellOf hSw c2 (by simp); go_simp⟩) h0 ?_
   try simp only [z1, z2, z3, z4, z5, z6, z7, z8]
   refine wpAnyL_free (i := 13) (v := .int .i64 k) rfl (by kernel_rfl) (by kernel_rfl) (by kernel_rfl) (fun _ _ _ h => h) (Or.inl ⟨by rfl, fun w _ => by go_simp⟩) ?_
   try simp only [z1, z2, z3, z4, z5, z6, z7, z8]
   refine wpAnyL_free (i := 14) (v := .pointer (some ⟨gn, k * 2, none⟩)) rfl (by kernel_rfl) (by kernel_rfl) (by kernel_rfl) (fun _ _ _ h => h) (Or.inl ⟨by rfl, fun w _ => by have q0 := hlt; go_simp⟩) ?_
   try simp only [z1, z2, z3, z4, z5, z6, z7, z8]
   refine wpAnyL_free (i := 15) (v := .pointer (some ⟨gn, k * 2 + 1, none⟩)) rfl (by kernel_rfl) (by kernel_rfl) (by kernel_rfl) (fun _ _ _ h => h) (Or.inl ⟨by rfl, fun w _ => by go_simp⟩) ?_
   try simp only [z1, z2, z3, z4, z5, z6, z7, z8]
   refine wpAnyL_take (i := 16) (v := .pointer (some ⟨ab, 0, none⟩)) rfl (by kernel_rfl) (by kernel_rfl) (by kernel_rfl) (by kernel_rfl) (by kernel_rfl) (fun _ _ _ h => h) (Or.inl ⟨by rfl, fun w hSw => by have q0 := Kept.cellOf hSw hc1 (by simp); go_simp⟩) h0 ?_
   try simp only [z1, z2, z3, z4, z5, z6, z7, z8]
   refine wpAnyL_free (i := 17) (v := .pointer (some ⟨ab, 0, none⟩)) rfl (by kernel_rfl) (by kernel_rfl) (by kernel_rfl) (fun _ _ _ h => h) (Or.inl ⟨by rfl, fun w _ => by go_simp⟩) ?_
   try simp only [z1, z2, z3, z4, z5, z6, z7, z8]
   refine wpAnyL_free (i := 18) (v := .pointer (some ⟨ab, 0, none⟩)) rfl (by kernel_rfl) (by kernel_rfl) (by kernel_rfl) (fun _ _ _ h => h) (Or.inl ⟨by rfl, fun w _ => by go_simp⟩) ?_
   try simp only [z1, z2, z3, z4, z5, z6, z7, z8]
   refine wpAnyL_take (i := 19) (v := .slice bo z bc) rfl (by kernel_rfl) (by kernel_rfl) (by kernel_rfl) (by kernel_rfl) (by kernel_rfl) (fun _ _ _ h => h) (Or.inl ⟨by rfl, fun w hSw => by have q0 := Kept.cellOf hSw hts (by simp); go_simp⟩) h0 ?_
   try simp only [z1, z2, z3, z4, z5, z6, z7, z8]
   refine wpAnyL_one (i := 20) (by kernel_rfl) rfl (fun K hK => ?_)
   rw [if_pos (by rfl)]
   go_simp
   refine (HCP.out v0 h0).mono ?_
   rintro e w4 ⟨g4, c4, rfl, hr4, hk4, hg4⟩
   obtain ⟨ga, gc, w5, hap, H5⟩ := HST.out v0 h0 g4 c4 w4 hr4 hk4 hg4
   refine hK.out _ _ (fun _ _ => h0.trans hk4 (by simp)) ?_
   clear hK K
   try simp only [z1, z2, z3, z4, z5, z6, z7, z8]
   refine wpAnyL_free (i := 21) (v := .agg #[encStr nm, .slice (some ⟨g4, 0, none⟩) z c4]) rfl (by kernel_rfl) (by kernel_rfl) (by kernel_rfl) (fun _ _ _ h => h) (Or.inl ⟨by rfl, fun w _ => by go_simp⟩) ?_
   try simp only [z1, z2, z3, z4, z5, z6, z7, z8]
   refine wpAnyL_one (i := 22) (by kernel_rfl) rfl (fun K hK => ?_)
   rw [if_pos (by rfl)]
   go_simp
   refine hK.out _ _ (fun _ _ => (h0.trans hk4 (by simp)).alloc _) ?_
   clear hK K
   try simp only [z1, z2, z3, z4, z5, z6, z7, z8]
   refine wpAnyL_one (i := 23) (by kernel_rfl) rfl (fun K hK => ?_)
   rw [if_pos (by rfl)]
   refine wp_append_run (.tmp 16) (.tmp 38) 72 72 rfl (.slice fo k fc) (.slice (some ⟨w4.heap.size, 0, none⟩) 1 1) rfl rfl (.slice (some ⟨ga, 0, none⟩) (k + 1) gc) w5 hap ?_
   refine hK.out _ _ (fun _ h => by cases h) ?_
   clear hK K
   try simp only [z1, z2, z3, z4, z5, z6, z7, z8]
   refine wpAnyL_free (i := 24) (v := .slice (some ⟨ga, 0, none⟩) (k + 1) gc) rfl (by kernel_rfl) (by kernel_rfl) (by kernel_rfl) (fun _ _ _ h => h) (Or.inl ⟨by rfl, fun w _ => by go_simp⟩) ?_
   try simp only [z1, z2, z3, z4, z5, z6, z7, z8]
   refine wpAnyL_done (by kernel_rfl) ?_ _
   go_wp2
   go_roundw
   case rel => exact ⟨k + 1, by omega, by go_num, H5, _, _, rfl⟩
   case measure => simp [intOf]; omega
  ·have HE : Hid ((∃ vs, Fls wr w.heap.size (.slice fo k fc) S.safeFiles vs) ∧ Kept [] w wr) := hide ⟨⟨vs, by rw [List.take_of_length_le (by rw [HFL.out]; omega)] at hF; exact hF⟩, hkw⟩
   clear hF hkw
   go_wp2
   go_ret
   exact ⟨_, rfl, HE.out⟩
end
end Go.Proofs.YtodihkdmneihiaaGreatDoor
