import Derived.Test.YteckiednnaianaaGreatRemp
import Derived.Test.YteckiednnaianaaGreatHlp
import Derived.Test.YteckiednnaianaaGreatId2p
import Derived.Test.YteckiednnaianaaGreatRfip
import Derived.Deep.CutRange
import Derived.Deep.CutBlock
import Derived.Deep.RegionHeld
namespace Go.Proofs.YteckiednnaianaaGreat
section
open Go.RowKit Dsk
set_option linter.unusedVariables false
set_option linter.unusedSimpArgs false
section
variable {w : World} {q : Nat} {S : Ds} {A : Nat → Nat} {o : Lab} {nv bv tv sv : Value}
set_option maxHeartbeats 3200000 in
set_option maxRecDepth 100000 in
theorem rfiles_ok (h : RDx w q S A o nv bv tv sv) (hlv : ∀ p ∈ S.shown, p.2 ∈ S.lives) (hn : S.shown.length ≤ 268435456) (hb : ∀ p ∈ S.shown, (S.th p.2).shown.length ≤ 268435456) :
  Calls Tryz.prog 43 #[.pointer (some ⟨q, 0, none⟩)] w fun e w' => ∃ v, e = .returned v ∧ (∃ vs, Fls w' w.heap.size v S.files vs) ∧ Kept [] w w' := by
 obtain ⟨no, nc, rfl⟩ := h.nvs
 have c2 := h.cell 2 _ rfl
 obtain ⟨M, hM⟩ : ∃ M, S.shown.length = M := ⟨_, rfl⟩
 have hFL : S.files.length = M := by rw [← hM]; simp [Ds.files, Ds.safeFiles]
 rw [hM] at hn c2 h
 have HM := hide hM
 have HFL := hide hFL
 have HH := hide h
 have HLV := hide hlv
 have HBD := hide hb
 have HC2 := hide c2
 clear h hlv hb hM hFL
 go_enter Tryz.func43, Tryz.ntmps43
 go_wp2
 clear c2
 go_loopw [3, 4] (fun f i wr => ∃ k : Nat, k ≤ M ∧ i = .int .i64 k ∧ Hid ((∃ vs, Fls wr w.heap.size f (S.files.take k) vs) ∧ Kept [] w wr) ∧ ∃ fo fc, f = .slice fo k fc) (fun f i wr => M - (intOf i).toNat)
 case atStart => exact ⟨0, by omega, rfl, hide ⟨⟨[], by simpa using Fls.start w w.heap.size⟩, Kept.refl _ _⟩, none, 0, rfl⟩
 case round =>
  obtain ⟨k, hk, rfl, HR, fo, fc, rfl⟩ := hrel
  obtain ⟨⟨vs, hF⟩, hkw⟩ := HR.out
  clear HR
  have c2 := hkw.cellOf HC2.out (by simp)
  by_cases hlt : k < M
  ·have hHr := HH.out.kept hkw
   obtain ⟨⟨nm, id⟩, hp⟩ : ∃ q, S.shown[k]? = some q := ⟨S.shown[k]'(by rw [HM.out]; exact hlt), List.getElem?_eq_getElem _⟩
   have hmem := List.mem_of_getElem? hp
   obtain ⟨gn, rfl, hc0, hc1⟩ := nms_cell (n := M) (by have := hHr.now; rw [HM.out] at this ⊢; exact this) hp
   obtain ⟨sv1, hv1, rv1, R1, ht⟩ := hHr.th id (HLV.out _ hmem)
   obtain ⟨bo, bc, rfl, _⟩ := ht.shown.shape
   have hts : wr.cell? ⟨A id, 1, none⟩ = some (.slice bo (S.th id).shown.length bc) := by rw [cell_of_row wr _ 1 _ _ _ ht.cells]; rfl
   have hle := HBD.out _ hmem
   have hfk : S.files[k]? = some (nm, (S.th id).shown) := by simp [Ds.files, Ds.safeFiles, hp]
   have HCP : Hid (∀ v, Kept [] wr v → _) := hide (fun v (hv : Kept [] wr v) => copiedB_ok (.slice bo (S.th id).shown.length bc) (S.th id).shown.length (S.th id).shown v (ht.shown.kept hv) (by simp only at hle; omega))
   have hsz := hkw.size
   have HST : Hid (∀ v, Kept [] wr v → ∀ g4 c4 w4, w4.ownsRow 0 5 1 (.slice (some ⟨g4, 0, none⟩) (S.th id).shown.length c4) (S.th id).shown.length (bys (S.th id).shown) → Kept [] v w4 → v.heap.size ≤ g4 → ∃ ga gc w5, (Builtin.append_ #[22, 22] 22 #[.slice fo k fc, .slice (some ⟨w4.heap.size, 0, none⟩) 1 1]).run Tryz.prog (w4.alloc (.cells #[encStr nm, .slice (some ⟨g4, 0, none⟩) (S.th id).shown.length c4] 26)) = .ok (.slice (some ⟨ga, 0, none⟩) (k + 1) gc) w5 ∧ Hid ((∃ vs', Fls w5 w.heap.size (.slice (some ⟨ga, 0, none⟩) (k + 1) gc) (S.files.take (k + 1)) vs') ∧ Kept [] w w5)) := hide (fun v hv g4 c4 w4 h1 h2 h3 => by
    have hlen : (S.files.take k).length = k := by rw [List.length_take, HFL.out]; omega
    have hkr : Kept [] wr w4 := hv.trans h2 (by simp)
    have hr4 := own_keeps hF.row (Keep.ofNone (F := fun _ => False) hkr) (fun _ _ h => h)
    rw [hlen] at hr4
    have hr4' := ownsRow_base_a hr4 (Nat.zero_le _)
    obtain ⟨ga, gc, w5, e1, e2, e3, e4, _⟩ := run_app (P := Tryz.prog) w4 22 22 26 Tryz.underlying22 Tryz.infoFile rfl (by decide) _ k _ hr4' [encStr nm, .slice (some ⟨g4, 0, none⟩) (S.th id).shown.length c4] rfl (fun z hz => by simp only [List.mem_cons, List.not_mem_nil, or_false] at hz; rcases hz with rfl | rfl <;> rfl) (by unfold maxLen; omega) (by omega)
    have hK5 := e3 (fun j => (Value.slice fo k fc).ownBlock = some j) (fun _ e => e)
    refine ⟨ga, gc, w5, e1, hide ⟨⟨vs ++ [.slice (some ⟨g4, 0, none⟩) (S.th id).shown.length c4], ?_⟩, ?_⟩⟩
    ·rw [show S.files.take (k + 1) = S.files.take k ++ [(nm, (S.th id).shown)] by rw [List.take_add_one, hfk]; rfl]
     refine hF.step hkr hsz (OwnB.of h1) (fun g e => ?_) (by rw [hlen]; exact e2) e3 (fun g' hg' => ?_)
     ·simp only [Value.ownBlock] at e
      injection e with e
      rw [← e]; exact Nat.le_trans hv.size h3
     ·simp only [Value.ownBlock, Option.some.injEq] at hg'
      subst hg'
      rcases e4 with e | e
      ·exact .inl e.symm
      ·exact .inr e
    ·have hkw4 := hkw.trans hkr (by simp)
     exact ⟨hK5.os.trans hkw4.os, hK5.tape.trans hkw4.tape, hK5.output.trans hkw4.output, Nat.le_trans hkw4.size hK5.size, fun i hi _ => (hK5.block i (Nat.lt_of_lt_of_le hi hkw4.size) (fun e => by have := (hF.row.lt i e).1; omega)).trans (hkw4.block i hi (by simp))⟩)
   simp only at hle
   generalize (S.th id).shown.length = z at hts hle HCP HST
   generalize A id = ab at hts hc1
   clear ht hmem hp hHr hF hkw hfk
   go_upto_region 7 with (fail)
   refine wp_region_late (fun w' => Kept [] wr w') (fun i => i == 23) (by kernel_rfl) ?_
   have h0 : Kept [] wr wr.drew := (Kept.refl [] wr).drew
   generalize World.drew wr = v0 at h0  ⊢
   refine wpAnyL_free (i := 0) (v := .slice fo k fc) rfl (by kernel_rfl) (by kernel_rfl) (by kernel_rfl) (fun _ _ _ h => h) (Or.inl ⟨by rfl, fun w _ => by go_simp⟩) ?_
   try simp only [z1, z2, z3, z4, z5, z6, z7, z8]
   refine wpAnyL_free (i := 1) (v := .pointer (some ⟨q, 0, none⟩)) rfl (by kernel_rfl) (by kernel_rfl) (by kernel_rfl) (fun _ _ _ h => h) (Or.inl ⟨by rfl, fun w _ => by go_simp⟩) ?_
   try simp only [z1, z2, z3, z4, z5, z6, z7, z8]
   refine wpAnyL_free (i := 2) (v := .pointer (some ⟨q, 0, none⟩)) rfl (by kernel_rfl) (by kernel_rfl) (by kernel_rfl) (fun _ _ _ h => h) (Or.inl ⟨by rfl, fun w _ => by go_simp⟩) ?_
   try simp only [z1, z2, z3, z4, z5, z6, z7, z8]
   refine wpAnyL_free (i := 3) (v := .pointer (some ⟨q, 2, none⟩)) rfl (by kernel_rfl) (by kernel_rfl) (by kernel_rfl) (fun _ _ _ h => h) (Or.inl ⟨by rfl, fun w _ => by go_simp⟩) ?_
   try simp only [z1, z2, z3, z4, z5, z6, z7, z8]
   refine wpAnyL_take (i := 4) (v := .slice (some ⟨gn, 0, none⟩) M nc) rfl (by kernel_rfl) (by kernel_rfl) (by kernel_rfl) (by kernel_rfl) (by kernel_rfl) (fun _ _ _ h => h) (Or.inl ⟨by rfl, fun w hSw => by have q0 := Kept.cellOf hSw c2 (by simp); go_simp⟩) h0 ?_
   try simp only [z1, z2, z3, z4, z5, z6, z7, z8]
   refine wpAnyL_free (i := 5) (v := .int .i64 k) rfl (by kernel_rfl) (by kernel_rfl) (by kernel_rfl) (fun _ _ _ h => h) (Or.inl ⟨by rfl, fun w _ => by go_simp⟩) ?_
   try simp only [z1, z2, z3, z4, z5, z6, z7, z8]
   refine wpAnyL_free (i := 6) (v := .pointer (some ⟨gn, k * 2, none⟩)) rfl (by kernel_rfl) (by kernel_rfl) (by kernel_rfl) (fun _ _ _ h => h) (Or.inl ⟨by rfl, fun w _ => by have q0 := hlt; go_simp⟩) ?_
   try simp only [z1, z2, z3, z4, z5, z6, z7, z8]
   refine wpAnyL_free (i := 7) (v := .pointer (some ⟨gn, k * 2, none⟩)) rfl (by kernel_rfl) (by kernel_rfl) (by kernel_rfl) (fun _ _ _ h => h) (Or.inl ⟨by rfl, fun w _ => by go_simp⟩) ?_
   try simp only [z1, z2, z3, z4, z5, z6, z7, z8]
   refine wpAnyL_take (i := 8) (v := encStr nm) rfl (by kernel_rfl) (by kernel_rfl) (by kernel_rfl) (by kernel_rfl) (by kernel_rfl) (fun _ _ _ h => h) (Or.inl ⟨by rfl, fun w hSw => by have q0 := Kept.cellOf hSw hc0 (by simp); go_simp⟩) h0 ?_
   try simp only [z1, z2, z3, z4, z5, z6, z7, z8]
   refine wpAnyL_free (i := 9) (v := .pointer (some ⟨q, 0, none⟩)) rfl (by kernel_rfl) (by kernel_rfl) (by kernel_rfl) (fun _ _ _ h => h) (Or.inl ⟨by rfl, fun w _ => by go_simp⟩) ?_
   try simp only [z1, z2, z3, z4, z5, z6, z7, z8]
   refine wpAnyL_free (i := 10) (v := .pointer (some ⟨q, 0, none⟩)) rfl (by kernel_rfl) (by kernel_rfl) (by kernel_rfl) (fun _ _ _ h => h) (Or.inl ⟨by rfl, fun w _ => by go_simp⟩) ?_
   try simp only [z1, z2, z3, z4, z5, z6, z7, z8]
   refine wpAnyL_free (i := 11) (v := .pointer (some ⟨q, 2, none⟩)) rfl (by kernel_rfl) (by kernel_rfl) (by kernel_rfl) (fun _ _ _ h => h) (Or.inl ⟨by rfl, fun w _ => by go_simp⟩) ?_
   try simp only [z1, z2, z3, z4, z5, z6, z7, z8]
   refine wpAnyL_take (i := 12) (v := .slice (some ⟨gn, 0, none⟩) M nc) rfl (by kernel_rfl) (by kernel_rfl) (by kernel_rfl) (by kernel_rfl) (by kernel_rfl) (fun _ _ _ h => h) (Or.inl ⟨by rfl, fun w hSw => by have q0 := Kept.cellOf hSw c2 (by simp); go_simp⟩) h0 ?_
   try simp only [z1, z2, z3, z4, z5, z6, z7, z8]
   refine wpAnyL_free (i := 13) (v := .int .i64 k) rfl (by kernel_rfl) (by kernel_rfl) (by kernel_rfl) (fun _ _ _ h => h) (Or.inl ⟨by rfl, fun w _ => by go_simp⟩) ?_
   try simp only [z1, z2, z3, z4, z5, z6, z7, z8]
   refine wpAnyL_free (i := 14) (v := .pointer (some ⟨gn, k * 2, none⟩)) rfl (by kernel_rfl) (by kernel_rfl) (by kernel_rfl) (fun _ _ _ h => h) (Or.inl ⟨by rfl, fun w _ => by have q0 := hlt; go_simp⟩) ?_
   try simp only [z1, z2, z3, z4, z5, z6, z7, z8]
   refine wpAnyL_free (i := 15) (v := .pointer (some ⟨gn, k * 2 + 1, none⟩)) rfl (by kernel_rfl) (by kernel_rfl) (by kernel_rfl) (fun _ _ _ h => h) (Or.inl ⟨by rfl, fun w _ => by go_simp⟩) ?_
   try simp only [z1, z2, z3, z4, z5, z6, z7, z8]
   refine wpAnyL_take (i := 16) (v := .pointer (some ⟨ab, 0, none⟩)) rfl (by kernel_rfl) (by kernel_rfl) (by kernel_rfl) (by kernel_rfl) (by kernel_rfl) (fun _ _ _ h => h) (Or.inl ⟨by rfl, fun w hSw => by have q0 := Kept.cellOf hSw hc1 (by simp); go_simp⟩) h0 ?_
   try simp only [z1, z2, z3, z4, z5, z6, z7, z8]
   refine wpAnyL_free (i := 17) (v := .pointer (some ⟨ab, 0, none⟩)) rfl (by kernel_rfl) (by kernel_rfl) (by kernel_rfl) (fun _ _ _ h => h) (Or.inl ⟨by rfl, fun w _ => by go_simp⟩) ?_
   try simp only [z1, z2, z3, z4, z5, z6, z7, z8]
   refine wpAnyL_free (i := 18) (v := .pointer (some ⟨ab, 1, none⟩)) rfl (by kernel_rfl) (by kernel_rfl) (by kernel_rfl) (fun _ _ _ h => h) (Or.inl ⟨by rfl, fun w _ => by go_simp⟩) ?_
   try simp only [z1, z2, z3, z4, z5, z6, z7, z8]
   refine wpAnyL_take (i := 19) (v := .slice bo z bc) rfl (by kernel_rfl) (by kernel_rfl) (by kernel_rfl) (by kernel_rfl) (by kernel_rfl) (fun _ _ _ h => h) (Or.inl ⟨by rfl, fun w hSw => by have q0 := Kept.cellOf hSw hts (by simp); go_simp⟩) h0 ?_
   try simp only [z1, z2, z3, z4, z5, z6, z7, z8]
   refine wpAnyL_one (i := 20) (by kernel_rfl) rfl (fun K hK => ?_)
   rw [if_pos (by rfl)]
   go_simp
   refine (HCP.out v0 h0).mono ?_
   rintro e w4 ⟨g4, c4, rfl, hr4, hk4, hg4⟩
   obtain ⟨ga, gc, w5, hap, H5⟩ := HST.out v0 h0 g4 c4 w4 hr4 hk4 hg4
   refine hK.out _ _ (fun _ _ => h0.trans hk4 (by simp)) ?_
   clear hK K
   try simp only [z1, z2, z3, z4, z5, z6, z7, z8]
   refine wpAnyL_free (i := 21) (v := .agg #[encStr nm, .slice (some ⟨g4, 0, none⟩) z c4]) rfl (by kernel_rfl) (by kernel_rfl) (by kernel_rfl) (fun _ _ _ h => h) (Or.inl ⟨by rfl, fun w _ => by go_simp⟩) ?_
   try simp only [z1, z2, z3, z4, z5, z6, z7, z8]
   refine wpAnyL_one (i := 22) (by kernel_rfl) rfl (fun K hK => ?_)
   rw [if_pos (by rfl)]
   go_simp
   refine hK.out _ _ (fun _ _ => (h0.trans hk4 (by simp)).alloc _) ?_
   clear hK K
   try simp only [z1, z2, z3, z4, z5, z6, z7, z8]
   refine wpAnyL_one (i := 23) (by kernel_rfl) rfl (fun K hK => ?_)
   rw [if_pos (by rfl)]
   refine wp_append_run (.tmp 16) (.tmp 38) 22 22 rfl (.slice fo k fc) (.slice (some ⟨w4.heap.size, 0, none⟩) 1 1) rfl rfl (.slice (some ⟨ga, 0, none⟩) (k + 1) gc) w5 hap ?_
   refine hK.out _ _ (fun _ h => by cases h) ?_
   clear hK K
   try simp only [z1, z2, z3, z4, z5, z6, z7, z8]
   refine wpAnyL_free (i := 24) (v := .slice (some ⟨ga, 0, none⟩) (k + 1) gc) rfl (by kernel_rfl) (by kernel_rfl) (by kernel_rfl) (fun _ _ _ h => h) (Or.inl ⟨by rfl, fun w _ => by go_simp⟩) ?_
   try simp only [z1, z2, z3, z4, z5, z6, z7, z8]
   refine wpAnyL_done (by kernel_rfl) ?_ _
   go_wp2
   go_roundw
   case rel => exact ⟨k + 1, by omega, by go_num, H5, _, _, rfl⟩
   case measure => simp [intOf]; omega
  ·have HE : Hid ((∃ vs, Fls wr w.heap.size (.slice fo k fc) S.files vs) ∧ Kept [] w wr) := hide ⟨⟨vs, by rw [List.take_of_length_le (by rw [HFL.out]; omega)] at hF; exact hF⟩, hkw⟩
   clear hF hkw
   go_wp2
   go_ret
   exact ⟨_, rfl, HE.out⟩
set_option maxHeartbeats 3200000 in
set_option maxRecDepth 100000 in
theorem rsafe_ok (h : RDx w q S A o nv bv tv sv) (hlv : ∀ p ∈ S.safe, p.2 ∈ S.lives) (hn : S.safe.length ≤ 268435456) (hb : ∀ p ∈ S.safe, (S.th p.2).safe.length ≤ 268435456) :
  Calls Tryz.prog 45 #[.pointer (some ⟨q, 0, none⟩)] w fun e w' => ∃ v, e = .returned v ∧ (∃ vs, Fls w' w.heap.size v S.safeFiles vs) ∧ Kept [] w w' := by
 obtain ⟨no, nc, rfl⟩ := h.bvs
 have c2 := h.cell 3 _ rfl
 obtain ⟨M, hM⟩ : ∃ M, S.safe.length = M := ⟨_, rfl⟩
 have hFL : S.safeFiles.length = M := by rw [← hM]; simp [Ds.files, Ds.safeFiles]
 rw [hM] at hn c2 h
 have HM := hide hM
 have HFL := hide hFL
 have HH := hide h
 have HLV := hide hlv
 have HBD := hide hb
 have HC2 := hide c2
 clear h hlv hb hM hFL
 go_enter Tryz.func45, Tryz.ntmps45
 go_wp2
 clear c2
 go_loopw [3, 4] (fun f i wr => ∃ k : Nat, k ≤ M ∧ i = .int .i64 k ∧ Hid ((∃ vs, Fls wr w.heap.size f (S.safeFiles.take k) vs) ∧ Kept [] w wr) ∧ ∃ fo fc, f = .slice fo k fc) (fun f i wr => M - (intOf i).toNat)
 case atStart => exact ⟨0, by omega, rfl, hide ⟨⟨[], by simpa using Fls.start w w.heap.size⟩, Kept.refl _ _⟩, none, 0, rfl⟩
 case round =>
  obtain ⟨k, hk, rfl, HR, fo, fc, rfl⟩ := hrel
  obtain ⟨⟨vs, hF⟩, hkw⟩ := HR.out
  clear HR
  have c2 := hkw.cellOf HC2.out (by simp)
  by_cases hlt : k < M
  ·have hHr := HH.out.kept hkw
   obtain ⟨⟨nm, id⟩, hp⟩ : ∃ q, S.safe[k]? = some q := ⟨S.safe[k]'(by rw [HM.out]; exact hlt), List.getElem?_eq_getElem _⟩
   have hmem := List.mem_of_getElem? hp
   obtain ⟨gn, rfl, hc0, hc1⟩ := nms_cell (n := M) (by have := hHr.before; rw [HM.out] at this ⊢; exact this) hp
   obtain ⟨sv1, hv1, rv1, R1, ht⟩ := hHr.th id (HLV.out _ hmem)
   obtain ⟨bo, bc, rfl, _⟩ := ht.safe.shape
   have hts : wr.cell? ⟨A id, 0, none⟩ = some (.slice bo (S.th id).safe.length bc) := by rw [cell_of_row wr _ 0 _ _ _ ht.cells]; rfl
   have hle := HBD.out _ hmem
   have hfk : S.safeFiles[k]? = some (nm, (S.th id).safe) := by simp [Ds.files, Ds.safeFiles, hp]
   have HCP : Hid (∀ v, Kept [] wr v → _) := hide (fun v (hv : Kept [] wr v) => copiedB_ok (.slice bo (S.th id).safe.length bc) (S.th id).safe.length (S.th id).safe v (ht.safe.kept hv) (by simp only at hle; omega))
   have hsz := hkw.size
   have HST : Hid (∀ v, Kept [] wr v → ∀ g4 c4 w4, w4.ownsRow 0 5 1 (.slice (some ⟨g4, 0, none⟩) (S.th id).safe.length c4) (S.th id).safe.length (bys (S.th id).safe) → Kept [] v w4 → v.heap.size ≤ g4 → ∃ ga gc w5, (Builtin.append_ #[22, 22] 22 #[.slice fo k fc, .slice (some ⟨w4.heap.size, 0, none⟩) 1 1]).run Tryz.prog (w4.alloc (.cells #[encStr nm, .slice (some ⟨g4, 0, none⟩) (S.th id).safe.length c4] 26)) = .ok (.slice (some ⟨ga, 0, none⟩) (k + 1) gc) w5 ∧ Hid ((∃ vs', Fls w5 w.heap.size (.slice (some ⟨ga, 0, none⟩) (k + 1) gc) (S.safeFiles.take (k + 1)) vs') ∧ Kept [] w w5)) := hide (fun v hv g4 c4 w4 h1 h2 h3 => by
    have hlen : (S.safeFiles.take k).length = k := by rw [List.length_take, HFL.out]; omega
    have hkr : Kept [] wr w4 := hv.trans h2 (by simp)
    have hr4 := own_keeps hF.row (Keep.ofNone (F := fun _ => False) hkr) (fun _ _ h => h)
    rw [hlen] at hr4
    have hr4' := ownsRow_base_a hr4 (Nat.zero_le _)
    obtain ⟨ga, gc, w5, e1, e2, e3, e4, _⟩ := run_app (P := Tryz.prog) w4 22 22 26 Tryz.underlying22 Tryz.infoFile rfl (by decide) _ k _ hr4' [encStr nm, .slice (some ⟨g4, 0, none⟩) (S.th id).safe.length c4] rfl (fun z hz => by simp only [List.mem_cons, List.not_mem_nil, or_false] at hz; rcases hz with rfl | rfl <;> rfl) (by unfold maxLen; omega) (by omega)
    have hK5 := e3 (fun j => (Value.slice fo k fc).ownBlock = some j) (fun _ e => e)
    refine ⟨ga, gc, w5, e1, hide ⟨⟨vs ++ [.slice (some ⟨g4, 0, none⟩) (S.th id).safe.length c4], ?_⟩, ?_⟩⟩
    ·rw [show S.safeFiles.take (k + 1) = S.safeFiles.take k ++ [(nm, (S.th id).safe)] by rw [List.take_add_one, hfk]; rfl]
     refine hF.step hkr hsz (OwnB.of h1) (fun g e => ?_) (by rw [hlen]; exact e2) e3 (fun g' hg' => ?_)
     ·simp only [Value.ownBlock] at e
      injection e with e
      rw [← e]; exact Nat.le_trans hv.size h3
     ·simp only [Value.ownBlock, Option.some.injEq] at hg'
      subst hg'
      rcases e4 with e | e
      ·exact .inl e.symm
      ·exact .inr e
    ·have hkw4 := hkw.trans hkr (by simp)
     exact ⟨hK5.os.trans hkw4.os, hK5.tape.trans hkw4.tape, hK5.output.trans hkw4.output, Nat.le_trans hkw4.size hK5.size, fun i hi _ => (hK5.block i (Nat.lt_of_lt_of_le hi hkw4.size) (fun e => by have := (hF.row.lt i e).1; omega)).trans (hkw4.block i hi (by simp))⟩)
   simp only at hle
   generalize (S.th id).safe.length = z at hts hle HCP HST
   generalize A id = ab at hts hc1
   clear ht hmem hp hHr hF hkw hfk
   go_upto_region 7 with (fail)
   refine wp_region_late (fun w' => Kept [] wr w') (fun i => i == 23) (by kernel_rfl) ?_
   have h0 : Kept [] wr wr.drew := (Kept.refl [] wr).drew
   generalize World.drew wr = v0 at h0  ⊢
   refine wpAnyL_free (i := 0) (v := .slice fo k fc) rfl (by kernel_rfl) (by kernel_rfl) (by kernel_rfl) (fun _ _ _ h => h) (Or.inl ⟨by rfl, fun w _ => by go_simp⟩) ?_
   try simp only [z1, z2, z3, z4, z5, z6, z7, z8]
   refine wpAnyL_free (i := 1) (v := .pointer (some ⟨q, 0, none⟩)) rfl (by kernel_rfl) (by kernel_rfl) (by kernel_rfl) (fun _ _ _ h => h) (Or.inl ⟨by rfl, fun w _ => by go_simp⟩) ?_
   try simp only [z1, z2, z3, z4, z5, z6, z7, z8]
   refine wpAnyL_free (i := 2) (v := .pointer (some ⟨q, 0, none⟩)) rfl (by kernel_rfl) (by kernel_rfl) (by kernel_rfl) (fun _ _ _ h => h) (Or.inl ⟨by rfl, fun w _ => by go_simp⟩) ?_
   try simp only [z1, z2, z3, z4, z5, z6, z7, z8]
   refine wpAnyL_free (i := 3) (v := .pointer (some ⟨q, 3, none⟩)) rfl (by kernel_rfl) (by kernel_rfl) (by kernel_rfl) (fun _ _ _ h => h) (Or.inl ⟨by rfl, fun w _ => by go_simp⟩) ?_
   try simp only [z1, z2, z3, z4, z5, z6, z7, z8]
   refine wpAnyL_take (i := 4) (v := .slice (some ⟨gn, 0, none⟩) M nc) rfl (by kernel_rfl) (by kernel_rfl) (by kernel_rfl) (by kernel_rfl) (by kernel_rfl) (fun _ _ _ h => h) (Or.inl ⟨by rfl, fun w hSw => by have q0 := Kept.cellOf hSw c2 (by simp); go_simp⟩) h0 ?_
   try simp only [z1, z2, z3, z4, z5, z6, z7, z8]
   refine wpAnyL_free (i := 5) (v := .int .i64 k) rfl (by kernel_rfl) (by kernel_rfl) (by kernel_rfl) (fun _ _ _ h => h) (Or.inl ⟨by rfl, fun w _ => by go_simp⟩) ?_
   try simp only [z1, z2, z3, z4, z5, z6, z7, z8]
   refine wpAnyL_free (i := 6) (v := .pointer (some ⟨gn, k * 2, none⟩)) rfl (by kernel_rfl) (by kernel_rfl) (by kernel_rfl) (fun _ _ _ h => h) (Or.inl ⟨by rfl, fun w _ => by have q0 := hlt; go_simp⟩) ?_
   try simp only [z1, z2, z3, z4, z5, z6, z7, z8]
   refine wpAnyL_free (i := 7) (v := .pointer (some ⟨gn, k * 2, none⟩)) rfl (by kernel_rfl) (by kernel_rfl) (by kernel_rfl) (fun _ _ _ h => h) (Or.inl ⟨by rfl, fun w _ => by go_simp⟩) ?_
   try simp only [z1, z2, z3, z4, z5, z6, z7, z8]
   refine wpAnyL_take (i := 8) (v := encStr nm) rfl (by kernel_rfl) (by kernel_rfl) (by kernel_rfl) (by kernel_rfl) (by kernel_rfl) (fun _ _ _ h => h) (Or.inl ⟨by rfl, fun w hSw => by have q0 := Kept.cellOf hSw hc0 (by simp); go_simp⟩) h0 ?_
   try simp only [z1, z2, z3, z4, z5, z6, z7, z8]
   refine wpAnyL_free (i := 9) (v := .pointer (some ⟨q, 0, none⟩)) rfl (by kernel_rfl) (by kernel_rfl) (by kernel_rfl) (fun _ _ _ h => h) (Or.inl ⟨by rfl, fun w _ => by go_simp⟩) ?_
   try simp only [z1, z2, z3, z4, z5, z6, z7, z8]
   refine wpAnyL_free (i := 10) (v := .pointer (some ⟨q, 0, none⟩)) rfl (by kernel_rfl) (by kernel_rfl) (by kernel_rfl) (fun _ _ _ h => h) (Or.inl ⟨by rfl, fun w _ => by go_simp⟩) ?_
   try simp only [z1, z2, z3, z4, z5, z6, z7, z8]
   refine wpAnyL_free (i := 11) (v := .pointer (some ⟨q, 3, none⟩)) rfl (by kernel_rfl) (by kernel_rfl) (by kernel_rfl) (fun _ _ _ h => h) (Or.inl ⟨by rfl, fun w _ => by go_simp⟩) ?_
   try simp only [z1, z2, z3, z4, z5, z6, z7, z8]
   refine wpAnyL_take (i := 12) (v := .slice (some ⟨gn, 0, none⟩) M nc) rfl (by kernel_rfl) (by kernel_rfl) (by kernel_rfl) (by kernel_rfl) (by kernel_rfl) (fun _ _ _ h => h) (Or.inl ⟨by rfl, fun w hSw => by have q0 := Kept.cellOf hSw c2 (by simp); go_simp⟩) h0 ?_
   try simp only [z1, z2, z3, z4, z5, z6, z7, z8]
   refine wpAnyL_free (i := 13) (v := .int .i64 k) rfl (by kernel_rfl) (by kernel_rfl) (by kernel_rfl) (fun _ _ _ h => h) (Or.inl ⟨by rfl, fun w _ => by go_simp⟩) ?_
   try simp only [z1, z2, z3, z4, z5, z6, z7, z8]
   refine wpAnyL_free (i := 14) (v := .pointer (some ⟨gn, k * 2, none⟩)) rfl (by kernel_rfl) (by kernel_rfl) (by kernel_rfl) (fun _ _ _ h => h) (Or.inl ⟨by rfl, fun w _ => by have q0 := hlt; go_simp⟩) ?_
   try simp only [z1, z2, z3, z4, z5, z6, z7, z8]
   refine wpAnyL_free (i := 15) (v := .pointer (some ⟨gn, k * 2 + 1, none⟩)) rfl (by kernel_rfl) (by kernel_rfl) (by kernel_rfl) (fun _ _ _ h => h) (Or.inl ⟨by rfl, fun w _ => by go_simp⟩) ?_
   try simp only [z1, z2, z3, z4, z5, z6, z7, z8]
   refine wpAnyL_take (i := 16) (v := .pointer (some ⟨ab, 0, none⟩)) rfl (by kernel_rfl) (by kernel_rfl) (by kernel_rfl) (by kernel_rfl) (by kernel_rfl) (fun _ _ _ h => h) (Or.inl ⟨by rfl, fun w hSw => by have q0 := Kept.cellOf hSw hc1 (by simp); go_simp⟩) h0 ?_
   try simp only [z1, z2, z3, z4, z5, z6, z7, z8]
   refine wpAnyL_free (i := 17) (v := .pointer (some ⟨ab, 0, none⟩)) rfl (by kernel_rfl) (by kernel_rfl) (by kernel_rfl) (fun _ _ _ h => h) (Or.inl ⟨by rfl, fun w _ => by go_simp⟩) ?_
   try simp only [z1, z2, z3, z4, z5, z6, z7, z8]
   refine wpAnyL_free (i := 18) (v := .pointer (some ⟨ab, 0, none⟩)) rfl (by kernel_rfl) (by kernel_rfl) (by kernel_rfl) (fun _ _ _ h => h) (Or.inl ⟨by rfl, fun w _ => by go_simp⟩) ?_
   try simp only [z1, z2, z3, z4, z5, z6, z7, z8]
   refine wpAnyL_take (i := 19) (v := .slice bo z bc) rfl (by kernel_rfl) (by kernel_rfl) (by kernel_rfl) (by kernel_rfl) (by kernel_rfl) (fun _ _ _ h => h) (Or.inl ⟨by rfl, fun w hSw => by have q0 := Kept.cellOf hSw hts (by simp); go_simp⟩) h0 ?_
   try simp only [z1, z2, z3, z4, z5, z6, z7, z8]
   refine wpAnyL_one (i := 20) (by kernel_rfl) rfl (fun K hK => ?_)
   rw [if_pos (by rfl)]
   go_simp
   refine (HCP.out v0 h0).mono ?_
   rintro e w4 ⟨g4, c4, rfl, hr4, hk4, hg4⟩
   obtain ⟨ga, gc, w5, hap, H5⟩ := HST.out v0 h0 g4 c4 w4 hr4 hk4 hg4
   refine hK.out _ _ (fun _ _ => h0.trans hk4 (by simp)) ?_
   clear hK K
   try simp only [z1, z2, z3, z4, z5, z6, z7, z8]
   refine wpAnyL_free (i := 21) (v := .agg #[encStr nm, .slice (some ⟨g4, 0, none⟩) z c4]) rfl (by kernel_rfl) (by kernel_rfl) (by kernel_rfl) (fun _ _ _ h => h) (Or.inl ⟨by rfl, fun w _ => by go_simp⟩) ?_
   try simp only [z1, z2, z3, z4, z5, z6, z7, z8]
   refine wpAnyL_one (i := 22) (by kernel_rfl) rfl (fun K hK => ?_)
   rw [if_pos (by rfl)]
   go_simp
   refine hK.out _ _ (fun _ _ => (h0.trans hk4 (by simp)).alloc _) ?_
   clear hK K
   try simp only [z1, z2, z3, z4, z5, z6, z7, z8]
   refine wpAnyL_one (i := 23) (by kernel_rfl) rfl (fun K hK => ?_)
   rw [if_pos (by rfl)]
   refine wp_append_run (.tmp 16) (.tmp 38) 22 22 rfl (.slice fo k fc) (.slice (some ⟨w4.heap.size, 0, none⟩) 1 1) rfl rfl (.slice (some ⟨ga, 0, none⟩) (k + 1) gc) w5 hap ?_
   refine hK.out _ _ (fun _ h => by cases h) ?_
   clear hK K
   try simp only [z1, z2, z3, z4, z5, z6, z7, z8]
   refine wpAnyL_free (i := 24) (v := .slice (some ⟨ga, 0, none⟩) (k + 1) gc) rfl (by kernel_rfl) (by kernel_rfl) (by kernel_rfl) (fun _ _ _ h => h) (Or.inl ⟨by rfl, fun w _ => by go_simp⟩) ?_
   try simp only [z1, z2, z3, z4, z5, z6, z7, z8]
   refine wpAnyL_done (by kernel_rfl) ?_ _
   go_wp2
   go_roundw
   case rel => exact ⟨k + 1, by omega, by go_num, H5, _, _, rfl⟩
   case measure => simp [intOf]; omega
  ·have HE : Hid ((∃ vs, Fls wr w.heap.size (.slice fo k fc) S.safeFiles vs) ∧ Kept [] w wr) := hide ⟨⟨vs, by rw [List.take_of_length_le (by rw [HFL.out]; omega)] at hF; exact hF⟩, hkw⟩
   clear hF hkw
   go_wp2
   go_ret
   exact ⟨_, rfl, HE.out⟩
end
end

section
open Go.RowKit Dsk
set_option linter.unusedVariables false
set_option linter.unusedSimpArgs false
theorem files_bd {S : Ds} {N : Nat} (hb : S.Bd N) (hw : S.Wf) : S.files.length ≤ N ∧ ∀ f ∈ S.files, f.2.length ≤ N := by
 refine ⟨by simpa [Ds.files] using hb.shown hw, fun f hf => ?_⟩
 obtain ⟨x, hx, rfl⟩ := List.mem_map.1 hf
 exact hb.len hw (hw.slt (n := x.1) hx)
theorem safes_bd {S : Ds} {N : Nat} (hb : S.Bd N) (hw : S.Wf) : S.safe.length ≤ N ∧ ∀ p ∈ S.safe, (S.th p.2).safe.length ≤ N := by
 refine ⟨by have := hb.nm; omega, fun p hp => ?_⟩
 have := hb.th p.2 (hw.lt p.2 (Ds.safe_lives hp))
 omega
section
variable {X : Nat → Prop} {w : World} {P p q D : Nat} {bo : Option Nat} {R : List UInt8} {S : Ds} {N : Nat} {T : Ds} {M : Nat}
set_option maxRecDepth 100000 in
theorem room_ok {w : World} {p : Nat} {S : Ds} {A : Nat → Nat} {o : Lab} (h : PD w p S A o) : Calls Tryz.prog 40 #[.pointer (some ⟨p, 0, none⟩)] w fun e w' => e = .returned (.int .i64 S.room) ∧ w' = w := by
 obtain ⟨ms, mh, rv, sv, h⟩ := h
 have c0 := h.c0
 clear h
 go_enter Tryz.func40, Tryz.ntmps40
 go_wp2
 go_ret
 exact ⟨rfl, rfl⟩
theorem off_p1 (h : Pq X w P p q D bo R S N T M) : Calls Tryz.prog 36 #[.pointer (some ⟨p, 0, none⟩)] w fun e w' => e = .returned (.bool (!S.on)) ∧ w' = w := by
 obtain ⟨A, o, A', o', hP, _⟩ := h.tw
 exact offD_ok hP
theorem off_p2 (h : Pq X w P p q D bo R S N T M) : Calls Tryz.prog 37 #[.pointer (some ⟨q, 0, none⟩)] w fun e w' => e = .returned (.bool (!T.on)) ∧ w' = w := by
 obtain ⟨A, o, A', o', hP, hR, _⟩ := h.tw
 obtain ⟨hwf, nv, bv, tv, sv, hx⟩ := hR
 exact roff_ok hx
theorem strokes_p1 (h : Pq X w P p q D bo R S N T M) : Calls Tryz.prog 30 #[.pointer (some ⟨p, 0, none⟩)] w fun e w' => e = .returned (.int .i64 S.strokes) ∧ w' = w := by
 obtain ⟨A, o, A', o', hP, _⟩ := h.tw
 exact strokes_ok hP
theorem strokes_p2 (h : Pq X w P p q D bo R S N T M) : Calls Tryz.prog 38 #[.pointer (some ⟨q, 0, none⟩)] w fun e w' => e = .returned (.int .i64 T.strokes) ∧ w' = w := by
 obtain ⟨A, o, A', o', hP, hR, _⟩ := h.tw
 obtain ⟨hwf, nv, bv, tv, sv, hx⟩ := hR
 exact rstrokes_ok hx
theorem room_p1 (h : Pq X w P p q D bo R S N T M) : Calls Tryz.prog 40 #[.pointer (some ⟨p, 0, none⟩)] w fun e w' => e = .returned (.int .i64 S.room) ∧ w' = w := by
 obtain ⟨A, o, A', o', hP, _⟩ := h.tw
 exact room_ok hP
theorem room_p2 (h : Pq X w P p q D bo R S N T M) : Calls Tryz.prog 41 #[.pointer (some ⟨q, 0, none⟩)] w fun e w' => e = .returned (.int .i64 T.room) ∧ w' = w := by
 obtain ⟨A, o, A', o', hP, hR, _⟩ := h.tw
 obtain ⟨hwf, nv, bv, tv, sv, hx⟩ := hR
 exact rroom_ok hx
theorem used_p1 (h : Pq X w P p q D bo R S N T M) (hN : N ≤ 268435456) : Calls Tryz.prog 35 #[.pointer (some ⟨p, 0, none⟩)] w fun e w' => e = .returned (.int .i64 S.used) ∧ Kept [] w w' := by
 obtain ⟨A, o, A', o', hP, _, _, _, hb, _⟩ := h.tw
 exact usedD_ok hP hb (by omega)
theorem used_p2 (h : Pq X w P p q D bo R S N T M) (hM : M ≤ 268435456) : Calls Tryz.prog 39 #[.pointer (some ⟨q, 0, none⟩)] w fun e w' => e = .returned (.int .i64 T.used) ∧ w' = w := by
 obtain ⟨A, o, A', o', hP, hR, _, _, _, hb⟩ := h.tw
 obtain ⟨hwf, nv, bv, tv, sv, hx⟩ := hR
 exact rused_ok hx (fun p hp => Ds.shown_lives hwf hp) (by have := hb.shown hwf; omega) (fun p hp => by have := hb.len hwf (hwf.slt (n := p.1) (k := p.2) hp); omega)
def Tf (w w' : World) (v : Value) (L : List (By × By)) : Prop := ∃ ao c, v = .slice ao L.length c ∧ Fis w' ao L ∧ Kept [] w w'
theorem Tf.of {w w' : World} {v : Value} {L : List (By × By)} {B : Nat} {vs : List Value} (h : Fls w' B v L vs) (hk : Kept [] w w') : Tf w w' v L := by
 obtain ⟨ao, c, rfl, _⟩ := own_shape h.row
 obtain ⟨h1, h2⟩ := Fis.of h
 rw [h2]
 exact ⟨ao, c, rfl, h1, hk⟩
theorem files_p1 (h : Pq X w P p q D bo R S N T M) (hN : N ≤ 268435456) : Calls Tryz.prog 33 #[.pointer (some ⟨p, 0, none⟩)] w fun e w' => ∃ v, e = .returned v ∧ Tf w w' v S.files := by
 obtain ⟨A, o, A', o', hP, _, _, _, hb, _⟩ := h.tw
 refine (files_ok hP hb hN).mono ?_
 rintro e w' ⟨v, vs, rfl, h1, h2⟩
 exact ⟨v, rfl, Tf.of h1 h2⟩
theorem safe_p1 (h : Pq X w P p q D bo R S N T M) (hN : N ≤ 268435456) : Calls Tryz.prog 44 #[.pointer (some ⟨p, 0, none⟩)] w fun e w' => ∃ v, e = .returned v ∧ Tf w w' v S.safeFiles := by
 obtain ⟨A, o, A', o', hP, _, _, _, hb, _⟩ := h.tw
 refine (safe_ok hP hb hN).mono ?_
 rintro e w' ⟨v, vs, rfl, h1, h2⟩
 exact ⟨v, rfl, Tf.of h1 h2⟩
theorem files_p2 (h : Pq X w P p q D bo R S N T M) (hM : M ≤ 268435456) : Calls Tryz.prog 43 #[.pointer (some ⟨q, 0, none⟩)] w fun e w' => ∃ v, e = .returned v ∧ Tf w w' v T.files := by
 obtain ⟨A, o, A', o', hP, hR, _, _, _, hb⟩ := h.tw
 obtain ⟨hwf, nv, bv, tv, sv, hx⟩ := hR
 refine (rfiles_ok hx (fun p hp => Ds.shown_lives hwf hp) (by have := hb.shown hwf; omega) (fun p hp => by have := hb.len hwf (hwf.slt (n := p.1) (k := p.2) hp); omega)).mono ?_
 rintro e w' ⟨v, rfl, ⟨vs, h1⟩, h2⟩
 exact ⟨v, rfl, Tf.of h1 h2⟩
theorem safe_p2 (h : Pq X w P p q D bo R S N T M) (hM : M ≤ 268435456) : Calls Tryz.prog 45 #[.pointer (some ⟨q, 0, none⟩)] w fun e w' => ∃ v, e = .returned v ∧ Tf w w' v T.safeFiles := by
 obtain ⟨A, o, A', o', hP, hR, _, _, _, hb⟩ := h.tw
 obtain ⟨hwf, nv, bv, tv, sv, hx⟩ := hR
 have hs := safes_bd hb hwf
 refine (rsafe_ok hx (fun p hp => Ds.safe_lives hp) (by omega) (fun p hp => by have := hs.2 p hp; omega)).mono ?_
 rintro e w' ⟨v, rfl, ⟨vs, h1⟩, h2⟩
 exact ⟨v, rfl, Tf.of h1 h2⟩
def Ts (w w' : World) (v : Value) (l : List Dsk.Span) : Prop := ∃ ao c, v = .slice ao l.length c ∧ Sps w' ao l ∧ Kept [] w w'
theorem Sps.kept {w w' : World} {ao : Option Addr} {l : List Dsk.Span} (h : Sps w ao l) (hk : Kept [] w w') : Sps w' ao l := fun i hi => by
 obtain ⟨b, e, s, h1, h2, h3, h4⟩ := h i hi
 exact ⟨b, e, s, h1, hk.cellOf h2 (by simp), hk.cellOf h3 (by simp), hk.cellOf h4 (by simp)⟩
theorem reads_p1 (h : Pq X w P p q D bo R S N T M) (hN : N ≤ 268435456) : Calls Tryz.prog 31 #[.pointer (some ⟨p, 0, none⟩)] w fun e w' => ∃ v, e = .returned v ∧ Ts w w' v S.reads := by
 obtain ⟨A, o, A', o', hP, _, _, _, hb, _⟩ := h.tw
 refine (reads_ok hP hb hN).mono ?_
 rintro e w' ⟨v, rfl, h1, h2⟩
 obtain ⟨ao, c, rfl, _⟩ := own_shape h1
 exact ⟨_, rfl, ao, c, rfl, Sps.of h1, h2⟩
theorem reads_p2 (h : Pq X w P p q D bo R S N T M) (hM : M ≤ 268435456) : Calls Tryz.prog 47 #[.pointer (some ⟨q, 0, none⟩)] w fun e w' => ∃ v, e = .returned v ∧ Ts w w' v T.reads := by
 obtain ⟨A, o, A', o', hP, hR, _, _, _, hb⟩ := h.tw
 obtain ⟨hwf, nv, bv, tv, sv, hx⟩ := hR
 refine (rreads_ok hx (by have := hb.reads; omega)).mono ?_
 rintro e w' ⟨g, c, rfl, h1, h2, _⟩
 exact ⟨_, rfl, _, c, rfl, Sps.of h1, h2⟩
end
structure Rp (P p q : Nat) (v : World) : Prop where
 p0 : v.cell? ⟨P, 0, none⟩ = some (.pointer (some ⟨p, 0, none⟩))
 p1 : v.cell? ⟨P, 1, none⟩ = some (.pointer (some ⟨q, 0, none⟩))
theorem Rp.kept {P p q : Nat} {v v' : World} (h : Rp P p q v) (hk : Kept [] v v') : Rp P p q v' := ⟨hk.cellOf h.p0 (by simp), hk.cellOf h.p1 (by simp)⟩
end

section
open Go.RowKit Dsk
set_option linter.unusedVariables false
set_option linter.unusedSimpArgs false
theorem Pq.put {X : Nat → Prop} {w v : World} {P p q D : Nat} {S : Ds} {N l1 h1 l2 h2 : Nat} {A A' : Nat → Nat} {o o' : Lab} (hX : ∀ b, X b → b < w.heap.size) (hw : Kept [] w v)
  (hp : PD v p S A o) (ho : ∀ b, o b ≠ 0 → l1 ≤ b ∧ b < h1) (hq : RD v q S A' o') (ho' : ∀ b, o' b ≠ 0 → l2 ≤ b ∧ b < h2) (hb : S.Bd N) (e1 : w.heap.size ≤ l1) (eB : l1 ≤ h1) (e2 : h1 ≤ l2) (e3 : h1 ≤ v.heap.size) (e4 : h2 ≤ v.heap.size)
  (e5 : w.heap.size ≤ D) (e6 : D < l1 ∨ h1 ≤ D) (e7 : D < l2 ∨ h2 ≤ D) (e8 : h2 ≤ P) (e9 : h1 ≤ P) (eA : D < P) (e0 : w.heap.size ≤ P)
  (hD : v.heap[D]? = some (.cells #[.slice none 0 0, .slice none 0 0] 45 (0, 0)))
  (hP : v.heap[P]? = some (.cells #[.pointer (some ⟨p, 0, none⟩), .pointer (some ⟨q, 0, none⟩), .pointer (some ⟨D, 0, none⟩)] 47 (0, 0))) :
  Pq X v P p q D none [] S N S N := by
 have hDl := (Array.getElem?_eq_some_iff.1 hD).1
 have hPl := (Array.getElem?_eq_some_iff.1 hP).1
 have z := hw.size
 have n1 : ∀ b, b < l1 ∨ h1 ≤ b → o b = 0 := fun b hb => Classical.byContradiction fun hn => by have := ho b hn; omega
 have n2 : ∀ b, b < l2 ∨ h2 ≤ b → o' b = 0 := fun b hb => Classical.byContradiction fun hn => by have := ho' b hn; omega
 refine ⟨⟨A, o, A', o', hp, hq, fun b hb => n2 b (by have := ho b hb; omega), fun b hb => ?_, hb, hb⟩, hP, ⟨?_, frozen_of_row _ _ _ _ _ hD, fun _ => rfl, fun g e => (by cases e), (by simp)⟩, ⟨.slice none 0 0, ?_⟩, frozen_of_row _ _ _ _ _ hD, fun b hb hp => ?_, by omega, by simp⟩
 ·rcases hb with hb | hb | hb | hb
  ·have := hX b hb
   exact ⟨n1 b (by omega), n2 b (by omega), by omega⟩
  ·subst hb; exact ⟨n1 _ (by omega), n2 _ (by omega), by omega⟩
  ·subst hb; exact ⟨n1 _ (by omega), n2 _ (by omega), by omega⟩
  ·cases hb
 ·rw [cell_of_row v _ 0 _ _ _ hD]; rfl
 ·rw [cell_of_row v _ 1 _ _ _ hD]; rfl
 ·have := hX b hb
  rcases hp with hp | hp | hp
  ·omega
  ·omega
  ·cases hp
theorem Scr.kept {w w' : World} {ao : Option Addr} {L : List Stp} (h : Scr w ao L) (hk : Kept [] w w') : Scr w' ao L := fun i hi => by
 obtain ⟨b, off, e, h1, h2⟩ := h i hi
 exact ⟨b, off, e, fun j v hj => hk.cellOf (h1 j v hj) (by simp), h2.kept hk⟩
theorem Pl.mono {w wr : World} {P N M : Nat} (h : Pl w wr P N) (hm : N ≤ M) : Pl w wr P M := by
 obtain ⟨h1, p, q, D, bo, R, S, h2⟩ := h
 exact ⟨h1, p, q, D, bo, R, S, h2.mono hm hm⟩
structure StA (w : World) (b off : Nat) (s : Stp) (M : Nat) : Prop where
 cl : ∀ j v, s.cells[j]? = some v → w.cell? ⟨b, off + j, none⟩ = some v
 inn : StpIn w s
 dn : s.dn ≤ M
 pn : s.pn ≤ M
theorem Scr.at {w : World} {ao : Option Addr} {L : List Stp} {M k : Nat} (h : Scr w ao L) (hM : costs L ≤ M) (hk : k < L.length) : ∃ b off, ao = some ⟨b, off, none⟩ ∧ StA w b (off + k * 10) (L.getD k stp0) M := by
 obtain ⟨b, off, e, h1, h2⟩ := h k hk
 have h3 := cost_at hk
 have h4 : (L.getD k stp0).cost = (L.getD k stp0).dn + 8 * (L.getD k stp0).pn := rfl
 exact ⟨b, off, e, fun j v hj => by have := h1 j v hj; rw [Nat.mul_comm 10 k] at this; exact this, h2, by omega, by omega⟩
end

end Go.Proofs.YteckiednnaianaaGreat
