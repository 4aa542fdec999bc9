/-
  DiskWhole: Rows.made. (Written by tools/hwc.py.)
-/
import Derived.Test.YtllfkfncgalpaaaHwbp
namespace Go.Proofs.Ytllfkfncgalpaaa
open Go.RowKit Dsk
set_option linter.unusedVariables false
set_option linter.unusedSimpArgs false

section
variable {w : World} {q : Nat} {v : Value} {H : Nm} {t : Nat}
theorem at_any (h : Rws w q v H t) (hn : (H.map (·.1)).Nodup) (hl : H.length ≤ 1000000) (nm : By) :
    Calls Try.prog 38 #[.pointer (some ⟨q, 0, none⟩), encStr nm] w fun e w' => ∃ I : Int, e = .returned (.int .i64 I) ∧ w' = w := by
  by_cases hin : ∃ (i : Nat) (x : By × Nat), H[i]? = some x ∧ x.1 = nm
  · obtain ⟨i, x, hi, rfl⟩ := hin
    exact (at_yes h hn hl hi).mono (fun e w' ⟨h1, h2⟩ => ⟨_, h1, h2⟩)
  · exact (at_no h hl (nm := nm) (fun x hx e => hin (by
      obtain ⟨i, hi⟩ := List.mem_iff_getElem?.1 hx
      exact ⟨i, x, hi, e⟩))).mono (fun e w' ⟨h1, h2⟩ => ⟨_, h1, h2⟩)
theorem hd_snoc (H : Nm) (x : By × Nat) : (H ++ [x]).flatMap encHd = H.flatMap encHd ++ encHd x := by simp
/-- append to the names. -/
theorem Rws.push (h : Rws w q v H t) (hl : H.length ≤ 1000000) (x : By × Nat) {v0 : World} (hk : Kept [] w v0) : ∃ g c w2, (Builtin.append_ #[29, 29] 29 #[v, .slice (some ⟨v0.heap.size, 0, none⟩) 1 1]).run Try.prog (v0.alloc (.cells #[encStr x.1, .int .i64 x.2] 45)) = .ok (.slice (some ⟨g, 0, none⟩) (H.length + 1) c) w2 ∧ w2.heap[q]? = some (.cells #[v, .int .i64 t] 31 (0, 0)) ∧ Rws (w2.setCell ⟨q, 0, none⟩ (.slice (some ⟨g, 0, none⟩) (H.length + 1) c)) q (.slice (some ⟨g, 0, none⟩) (H.length + 1) c) (H ++ [x]) t ∧ RwsTo w (w2.setCell ⟨q, 0, none⟩ (.slice (some ⟨g, 0, none⟩) (H.length + 1) c)) q v (.slice (some ⟨g, 0, none⟩) (H.length + 1) c) := by
  have h0 := h.kept hk
  obtain ⟨g, c, w2, e1, e2, e3, e4, e5⟩ := OwnC.app (P := Try.prog) 29 29 Try.underlying29 Try.infoHeld rfl (by omega) h0.row (encHd x) rfl (fun u hu => by simp only [encHd, List.mem_cons, List.not_mem_nil, or_false] at hu; rcases hu with rfl | rfl <;> rfl) (by unfold maxLen; omega) (by omega)
  have hK := e3 (fun b => v.ownBlock = some b) (fun _ e => e)
  have hq2 : w2.heap[q]? = some (.cells #[v, .int .i64 t] 31 (0, 0)) := hK.heapOf h0.cell h0.ne
  refine ⟨g, c, w2, e1, hq2, ⟨?_, ?_⟩, ⟨?_, fun k hk2 => ?_⟩⟩
  · rw [heap_setCell_same _ _ _ _ _ _ hq2]
    rfl
  · rw [hd_snoc, List.length_append]
    refine e2.keep (F := fun b => b = q) ((Keep.refl (fun b => b = q) _).setCell (p := ⟨q, 0, none⟩) (fun _ => rfl) _) (fun g2 hg2 e => ?_)
    subst e
    exact e2.ne hq2 (by decide) hg2
  · exact ((Keep.ofNone hk).trans (e3 (fun b => b = q ∨ v.ownBlock = some b) (fun _ e => .inr e)) (fun _ h _ => h)).setCell (fun _ => .inl rfl) _
  · simp only [Value.ownBlock, Option.some.injEq] at hk2
    subst hk2
    rcases e4 with e4 | e4
    · exact .inl e4.symm
    · exact .inr (Nat.le_trans hk.size e4)
/-- A name's units are written. -/
theorem Rws.setU {g cap : Nat} (h : Rws w q (.slice (some ⟨g, 0, none⟩) H.length cap) H t) {i : Nat} {x : By × Nat} (hi : H[i]? = some x) (u : Nat) : Rws (w.setCell ⟨g, i * 2 + 1, none⟩ (.int .i64 u)) q (.slice (some ⟨g, 0, none⟩) H.length cap) (H.set i (x.1, u)) t ∧ RwsTo w (w.setCell ⟨g, i * 2 + 1, none⟩ (.int .i64 u)) q (.slice (some ⟨g, 0, none⟩) H.length cap) (.slice (some ⟨g, 0, none⟩) H.length cap) := by
  have hlt := (List.getElem?_eq_some_iff.1 hi).1
  have hk : Keep (fun b => b = g) w (w.setCell ⟨g, i * 2 + 1, none⟩ (.int .i64 u)) := (Keep.refl (fun b => b = g) w).setCell (p := ⟨g, i * 2 + 1, none⟩) (fun _ => rfl) _
  refine ⟨⟨hk.heapOf h.cell (fun e => h.ne (by rw [e]; rfl)), ?_⟩, ⟨hk.mono (fun b hb _ => .inr (by rw [hb]; rfl)), fun _ h => .inl h⟩⟩
  have := h.row.set (j := i * 2 + 1) (by omega) (.int .i64 u)
  rw [hd_set H i u x hi] at this
  rw [List.length_set]
  exact this
theorem Rws.setT (h : Rws w q v H t) (t' : Nat) : Rws (w.setCell ⟨q, 1, none⟩ (.int .i64 t')) q v H t' ∧ RwsTo w (w.setCell ⟨q, 1, none⟩ (.int .i64 t')) q v v := by
  have hk : Keep (fun b => b = q) w (w.setCell ⟨q, 1, none⟩ (.int .i64 t')) := (Keep.refl (fun b => b = q) w).setCell (p := ⟨q, 1, none⟩) (fun _ => rfl) _
  refine ⟨⟨?_, h.row.keep hk (fun g hg e => h.ne (by rw [hg, e]))⟩, ⟨hk.mono (fun b hb _ => .inl hb), fun _ h => .inl h⟩⟩
  rw [heap_setCell_same _ _ _ _ _ _ h.cell]
  rfl
theorem Rws.cell0 (h : Rws w q v H t) : w.cell? ⟨q, 0, none⟩ = some v := by rw [cell_of_row _ _ _ _ _ _ h.cell]; rfl
theorem Rws.cell1 (h : Rws w q v H t) : w.cell? ⟨q, 1, none⟩ = some (.int .i64 t) := by rw [cell_of_row _ _ _ _ _ _ h.cell]; rfl
theorem Rws.fro (h : Rws w q v H t) (j : Nat) : w.frozen? ⟨q, j, none⟩ = false := frozen_of_row _ _ _ _ _ h.cell
theorem Rws.at {g cap n : Nat} (h : Rws w q (.slice (some ⟨g, 0, none⟩) n cap) H t) {i : Nat} {x : By × Nat} (hi : H[i]? = some x) : w.cell? ⟨g, i * 2, none⟩ = some (encStr x.1) ∧ w.cell? ⟨g, i * 2 + 1, none⟩ = some (.int .i64 x.2) ∧ (∀ j, w.frozen? ⟨g, j, none⟩ = false) := by
  have hlt := (List.getElem?_eq_some_iff.1 hi).1
  obtain ⟨g', cap', hv, hnc, _, hc, hf⟩ := h.row.open (by omega)
  injection hv with hv _ _
  injection hv with hv
  injection hv with hv _ _
  subst hv
  exact ⟨hc _ _ (hd_get H i x hi).1, hc _ _ (hd_get H i x hi).2, hf⟩
end
theorem RwsTo.first {w w1 w2 : World} {q : Nat} {v v' : Value} (hk : Kept [] w w1) (h : RwsTo w1 w2 q v v') : RwsTo w w2 q v v' := ⟨(Keep.ofNone hk).trans h.keep (fun _ h _ => h), fun g hg => (h.new g hg).imp id (fun h2 => Nat.le_trans hk.size h2)⟩
theorem bump_none {H : Nm} {nm : By} (h : ∀ x ∈ H, x.1 ≠ nm) (f : Nat → Nat) : H.bump nm f = H := by
  simp only [Nm.bump]
  conv => rhs; rw [← List.map_id H]
  apply List.map_congr_left
  intro p hp
  rw [if_neg (h p hp)]
  rfl

set_option maxHeartbeats 4000000 in
set_option maxRecDepth 100000 in
theorem made_create {w : World} {q : Nat} {v : Value} {H : Nm} {t : Nat} (h : Rws w q v H t) (hn : (H.map (·.1)).Nodup) (hl : H.length ≤ 1000000) (ht : t ≤ 1000000) (name tn : By) (at_ n : Int) (da : Option Addr) (dn dc : Nat) (po pf pt : Int) (pa : Option Addr) (pn pc : Nat) :
    Calls Try.prog 11 #[.pointer (some ⟨q, 0, none⟩), .agg #[.int .i64 1, encStr name, encStr tn, .int .i64 at_, .int .i64 n, .slice da dn dc, .int .i64 po, .int .i64 pf, .int .i64 pt, .slice pa pn pc]] w fun e w' => e = .returned (.tuple #[]) ∧ ∃ v', Rws w' q v' (H ++ [(name, 0)]) (t + 1) ∧ RwsTo w w' q v v' := by
  obtain ⟨w1, hw1⟩ : ∃ w1, w1 = w.alloc (.cells #[.int .i64 1, encStr name, encStr tn, .int .i64 at_, .int .i64 n, .slice da dn dc, .int .i64 po, .int .i64 pf, .int .i64 pt, .slice pa pn pc] 37) := ⟨_, rfl⟩
  have hk1 : Kept [] w w1 := by rw [hw1]; exact (Kept.refl [] w).alloc _
  have h1 := h.kept hk1
  have hb1 : w1.heap[w.heap.size]? = some (.cells #[.int .i64 1, encStr name, encStr tn, .int .i64 at_, .int .i64 n, .slice da dn dc, .int .i64 po, .int .i64 pf, .int .i64 pt, .slice pa pn pc] 37 (0, 0)) := by rw [hw1]; exact (MapKept.heap_alloc w _).1
  have i0 : w1.cell? ⟨w.heap.size, 0, none⟩ = some (.int .i64 1) := by rw [cell_of_row w1 _ 0 _ _ _ hb1]; rfl
  have i1 : w1.cell? ⟨w.heap.size, 1, none⟩ = some (encStr name) := by rw [cell_of_row w1 _ 1 _ _ _ hb1]; rfl
  have i2 : w1.cell? ⟨w.heap.size, 2, none⟩ = some (encStr tn) := by rw [cell_of_row w1 _ 2 _ _ _ hb1]; rfl
  have i3 : w1.cell? ⟨w.heap.size, 3, none⟩ = some (.int .i64 at_) := by rw [cell_of_row w1 _ 3 _ _ _ hb1]; rfl
  have i4 : w1.cell? ⟨w.heap.size, 4, none⟩ = some (.int .i64 n) := by rw [cell_of_row w1 _ 4 _ _ _ hb1]; rfl
  have i5 : w1.cell? ⟨w.heap.size, 5, none⟩ = some (.slice da dn dc) := by rw [cell_of_row w1 _ 5 _ _ _ hb1]; rfl
  have HK1 := hide hk1
  obtain ⟨bo, bc, hv, _⟩ := h1.row.shape
  have hat := at_any h1 hn hl name
  have k0 : w1.cell? ⟨q, 0, none⟩ = some (.slice bo H.length bc) := by rw [← hv]; exact h1.cell0
  have HP : Hid (∀ v0, Kept [] w1 v0 → ∃ g c w2, (Builtin.append_ #[29, 29] 29 #[.slice bo H.length bc, .slice (some ⟨v0.heap.size, 0, none⟩) 1 1]).run Try.prog (v0.alloc (.cells #[encStr name, .int .i64 0] 45)) = .ok (.slice (some ⟨g, 0, none⟩) (H.length + 1) c) w2 ∧ w2.heap[q]? = some (.cells #[.slice bo H.length bc, .int .i64 t] 31 (0, 0)) ∧ Rws (w2.setCell ⟨q, 0, none⟩ (.slice (some ⟨g, 0, none⟩) (H.length + 1) c)) q (.slice (some ⟨g, 0, none⟩) (H.length + 1) c) (H ++ [(name, 0)]) t ∧ RwsTo w1 (w2.setCell ⟨q, 0, none⟩ (.slice (some ⟨g, 0, none⟩) (H.length + 1) c)) q v (.slice (some ⟨g, 0, none⟩) (H.length + 1) c)) := hide (fun v0 hk => by rw [← hv]; exact h1.push hl (name, 0) hk)
  clear h h1 hb1 hk1 hn hv
  generalize H.length = m at *
  go_enter Try.func11, Try.ntmps11
  go_upto_region 1 with (fail)
  rw [← hw1]
  clear hw1
  go_upto_region 4 with (go_at_call 38; refine hat.mono ?_; rintro e w' ⟨I, rfl, hww⟩; obtain rfl := hww.symm; clear hat)
  refine wp_region_late (fun w' => Kept [] w1 w') (fun i => i == 9 || i == 12) (by kernel_rfl) ?_
  have h0 : Kept [] w1 w1.drew := (Kept.refl [] w1).drew
  generalize World.drew w1 = v0 at h0 ⊢
  refine wpAnyL_free (i := 0) (v := .pointer (some ⟨q, 0, none⟩)) rfl (by kernel_rfl) (by kernel_rfl) (by kernel_rfl) (fun _ _ _ h => h) (Or.inl ⟨by rfl, fun w _ => by go_simp⟩) ?_
  try simp only [List.getElem_toArray, List.getElem_cons_zero, List.getElem_cons_succ, Act.put, List.setIfInBounds_toArray, List.set_cons_zero, List.set_cons_succ]
  refine wpAnyL_free (i := 1) (v := .pointer (some ⟨q, 0, none⟩)) rfl (by kernel_rfl) (by kernel_rfl) (by kernel_rfl) (fun _ _ _ h => h) (Or.inl ⟨by rfl, fun w _ => by go_simp⟩) ?_
  try simp only [List.getElem_toArray, List.getElem_cons_zero, List.getElem_cons_succ, Act.put, List.setIfInBounds_toArray, List.set_cons_zero, List.set_cons_succ]
  refine wpAnyL_free (i := 2) (v := .pointer (some ⟨q, 0, none⟩)) rfl (by kernel_rfl) (by kernel_rfl) (by kernel_rfl) (fun _ _ _ h => h) (Or.inl ⟨by rfl, fun w _ => by go_simp⟩) ?_
  try simp only [List.getElem_toArray, List.getElem_cons_zero, List.getElem_cons_succ, Act.put, List.setIfInBounds_toArray, List.set_cons_zero, List.set_cons_succ]
  refine wpAnyL_free (i := 3) (v := .pointer (some ⟨q, 0, none⟩)) rfl (by kernel_rfl) (by kernel_rfl) (by kernel_rfl) (fun _ _ _ h => h) (Or.inl ⟨by rfl, fun w _ => by go_simp⟩) ?_
  try simp only [List.getElem_toArray, List.getElem_cons_zero, List.getElem_cons_succ, Act.put, List.setIfInBounds_toArray, List.set_cons_zero, List.set_cons_succ]
  refine wpAnyL_take (i := 4) (v := (.slice bo m bc)) rfl (by kernel_rfl) (by kernel_rfl) (by kernel_rfl) (by kernel_rfl) (by kernel_rfl) (fun _ _ _ h => h) (Or.inl ⟨by rfl, fun w hSw => by have c := Kept.cellOf hSw k0 (by simp); go_simp⟩) h0 ?_
  try simp only [List.getElem_toArray, List.getElem_cons_zero, List.getElem_cons_succ, Act.put, List.setIfInBounds_toArray, List.set_cons_zero, List.set_cons_succ]
  refine wpAnyL_free (i := 5) (v := .pointer (some ⟨w.heap.size, 1, none⟩)) rfl (by kernel_rfl) (by kernel_rfl) (by kernel_rfl) (fun _ _ _ h => h) (Or.inl ⟨by rfl, fun w _ => by go_simp⟩) ?_
  try simp only [List.getElem_toArray, List.getElem_cons_zero, List.getElem_cons_succ, Act.put, List.setIfInBounds_toArray, List.set_cons_zero, List.set_cons_succ]
  refine wpAnyL_take (i := 6) (v := encStr name) rfl (by kernel_rfl) (by kernel_rfl) (by kernel_rfl) (by kernel_rfl) (by kernel_rfl) (fun _ _ _ h => h) (Or.inl ⟨by rfl, fun w hSw => by have c := Kept.cellOf hSw i1 (by simp); go_simp⟩) h0 ?_
  try simp only [List.getElem_toArray, List.getElem_cons_zero, List.getElem_cons_succ, Act.put, List.setIfInBounds_toArray, List.set_cons_zero, List.set_cons_succ]
  refine wpAnyL_free (i := 7) (v := .agg #[encStr name, .int .i64 0]) rfl (by kernel_rfl) (by kernel_rfl) (by kernel_rfl) (fun _ _ _ h => h) (Or.inl ⟨by rfl, fun w _ => by go_simp⟩) ?_
  try simp only [List.getElem_toArray, List.getElem_cons_zero, List.getElem_cons_succ, Act.put, List.setIfInBounds_toArray, List.set_cons_zero, List.set_cons_succ]
  obtain ⟨g, c, w2, hrun, hq2, hR, hT⟩ := HP.out v0 h0
  have k2 : w2.cell? ⟨q, 0, none⟩ = some (.slice bo m bc) := by rw [cell_of_row _ _ _ _ _ _ hq2]; rfl
  have f2 : w2.frozen? ⟨q, 0, none⟩ = false := frozen_of_row _ _ _ _ _ hq2
  have HRR := hide hR
  have HTT := hide hT
  clear hR hT hq2 HP
  refine wpAnyL_one (i := 8) (by kernel_rfl) rfl (fun K' hK => ?_)
  rw [if_pos (by rfl)]
  go_simp
  refine hK.out _ _ (fun _ _ => h0.alloc _) ?_
  clear hK K'
  try simp only [List.getElem_toArray, List.getElem_cons_zero, List.getElem_cons_succ, Act.put, List.setIfInBounds_toArray, List.set_cons_zero, List.set_cons_succ]
  refine wpAnyL_one (i := 9) (by kernel_rfl) rfl (fun K' hK => ?_)
  rw [if_pos (by rfl)]
  refine wp_append_run (.tmp 18) (.tmp 22) 29 29 rfl (.slice bo m bc) (.slice (some ⟨v0.heap.size, 0, none⟩) 1 1) rfl rfl (.slice (some ⟨g, 0, none⟩) (m + 1) c) w2 hrun ?_
  refine hK.out _ _ (fun _ h => by cases h) ?_
  clear hK K' hrun
  try simp only [List.getElem_toArray, List.getElem_cons_zero, List.getElem_cons_succ, Act.put, List.setIfInBounds_toArray, List.set_cons_zero, List.set_cons_succ]
  refine wpAnyL_free (i := 10) (v := .pointer (some ⟨q, 0, none⟩)) rfl (by kernel_rfl) (by kernel_rfl) (by kernel_rfl) (fun _ _ _ h => h) (Or.inl ⟨by rfl, fun w _ => by go_simp⟩) ?_
  try simp only [List.getElem_toArray, List.getElem_cons_zero, List.getElem_cons_succ, Act.put, List.setIfInBounds_toArray, List.set_cons_zero, List.set_cons_succ]
  refine wpAnyL_free (i := 11) (v := .pointer (some ⟨q, 0, none⟩)) rfl (by kernel_rfl) (by kernel_rfl) (by kernel_rfl) (fun _ _ _ h => h) (Or.inl ⟨by rfl, fun w _ => by go_simp⟩) ?_
  try simp only [List.getElem_toArray, List.getElem_cons_zero, List.getElem_cons_succ, Act.put, List.setIfInBounds_toArray, List.set_cons_zero, List.set_cons_succ]
  refine wpAnyL_one (i := 12) (by kernel_rfl) rfl (fun K' hK => ?_)
  rw [if_pos (by rfl)]
  go_simp
  refine hK.out _ _ (fun _ h => by cases h) ?_
  clear hK K'
  try simp only [List.getElem_toArray, List.getElem_cons_zero, List.getElem_cons_succ, Act.put, List.setIfInBounds_toArray, List.set_cons_zero, List.set_cons_succ]
  refine wpAnyL_done (by kernel_rfl) ?_ _
  clear k0 i0 i1 i2 i3 i4 i5 k2 f2 h0
  generalize w2.setCell ⟨q, 0, none⟩ (.slice (some ⟨g, 0, none⟩) (m + 1) c) = w3 at HRR HTT ⊢
  have d1 := HRR.out.cell1
  have f1 := HRR.out.fro 1
  have d2 := HRR.out.setT (t + 1)
  have HD := hide d2
  clear d2
  go_wp2
  go_end0
  exact ⟨rfl, _, HD.out.1, RwsTo.first HK1.out (HTT.out.trans HD.out.2)⟩

set_option maxHeartbeats 4000000 in
set_option maxRecDepth 100000 in
theorem made_writeY {w : World} {q : Nat} {v : Value} {H : Nm} {t : Nat} (h : Rws w q v H t) (hn : (H.map (·.1)).Nodup) (hl : H.length ≤ 1000000) (ht : t ≤ 1000000) (name tn : By) (at_ n : Int) (da : Option Addr) (dn dc : Nat) (po pf pt : Int) (pa : Option Addr) (pn pc : Nat) {i : Nat} {x : By × Nat} (hi : H[i]? = some x) (hx : x.1 = name) (hu : x.2 + dn ≤ 1000000000) :
    Calls Try.prog 11 #[.pointer (some ⟨q, 0, none⟩), .agg #[.int .i64 2, encStr name, encStr tn, .int .i64 at_, .int .i64 n, .slice da dn dc, .int .i64 po, .int .i64 pf, .int .i64 pt, .slice pa pn pc]] w fun e w' => e = .returned (.tuple #[]) ∧ ∃ v', Rws w' q v' (H.bump name (· + dn)) (t) ∧ RwsTo w w' q v v' := by
  obtain ⟨w1, hw1⟩ : ∃ w1, w1 = w.alloc (.cells #[.int .i64 2, encStr name, encStr tn, .int .i64 at_, .int .i64 n, .slice da dn dc, .int .i64 po, .int .i64 pf, .int .i64 pt, .slice pa pn pc] 37) := ⟨_, rfl⟩
  have hk1 : Kept [] w w1 := by rw [hw1]; exact (Kept.refl [] w).alloc _
  have h1 := h.kept hk1
  have hb1 : w1.heap[w.heap.size]? = some (.cells #[.int .i64 2, encStr name, encStr tn, .int .i64 at_, .int .i64 n, .slice da dn dc, .int .i64 po, .int .i64 pf, .int .i64 pt, .slice pa pn pc] 37 (0, 0)) := by rw [hw1]; exact (MapKept.heap_alloc w _).1
  have i0 : w1.cell? ⟨w.heap.size, 0, none⟩ = some (.int .i64 2) := by rw [cell_of_row w1 _ 0 _ _ _ hb1]; rfl
  have i1 : w1.cell? ⟨w.heap.size, 1, none⟩ = some (encStr name) := by rw [cell_of_row w1 _ 1 _ _ _ hb1]; rfl
  have i2 : w1.cell? ⟨w.heap.size, 2, none⟩ = some (encStr tn) := by rw [cell_of_row w1 _ 2 _ _ _ hb1]; rfl
  have i3 : w1.cell? ⟨w.heap.size, 3, none⟩ = some (.int .i64 at_) := by rw [cell_of_row w1 _ 3 _ _ _ hb1]; rfl
  have i4 : w1.cell? ⟨w.heap.size, 4, none⟩ = some (.int .i64 n) := by rw [cell_of_row w1 _ 4 _ _ _ hb1]; rfl
  have i5 : w1.cell? ⟨w.heap.size, 5, none⟩ = some (.slice da dn dc) := by rw [cell_of_row w1 _ 5 _ _ _ hb1]; rfl
  have HK1 := hide hk1
  subst hx
  have hlt := (List.getElem?_eq_some_iff.1 hi).1
  obtain ⟨g, cap, hv, hnc, _⟩ := h1.row.open (by omega)
  subst hv
  have hat := at_yes h1 hn hl hi
  obtain ⟨_, u0, hf⟩ := h1.at hi
  have f0 := hf (i * 2 + 1)
  have k0 := h1.cell0
  have d2 := h1.setU hi (x.2 + dn)
  rw [bump_at hn hi (· + dn)] at d2
  have HD := hide d2
  clear h h1 hb1 hk1 hn d2 hi hf
  generalize H.length = m at *
  go_enter Try.func11, Try.ntmps11
  go_upto_region 1 with (fail)
  rw [← hw1]
  clear hw1
  go_upto_region 9 with (go_at_call 38; refine hat.mono ?_; rintro e w' ⟨rfl, hww⟩; obtain rfl := hww.symm; clear hat)
  have HW : Hid (IntKind.i64.wrap ((x.2 : Int) + (dn : Int)) = ((x.2 + dn : Nat) : Int)) := hide (by rw [IntKind.wrap_i64]; omega)
  have HD2 : Hid (∀ v0, v0 = w1.drew → Rws (v0.setCell ⟨g, i * 2 + 1, none⟩ (.int .i64 ((x.2 + dn : Nat) : Int))) q (.slice (some ⟨g, 0, none⟩) m cap) (H.bump x.1 (· + dn)) t ∧ RwsTo w (v0.setCell ⟨g, i * 2 + 1, none⟩ (.int .i64 ((x.2 + dn : Nat) : Int))) q (.slice (some ⟨g, 0, none⟩) m cap) (.slice (some ⟨g, 0, none⟩) m cap)) := hide (fun v0 e => by
    subst e
    exact ⟨HD.out.1.kept ((Kept.refl [] _).drew), (RwsTo.first HK1.out HD.out.2).kept ((Kept.refl [] _).drew)⟩)
  refine wp_region_late (fun w' => Kept [] w1 w') (fun i => i == 19) (by kernel_rfl) ?_
  have h0 : Kept [] w1 w1.drew := (Kept.refl [] w1).drew
  have HQ := hide (HD2.out _ rfl)
  have z1 : w1.drew.cell? ⟨g, i * 2 + 1, none⟩ = some (.int .i64 (x.2 : Nat)) := u0
  have z2 : w1.drew.frozen? ⟨g, i * 2 + 1, none⟩ = false := f0
  generalize World.drew w1 = v0 at h0 HQ z1 z2 ⊢
  refine wpAnyL_free (i := 0) (v := .pointer (some ⟨q, 0, none⟩)) rfl (by kernel_rfl) (by kernel_rfl) (by kernel_rfl) (fun _ _ _ h => h) (Or.inl ⟨by rfl, fun w _ => by go_simp⟩) ?_
  try simp only [List.getElem_toArray, List.getElem_cons_zero, List.getElem_cons_succ, Act.put, List.setIfInBounds_toArray, List.set_cons_zero, List.set_cons_succ]
  refine wpAnyL_free (i := 1) (v := .pointer (some ⟨q, 0, none⟩)) rfl (by kernel_rfl) (by kernel_rfl) (by kernel_rfl) (fun _ _ _ h => h) (Or.inl ⟨by rfl, fun w _ => by go_simp⟩) ?_
  try simp only [List.getElem_toArray, List.getElem_cons_zero, List.getElem_cons_succ, Act.put, List.setIfInBounds_toArray, List.set_cons_zero, List.set_cons_succ]
  refine wpAnyL_free (i := 2) (v := .pointer (some ⟨q, 0, none⟩)) rfl (by kernel_rfl) (by kernel_rfl) (by kernel_rfl) (fun _ _ _ h => h) (Or.inl ⟨by rfl, fun w _ => by go_simp⟩) ?_
  try simp only [List.getElem_toArray, List.getElem_cons_zero, List.getElem_cons_succ, Act.put, List.setIfInBounds_toArray, List.set_cons_zero, List.set_cons_succ]
  refine wpAnyL_take (i := 3) (v := (.slice (some ⟨g, 0, none⟩) m cap)) rfl (by kernel_rfl) (by kernel_rfl) (by kernel_rfl) (by kernel_rfl) (by kernel_rfl) (fun _ _ _ h => h) (Or.inl ⟨by rfl, fun w hSw => by have c := Kept.cellOf hSw k0 (by simp); go_simp⟩) h0 ?_
  try simp only [List.getElem_toArray, List.getElem_cons_zero, List.getElem_cons_succ, Act.put, List.setIfInBounds_toArray, List.set_cons_zero, List.set_cons_succ]
  refine wpAnyL_free (i := 4) (v := .int .i64 i) rfl (by kernel_rfl) (by kernel_rfl) (by kernel_rfl) (fun _ _ _ h => h) (Or.inl ⟨by rfl, fun w _ => by go_simp⟩) ?_
  try simp only [List.getElem_toArray, List.getElem_cons_zero, List.getElem_cons_succ, Act.put, List.setIfInBounds_toArray, List.set_cons_zero, List.set_cons_succ]
  refine wpAnyL_free (i := 5) (v := .pointer (some ⟨q, 0, none⟩)) rfl (by kernel_rfl) (by kernel_rfl) (by kernel_rfl) (fun _ _ _ h => h) (Or.inl ⟨by rfl, fun w _ => by go_simp⟩) ?_
  try simp only [List.getElem_toArray, List.getElem_cons_zero, List.getElem_cons_succ, Act.put, List.setIfInBounds_toArray, List.set_cons_zero, List.set_cons_succ]
  refine wpAnyL_free (i := 6) (v := .pointer (some ⟨q, 0, none⟩)) rfl (by kernel_rfl) (by kernel_rfl) (by kernel_rfl) (fun _ _ _ h => h) (Or.inl ⟨by rfl, fun w _ => by go_simp⟩) ?_
  try simp only [List.getElem_toArray, List.getElem_cons_zero, List.getElem_cons_succ, Act.put, List.setIfInBounds_toArray, List.set_cons_zero, List.set_cons_succ]
  refine wpAnyL_free (i := 7) (v := .pointer (some ⟨q, 0, none⟩)) rfl (by kernel_rfl) (by kernel_rfl) (by kernel_rfl) (fun _ _ _ h => h) (Or.inl ⟨by rfl, fun w _ => by go_simp⟩) ?_
  try simp only [List.getElem_toArray, List.getElem_cons_zero, List.getElem_cons_succ, Act.put, List.setIfInBounds_toArray, List.set_cons_zero, List.set_cons_succ]
  refine wpAnyL_take (i := 8) (v := (.slice (some ⟨g, 0, none⟩) m cap)) rfl (by kernel_rfl) (by kernel_rfl) (by kernel_rfl) (by kernel_rfl) (by kernel_rfl) (fun _ _ _ h => h) (Or.inl ⟨by rfl, fun w hSw => by have c := Kept.cellOf hSw k0 (by simp); go_simp⟩) h0 ?_
  try simp only [List.getElem_toArray, List.getElem_cons_zero, List.getElem_cons_succ, Act.put, List.setIfInBounds_toArray, List.set_cons_zero, List.set_cons_succ]
  refine wpAnyL_free (i := 9) (v := .int .i64 i) rfl (by kernel_rfl) (by kernel_rfl) (by kernel_rfl) (fun _ _ _ h => h) (Or.inl ⟨by rfl, fun w _ => by go_simp⟩) ?_
  try simp only [List.getElem_toArray, List.getElem_cons_zero, List.getElem_cons_succ, Act.put, List.setIfInBounds_toArray, List.set_cons_zero, List.set_cons_succ]
  refine wpAnyL_free (i := 10) (v := .pointer (some ⟨g, i * 2, none⟩)) rfl (by kernel_rfl) (by kernel_rfl) (by kernel_rfl) (fun _ _ _ h => h) (Or.inl ⟨by rfl, fun w _ => by go_simp⟩) ?_
  try simp only [List.getElem_toArray, List.getElem_cons_zero, List.getElem_cons_succ, Act.put, List.setIfInBounds_toArray, List.set_cons_zero, List.set_cons_succ]
  refine wpAnyL_free (i := 11) (v := .pointer (some ⟨g, i * 2 + 1, none⟩)) rfl (by kernel_rfl) (by kernel_rfl) (by kernel_rfl) (fun _ _ _ h => h) (Or.inl ⟨by rfl, fun w _ => by go_simp⟩) ?_
  try simp only [List.getElem_toArray, List.getElem_cons_zero, List.getElem_cons_succ, Act.put, List.setIfInBounds_toArray, List.set_cons_zero, List.set_cons_succ]
  refine wpAnyL_take (i := 12) (v := .int .i64 (x.2 : Nat)) rfl (by kernel_rfl) (by kernel_rfl) (by kernel_rfl) (by kernel_rfl) (by kernel_rfl) (fun _ _ _ h => h) (Or.inl ⟨by rfl, fun w hSw => by have c := Kept.cellOf hSw u0 (by simp); go_simp⟩) h0 ?_
  try simp only [List.getElem_toArray, List.getElem_cons_zero, List.getElem_cons_succ, Act.put, List.setIfInBounds_toArray, List.set_cons_zero, List.set_cons_succ]
  refine wpAnyL_free (i := 13) (v := .pointer (some ⟨w.heap.size, 5, none⟩)) rfl (by kernel_rfl) (by kernel_rfl) (by kernel_rfl) (fun _ _ _ h => h) (Or.inl ⟨by rfl, fun w _ => by go_simp⟩) ?_
  try simp only [List.getElem_toArray, List.getElem_cons_zero, List.getElem_cons_succ, Act.put, List.setIfInBounds_toArray, List.set_cons_zero, List.set_cons_succ]
  refine wpAnyL_take (i := 14) (v := .slice da dn dc) rfl (by kernel_rfl) (by kernel_rfl) (by kernel_rfl) (by kernel_rfl) (by kernel_rfl) (fun _ _ _ h => h) (Or.inl ⟨by rfl, fun w hSw => by have c := Kept.cellOf hSw i5 (by simp); go_simp⟩) h0 ?_
  try simp only [List.getElem_toArray, List.getElem_cons_zero, List.getElem_cons_succ, Act.put, List.setIfInBounds_toArray, List.set_cons_zero, List.set_cons_succ]
  refine wpAnyL_free (i := 15) (v := .int .i64 (dn : Nat)) rfl (by kernel_rfl) (by kernel_rfl) (by kernel_rfl) (fun _ _ _ h => h) (Or.inl ⟨by rfl, fun w _ => by go_simp⟩) ?_
  try simp only [List.getElem_toArray, List.getElem_cons_zero, List.getElem_cons_succ, Act.put, List.setIfInBounds_toArray, List.set_cons_zero, List.set_cons_succ]
  refine wpAnyL_free (i := 16) (v := .int .i64 ((x.2 + dn : Nat) : Int)) rfl (by kernel_rfl) (by kernel_rfl) (by kernel_rfl) (fun _ _ _ h => h) (Or.inl ⟨by rfl, fun w _ => by have c0 := HW.out; go_simp⟩) ?_
  try simp only [List.getElem_toArray, List.getElem_cons_zero, List.getElem_cons_succ, Act.put, List.setIfInBounds_toArray, List.set_cons_zero, List.set_cons_succ]
  refine wpAnyL_free (i := 17) (v := .pointer (some ⟨g, i * 2, none⟩)) rfl (by kernel_rfl) (by kernel_rfl) (by kernel_rfl) (fun _ _ _ h => h) (Or.inl ⟨by rfl, fun w _ => by go_simp⟩) ?_
  try simp only [List.getElem_toArray, List.getElem_cons_zero, List.getElem_cons_succ, Act.put, List.setIfInBounds_toArray, List.set_cons_zero, List.set_cons_succ]
  refine wpAnyL_free (i := 18) (v := .pointer (some ⟨g, i * 2 + 1, none⟩)) rfl (by kernel_rfl) (by kernel_rfl) (by kernel_rfl) (fun _ _ _ h => h) (Or.inl ⟨by rfl, fun w _ => by go_simp⟩) ?_
  try simp only [List.getElem_toArray, List.getElem_cons_zero, List.getElem_cons_succ, Act.put, List.setIfInBounds_toArray, List.set_cons_zero, List.set_cons_succ]
  refine wpAnyL_one (i := 19) (by kernel_rfl) rfl (fun K' hK => ?_)
  rw [if_pos (by rfl)]
  go_simp
  refine hK.out _ _ (fun _ h => by cases h) ?_
  clear hK K'
  try simp only [List.getElem_toArray, List.getElem_cons_zero, List.getElem_cons_succ, Act.put, List.setIfInBounds_toArray, List.set_cons_zero, List.set_cons_succ]
  refine wpAnyL_done (by kernel_rfl) ?_ _
  go_end0
  exact ⟨rfl, _, HQ.out.1, HQ.out.2⟩

set_option maxHeartbeats 4000000 in
set_option maxRecDepth 100000 in
theorem made_writeN {w : World} {q : Nat} {v : Value} {H : Nm} {t : Nat} (h : Rws w q v H t) (hn : (H.map (·.1)).Nodup) (hl : H.length ≤ 1000000) (ht : t ≤ 1000000) (name tn : By) (at_ n : Int) (da : Option Addr) (dn dc : Nat) (po pf pt : Int) (pa : Option Addr) (pn pc : Nat) (hi : ∀ x ∈ H, x.1 ≠ name) :
    Calls Try.prog 11 #[.pointer (some ⟨q, 0, none⟩), .agg #[.int .i64 2, encStr name, encStr tn, .int .i64 at_, .int .i64 n, .slice da dn dc, .int .i64 po, .int .i64 pf, .int .i64 pt, .slice pa pn pc]] w fun e w' => e = .returned (.tuple #[]) ∧ ∃ v', Rws w' q v' (H.bump name (· + dn)) (t) ∧ RwsTo w w' q v v' := by
  obtain ⟨w1, hw1⟩ : ∃ w1, w1 = w.alloc (.cells #[.int .i64 2, encStr name, encStr tn, .int .i64 at_, .int .i64 n, .slice da dn dc, .int .i64 po, .int .i64 pf, .int .i64 pt, .slice pa pn pc] 37) := ⟨_, rfl⟩
  have hk1 : Kept [] w w1 := by rw [hw1]; exact (Kept.refl [] w).alloc _
  have h1 := h.kept hk1
  have hb1 : w1.heap[w.heap.size]? = some (.cells #[.int .i64 2, encStr name, encStr tn, .int .i64 at_, .int .i64 n, .slice da dn dc, .int .i64 po, .int .i64 pf, .int .i64 pt, .slice pa pn pc] 37 (0, 0)) := by rw [hw1]; exact (MapKept.heap_alloc w _).1
  have i0 : w1.cell? ⟨w.heap.size, 0, none⟩ = some (.int .i64 2) := by rw [cell_of_row w1 _ 0 _ _ _ hb1]; rfl
  have i1 : w1.cell? ⟨w.heap.size, 1, none⟩ = some (encStr name) := by rw [cell_of_row w1 _ 1 _ _ _ hb1]; rfl
  have i2 : w1.cell? ⟨w.heap.size, 2, none⟩ = some (encStr tn) := by rw [cell_of_row w1 _ 2 _ _ _ hb1]; rfl
  have i3 : w1.cell? ⟨w.heap.size, 3, none⟩ = some (.int .i64 at_) := by rw [cell_of_row w1 _ 3 _ _ _ hb1]; rfl
  have i4 : w1.cell? ⟨w.heap.size, 4, none⟩ = some (.int .i64 n) := by rw [cell_of_row w1 _ 4 _ _ _ hb1]; rfl
  have i5 : w1.cell? ⟨w.heap.size, 5, none⟩ = some (.slice da dn dc) := by rw [cell_of_row w1 _ 5 _ _ _ hb1]; rfl
  have HK1 := hide hk1
  have hat := at_no h1 hl hi
  have HE : Hid (H.bump name (· + dn) = H) := hide (bump_none hi _)
  have HR := hide h1
  clear h h1 hb1 hk1 hn hi
  go_enter Try.func11, Try.ntmps11
  go_upto_region 1 with (fail)
  rw [← hw1]
  clear hw1
  go_wp2_with (go_at_call 38; refine hat.mono ?_; rintro e w' ⟨rfl, hww⟩; obtain rfl := hww.symm; clear hat)
  go_end0
  exact ⟨rfl, v, by rw [HE.out]; exact HR.out, RwsTo.first HK1.out (RwsTo.refl _ _ _)⟩

set_option maxHeartbeats 4000000 in
set_option maxRecDepth 100000 in
theorem made_appendY {w : World} {q : Nat} {v : Value} {H : Nm} {t : Nat} (h : Rws w q v H t) (hn : (H.map (·.1)).Nodup) (hl : H.length ≤ 1000000) (ht : t ≤ 1000000) (name tn : By) (at_ n : Int) (da : Option Addr) (dn dc : Nat) (po pf pt : Int) (pa : Option Addr) (pn pc : Nat) {i : Nat} {x : By × Nat} (hi : H[i]? = some x) (hx : x.1 = name) (hu : x.2 + dn ≤ 1000000000) :
    Calls Try.prog 11 #[.pointer (some ⟨q, 0, none⟩), .agg #[.int .i64 3, encStr name, encStr tn, .int .i64 at_, .int .i64 n, .slice da dn dc, .int .i64 po, .int .i64 pf, .int .i64 pt, .slice pa pn pc]] w fun e w' => e = .returned (.tuple #[]) ∧ ∃ v', Rws w' q v' (H.bump name (· + dn)) (t) ∧ RwsTo w w' q v v' := by
  obtain ⟨w1, hw1⟩ : ∃ w1, w1 = w.alloc (.cells #[.int .i64 3, encStr name, encStr tn, .int .i64 at_, .int .i64 n, .slice da dn dc, .int .i64 po, .int .i64 pf, .int .i64 pt, .slice pa pn pc] 37) := ⟨_, rfl⟩
  have hk1 : Kept [] w w1 := by rw [hw1]; exact (Kept.refl [] w).alloc _
  have h1 := h.kept hk1
  have hb1 : w1.heap[w.heap.size]? = some (.cells #[.int .i64 3, encStr name, encStr tn, .int .i64 at_, .int .i64 n, .slice da dn dc, .int .i64 po, .int .i64 pf, .int .i64 pt, .slice pa pn pc] 37 (0, 0)) := by rw [hw1]; exact (MapKept.heap_alloc w _).1
  have i0 : w1.cell? ⟨w.heap.size, 0, none⟩ = some (.int .i64 3) := by rw [cell_of_row w1 _ 0 _ _ _ hb1]; rfl
  have i1 : w1.cell? ⟨w.heap.size, 1, none⟩ = some (encStr name) := by rw [cell_of_row w1 _ 1 _ _ _ hb1]; rfl
  have i2 : w1.cell? ⟨w.heap.size, 2, none⟩ = some (encStr tn) := by rw [cell_of_row w1 _ 2 _ _ _ hb1]; rfl
  have i3 : w1.cell? ⟨w.heap.size, 3, none⟩ = some (.int .i64 at_) := by rw [cell_of_row w1 _ 3 _ _ _ hb1]; rfl
  have i4 : w1.cell? ⟨w.heap.size, 4, none⟩ = some (.int .i64 n) := by rw [cell_of_row w1 _ 4 _ _ _ hb1]; rfl
  have i5 : w1.cell? ⟨w.heap.size, 5, none⟩ = some (.slice da dn dc) := by rw [cell_of_row w1 _ 5 _ _ _ hb1]; rfl
  have HK1 := hide hk1
  subst hx
  have hlt := (List.getElem?_eq_some_iff.1 hi).1
  obtain ⟨g, cap, hv, hnc, _⟩ := h1.row.open (by omega)
  subst hv
  have hat := at_yes h1 hn hl hi
  obtain ⟨_, u0, hf⟩ := h1.at hi
  have f0 := hf (i * 2 + 1)
  have k0 := h1.cell0
  have d2 := h1.setU hi (x.2 + dn)
  rw [bump_at hn hi (· + dn)] at d2
  have HD := hide d2
  clear h h1 hb1 hk1 hn d2 hi hf
  generalize H.length = m at *
  go_enter Try.func11, Try.ntmps11
  go_upto_region 1 with (fail)
  rw [← hw1]
  clear hw1
  go_upto_region 9 with (go_at_call 38; refine hat.mono ?_; rintro e w' ⟨rfl, hww⟩; obtain rfl := hww.symm; clear hat)
  have HW : Hid (IntKind.i64.wrap ((x.2 : Int) + (dn : Int)) = ((x.2 + dn : Nat) : Int)) := hide (by rw [IntKind.wrap_i64]; omega)
  have HD2 : Hid (∀ v0, v0 = w1.drew → Rws (v0.setCell ⟨g, i * 2 + 1, none⟩ (.int .i64 ((x.2 + dn : Nat) : Int))) q (.slice (some ⟨g, 0, none⟩) m cap) (H.bump x.1 (· + dn)) t ∧ RwsTo w (v0.setCell ⟨g, i * 2 + 1, none⟩ (.int .i64 ((x.2 + dn : Nat) : Int))) q (.slice (some ⟨g, 0, none⟩) m cap) (.slice (some ⟨g, 0, none⟩) m cap)) := hide (fun v0 e => by
    subst e
    exact ⟨HD.out.1.kept ((Kept.refl [] _).drew), (RwsTo.first HK1.out HD.out.2).kept ((Kept.refl [] _).drew)⟩)
  refine wp_region_late (fun w' => Kept [] w1 w') (fun i => i == 19) (by kernel_rfl) ?_
  have h0 : Kept [] w1 w1.drew := (Kept.refl [] w1).drew
  have HQ := hide (HD2.out _ rfl)
  have z1 : w1.drew.cell? ⟨g, i * 2 + 1, none⟩ = some (.int .i64 (x.2 : Nat)) := u0
  have z2 : w1.drew.frozen? ⟨g, i * 2 + 1, none⟩ = false := f0
  generalize World.drew w1 = v0 at h0 HQ z1 z2 ⊢
  refine wpAnyL_free (i := 0) (v := .pointer (some ⟨q, 0, none⟩)) rfl (by kernel_rfl) (by kernel_rfl) (by kernel_rfl) (fun _ _ _ h => h) (Or.inl ⟨by rfl, fun w _ => by go_simp⟩) ?_
  try simp only [List.getElem_toArray, List.getElem_cons_zero, List.getElem_cons_succ, Act.put, List.setIfInBounds_toArray, List.set_cons_zero, List.set_cons_succ]
  refine wpAnyL_free (i := 1) (v := .pointer (some ⟨q, 0, none⟩)) rfl (by kernel_rfl) (by kernel_rfl) (by kernel_rfl) (fun _ _ _ h => h) (Or.inl ⟨by rfl, fun w _ => by go_simp⟩) ?_
  try simp only [List.getElem_toArray, List.getElem_cons_zero, List.getElem_cons_succ, Act.put, List.setIfInBounds_toArray, List.set_cons_zero, List.set_cons_succ]
  refine wpAnyL_free (i := 2) (v := .pointer (some ⟨q, 0, none⟩)) rfl (by kernel_rfl) (by kernel_rfl) (by kernel_rfl) (fun _ _ _ h => h) (Or.inl ⟨by rfl, fun w _ => by go_simp⟩) ?_
  try simp only [List.getElem_toArray, List.getElem_cons_zero, List.getElem_cons_succ, Act.put, List.setIfInBounds_toArray, List.set_cons_zero, List.set_cons_succ]
  refine wpAnyL_take (i := 3) (v := (.slice (some ⟨g, 0, none⟩) m cap)) rfl (by kernel_rfl) (by kernel_rfl) (by kernel_rfl) (by kernel_rfl) (by kernel_rfl) (fun _ _ _ h => h) (Or.inl ⟨by rfl, fun w hSw => by have c := Kept.cellOf hSw k0 (by simp); go_simp⟩) h0 ?_
  try simp only [List.getElem_toArray, List.getElem_cons_zero, List.getElem_cons_succ, Act.put, List.setIfInBounds_toArray, List.set_cons_zero, List.set_cons_succ]
  refine wpAnyL_free (i := 4) (v := .int .i64 i) rfl (by kernel_rfl) (by kernel_rfl) (by kernel_rfl) (fun _ _ _ h => h) (Or.inl ⟨by rfl, fun w _ => by go_simp⟩) ?_
  try simp only [List.getElem_toArray, List.getElem_cons_zero, List.getElem_cons_succ, Act.put, List.setIfInBounds_toArray, List.set_cons_zero, List.set_cons_succ]
  refine wpAnyL_free (i := 5) (v := .pointer (some ⟨q, 0, none⟩)) rfl (by kernel_rfl) (by kernel_rfl) (by kernel_rfl) (fun _ _ _ h => h) (Or.inl ⟨by rfl, fun w _ => by go_simp⟩) ?_
  try simp only [List.getElem_toArray, List.getElem_cons_zero, List.getElem_cons_succ, Act.put, List.setIfInBounds_toArray, List.set_cons_zero, List.set_cons_succ]
  refine wpAnyL_free (i := 6) (v := .pointer (some ⟨q, 0, none⟩)) rfl (by kernel_rfl) (by kernel_rfl) (by kernel_rfl) (fun _ _ _ h => h) (Or.inl ⟨by rfl, fun w _ => by go_simp⟩) ?_
  try simp only [List.getElem_toArray, List.getElem_cons_zero, List.getElem_cons_succ, Act.put, List.setIfInBounds_toArray, List.set_cons_zero, List.set_cons_succ]
  refine wpAnyL_free (i := 7) (v := .pointer (some ⟨q, 0, none⟩)) rfl (by kernel_rfl) (by kernel_rfl) (by kernel_rfl) (fun _ _ _ h => h) (Or.inl ⟨by rfl, fun w _ => by go_simp⟩) ?_
  try simp only [List.getElem_toArray, List.getElem_cons_zero, List.getElem_cons_succ, Act.put, List.setIfInBounds_toArray, List.set_cons_zero, List.set_cons_succ]
  refine wpAnyL_take (i := 8) (v := (.slice (some ⟨g, 0, none⟩) m cap)) rfl (by kernel_rfl) (by kernel_rfl) (by kernel_rfl) (by kernel_rfl) (by kernel_rfl) (fun _ _ _ h => h) (Or.inl ⟨by rfl, fun w hSw => by have c := Kept.cellOf hSw k0 (by simp); go_simp⟩) h0 ?_
  try simp only [List.getElem_toArray, List.getElem_cons_zero, List.getElem_cons_succ, Act.put, List.setIfInBounds_toArray, List.set_cons_zero, List.set_cons_succ]
  refine wpAnyL_free (i := 9) (v := .int .i64 i) rfl (by kernel_rfl) (by kernel_rfl) (by kernel_rfl) (fun _ _ _ h => h) (Or.inl ⟨by rfl, fun w _ => by go_simp⟩) ?_
  try simp only [List.getElem_toArray, List.getElem_cons_zero, List.getElem_cons_succ, Act.put, List.setIfInBounds_toArray, List.set_cons_zero, List.set_cons_succ]
  refine wpAnyL_free (i := 10) (v := .pointer (some ⟨g, i * 2, none⟩)) rfl (by kernel_rfl) (by kernel_rfl) (by kernel_rfl) (fun _ _ _ h => h) (Or.inl ⟨by rfl, fun w _ => by go_simp⟩) ?_
  try simp only [List.getElem_toArray, List.getElem_cons_zero, List.getElem_cons_succ, Act.put, List.setIfInBounds_toArray, List.set_cons_zero, List.set_cons_succ]
  refine wpAnyL_free (i := 11) (v := .pointer (some ⟨g, i * 2 + 1, none⟩)) rfl (by kernel_rfl) (by kernel_rfl) (by kernel_rfl) (fun _ _ _ h => h) (Or.inl ⟨by rfl, fun w _ => by go_simp⟩) ?_
  try simp only [List.getElem_toArray, List.getElem_cons_zero, List.getElem_cons_succ, Act.put, List.setIfInBounds_toArray, List.set_cons_zero, List.set_cons_succ]
  refine wpAnyL_take (i := 12) (v := .int .i64 (x.2 : Nat)) rfl (by kernel_rfl) (by kernel_rfl) (by kernel_rfl) (by kernel_rfl) (by kernel_rfl) (fun _ _ _ h => h) (Or.inl ⟨by rfl, fun w hSw => by have c := Kept.cellOf hSw u0 (by simp); go_simp⟩) h0 ?_
  try simp only [List.getElem_toArray, List.getElem_cons_zero, List.getElem_cons_succ, Act.put, List.setIfInBounds_toArray, List.set_cons_zero, List.set_cons_succ]
  refine wpAnyL_free (i := 13) (v := .pointer (some ⟨w.heap.size, 5, none⟩)) rfl (by kernel_rfl) (by kernel_rfl) (by kernel_rfl) (fun _ _ _ h => h) (Or.inl ⟨by rfl, fun w _ => by go_simp⟩) ?_
  try simp only [List.getElem_toArray, List.getElem_cons_zero, List.getElem_cons_succ, Act.put, List.setIfInBounds_toArray, List.set_cons_zero, List.set_cons_succ]
  refine wpAnyL_take (i := 14) (v := .slice da dn dc) rfl (by kernel_rfl) (by kernel_rfl) (by kernel_rfl) (by kernel_rfl) (by kernel_rfl) (fun _ _ _ h => h) (Or.inl ⟨by rfl, fun w hSw => by have c := Kept.cellOf hSw i5 (by simp); go_simp⟩) h0 ?_
  try simp only [List.getElem_toArray, List.getElem_cons_zero, List.getElem_cons_succ, Act.put, List.setIfInBounds_toArray, List.set_cons_zero, List.set_cons_succ]
  refine wpAnyL_free (i := 15) (v := .int .i64 (dn : Nat)) rfl (by kernel_rfl) (by kernel_rfl) (by kernel_rfl) (fun _ _ _ h => h) (Or.inl ⟨by rfl, fun w _ => by go_simp⟩) ?_
  try simp only [List.getElem_toArray, List.getElem_cons_zero, List.getElem_cons_succ, Act.put, List.setIfInBounds_toArray, List.set_cons_zero, List.set_cons_succ]
  refine wpAnyL_free (i := 16) (v := .int .i64 ((x.2 + dn : Nat) : Int)) rfl (by kernel_rfl) (by kernel_rfl) (by kernel_rfl) (fun _ _ _ h => h) (Or.inl ⟨by rfl, fun w _ => by have c0 := HW.out; go_simp⟩) ?_
  try simp only [List.getElem_toArray, List.getElem_cons_zero, List.getElem_cons_succ, Act.put, List.setIfInBounds_toArray, List.set_cons_zero, List.set_cons_succ]
  refine wpAnyL_free (i := 17) (v := .pointer (some ⟨g, i * 2, none⟩)) rfl (by kernel_rfl) (by kernel_rfl) (by kernel_rfl) (fun _ _ _ h => h) (Or.inl ⟨by rfl, fun w _ => by go_simp⟩) ?_
  try simp only [List.getElem_toArray, List.getElem_cons_zero, List.getElem_cons_succ, Act.put, List.setIfInBounds_toArray, List.set_cons_zero, List.set_cons_succ]
  refine wpAnyL_free (i := 18) (v := .pointer (some ⟨g, i * 2 + 1, none⟩)) rfl (by kernel_rfl) (by kernel_rfl) (by kernel_rfl) (fun _ _ _ h => h) (Or.inl ⟨by rfl, fun w _ => by go_simp⟩) ?_
  try simp only [List.getElem_toArray, List.getElem_cons_zero, List.getElem_cons_succ, Act.put, List.setIfInBounds_toArray, List.set_cons_zero, List.set_cons_succ]
  refine wpAnyL_one (i := 19) (by kernel_rfl) rfl (fun K' hK => ?_)
  rw [if_pos (by rfl)]
  go_simp
  refine hK.out _ _ (fun _ h => by cases h) ?_
  clear hK K'
  try simp only [List.getElem_toArray, List.getElem_cons_zero, List.getElem_cons_succ, Act.put, List.setIfInBounds_toArray, List.set_cons_zero, List.set_cons_succ]
  refine wpAnyL_done (by kernel_rfl) ?_ _
  go_end0
  exact ⟨rfl, _, HQ.out.1, HQ.out.2⟩

set_option maxHeartbeats 4000000 in
set_option maxRecDepth 100000 in
theorem made_appendN {w : World} {q : Nat} {v : Value} {H : Nm} {t : Nat} (h : Rws w q v H t) (hn : (H.map (·.1)).Nodup) (hl : H.length ≤ 1000000) (ht : t ≤ 1000000) (name tn : By) (at_ n : Int) (da : Option Addr) (dn dc : Nat) (po pf pt : Int) (pa : Option Addr) (pn pc : Nat) (hi : ∀ x ∈ H, x.1 ≠ name) :
    Calls Try.prog 11 #[.pointer (some ⟨q, 0, none⟩), .agg #[.int .i64 3, encStr name, encStr tn, .int .i64 at_, .int .i64 n, .slice da dn dc, .int .i64 po, .int .i64 pf, .int .i64 pt, .slice pa pn pc]] w fun e w' => e = .returned (.tuple #[]) ∧ ∃ v', Rws w' q v' (H.bump name (· + dn)) (t) ∧ RwsTo w w' q v v' := by
  obtain ⟨w1, hw1⟩ : ∃ w1, w1 = w.alloc (.cells #[.int .i64 3, encStr name, encStr tn, .int .i64 at_, .int .i64 n, .slice da dn dc, .int .i64 po, .int .i64 pf, .int .i64 pt, .slice pa pn pc] 37) := ⟨_, rfl⟩
  have hk1 : Kept [] w w1 := by rw [hw1]; exact (Kept.refl [] w).alloc _
  have h1 := h.kept hk1
  have hb1 : w1.heap[w.heap.size]? = some (.cells #[.int .i64 3, encStr name, encStr tn, .int .i64 at_, .int .i64 n, .slice da dn dc, .int .i64 po, .int .i64 pf, .int .i64 pt, .slice pa pn pc] 37 (0, 0)) := by rw [hw1]; exact (MapKept.heap_alloc w _).1
  have i0 : w1.cell? ⟨w.heap.size, 0, none⟩ = some (.int .i64 3) := by rw [cell_of_row w1 _ 0 _ _ _ hb1]; rfl
  have i1 : w1.cell? ⟨w.heap.size, 1, none⟩ = some (encStr name) := by rw [cell_of_row w1 _ 1 _ _ _ hb1]; rfl
  have i2 : w1.cell? ⟨w.heap.size, 2, none⟩ = some (encStr tn) := by rw [cell_of_row w1 _ 2 _ _ _ hb1]; rfl
  have i3 : w1.cell? ⟨w.heap.size, 3, none⟩ = some (.int .i64 at_) := by rw [cell_of_row w1 _ 3 _ _ _ hb1]; rfl
  have i4 : w1.cell? ⟨w.heap.size, 4, none⟩ = some (.int .i64 n) := by rw [cell_of_row w1 _ 4 _ _ _ hb1]; rfl
  have i5 : w1.cell? ⟨w.heap.size, 5, none⟩ = some (.slice da dn dc) := by rw [cell_of_row w1 _ 5 _ _ _ hb1]; rfl
  have HK1 := hide hk1
  have hat := at_no h1 hl hi
  have HE : Hid (H.bump name (· + dn) = H) := hide (bump_none hi _)
  have HR := hide h1
  clear h h1 hb1 hk1 hn hi
  go_enter Try.func11, Try.ntmps11
  go_upto_region 1 with (fail)
  rw [← hw1]
  clear hw1
  go_wp2_with (go_at_call 38; refine hat.mono ?_; rintro e w' ⟨rfl, hww⟩; obtain rfl := hww.symm; clear hat)
  go_end0
  exact ⟨rfl, v, by rw [HE.out]; exact HR.out, RwsTo.first HK1.out (RwsTo.refl _ _ _)⟩

set_option maxHeartbeats 4000000 in
set_option maxRecDepth 100000 in
theorem made_cutY {w : World} {q : Nat} {v : Value} {H : Nm} {t : Nat} (h : Rws w q v H t) (hn : (H.map (·.1)).Nodup) (hl : H.length ≤ 1000000) (ht : t ≤ 1000000) (name tn : By) (at_ n : Int) (da : Option Addr) (dn dc : Nat) (po pf pt : Int) (pa : Option Addr) (pn pc : Nat) {i : Nat} {x : By × Nat} (hi : H[i]? = some x) (hx : x.1 = name) (hu : x.2 + dn ≤ 1000000000) :
    Calls Try.prog 11 #[.pointer (some ⟨q, 0, none⟩), .agg #[.int .i64 4, encStr name, encStr tn, .int .i64 at_, .int .i64 n, .slice da dn dc, .int .i64 po, .int .i64 pf, .int .i64 pt, .slice pa pn pc]] w fun e w' => e = .returned (.tuple #[]) ∧ ∃ v', Rws w' q v' (H.bump name (· + 1)) (t) ∧ RwsTo w w' q v v' := by
  obtain ⟨w1, hw1⟩ : ∃ w1, w1 = w.alloc (.cells #[.int .i64 4, encStr name, encStr tn, .int .i64 at_, .int .i64 n, .slice da dn dc, .int .i64 po, .int .i64 pf, .int .i64 pt, .slice pa pn pc] 37) := ⟨_, rfl⟩
  have hk1 : Kept [] w w1 := by rw [hw1]; exact (Kept.refl [] w).alloc _
  have h1 := h.kept hk1
  have hb1 : w1.heap[w.heap.size]? = some (.cells #[.int .i64 4, encStr name, encStr tn, .int .i64 at_, .int .i64 n, .slice da dn dc, .int .i64 po, .int .i64 pf, .int .i64 pt, .slice pa pn pc] 37 (0, 0)) := by rw [hw1]; exact (MapKept.heap_alloc w _).1
  have i0 : w1.cell? ⟨w.heap.size, 0, none⟩ = some (.int .i64 4) := by rw [cell_of_row w1 _ 0 _ _ _ hb1]; rfl
  have i1 : w1.cell? ⟨w.heap.size, 1, none⟩ = some (encStr name) := by rw [cell_of_row w1 _ 1 _ _ _ hb1]; rfl
  have i2 : w1.cell? ⟨w.heap.size, 2, none⟩ = some (encStr tn) := by rw [cell_of_row w1 _ 2 _ _ _ hb1]; rfl
  have i3 : w1.cell? ⟨w.heap.size, 3, none⟩ = some (.int .i64 at_) := by rw [cell_of_row w1 _ 3 _ _ _ hb1]; rfl
  have i4 : w1.cell? ⟨w.heap.size, 4, none⟩ = some (.int .i64 n) := by rw [cell_of_row w1 _ 4 _ _ _ hb1]; rfl
  have i5 : w1.cell? ⟨w.heap.size, 5, none⟩ = some (.slice da dn dc) := by rw [cell_of_row w1 _ 5 _ _ _ hb1]; rfl
  have HK1 := hide hk1
  subst hx
  have hlt := (List.getElem?_eq_some_iff.1 hi).1
  obtain ⟨g, cap, hv, hnc, _⟩ := h1.row.open (by omega)
  subst hv
  have hat := at_yes h1 hn hl hi
  obtain ⟨_, u0, hf⟩ := h1.at hi
  have f0 := hf (i * 2 + 1)
  have k0 := h1.cell0
  have d2 := h1.setU hi (x.2 + 1)
  rw [bump_at hn hi (· + 1)] at d2
  have HD := hide d2
  clear h h1 hb1 hk1 hn d2 hi hf
  generalize H.length = m at *
  go_enter Try.func11, Try.ntmps11
  go_upto_region 1 with (fail)
  rw [← hw1]
  clear hw1
  go_upto_region 12 with (go_at_call 38; refine hat.mono ?_; rintro e w' ⟨rfl, hww⟩; obtain rfl := hww.symm; clear hat)
  have HW : Hid (IntKind.i64.wrap ((x.2 : Int) + 1) = ((x.2 + 1 : Nat) : Int)) := hide (by rw [IntKind.wrap_i64]; omega)
  have HD2 : Hid (∀ v0, v0 = w1.drew → Rws (v0.setCell ⟨g, i * 2 + 1, none⟩ (.int .i64 ((x.2 + 1 : Nat) : Int))) q (.slice (some ⟨g, 0, none⟩) m cap) (H.bump x.1 (· + 1)) t ∧ RwsTo w (v0.setCell ⟨g, i * 2 + 1, none⟩ (.int .i64 ((x.2 + 1 : Nat) : Int))) q (.slice (some ⟨g, 0, none⟩) m cap) (.slice (some ⟨g, 0, none⟩) m cap)) := hide (fun v0 e => by
    subst e
    exact ⟨HD.out.1.kept ((Kept.refl [] _).drew), (RwsTo.first HK1.out HD.out.2).kept ((Kept.refl [] _).drew)⟩)
  refine wp_region_late (fun w' => Kept [] w1 w') (fun i => i == 16) (by kernel_rfl) ?_
  have h0 : Kept [] w1 w1.drew := (Kept.refl [] w1).drew
  have HQ := hide (HD2.out _ rfl)
  have z1 : w1.drew.cell? ⟨g, i * 2 + 1, none⟩ = some (.int .i64 (x.2 : Nat)) := u0
  have z2 : w1.drew.frozen? ⟨g, i * 2 + 1, none⟩ = false := f0
  generalize World.drew w1 = v0 at h0 HQ z1 z2 ⊢
  refine wpAnyL_free (i := 0) (v := .pointer (some ⟨q, 0, none⟩)) rfl (by kernel_rfl) (by kernel_rfl) (by kernel_rfl) (fun _ _ _ h => h) (Or.inl ⟨by rfl, fun w _ => by go_simp⟩) ?_
  try simp only [List.getElem_toArray, List.getElem_cons_zero, List.getElem_cons_succ, Act.put, List.setIfInBounds_toArray, List.set_cons_zero, List.set_cons_succ]
  refine wpAnyL_free (i := 1) (v := .pointer (some ⟨q, 0, none⟩)) rfl (by kernel_rfl) (by kernel_rfl) (by kernel_rfl) (fun _ _ _ h => h) (Or.inl ⟨by rfl, fun w _ => by go_simp⟩) ?_
  try simp only [List.getElem_toArray, List.getElem_cons_zero, List.getElem_cons_succ, Act.put, List.setIfInBounds_toArray, List.set_cons_zero, List.set_cons_succ]
  refine wpAnyL_free (i := 2) (v := .pointer (some ⟨q, 0, none⟩)) rfl (by kernel_rfl) (by kernel_rfl) (by kernel_rfl) (fun _ _ _ h => h) (Or.inl ⟨by rfl, fun w _ => by go_simp⟩) ?_
  try simp only [List.getElem_toArray, List.getElem_cons_zero, List.getElem_cons_succ, Act.put, List.setIfInBounds_toArray, List.set_cons_zero, List.set_cons_succ]
  refine wpAnyL_take (i := 3) (v := (.slice (some ⟨g, 0, none⟩) m cap)) rfl (by kernel_rfl) (by kernel_rfl) (by kernel_rfl) (by kernel_rfl) (by kernel_rfl) (fun _ _ _ h => h) (Or.inl ⟨by rfl, fun w hSw => by have c := Kept.cellOf hSw k0 (by simp); go_simp⟩) h0 ?_
  try simp only [List.getElem_toArray, List.getElem_cons_zero, List.getElem_cons_succ, Act.put, List.setIfInBounds_toArray, List.set_cons_zero, List.set_cons_succ]
  refine wpAnyL_free (i := 4) (v := .int .i64 i) rfl (by kernel_rfl) (by kernel_rfl) (by kernel_rfl) (fun _ _ _ h => h) (Or.inl ⟨by rfl, fun w _ => by go_simp⟩) ?_
  try simp only [List.getElem_toArray, List.getElem_cons_zero, List.getElem_cons_succ, Act.put, List.setIfInBounds_toArray, List.set_cons_zero, List.set_cons_succ]
  refine wpAnyL_free (i := 5) (v := .pointer (some ⟨q, 0, none⟩)) rfl (by kernel_rfl) (by kernel_rfl) (by kernel_rfl) (fun _ _ _ h => h) (Or.inl ⟨by rfl, fun w _ => by go_simp⟩) ?_
  try simp only [List.getElem_toArray, List.getElem_cons_zero, List.getElem_cons_succ, Act.put, List.setIfInBounds_toArray, List.set_cons_zero, List.set_cons_succ]
  refine wpAnyL_free (i := 6) (v := .pointer (some ⟨q, 0, none⟩)) rfl (by kernel_rfl) (by kernel_rfl) (by kernel_rfl) (fun _ _ _ h => h) (Or.inl ⟨by rfl, fun w _ => by go_simp⟩) ?_
  try simp only [List.getElem_toArray, List.getElem_cons_zero, List.getElem_cons_succ, Act.put, List.setIfInBounds_toArray, List.set_cons_zero, List.set_cons_succ]
  refine wpAnyL_free (i := 7) (v := .pointer (some ⟨q, 0, none⟩)) rfl (by kernel_rfl) (by kernel_rfl) (by kernel_rfl) (fun _ _ _ h => h) (Or.inl ⟨by rfl, fun w _ => by go_simp⟩) ?_
  try simp only [List.getElem_toArray, List.getElem_cons_zero, List.getElem_cons_succ, Act.put, List.setIfInBounds_toArray, List.set_cons_zero, List.set_cons_succ]
  refine wpAnyL_take (i := 8) (v := (.slice (some ⟨g, 0, none⟩) m cap)) rfl (by kernel_rfl) (by kernel_rfl) (by kernel_rfl) (by kernel_rfl) (by kernel_rfl) (fun _ _ _ h => h) (Or.inl ⟨by rfl, fun w hSw => by have c := Kept.cellOf hSw k0 (by simp); go_simp⟩) h0 ?_
  try simp only [List.getElem_toArray, List.getElem_cons_zero, List.getElem_cons_succ, Act.put, List.setIfInBounds_toArray, List.set_cons_zero, List.set_cons_succ]
  refine wpAnyL_free (i := 9) (v := .int .i64 i) rfl (by kernel_rfl) (by kernel_rfl) (by kernel_rfl) (fun _ _ _ h => h) (Or.inl ⟨by rfl, fun w _ => by go_simp⟩) ?_
  try simp only [List.getElem_toArray, List.getElem_cons_zero, List.getElem_cons_succ, Act.put, List.setIfInBounds_toArray, List.set_cons_zero, List.set_cons_succ]
  refine wpAnyL_free (i := 10) (v := .pointer (some ⟨g, i * 2, none⟩)) rfl (by kernel_rfl) (by kernel_rfl) (by kernel_rfl) (fun _ _ _ h => h) (Or.inl ⟨by rfl, fun w _ => by go_simp⟩) ?_
  try simp only [List.getElem_toArray, List.getElem_cons_zero, List.getElem_cons_succ, Act.put, List.setIfInBounds_toArray, List.set_cons_zero, List.set_cons_succ]
  refine wpAnyL_free (i := 11) (v := .pointer (some ⟨g, i * 2 + 1, none⟩)) rfl (by kernel_rfl) (by kernel_rfl) (by kernel_rfl) (fun _ _ _ h => h) (Or.inl ⟨by rfl, fun w _ => by go_simp⟩) ?_
  try simp only [List.getElem_toArray, List.getElem_cons_zero, List.getElem_cons_succ, Act.put, List.setIfInBounds_toArray, List.set_cons_zero, List.set_cons_succ]
  refine wpAnyL_take (i := 12) (v := .int .i64 (x.2 : Nat)) rfl (by kernel_rfl) (by kernel_rfl) (by kernel_rfl) (by kernel_rfl) (by kernel_rfl) (fun _ _ _ h => h) (Or.inl ⟨by rfl, fun w hSw => by have c := Kept.cellOf hSw u0 (by simp); go_simp⟩) h0 ?_
  try simp only [List.getElem_toArray, List.getElem_cons_zero, List.getElem_cons_succ, Act.put, List.setIfInBounds_toArray, List.set_cons_zero, List.set_cons_succ]
  refine wpAnyL_free (i := 13) (v := .int .i64 ((x.2 + 1 : Nat) : Int)) rfl (by kernel_rfl) (by kernel_rfl) (by kernel_rfl) (fun _ _ _ h => h) (Or.inl ⟨by rfl, fun w _ => by have c0 := HW.out; go_simp⟩) ?_
  try simp only [List.getElem_toArray, List.getElem_cons_zero, List.getElem_cons_succ, Act.put, List.setIfInBounds_toArray, List.set_cons_zero, List.set_cons_succ]
  refine wpAnyL_free (i := 14) (v := .pointer (some ⟨g, i * 2, none⟩)) rfl (by kernel_rfl) (by kernel_rfl) (by kernel_rfl) (fun _ _ _ h => h) (Or.inl ⟨by rfl, fun w _ => by go_simp⟩) ?_
  try simp only [List.getElem_toArray, List.getElem_cons_zero, List.getElem_cons_succ, Act.put, List.setIfInBounds_toArray, List.set_cons_zero, List.set_cons_succ]
  refine wpAnyL_free (i := 15) (v := .pointer (some ⟨g, i * 2 + 1, none⟩)) rfl (by kernel_rfl) (by kernel_rfl) (by kernel_rfl) (fun _ _ _ h => h) (Or.inl ⟨by rfl, fun w _ => by go_simp⟩) ?_
  try simp only [List.getElem_toArray, List.getElem_cons_zero, List.getElem_cons_succ, Act.put, List.setIfInBounds_toArray, List.set_cons_zero, List.set_cons_succ]
  refine wpAnyL_one (i := 16) (by kernel_rfl) rfl (fun K' hK => ?_)
  rw [if_pos (by rfl)]
  go_simp
  refine hK.out _ _ (fun _ h => by cases h) ?_
  clear hK K'
  try simp only [List.getElem_toArray, List.getElem_cons_zero, List.getElem_cons_succ, Act.put, List.setIfInBounds_toArray, List.set_cons_zero, List.set_cons_succ]
  refine wpAnyL_done (by kernel_rfl) ?_ _
  go_end0
  exact ⟨rfl, _, HQ.out.1, HQ.out.2⟩

set_option maxHeartbeats 4000000 in
set_option maxRecDepth 100000 in
theorem made_cutN {w : World} {q : Nat} {v : Value} {H : Nm} {t : Nat} (h : Rws w q v H t) (hn : (H.map (·.1)).Nodup) (hl : H.length ≤ 1000000) (ht : t ≤ 1000000) (name tn : By) (at_ n : Int) (da : Option Addr) (dn dc : Nat) (po pf pt : Int) (pa : Option Addr) (pn pc : Nat) (hi : ∀ x ∈ H, x.1 ≠ name) :
    Calls Try.prog 11 #[.pointer (some ⟨q, 0, none⟩), .agg #[.int .i64 4, encStr name, encStr tn, .int .i64 at_, .int .i64 n, .slice da dn dc, .int .i64 po, .int .i64 pf, .int .i64 pt, .slice pa pn pc]] w fun e w' => e = .returned (.tuple #[]) ∧ ∃ v', Rws w' q v' (H.bump name (· + 1)) (t) ∧ RwsTo w w' q v v' := by
  obtain ⟨w1, hw1⟩ : ∃ w1, w1 = w.alloc (.cells #[.int .i64 4, encStr name, encStr tn, .int .i64 at_, .int .i64 n, .slice da dn dc, .int .i64 po, .int .i64 pf, .int .i64 pt, .slice pa pn pc] 37) := ⟨_, rfl⟩
  have hk1 : Kept [] w w1 := by rw [hw1]; exact (Kept.refl [] w).alloc _
  have h1 := h.kept hk1
  have hb1 : w1.heap[w.heap.size]? = some (.cells #[.int .i64 4, encStr name, encStr tn, .int .i64 at_, .int .i64 n, .slice da dn dc, .int .i64 po, .int .i64 pf, .int .i64 pt, .slice pa pn pc] 37 (0, 0)) := by rw [hw1]; exact (MapKept.heap_alloc w _).1
  have i0 : w1.cell? ⟨w.heap.size, 0, none⟩ = some (.int .i64 4) := by rw [cell_of_row w1 _ 0 _ _ _ hb1]; rfl
  have i1 : w1.cell? ⟨w.heap.size, 1, none⟩ = some (encStr name) := by rw [cell_of_row w1 _ 1 _ _ _ hb1]; rfl
  have i2 : w1.cell? ⟨w.heap.size, 2, none⟩ = some (encStr tn) := by rw [cell_of_row w1 _ 2 _ _ _ hb1]; rfl
  have i3 : w1.cell? ⟨w.heap.size, 3, none⟩ = some (.int .i64 at_) := by rw [cell_of_row w1 _ 3 _ _ _ hb1]; rfl
  have i4 : w1.cell? ⟨w.heap.size, 4, none⟩ = some (.int .i64 n) := by rw [cell_of_row w1 _ 4 _ _ _ hb1]; rfl
  have i5 : w1.cell? ⟨w.heap.size, 5, none⟩ = some (.slice da dn dc) := by rw [cell_of_row w1 _ 5 _ _ _ hb1]; rfl
  have HK1 := hide hk1
  have hat := at_no h1 hl hi
  have HE : Hid (H.bump name (· + 1) = H) := hide (bump_none hi _)
  have HR := hide h1
  clear h h1 hb1 hk1 hn hi
  go_enter Try.func11, Try.ntmps11
  go_upto_region 1 with (fail)
  rw [← hw1]
  clear hw1
  go_wp2_with (go_at_call 38; refine hat.mono ?_; rintro e w' ⟨rfl, hww⟩; obtain rfl := hww.symm; clear hat)
  go_end0
  exact ⟨rfl, v, by rw [HE.out]; exact HR.out, RwsTo.first HK1.out (RwsTo.refl _ _ _)⟩

set_option maxHeartbeats 4000000 in
set_option maxRecDepth 100000 in
theorem made_syncY {w : World} {q : Nat} {v : Value} {H : Nm} {t : Nat} (h : Rws w q v H t) (hn : (H.map (·.1)).Nodup) (hl : H.length ≤ 1000000) (ht : t ≤ 1000000) (name tn : By) (at_ n : Int) (da : Option Addr) (dn dc : Nat) (po pf pt : Int) (pa : Option Addr) (pn pc : Nat) {i : Nat} {x : By × Nat} (hi : H[i]? = some x) (hx : x.1 = name) (hu : x.2 + dn ≤ 1000000000) :
    Calls Try.prog 11 #[.pointer (some ⟨q, 0, none⟩), .agg #[.int .i64 7, encStr name, encStr tn, .int .i64 at_, .int .i64 n, .slice da dn dc, .int .i64 po, .int .i64 pf, .int .i64 pt, .slice pa pn pc]] w fun e w' => e = .returned (.tuple #[]) ∧ ∃ v', Rws w' q v' (H.bump name (fun _ => 0)) (t) ∧ RwsTo w w' q v v' := by
  obtain ⟨w1, hw1⟩ : ∃ w1, w1 = w.alloc (.cells #[.int .i64 7, encStr name, encStr tn, .int .i64 at_, .int .i64 n, .slice da dn dc, .int .i64 po, .int .i64 pf, .int .i64 pt, .slice pa pn pc] 37) := ⟨_, rfl⟩
  have hk1 : Kept [] w w1 := by rw [hw1]; exact (Kept.refl [] w).alloc _
  have h1 := h.kept hk1
  have hb1 : w1.heap[w.heap.size]? = some (.cells #[.int .i64 7, encStr name, encStr tn, .int .i64 at_, .int .i64 n, .slice da dn dc, .int .i64 po, .int .i64 pf, .int .i64 pt, .slice pa pn pc] 37 (0, 0)) := by rw [hw1]; exact (MapKept.heap_alloc w _).1
  have i0 : w1.cell? ⟨w.heap.size, 0, none⟩ = some (.int .i64 7) := by rw [cell_of_row w1 _ 0 _ _ _ hb1]; rfl
  have i1 : w1.cell? ⟨w.heap.size, 1, none⟩ = some (encStr name) := by rw [cell_of_row w1 _ 1 _ _ _ hb1]; rfl
  have i2 : w1.cell? ⟨w.heap.size, 2, none⟩ = some (encStr tn) := by rw [cell_of_row w1 _ 2 _ _ _ hb1]; rfl
  have i3 : w1.cell? ⟨w.heap.size, 3, none⟩ = some (.int .i64 at_) := by rw [cell_of_row w1 _ 3 _ _ _ hb1]; rfl
  have i4 : w1.cell? ⟨w.heap.size, 4, none⟩ = some (.int .i64 n) := by rw [cell_of_row w1 _ 4 _ _ _ hb1]; rfl
  have i5 : w1.cell? ⟨w.heap.size, 5, none⟩ = some (.slice da dn dc) := by rw [cell_of_row w1 _ 5 _ _ _ hb1]; rfl
  have HK1 := hide hk1
  subst hx
  have hlt := (List.getElem?_eq_some_iff.1 hi).1
  obtain ⟨g, cap, hv, hnc, _⟩ := h1.row.open (by omega)
  subst hv
  have hat := at_yes h1 hn hl hi
  obtain ⟨_, u0, hf⟩ := h1.at hi
  have f0 := hf (i * 2 + 1)
  have k0 := h1.cell0
  have d2 := h1.setU hi (0)
  rw [bump_at hn hi (fun _ => 0)] at d2
  have HD := hide d2
  clear h h1 hb1 hk1 hn d2 hi hf
  generalize H.length = m at *
  go_enter Try.func11, Try.ntmps11
  go_upto_region 1 with (fail)
  rw [← hw1]
  clear hw1
  go_wp2_with (go_at_call 38; refine hat.mono ?_; rintro e w' ⟨rfl, hww⟩; obtain rfl := hww.symm; clear hat)
  go_end0
  exact ⟨rfl, _, HD.out.1, RwsTo.first HK1.out HD.out.2⟩

set_option maxHeartbeats 4000000 in
set_option maxRecDepth 100000 in
theorem made_syncN {w : World} {q : Nat} {v : Value} {H : Nm} {t : Nat} (h : Rws w q v H t) (hn : (H.map (·.1)).Nodup) (hl : H.length ≤ 1000000) (ht : t ≤ 1000000) (name tn : By) (at_ n : Int) (da : Option Addr) (dn dc : Nat) (po pf pt : Int) (pa : Option Addr) (pn pc : Nat) (hi : ∀ x ∈ H, x.1 ≠ name) :
    Calls Try.prog 11 #[.pointer (some ⟨q, 0, none⟩), .agg #[.int .i64 7, encStr name, encStr tn, .int .i64 at_, .int .i64 n, .slice da dn dc, .int .i64 po, .int .i64 pf, .int .i64 pt, .slice pa pn pc]] w fun e w' => e = .returned (.tuple #[]) ∧ ∃ v', Rws w' q v' (H.bump name (fun _ => 0)) (t) ∧ RwsTo w w' q v v' := by
  obtain ⟨w1, hw1⟩ : ∃ w1, w1 = w.alloc (.cells #[.int .i64 7, encStr name, encStr tn, .int .i64 at_, .int .i64 n, .slice da dn dc, .int .i64 po, .int .i64 pf, .int .i64 pt, .slice pa pn pc] 37) := ⟨_, rfl⟩
  have hk1 : Kept [] w w1 := by rw [hw1]; exact (Kept.refl [] w).alloc _
  have h1 := h.kept hk1
  have hb1 : w1.heap[w.heap.size]? = some (.cells #[.int .i64 7, encStr name, encStr tn, .int .i64 at_, .int .i64 n, .slice da dn dc, .int .i64 po, .int .i64 pf, .int .i64 pt, .slice pa pn pc] 37 (0, 0)) := by rw [hw1]; exact (MapKept.heap_alloc w _).1
  have i0 : w1.cell? ⟨w.heap.size, 0, none⟩ = some (.int .i64 7) := by rw [cell_of_row w1 _ 0 _ _ _ hb1]; rfl
  have i1 : w1.cell? ⟨w.heap.size, 1, none⟩ = some (encStr name) := by rw [cell_of_row w1 _ 1 _ _ _ hb1]; rfl
  have i2 : w1.cell? ⟨w.heap.size, 2, none⟩ = some (encStr tn) := by rw [cell_of_row w1 _ 2 _ _ _ hb1]; rfl
  have i3 : w1.cell? ⟨w.heap.size, 3, none⟩ = some (.int .i64 at_) := by rw [cell_of_row w1 _ 3 _ _ _ hb1]; rfl
  have i4 : w1.cell? ⟨w.heap.size, 4, none⟩ = some (.int .i64 n) := by rw [cell_of_row w1 _ 4 _ _ _ hb1]; rfl
  have i5 : w1.cell? ⟨w.heap.size, 5, none⟩ = some (.slice da dn dc) := by rw [cell_of_row w1 _ 5 _ _ _ hb1]; rfl
  have HK1 := hide hk1
  have hat := at_no h1 hl hi
  have HE : Hid (H.bump name (fun _ => 0) = H) := hide (bump_none hi _)
  have HR := hide h1
  clear h h1 hb1 hk1 hn hi
  go_enter Try.func11, Try.ntmps11
  go_upto_region 1 with (fail)
  rw [← hw1]
  clear hw1
  go_wp2_with (go_at_call 38; refine hat.mono ?_; rintro e w' ⟨rfl, hww⟩; obtain rfl := hww.symm; clear hat)
  go_end0
  exact ⟨rfl, v, by rw [HE.out]; exact HR.out, RwsTo.first HK1.out (RwsTo.refl _ _ _)⟩

set_option maxHeartbeats 4000000 in
set_option maxRecDepth 100000 in
theorem made_names {w : World} {q : Nat} {v : Value} {H : Nm} {t : Nat} (h : Rws w q v H t) (hn : (H.map (·.1)).Nodup) (hl : H.length ≤ 1000000) (ht : t ≤ 1000000) (name tn : By) (at_ n : Int) (da : Option Addr) (dn dc : Nat) (po pf pt : Int) (pa : Option Addr) (pn pc : Nat) :
    Calls Try.prog 11 #[.pointer (some ⟨q, 0, none⟩), .agg #[.int .i64 8, encStr name, encStr tn, .int .i64 at_, .int .i64 n, .slice da dn dc, .int .i64 po, .int .i64 pf, .int .i64 pt, .slice pa pn pc]] w fun e w' => e = .returned (.tuple #[]) ∧ ∃ v', Rws w' q v' (H) (0) ∧ RwsTo w w' q v v' := by
  obtain ⟨w1, hw1⟩ : ∃ w1, w1 = w.alloc (.cells #[.int .i64 8, encStr name, encStr tn, .int .i64 at_, .int .i64 n, .slice da dn dc, .int .i64 po, .int .i64 pf, .int .i64 pt, .slice pa pn pc] 37) := ⟨_, rfl⟩
  have hk1 : Kept [] w w1 := by rw [hw1]; exact (Kept.refl [] w).alloc _
  have h1 := h.kept hk1
  have hb1 : w1.heap[w.heap.size]? = some (.cells #[.int .i64 8, encStr name, encStr tn, .int .i64 at_, .int .i64 n, .slice da dn dc, .int .i64 po, .int .i64 pf, .int .i64 pt, .slice pa pn pc] 37 (0, 0)) := by rw [hw1]; exact (MapKept.heap_alloc w _).1
  have i0 : w1.cell? ⟨w.heap.size, 0, none⟩ = some (.int .i64 8) := by rw [cell_of_row w1 _ 0 _ _ _ hb1]; rfl
  have i1 : w1.cell? ⟨w.heap.size, 1, none⟩ = some (encStr name) := by rw [cell_of_row w1 _ 1 _ _ _ hb1]; rfl
  have i2 : w1.cell? ⟨w.heap.size, 2, none⟩ = some (encStr tn) := by rw [cell_of_row w1 _ 2 _ _ _ hb1]; rfl
  have i3 : w1.cell? ⟨w.heap.size, 3, none⟩ = some (.int .i64 at_) := by rw [cell_of_row w1 _ 3 _ _ _ hb1]; rfl
  have i4 : w1.cell? ⟨w.heap.size, 4, none⟩ = some (.int .i64 n) := by rw [cell_of_row w1 _ 4 _ _ _ hb1]; rfl
  have i5 : w1.cell? ⟨w.heap.size, 5, none⟩ = some (.slice da dn dc) := by rw [cell_of_row w1 _ 5 _ _ _ hb1]; rfl
  have HK1 := hide hk1
  have hat := at_any h1 hn hl name
  have d1 := h1.cell1
  have f1 := h1.fro 1
  have d2 := h1.setT 0
  have HD := hide d2
  clear h h1 hb1 hk1 hn d2
  go_enter Try.func11, Try.ntmps11
  go_upto_region 1 with (fail)
  rw [← hw1]
  clear hw1
  go_wp2_with (go_at_call 38; refine hat.mono ?_; rintro e w' ⟨I, rfl, hww⟩; obtain rfl := hww.symm; clear hat)
  go_end0
  exact ⟨rfl, _, HD.out.1, RwsTo.first HK1.out HD.out.2⟩

set_option maxHeartbeats 4000000 in
set_option maxRecDepth 100000 in
theorem made_remove {w : World} {q : Nat} {v : Value} {H : Nm} {t : Nat} (h : Rws w q v H t) (hn : (H.map (·.1)).Nodup) (hl : H.length ≤ 1000000) (ht : t ≤ 1000000) (name tn : By) (at_ n : Int) (da : Option Addr) (dn dc : Nat) (po pf pt : Int) (pa : Option Addr) (pn pc : Nat) :
    Calls Try.prog 11 #[.pointer (some ⟨q, 0, none⟩), .agg #[.int .i64 6, encStr name, encStr tn, .int .i64 at_, .int .i64 n, .slice da dn dc, .int .i64 po, .int .i64 pf, .int .i64 pt, .slice pa pn pc]] w fun e w' => e = .returned (.tuple #[]) ∧ ∃ v', Rws w' q v' (H.del name) (t + 1) ∧ RwsTo w w' q v v' := by
  obtain ⟨w1, hw1⟩ : ∃ w1, w1 = w.alloc (.cells #[.int .i64 6, encStr name, encStr tn, .int .i64 at_, .int .i64 n, .slice da dn dc, .int .i64 po, .int .i64 pf, .int .i64 pt, .slice pa pn pc] 37) := ⟨_, rfl⟩
  have hk1 : Kept [] w w1 := by rw [hw1]; exact (Kept.refl [] w).alloc _
  have h1 := h.kept hk1
  have hb1 : w1.heap[w.heap.size]? = some (.cells #[.int .i64 6, encStr name, encStr tn, .int .i64 at_, .int .i64 n, .slice da dn dc, .int .i64 po, .int .i64 pf, .int .i64 pt, .slice pa pn pc] 37 (0, 0)) := by rw [hw1]; exact (MapKept.heap_alloc w _).1
  have i0 : w1.cell? ⟨w.heap.size, 0, none⟩ = some (.int .i64 6) := by rw [cell_of_row w1 _ 0 _ _ _ hb1]; rfl
  have i1 : w1.cell? ⟨w.heap.size, 1, none⟩ = some (encStr name) := by rw [cell_of_row w1 _ 1 _ _ _ hb1]; rfl
  have i2 : w1.cell? ⟨w.heap.size, 2, none⟩ = some (encStr tn) := by rw [cell_of_row w1 _ 2 _ _ _ hb1]; rfl
  have i3 : w1.cell? ⟨w.heap.size, 3, none⟩ = some (.int .i64 at_) := by rw [cell_of_row w1 _ 3 _ _ _ hb1]; rfl
  have i4 : w1.cell? ⟨w.heap.size, 4, none⟩ = some (.int .i64 n) := by rw [cell_of_row w1 _ 4 _ _ _ hb1]; rfl
  have i5 : w1.cell? ⟨w.heap.size, 5, none⟩ = some (.slice da dn dc) := by rw [cell_of_row w1 _ 5 _ _ _ hb1]; rfl
  have HK1 := hide hk1
  have hat := at_any h1 hn hl name
  have hgo := gone_ok h1 hn hl name
  clear h h1 hb1 hk1 hn
  go_enter Try.func11, Try.ntmps11
  go_upto_region 1 with (fail)
  rw [← hw1]
  clear hw1
  go_upto_region 22 with (first | (go_at_call 38; refine hat.mono ?_; rintro e w' ⟨I, rfl, hww⟩; obtain rfl := hww.symm; clear hat) | (go_at_call 39; refine hgo.mono ?_; rintro e w2 ⟨rfl, v2, hR2, hT2⟩; have HRR := hide hR2; have HTT := hide hT2; clear hgo hR2 hT2))
  clear i0 i1 i2 i3 i4 i5
  have d1 := HRR.out.cell1
  have f1 := HRR.out.fro 1
  have d2 := HRR.out.setT (t + 1)
  have HD := hide d2
  clear d2
  go_wp2
  go_end0
  exact ⟨rfl, _, HD.out.1, RwsTo.first HK1.out (HTT.out.trans HD.out.2)⟩

set_option maxHeartbeats 4000000 in
set_option maxRecDepth 100000 in
theorem made_rename {w : World} {q : Nat} {v : Value} {H : Nm} {t : Nat} (h : Rws w q v H t) (hn : (H.map (·.1)).Nodup) (hl : H.length ≤ 1000000) (ht : t ≤ 1000000) (name tn : By) (at_ n : Int) (da : Option Addr) (dn dc : Nat) (po pf pt : Int) (pa : Option Addr) (pn pc : Nat) {i : Nat} {x : By × Nat} (hi : H[i]? = some x) (hx : x.1 = name) (hne : name ≠ tn) :
    Calls Try.prog 11 #[.pointer (some ⟨q, 0, none⟩), .agg #[.int .i64 5, encStr name, encStr tn, .int .i64 at_, .int .i64 n, .slice da dn dc, .int .i64 po, .int .i64 pf, .int .i64 pt, .slice pa pn pc]] w fun e w' => e = .returned (.tuple #[]) ∧ ∃ v', Rws w' q v' ((H.del name).del tn ++ [(tn, x.2)]) (t + 1) ∧ RwsTo w w' q v v' := by
  obtain ⟨w1, hw1⟩ : ∃ w1, w1 = w.alloc (.cells #[.int .i64 5, encStr name, encStr tn, .int .i64 at_, .int .i64 n, .slice da dn dc, .int .i64 po, .int .i64 pf, .int .i64 pt, .slice pa pn pc] 37) := ⟨_, rfl⟩
  have hk1 : Kept [] w w1 := by rw [hw1]; exact (Kept.refl [] w).alloc _
  have h1 := h.kept hk1
  have hb1 : w1.heap[w.heap.size]? = some (.cells #[.int .i64 5, encStr name, encStr tn, .int .i64 at_, .int .i64 n, .slice da dn dc, .int .i64 po, .int .i64 pf, .int .i64 pt, .slice pa pn pc] 37 (0, 0)) := by rw [hw1]; exact (MapKept.heap_alloc w _).1
  have i0 : w1.cell? ⟨w.heap.size, 0, none⟩ = some (.int .i64 5) := by rw [cell_of_row w1 _ 0 _ _ _ hb1]; rfl
  have i1 : w1.cell? ⟨w.heap.size, 1, none⟩ = some (encStr name) := by rw [cell_of_row w1 _ 1 _ _ _ hb1]; rfl
  have i2 : w1.cell? ⟨w.heap.size, 2, none⟩ = some (encStr tn) := by rw [cell_of_row w1 _ 2 _ _ _ hb1]; rfl
  have i3 : w1.cell? ⟨w.heap.size, 3, none⟩ = some (.int .i64 at_) := by rw [cell_of_row w1 _ 3 _ _ _ hb1]; rfl
  have i4 : w1.cell? ⟨w.heap.size, 4, none⟩ = some (.int .i64 n) := by rw [cell_of_row w1 _ 4 _ _ _ hb1]; rfl
  have i5 : w1.cell? ⟨w.heap.size, 5, none⟩ = some (.slice da dn dc) := by rw [cell_of_row w1 _ 5 _ _ _ hb1]; rfl
  have HK1 := hide hk1
  subst hx
  have hlt := (List.getElem?_eq_some_iff.1 hi).1
  obtain ⟨g, cap, hv, hnc, _⟩ := h1.row.open (by omega)
  subst hv
  have hat := at_yes h1 hn hl hi
  obtain ⟨n0, u0, hf⟩ := h1.at hi
  have k0 := h1.cell0
  have hneb : (x.1 == tn) = false := by simpa using hne
  have HN := hide hn
  have H1 := hide h1
  have HB : Hid (q < w.heap.size ∧ g < w.heap.size ∧ w.heap.size < w1.heap.size) := hide ⟨h.qlt, h.row.lt rfl, (Array.getElem?_eq_some_iff.1 hb1).1⟩
  have HB1 := hide hb1
  clear h h1 hb1 hk1 hn hi hf hne
  go_enter Try.func11, Try.ntmps11
  go_upto_region 1 with (fail)
  rw [← hw1]
  clear hw1
  go_upto_region 16 with (go_at_call 38; refine hat.mono ?_; rintro e w' ⟨rfl, hww⟩; obtain rfl := hww.symm; clear hat)
  have hk2 : Kept [] w1 (w1.alloc (.cells #[.string { data := List.toArray x.1 }, .int .i64 (x.2 : Nat)] 45)) := (Kept.refl [] w1).alloc _
  have e1 : (w1.alloc (.cells #[.string { data := List.toArray x.1 }, .int .i64 (x.2 : Nat)] 45)).heap[w1.heap.size]? = some (.cells #[.string { data := List.toArray x.1 }, .int .i64 (x.2 : Nat)] 45 (0, 0)) := (MapKept.heap_alloc w1 _).1
  clear i0 i1 i2 i3 i4 i5 n0 u0 k0
  generalize w1.alloc (.cells #[.string { data := List.toArray x.1 }, .int .i64 (x.2 : Nat)] 45) = w2 at hk2 e1 ⊢
  obtain ⟨gh, hgh⟩ : ∃ gh, w1.heap.size = gh := ⟨_, rfl⟩
  rw [hgh] at e1
  rw [hgh]
  have h2 := H1.out.kept hk2
  have hb2 := (Keep.ofNone (F := fun _ => False) hk2).heapOf HB1.out (fun h => h)
  have j1 : w2.cell? ⟨w.heap.size, 1, none⟩ = some (encStr x.1) := by rw [cell_of_row _ _ 1 _ _ _ hb2]; rfl
  have hgo := gone_ok h2 HN.out hl x.1
  have HGT := hide hgh
  have HE1 := hide e1
  have HEL : Hid (gh < w2.heap.size) := hide (Array.getElem?_eq_some_iff.1 e1).1
  have HB2 := hide hb2
  have HK2 := hide hk2
  clear h2 hb2 hgh e1 hk2 H1
  go_upto_region 17 with (go_at_call 39; refine hgo.mono ?_; rintro e w3 ⟨rfl, v2, hR2, hT2⟩; have HRR := hide hR2; have HTT := hide hT2; clear hgo hR2 hT2)
  clear j1
  have k3 : Keep (fun b => b = q ∨ (Value.slice (some ⟨g, 0, none⟩) H.length cap).ownBlock = some b) w2 w3 := HTT.out.keep
  have hb3 := k3.heapOf HB2.out (by
    have := HB.out
    rintro (e | e)
    · omega
    · simp only [Value.ownBlock, Option.some.injEq] at e; omega)
  have e3 := k3.heapOf HE1.out (by
    have := HB.out
    have := HGT.out
    rintro (e | e)
    · omega
    · simp only [Value.ownBlock, Option.some.injEq] at e; omega)
  have j2 : w3.cell? ⟨w.heap.size, 2, none⟩ = some (encStr tn) := by rw [cell_of_row _ _ 2 _ _ _ hb3]; rfl
  have hgo := gone_ok HRR.out (del_keys HN.out _) (Nat.le_trans (Nm.del_length_le _ _) hl) tn
  have HB3 := hide hb3
  have HE3 := hide e3
  have HT3 := HTT
  clear hb3 e3 HE1 HB2 k3 HRR HTT
  go_upto_region 18 with (go_at_call 39; refine hgo.mono ?_; rintro e w4 ⟨rfl, v4, hR2, hT2⟩; have HRR := hide hR2; have HTT := hide hT2; clear hgo hR2 hT2)
  clear j2
  have HT4 := hide (HT3.out.trans HTT.out)
  have k4 := HTT.out.keep
  have hb4 := k4.heapOf HB3.out (by
    have := HB.out
    have := HGT.out
    have h5 := HT3.out.new w.heap.size
    have h6 := HK2.out.size
    rintro (e | e)
    · omega
    · rcases h5 e with h7 | h7
      · simp only [Value.ownBlock, Option.some.injEq] at h7; omega
      · omega)
  have e4 := k4.heapOf HE3.out (by
    have := HB.out
    have := HGT.out
    have h5 := HT3.out.new gh
    have h6 : gh < w2.heap.size := HEL.out
    rintro (e | e)
    · omega
    · rcases h5 e with h7 | h7
      · simp only [Value.ownBlock, Option.some.injEq] at h7; omega
      · omega)
  have i2 : w4.cell? ⟨w.heap.size, 2, none⟩ = some (encStr tn) := by rw [cell_of_row _ _ 2 _ _ _ hb4]; rfl
  have u4 : w4.cell? ⟨gh, 1, none⟩ = some (.int .i64 (x.2 : Nat)) := by rw [cell_of_row _ _ 1 _ _ _ e4]; rfl
  obtain ⟨bo, bc, hv4, _⟩ := HRR.out.row.shape
  have k0 : w4.cell? ⟨q, 0, none⟩ = some (.slice bo ((H.del x.1).del tn).length bc) := by rw [← hv4]; exact HRR.out.cell0
  have HP : Hid (∀ v0, Kept [] w4 v0 → ∃ g c w2, (Builtin.append_ #[29, 29] 29 #[.slice bo ((H.del x.1).del tn).length bc, .slice (some ⟨v0.heap.size, 0, none⟩) 1 1]).run Try.prog (v0.alloc (.cells #[encStr tn, .int .i64 (x.2 : Nat)] 45)) = .ok (.slice (some ⟨g, 0, none⟩) (((H.del x.1).del tn).length + 1) c) w2 ∧ w2.heap[q]? = some (.cells #[.slice bo ((H.del x.1).del tn).length bc, .int .i64 t] 31 (0, 0)) ∧ Rws (w2.setCell ⟨q, 0, none⟩ (.slice (some ⟨g, 0, none⟩) (((H.del x.1).del tn).length + 1) c)) q (.slice (some ⟨g, 0, none⟩) (((H.del x.1).del tn).length + 1) c) ((H.del x.1).del tn ++ [(tn, x.2)]) t ∧ RwsTo w4 (w2.setCell ⟨q, 0, none⟩ (.slice (some ⟨g, 0, none⟩) (((H.del x.1).del tn).length + 1) c)) q v4 (.slice (some ⟨g, 0, none⟩) (((H.del x.1).del tn).length + 1) c)) := hide (fun v0 hk => by
    have := HRR.out.push (Nat.le_trans (Nat.le_trans (Nm.del_length_le _ _) (Nm.del_length_le _ _)) hl) (tn, x.2) hk
    rw [← hv4]
    exact this)
  clear hb4 e4 k4 HRR HTT HT3 HB3 HE3 hv4
  generalize ((H.del x.1).del tn).length = m at *
  refine wp_region_late (fun w' => Kept [] w4 w') (fun i => i == 11 || i == 14) (by kernel_rfl) ?_
  have h0 : Kept [] w4 w4.drew := (Kept.refl [] w4).drew
  generalize World.drew w4 = v0 at h0 ⊢
  refine wpAnyL_free (i := 0) (v := .pointer (some ⟨q, 0, none⟩)) rfl (by kernel_rfl) (by kernel_rfl) (by kernel_rfl) (fun _ _ _ h => h) (Or.inl ⟨by rfl, fun w _ => by go_simp⟩) ?_
  try simp only [List.getElem_toArray, List.getElem_cons_zero, List.getElem_cons_succ, Act.put, List.setIfInBounds_toArray, List.set_cons_zero, List.set_cons_succ]
  refine wpAnyL_free (i := 1) (v := .pointer (some ⟨q, 0, none⟩)) rfl (by kernel_rfl) (by kernel_rfl) (by kernel_rfl) (fun _ _ _ h => h) (Or.inl ⟨by rfl, fun w _ => by go_simp⟩) ?_
  try simp only [List.getElem_toArray, List.getElem_cons_zero, List.getElem_cons_succ, Act.put, List.setIfInBounds_toArray, List.set_cons_zero, List.set_cons_succ]
  refine wpAnyL_free (i := 2) (v := .pointer (some ⟨q, 0, none⟩)) rfl (by kernel_rfl) (by kernel_rfl) (by kernel_rfl) (fun _ _ _ h => h) (Or.inl ⟨by rfl, fun w _ => by go_simp⟩) ?_
  try simp only [List.getElem_toArray, List.getElem_cons_zero, List.getElem_cons_succ, Act.put, List.setIfInBounds_toArray, List.set_cons_zero, List.set_cons_succ]
  refine wpAnyL_free (i := 3) (v := .pointer (some ⟨q, 0, none⟩)) rfl (by kernel_rfl) (by kernel_rfl) (by kernel_rfl) (fun _ _ _ h => h) (Or.inl ⟨by rfl, fun w _ => by go_simp⟩) ?_
  try simp only [List.getElem_toArray, List.getElem_cons_zero, List.getElem_cons_succ, Act.put, List.setIfInBounds_toArray, List.set_cons_zero, List.set_cons_succ]
  refine wpAnyL_take (i := 4) (v := (.slice bo m bc)) rfl (by kernel_rfl) (by kernel_rfl) (by kernel_rfl) (by kernel_rfl) (by kernel_rfl) (fun _ _ _ h => h) (Or.inl ⟨by rfl, fun w hSw => by have c := Kept.cellOf hSw k0 (by simp); go_simp⟩) h0 ?_
  try simp only [List.getElem_toArray, List.getElem_cons_zero, List.getElem_cons_succ, Act.put, List.setIfInBounds_toArray, List.set_cons_zero, List.set_cons_succ]
  refine wpAnyL_free (i := 5) (v := .pointer (some ⟨w.heap.size, 2, none⟩)) rfl (by kernel_rfl) (by kernel_rfl) (by kernel_rfl) (fun _ _ _ h => h) (Or.inl ⟨by rfl, fun w _ => by go_simp⟩) ?_
  try simp only [List.getElem_toArray, List.getElem_cons_zero, List.getElem_cons_succ, Act.put, List.setIfInBounds_toArray, List.set_cons_zero, List.set_cons_succ]
  refine wpAnyL_take (i := 6) (v := encStr tn) rfl (by kernel_rfl) (by kernel_rfl) (by kernel_rfl) (by kernel_rfl) (by kernel_rfl) (fun _ _ _ h => h) (Or.inl ⟨by rfl, fun w hSw => by have c := Kept.cellOf hSw i2 (by simp); go_simp⟩) h0 ?_
  try simp only [List.getElem_toArray, List.getElem_cons_zero, List.getElem_cons_succ, Act.put, List.setIfInBounds_toArray, List.set_cons_zero, List.set_cons_succ]
  refine wpAnyL_free (i := 7) (v := .pointer (some ⟨gh, 1, none⟩)) rfl (by kernel_rfl) (by kernel_rfl) (by kernel_rfl) (fun _ _ _ h => h) (Or.inl ⟨by rfl, fun w _ => by go_simp⟩) ?_
  try simp only [List.getElem_toArray, List.getElem_cons_zero, List.getElem_cons_succ, Act.put, List.setIfInBounds_toArray, List.set_cons_zero, List.set_cons_succ]
  refine wpAnyL_take (i := 8) (v := .int .i64 (x.2 : Nat)) rfl (by kernel_rfl) (by kernel_rfl) (by kernel_rfl) (by kernel_rfl) (by kernel_rfl) (fun _ _ _ h => h) (Or.inl ⟨by rfl, fun w hSw => by have c := Kept.cellOf hSw u4 (by simp); go_simp⟩) h0 ?_
  try simp only [List.getElem_toArray, List.getElem_cons_zero, List.getElem_cons_succ, Act.put, List.setIfInBounds_toArray, List.set_cons_zero, List.set_cons_succ]
  refine wpAnyL_free (i := 9) (v := .agg #[encStr tn, .int .i64 (x.2 : Nat)]) rfl (by kernel_rfl) (by kernel_rfl) (by kernel_rfl) (fun _ _ _ h => h) (Or.inl ⟨by rfl, fun w _ => by go_simp⟩) ?_
  try simp only [List.getElem_toArray, List.getElem_cons_zero, List.getElem_cons_succ, Act.put, List.setIfInBounds_toArray, List.set_cons_zero, List.set_cons_succ]
  obtain ⟨g5, c5, w5, hrun, hq2, hR, hT⟩ := HP.out v0 h0
  have k2 : w5.cell? ⟨q, 0, none⟩ = some (.slice bo m bc) := by rw [cell_of_row _ _ _ _ _ _ hq2]; rfl
  have f2 : w5.frozen? ⟨q, 0, none⟩ = false := frozen_of_row _ _ _ _ _ hq2
  have HRR := hide hR
  have HTT := hide hT
  clear hR hT hq2 HP
  refine wpAnyL_one (i := 10) (by kernel_rfl) rfl (fun K' hK => ?_)
  rw [if_pos (by rfl)]
  go_simp
  refine hK.out _ _ (fun _ _ => h0.alloc _) ?_
  clear hK K'
  try simp only [List.getElem_toArray, List.getElem_cons_zero, List.getElem_cons_succ, Act.put, List.setIfInBounds_toArray, List.set_cons_zero, List.set_cons_succ]
  refine wpAnyL_one (i := 11) (by kernel_rfl) rfl (fun K' hK => ?_)
  rw [if_pos (by rfl)]
  refine wp_append_run (.tmp 108) (.tmp 114) 29 29 rfl (.slice bo m bc) (.slice (some ⟨v0.heap.size, 0, none⟩) 1 1) rfl rfl (.slice (some ⟨g5, 0, none⟩) (m + 1) c5) w5 hrun ?_
  refine hK.out _ _ (fun _ h => by cases h) ?_
  clear hK K' hrun
  try simp only [List.getElem_toArray, List.getElem_cons_zero, List.getElem_cons_succ, Act.put, List.setIfInBounds_toArray, List.set_cons_zero, List.set_cons_succ]
  refine wpAnyL_free (i := 12) (v := .pointer (some ⟨q, 0, none⟩)) rfl (by kernel_rfl) (by kernel_rfl) (by kernel_rfl) (fun _ _ _ h => h) (Or.inl ⟨by rfl, fun w _ => by go_simp⟩) ?_
  try simp only [List.getElem_toArray, List.getElem_cons_zero, List.getElem_cons_succ, Act.put, List.setIfInBounds_toArray, List.set_cons_zero, List.set_cons_succ]
  refine wpAnyL_free (i := 13) (v := .pointer (some ⟨q, 0, none⟩)) rfl (by kernel_rfl) (by kernel_rfl) (by kernel_rfl) (fun _ _ _ h => h) (Or.inl ⟨by rfl, fun w _ => by go_simp⟩) ?_
  try simp only [List.getElem_toArray, List.getElem_cons_zero, List.getElem_cons_succ, Act.put, List.setIfInBounds_toArray, List.set_cons_zero, List.set_cons_succ]
  refine wpAnyL_one (i := 14) (by kernel_rfl) rfl (fun K' hK => ?_)
  rw [if_pos (by rfl)]
  go_simp
  refine hK.out _ _ (fun _ h => by cases h) ?_
  clear hK K'
  try simp only [List.getElem_toArray, List.getElem_cons_zero, List.getElem_cons_succ, Act.put, List.setIfInBounds_toArray, List.set_cons_zero, List.set_cons_succ]
  refine wpAnyL_done (by kernel_rfl) ?_ _
  clear k0 i2 u4 k2 f2 h0
  generalize w5.setCell ⟨q, 0, none⟩ (.slice (some ⟨g5, 0, none⟩) (m + 1) c5) = w6 at HRR HTT ⊢
  have d1 := HRR.out.cell1
  have f1 := HRR.out.fro 1
  have d2 := HRR.out.setT (t + 1)
  have HD := hide d2
  clear d2
  go_wp2
  go_end0
  exact ⟨rfl, _, HD.out.1, RwsTo.first (HK1.out.trans HK2.out (by simp)) ((HT4.out.trans HTT.out).trans HD.out.2)⟩

set_option maxHeartbeats 4000000 in
set_option maxRecDepth 100000 in
theorem made_renameS {w : World} {q : Nat} {v : Value} {H : Nm} {t : Nat} (h : Rws w q v H t) (hn : (H.map (·.1)).Nodup) (hl : H.length ≤ 1000000) (ht : t ≤ 1000000) (name tn : By) (at_ n : Int) (da : Option Addr) (dn dc : Nat) (po pf pt : Int) (pa : Option Addr) (pn pc : Nat) (hq : name = tn) :
    Calls Try.prog 11 #[.pointer (some ⟨q, 0, none⟩), .agg #[.int .i64 5, encStr name, encStr tn, .int .i64 at_, .int .i64 n, .slice da dn dc, .int .i64 po, .int .i64 pf, .int .i64 pt, .slice pa pn pc]] w fun e w' => e = .returned (.tuple #[]) ∧ ∃ v', Rws w' q v' (H) (t) ∧ RwsTo w w' q v v' := by
  obtain ⟨w1, hw1⟩ : ∃ w1, w1 = w.alloc (.cells #[.int .i64 5, encStr name, encStr tn, .int .i64 at_, .int .i64 n, .slice da dn dc, .int .i64 po, .int .i64 pf, .int .i64 pt, .slice pa pn pc] 37) := ⟨_, rfl⟩
  have hk1 : Kept [] w w1 := by rw [hw1]; exact (Kept.refl [] w).alloc _
  have h1 := h.kept hk1
  have hb1 : w1.heap[w.heap.size]? = some (.cells #[.int .i64 5, encStr name, encStr tn, .int .i64 at_, .int .i64 n, .slice da dn dc, .int .i64 po, .int .i64 pf, .int .i64 pt, .slice pa pn pc] 37 (0, 0)) := by rw [hw1]; exact (MapKept.heap_alloc w _).1
  have i0 : w1.cell? ⟨w.heap.size, 0, none⟩ = some (.int .i64 5) := by rw [cell_of_row w1 _ 0 _ _ _ hb1]; rfl
  have i1 : w1.cell? ⟨w.heap.size, 1, none⟩ = some (encStr name) := by rw [cell_of_row w1 _ 1 _ _ _ hb1]; rfl
  have i2 : w1.cell? ⟨w.heap.size, 2, none⟩ = some (encStr tn) := by rw [cell_of_row w1 _ 2 _ _ _ hb1]; rfl
  have i3 : w1.cell? ⟨w.heap.size, 3, none⟩ = some (.int .i64 at_) := by rw [cell_of_row w1 _ 3 _ _ _ hb1]; rfl
  have i4 : w1.cell? ⟨w.heap.size, 4, none⟩ = some (.int .i64 n) := by rw [cell_of_row w1 _ 4 _ _ _ hb1]; rfl
  have i5 : w1.cell? ⟨w.heap.size, 5, none⟩ = some (.slice da dn dc) := by rw [cell_of_row w1 _ 5 _ _ _ hb1]; rfl
  have HK1 := hide hk1
  have hneb : (name == tn) = true := by simpa using hq
  have hat := at_any h1 hn hl name
  have HR := hide h1
  clear h h1 hb1 hk1 hn hq
  go_enter Try.func11, Try.ntmps11
  go_upto_region 1 with (fail)
  rw [← hw1]
  clear hw1
  go_wp2_with (go_at_call 38; refine hat.mono ?_; rintro e w' ⟨I, rfl, hww⟩; obtain rfl := hww.symm; clear hat)
  go_end0
  exact ⟨rfl, v, HR.out, RwsTo.first HK1.out (RwsTo.refl _ _ _)⟩

set_option maxHeartbeats 4000000 in
set_option maxRecDepth 100000 in
theorem made_renameN {w : World} {q : Nat} {v : Value} {H : Nm} {t : Nat} (h : Rws w q v H t) (hn : (H.map (·.1)).Nodup) (hl : H.length ≤ 1000000) (ht : t ≤ 1000000) (name tn : By) (at_ n : Int) (da : Option Addr) (dn dc : Nat) (po pf pt : Int) (pa : Option Addr) (pn pc : Nat) (hi : ∀ x ∈ H, x.1 ≠ name) (hq : name ≠ tn) :
    Calls Try.prog 11 #[.pointer (some ⟨q, 0, none⟩), .agg #[.int .i64 5, encStr name, encStr tn, .int .i64 at_, .int .i64 n, .slice da dn dc, .int .i64 po, .int .i64 pf, .int .i64 pt, .slice pa pn pc]] w fun e w' => e = .returned (.tuple #[]) ∧ ∃ v', Rws w' q v' (H) (t) ∧ RwsTo w w' q v v' := by
  obtain ⟨w1, hw1⟩ : ∃ w1, w1 = w.alloc (.cells #[.int .i64 5, encStr name, encStr tn, .int .i64 at_, .int .i64 n, .slice da dn dc, .int .i64 po, .int .i64 pf, .int .i64 pt, .slice pa pn pc] 37) := ⟨_, rfl⟩
  have hk1 : Kept [] w w1 := by rw [hw1]; exact (Kept.refl [] w).alloc _
  have h1 := h.kept hk1
  have hb1 : w1.heap[w.heap.size]? = some (.cells #[.int .i64 5, encStr name, encStr tn, .int .i64 at_, .int .i64 n, .slice da dn dc, .int .i64 po, .int .i64 pf, .int .i64 pt, .slice pa pn pc] 37 (0, 0)) := by rw [hw1]; exact (MapKept.heap_alloc w _).1
  have i0 : w1.cell? ⟨w.heap.size, 0, none⟩ = some (.int .i64 5) := by rw [cell_of_row w1 _ 0 _ _ _ hb1]; rfl
  have i1 : w1.cell? ⟨w.heap.size, 1, none⟩ = some (encStr name) := by rw [cell_of_row w1 _ 1 _ _ _ hb1]; rfl
  have i2 : w1.cell? ⟨w.heap.size, 2, none⟩ = some (encStr tn) := by rw [cell_of_row w1 _ 2 _ _ _ hb1]; rfl
  have i3 : w1.cell? ⟨w.heap.size, 3, none⟩ = some (.int .i64 at_) := by rw [cell_of_row w1 _ 3 _ _ _ hb1]; rfl
  have i4 : w1.cell? ⟨w.heap.size, 4, none⟩ = some (.int .i64 n) := by rw [cell_of_row w1 _ 4 _ _ _ hb1]; rfl
  have i5 : w1.cell? ⟨w.heap.size, 5, none⟩ = some (.slice da dn dc) := by rw [cell_of_row w1 _ 5 _ _ _ hb1]; rfl
  have HK1 := hide hk1
  have hneb : (name == tn) = false := by simpa using hq
  have hat := at_no h1 hl hi
  have HR := hide h1
  clear h h1 hb1 hk1 hn hq hi
  go_enter Try.func11, Try.ntmps11
  go_upto_region 1 with (fail)
  rw [← hw1]
  clear hw1
  go_wp2_with (go_at_call 38; refine hat.mono ?_; rintro e w' ⟨rfl, hww⟩; obtain rfl := hww.symm; clear hat)
  go_end0
  exact ⟨rfl, v, HR.out, RwsTo.first HK1.out (RwsTo.refl _ _ _)⟩

theorem made_ok {w : World} {q : Nat} {v : Value} {H : Nm} {t : Nat} (h : Rws w q v H t) (hn : (H.map (·.1)).Nodup) (hl : H.length ≤ 1000000) (ht : t ≤ 1000000) (s : Stp) (hk : 1 ≤ s.kind ∧ s.kind ≤ 8) (hu : ∀ x ∈ H, x.2 + s.dn ≤ 1000000000) :
    Calls Try.prog 11 #[.pointer (some ⟨q, 0, none⟩), .agg s.cells.toArray] w fun e w' => e = .returned (.tuple #[]) ∧ ∃ v', Rws w' q v' (madeH s H t).1 (madeH s H t).2 ∧ RwsTo w w' q v v' := by
  obtain ⟨kind, name, tn, at_, n, da, dn, dc, ds, po, pf, pt, pa, pn, pc, ps⟩ := s
  simp only at hk hu
  have hdec : (∃ (i : Nat) (x : By × Nat), H[i]? = some x ∧ x.1 = name) ∨ (∀ x ∈ H, x.1 ≠ name) := by
    by_cases hin : ∃ (i : Nat) (x : By × Nat), H[i]? = some x ∧ x.1 = name
    · exact .inl hin
    · exact .inr (fun x hx e => hin (by
        obtain ⟨i, hi⟩ := List.mem_iff_getElem?.1 hx
        exact ⟨i, x, hi, e⟩))
  have hc : kind = 1 ∨ kind = 2 ∨ kind = 3 ∨ kind = 4 ∨ kind = 5 ∨ kind = 6 ∨ kind = 7 ∨ kind = 8 := by omega
  rcases hc with rfl | rfl | rfl | rfl | rfl | rfl | rfl | rfl
  · exact made_create h hn hl ht name tn at_ n da dn dc po pf pt pa pn pc
  · rcases hdec with ⟨i, x, hi, hx⟩ | hno
    · exact made_writeY h hn hl ht name tn at_ n da dn dc po pf pt pa pn pc hi hx (hu x (List.mem_of_getElem? hi))
    · exact made_writeN h hn hl ht name tn at_ n da dn dc po pf pt pa pn pc hno
  · rcases hdec with ⟨i, x, hi, hx⟩ | hno
    · exact made_appendY h hn hl ht name tn at_ n da dn dc po pf pt pa pn pc hi hx (hu x (List.mem_of_getElem? hi))
    · exact made_appendN h hn hl ht name tn at_ n da dn dc po pf pt pa pn pc hno
  · rcases hdec with ⟨i, x, hi, hx⟩ | hno
    · exact made_cutY h hn hl ht name tn at_ n da dn dc po pf pt pa pn pc hi hx (hu x (List.mem_of_getElem? hi))
    · exact made_cutN h hn hl ht name tn at_ n da dn dc po pf pt pa pn pc hno
  · by_cases hq : name = tn
    · have e : madeH ⟨5, name, tn, at_, n, da, dn, dc, ds, po, pf, pt, pa, pn, pc, ps⟩ H t = (H, t) := by
        simp only [madeH, hq]
        cases H.get tn <;> simp
      rw [e]
      exact made_renameS h hn hl ht name tn at_ n da dn dc po pf pt pa pn pc hq
    · rcases hdec with ⟨i, x, hi, hx⟩ | hno
      · have hg : H.get name = some x.2 := (get_nodup hn).2 (by rw [← hx]; exact List.mem_of_getElem? hi)
        have e : madeH ⟨5, name, tn, at_, n, da, dn, dc, ds, po, pf, pt, pa, pn, pc, ps⟩ H t = ((H.del name).del tn ++ [(tn, x.2)], t + 1) := by
          simp [madeH, hg, hq]
        rw [e]
        exact made_rename h hn hl ht name tn at_ n da dn dc po pf pt pa pn pc hi hx hq
      · have hg : H.get name = none := Nm.get_none.2 hno
        have e : madeH ⟨5, name, tn, at_, n, da, dn, dc, ds, po, pf, pt, pa, pn, pc, ps⟩ H t = (H, t) := by
          simp [madeH, hg]
        rw [e]
        exact made_renameN h hn hl ht name tn at_ n da dn dc po pf pt pa pn pc hno hq
  · exact made_remove h hn hl ht name tn at_ n da dn dc po pf pt pa pn pc
  · rcases hdec with ⟨i, x, hi, hx⟩ | hno
    · exact made_syncY h hn hl ht name tn at_ n da dn dc po pf pt pa pn pc hi hx (hu x (List.mem_of_getElem? hi))
    · exact made_syncN h hn hl ht name tn at_ n da dn dc po pf pt pa pn pc hno
  · exact made_names h hn hl ht name tn at_ n da dn dc po pf pt pa pn pc
end Go.Proofs.Ytllfkfncgalpaaa
