/-
  Contracts: the twins of changes of names.
-/
import Derived.Test.YtcmiehfahdbffabKb
import Derived.Test.YtcmiehfahdbffabKa
import Derived.Test.YtcmiehfahdbffabGq
namespace Go.Proofs.Ytcmiehfahdbffab
open Go.RowKit Dsk
set_option linter.unusedVariables false
set_option linter.unusedSimpArgs false

set_option maxHeartbeats 1600000 in
set_option maxRecDepth 100000 in
theorem gvTwin_ok (f t : By) (w : World) : Calls Try.prog 108 #[.agg #[encStr f, encStr t]] w fun e w' => e = .returned (.iface 96 (.agg #[encStr f, encStr t])) ∧ Kept [] w w' := by
  obtain ⟨w1, hw1⟩ : ∃ w1, w1 = w.alloc (.cells #[encStr f, encStr t] 96) := ⟨_, rfl⟩
  have hk1 : Kept [] w w1 := by rw [hw1]; exact (Kept.refl [] w).alloc _
  have hb1 : w1.heap[w.heap.size]? = some (.cells #[encStr f, encStr t] 96 (0, 0)) := by rw [hw1]; exact (MapKept.heap_alloc w _).1
  have i0 : w1.cell? ⟨w.heap.size, 0, none⟩ = some (encStr f) := by rw [cell_of_row w1 _ 0 _ _ _ hb1]; rfl
  have i1 : w1.cell? ⟨w.heap.size, 1, none⟩ = some (encStr t) := by rw [cell_of_row w1 _ 1 _ _ _ hb1]; rfl
  clear hb1
  go_enter Try.func108, Try.ntmps108
  go_upto_region 1 with (fail)
  rw [← hw1]
  clear hw1
  go_wp2
  go_ret
  exact ⟨rfl, hk1⟩
set_option maxHeartbeats 1600000 in
set_option maxRecDepth 100000 in
theorem tkTwin_ok (f : By) (w : World) : Calls Try.prog 110 #[.agg #[encStr f]] w fun e w' => e = .returned (.iface 98 (.agg #[encStr f])) ∧ Kept [] w w' := by
  obtain ⟨w1, hw1⟩ : ∃ w1, w1 = w.alloc (.cells #[encStr f] 98) := ⟨_, rfl⟩
  have hk1 : Kept [] w w1 := by rw [hw1]; exact (Kept.refl [] w).alloc _
  have hb1 : w1.heap[w.heap.size]? = some (.cells #[encStr f] 98 (0, 0)) := by rw [hw1]; exact (MapKept.heap_alloc w _).1
  have i0 : w1.cell? ⟨w.heap.size, 0, none⟩ = some (encStr f) := by rw [cell_of_row w1 _ 0 _ _ _ hb1]; rfl
  clear hb1
  go_enter Try.func110, Try.ntmps110
  go_upto_region 1 with (fail)
  rw [← hw1]
  clear hw1
  go_wp2
  go_ret
  exact ⟨rfl, hk1⟩
theorem NewTh.base {w v w' : World} {b : Nat} {rv sv : Value} {t : Th} (h : NewTh v w' b rv sv t) (hw : w.heap.size ≤ v.heap.size) : NewTh w w' b rv sv t :=
  ⟨h.cells, h.row, h.shown, Nat.le_trans hw h.nb, fun g hg => Nat.le_trans hw (h.nr g hg), fun g hg => Nat.le_trans hw (h.ns g hg)⟩
set_option maxHeartbeats 1600000 in
set_option maxRecDepth 100000 in
theorem mkTwin_ok (n : By) (b : Nat) (t : Th) (w : World) (ht : ∀ v, Kept [] w v → Calls Try.prog 56 #[.pointer (some ⟨b, 0, none⟩)] v fun e w' => ∃ b' rv' sv', e = .returned (.pointer (some ⟨b', 0, none⟩)) ∧ NewTh v w' b' rv' sv' t ∧ Kept [] v w') :
    Calls Try.prog 106 #[.agg #[encStr n, .pointer (some ⟨b, 0, none⟩)]] w fun e w' => ∃ b' rv' sv', e = .returned (.iface 92 (.agg #[encStr n, .pointer (some ⟨b', 0, none⟩)])) ∧ NewTh w w' b' rv' sv' t ∧ Kept [] w w' := by
  obtain ⟨w1, hw1⟩ : ∃ w1, w1 = w.alloc (.cells #[encStr n, .pointer (some ⟨b, 0, none⟩)] 92) := ⟨_, rfl⟩
  have hk1 : Kept [] w w1 := by rw [hw1]; exact (Kept.refl [] w).alloc _
  have hb1 : w1.heap[w.heap.size]? = some (.cells #[encStr n, .pointer (some ⟨b, 0, none⟩)] 92 (0, 0)) := by rw [hw1]; exact (MapKept.heap_alloc w _).1
  have i0 : w1.cell? ⟨w.heap.size, 0, none⟩ = some (encStr n) := by rw [cell_of_row w1 _ 0 _ _ _ hb1]; rfl
  have i1 : w1.cell? ⟨w.heap.size, 1, none⟩ = some (.pointer (some ⟨b, 0, none⟩)) := by rw [cell_of_row w1 _ 1 _ _ _ hb1]; rfl
  have HT := hide (fun (v : World) (hk : Kept [] w1 v) => ht v (hk1.trans hk (by simp)))
  have hsz : w.heap.size ≤ w1.heap.size := hk1.size
  generalize hqe : w.heap.size = q at i0 i1
  clear hb1 ht
  go_enter Try.func106, Try.ntmps106
  go_upto_region 1 with (fail)
  rw [← hw1]
  clear hw1
  refine wp_region_held_drew (S := fun v => Kept [] w1 v) (by kernel_rfl) ((Kept.refl [] w1).drew) (fun h0 => ?_)
  generalize World.drew w1 = v0 at h0 ⊢
  refine wpAnyH_take (i := 0) (v := (.pointer (some ⟨q, 0, none⟩))) rfl (by kernel_rfl) (by kernel_rfl) (by kernel_rfl) (fun _ _ _ h => h) (Or.inl ⟨by rfl, fun w hSw => by go_simp⟩) h0 ?_
  try simp only [List.getElem_toArray, List.getElem_cons_zero, List.getElem_cons_succ, Act.put, List.setIfInBounds_toArray, List.set_cons_zero, List.set_cons_succ]
  refine wpAnyH_take (i := 1) (v := (encStr n)) rfl (by kernel_rfl) (by kernel_rfl) (by kernel_rfl) (fun _ _ _ h => h) (Or.inl ⟨by rfl, fun w hSw => by have c := Kept.cellOf hSw i0 (by simp); go_simp⟩) h0 ?_
  try simp only [List.getElem_toArray, List.getElem_cons_zero, List.getElem_cons_succ, Act.put, List.setIfInBounds_toArray, List.set_cons_zero, List.set_cons_succ]
  refine wpAnyH_take (i := 2) (v := (.pointer (some ⟨q, 1, none⟩))) rfl (by kernel_rfl) (by kernel_rfl) (by kernel_rfl) (fun _ _ _ h => h) (Or.inl ⟨by rfl, fun w hSw => by go_simp⟩) h0 ?_
  try simp only [List.getElem_toArray, List.getElem_cons_zero, List.getElem_cons_succ, Act.put, List.setIfInBounds_toArray, List.set_cons_zero, List.set_cons_succ]
  refine wpAnyH_take (i := 3) (v := (.pointer (some ⟨b, 0, none⟩))) rfl (by kernel_rfl) (by kernel_rfl) (by kernel_rfl) (fun _ _ _ h => h) (Or.inl ⟨by rfl, fun w hSw => by have c := Kept.cellOf hSw i1 (by simp); go_simp⟩) h0 ?_
  try simp only [List.getElem_toArray, List.getElem_cons_zero, List.getElem_cons_succ, Act.put, List.setIfInBounds_toArray, List.set_cons_zero, List.set_cons_succ]
  refine wpAnyH_ready (rs := [4]) (by kernel_rfl) (by simp) (AllReadyH.cons (i := 4) rfl (fun K hK => ?_) AllReadyH.nil)
  rw [if_pos (by rfl)]
  go_simp
  refine (HT.out _ h0).mono ?_
  rintro e v1 ⟨b1, rv1, sv1, rfl, ho1, hq1⟩
  have h1 : Kept [] w1 v1 := h0.trans hq1 (by simp)
  have hz1 := h0.size
  refine hK.out _ _ h1 (fun h1 => ?_)
  clear hK K hq1
  try simp only [List.getElem_toArray, List.getElem_cons_zero, List.getElem_cons_succ, Act.put, List.setIfInBounds_toArray, List.set_cons_zero, List.set_cons_succ]
  refine wpAnyH_take (i := 5) (v := (.agg #[encStr n, .pointer (some ⟨b1, 0, none⟩)])) rfl (by kernel_rfl) (by kernel_rfl) (by kernel_rfl) (fun _ _ _ h => h) (Or.inl ⟨by rfl, fun w hSw => by go_simp⟩) h1 ?_
  try simp only [List.getElem_toArray, List.getElem_cons_zero, List.getElem_cons_succ, Act.put, List.setIfInBounds_toArray, List.set_cons_zero, List.set_cons_succ]
  refine wpAnyH_take (i := 6) (v := (.iface 92 (.agg #[encStr n, .pointer (some ⟨b1, 0, none⟩)]))) rfl (by kernel_rfl) (by kernel_rfl) (by kernel_rfl) (fun _ _ _ h => h) (Or.inl ⟨by rfl, fun w hSw => by go_simp⟩) h1 ?_
  try simp only [List.getElem_toArray, List.getElem_cons_zero, List.getElem_cons_succ, Act.put, List.setIfInBounds_toArray, List.set_cons_zero, List.set_cons_succ]
  refine wpAnyH_take (i := 7) (v := (.iface 92 (.agg #[encStr n, .pointer (some ⟨b1, 0, none⟩)]))) rfl (by kernel_rfl) (by kernel_rfl) (by kernel_rfl) (fun _ _ _ h => h) (Or.inl ⟨by rfl, fun w hSw => by go_simp⟩) h1 ?_
  try simp only [List.getElem_toArray, List.getElem_cons_zero, List.getElem_cons_succ, Act.put, List.setIfInBounds_toArray, List.set_cons_zero, List.set_cons_succ]
  refine wpAnyH_done (by kernel_rfl) ?_ _
  have HN := hide (ho1.base (w := w) (Nat.le_trans hsz hz1))
  have HK1 := hide (hk1.trans h1 (by simp))
  clear ho1 h1 h0 HT
  go_wp2
  go_ret
  exact ⟨_, _, _, rfl, HN.out, HK1.out⟩
end Go.Proofs.Ytcmiehfahdbffab
