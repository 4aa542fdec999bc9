/-
  Contracts: directory.change, directory.sync.
-/
import Derived.Test.YtemlbmamcbmnjaaGreatDoorGpp
namespace Go.Proofs.YtemlbmamcbmnjaaGreatDoor
open Go.RowKit Dsk
set_option linter.unusedVariables false
set_option linter.unusedSimpArgs false

theorem Tryz.infoNc : (Tryz.prog.info? 180).map (fun i => (i.zero, i.size, i.bytes)) = some (some .nilIface, 1, 16) := by kernel_rfl
theorem encNc_one (A : Nat → Nat) (c : Nc) : (encNc A c).oneCell' = true := by cases c <;> rfl

set_option maxHeartbeats 800000 in
set_option maxRecDepth 100000 in
theorem dirChange_ok (c : Nc) (q off b : Nat) (T : TypeId) (cs : Array Value) (rv : Value) (A : Nat → Nat) (l : Nm) (row : List Nc) (w : World) (hQ : w.heap[q]? = some (.cells cs T (0, 0))) (hT : T ≠ 180) (hq1 : cs[off + 1]? = some rv) (hq2 : cs[off + 2]? = some (.map (some b)))
    (hrow : w.ownsRow 0 180 1 rv row.length (row.map (encNc A))) (h : Mp w b A l) (hok : c.ok l) (hs : ncShort c) (hl : l.length < 1073741824) (hr : row.length < 1073741824) :
    Calls Tryz.prog 85 #[.pointer (some ⟨q, off, none⟩), encNc A c] w fun e w' => e = .returned (.tuple #[]) ∧
      ∃ rv', w'.heap[q]? = some (.cells (cs.setIfInBounds (off + 1) rv') T (0, 0)) ∧ w'.ownsRow 0 180 1 rv' (row ++ [c]).length ((row ++ [c]).map (encNc A)) ∧ Mp w' b A (c.apply l) ∧ Keep (fun k => k = q ∨ k = b ∨ rv.ownBlock = some k) w w' ∧ (∀ g, rv'.ownBlock = some g → rv.ownBlock = some g ∨ w.heap.size ≤ g) := by
  obtain ⟨ro, rc, rfl, hrc⟩ := own_shape hrow
  have hqlt : q < w.heap.size := (Array.getElem?_eq_some_iff.1 hQ).1
  have hbq : b ≠ q := map_ne h hQ (by simp)
  have hrq := own_ne hrow hQ hT
  have hrb := own_nmap hrow h.blk
  obtain ⟨g, c2, w1, hrun, ho1, hk1, hg1, hlt1⟩ := run_app (P := Tryz.prog) w 93 93 180 Tryz.underlying93 Tryz.infoNc rfl (by decide) _ row.length _ hrow [encNc A c] rfl (by simp [encNc_one]) (by unfold maxLen; omega) (by omega)
  have hK1 := hk1 (fun k => (Value.slice ro row.length rc).ownBlock = some k) (fun k e => e)
  have hQ1 := hK1.heapOf hQ hrq
  have hM1 := h.keep hK1 hrb
  have hgq : g ≠ q := by rcases hg1 with e | e; exact fun e2 => hrq (by rw [← e, e2]); omega
  have hblt := h.lt
  have hgb : g ≠ b := by rcases hg1 with e | e; exact fun e2 => hrb (by rw [← e, e2]); omega
  obtain ⟨w2, hw2⟩ : ∃ w2, w2 = w1.setCell ⟨q, off + 1, none⟩ (.slice (some ⟨g, 0, none⟩) (row.length + 1) c2) := ⟨_, rfl⟩
  have hK2 : Keep (· = q) w1 w2 := by rw [hw2]; exact (Keep.refl (· = q) w1).setCell (p := ⟨q, off + 1, none⟩) (fun _ => rfl) _
  have hQ2 : w2.heap[q]? = some (.cells (cs.setIfInBounds (off + 1) (.slice (some ⟨g, 0, none⟩) (row.length + 1) c2)) T (0, 0)) := by rw [hw2]; exact heap_setCell_same w1 q (off + 1) cs T _ hQ1
  have hM2 := hM1.keep hK2 hbq
  have ho2 := own_keeps ho1 hK2 (fun k e => by simp only [Value.ownBlock, Option.some.injEq] at e; subst e; exact hgq)
  have c1 : w.cell? ⟨q, off + 1, none⟩ = some (.slice ro row.length rc) := by rw [cell_of_row w q (off + 1) _ _ _ hQ]; exact hq1
  have hap := ncApply_ok c b A l w2.drew (hM2.keep (Keep.refl (fun _ => False) w2).drew (fun h => h)) hok hs hl
  have hc1 : w1.cell? ⟨q, off + 1, none⟩ = some (.slice ro row.length rc) := by rw [cell_of_row w1 q (off + 1) _ _ _ hQ1]; exact hq1
  have hf1 : w1.frozen? ⟨q, off + 1, none⟩ = false := frozen_of_row w1 q (off + 1) _ _ hQ1
  have hc2 : w2.cell? ⟨q, off + 2, none⟩ = some (.map (some b)) := by
    rw [cell_of_row w2 q (off + 2) _ _ _ hQ2, Array.getElem?_setIfInBounds_ne (by omega)]
    exact hq2
  have FIN : Hid (∀ w3, Mp w3 b A (c.apply l) → Keep (· = b) w2.drew w3 → ∃ rv', w3.heap[q]? = some (.cells (cs.setIfInBounds (off + 1) rv') T (0, 0)) ∧ w3.ownsRow 0 180 1 rv' (row ++ [c]).length ((row ++ [c]).map (encNc A)) ∧ Mp w3 b A (c.apply l) ∧ Keep (fun k => k = q ∨ k = b ∨ (Value.slice ro row.length rc).ownBlock = some k) w w3 ∧ (∀ g, rv'.ownBlock = some g → (Value.slice ro row.length rc).ownBlock = some g ∨ w.heap.size ≤ g)) := by
    intro w3 hM3 hK3
    have hK3' : Keep (· = b) w2 w3 := ⟨hK3.os, hK3.tape, hK3.output, hK3.size, hK3.block⟩
    refine ⟨_, hK3'.heapOf hQ2 (Ne.symm hbq), ?_, hM3, ((hK1.mono (fun k e _ => .inr (.inr e))).trans hK2 (fun k e _ => .inl e)).trans hK3' (fun k e _ => .inr (.inl e)), ?_⟩
    · have := own_keeps ho2 hK3' (fun k e => by simp only [Value.ownBlock, Option.some.injEq] at e; subst e; exact hgb)
      simpa using this
    · intro k e
      simp only [Value.ownBlock, Option.some.injEq] at e
      subst e
      rcases hg1 with e | e
      · exact .inl e.symm
      · exact .inr e
  clear hM2 ho2 hQ2 hM1 hQ1 hK1 hK2 ho1 hk1 hQ h hrow hg1 hgq hgb hrb hrq hbq hq1 hq2 hrc hlt1
  cases c with
  | mk n k =>
    simp only [encNc] at hrun ⊢
    have hm : ∀ w : World, (method 377 141 (.agg #[encStr n, .pointer (some ⟨A k, 0, none⟩)]) "freight/disk.apply").run Tryz.prog w = .ok (176, .agg #[encStr n, .pointer (some ⟨A k, 0, none⟩)]) w := fun _ => by kernel_rfl
    have hna : ∀ w : World, (nilAhead 377 141 (.agg #[encStr n, .pointer (some ⟨A k, 0, none⟩)]) "freight/disk.apply").run Tryz.prog w = .ok (some false) w := fun _ => by kernel_rfl
    simp only [ncFunc, ncVal] at hap
    go_enter Tryz.func85, Tryz.ntmps85
    go_wp2_with (at_builtin; refine wpList_app_run rfl _ _ 93 93 rfl _ _ rfl rfl _ _ hrun ?_)
    rw [← hw2]
    clear hw2 hrun
    go_still_tail 8, Tryz.follows
    rw [World.drew_eq]
    go_wp2_with (go_at_call 176; refine hap.mono ?_; rintro e w3 ⟨rfl, hM3, hK3⟩)

    first | refine bodyPost_end (results_none rfl _ _ _) rfl ?_ | refine bodyPost_ret (results_none rfl _ _ _) rfl ?_
    exact ⟨rfl, FIN.out w3 hM3 hK3⟩
  | gv f t =>
    simp only [encNc] at hrun ⊢
    have hm : ∀ w : World, (method 377 164 (.agg #[encStr f, encStr t]) "freight/disk.apply").run Tryz.prog w = .ok (179, .agg #[encStr f, encStr t]) w := fun _ => by kernel_rfl
    have hna : ∀ w : World, (nilAhead 377 164 (.agg #[encStr f, encStr t]) "freight/disk.apply").run Tryz.prog w = .ok (some false) w := fun _ => by kernel_rfl
    simp only [ncFunc, ncVal] at hap
    go_enter Tryz.func85, Tryz.ntmps85
    go_wp2_with (at_builtin; refine wpList_app_run rfl _ _ 93 93 rfl _ _ rfl rfl _ _ hrun ?_)
    rw [← hw2]
    clear hw2 hrun
    go_still_tail 8, Tryz.follows
    rw [World.drew_eq]
    go_wp2_with (go_at_call 179; refine hap.mono ?_; rintro e w3 ⟨rfl, hM3, hK3⟩)

    first | refine bodyPost_end (results_none rfl _ _ _) rfl ?_ | refine bodyPost_ret (results_none rfl _ _ _) rfl ?_
    exact ⟨rfl, FIN.out w3 hM3 hK3⟩
  | tk n =>
    simp only [encNc] at hrun ⊢
    have hm : ∀ w : World, (method 377 166 (.agg #[encStr n]) "freight/disk.apply").run Tryz.prog w = .ok (180, .agg #[encStr n]) w := fun _ => by kernel_rfl
    have hna : ∀ w : World, (nilAhead 377 166 (.agg #[encStr n]) "freight/disk.apply").run Tryz.prog w = .ok (some false) w := fun _ => by kernel_rfl
    simp only [ncFunc, ncVal] at hap
    go_enter Tryz.func85, Tryz.ntmps85
    go_wp2_with (at_builtin; refine wpList_app_run rfl _ _ 93 93 rfl _ _ rfl rfl _ _ hrun ?_)
    rw [← hw2]
    clear hw2 hrun
    go_still_tail 8, Tryz.follows
    rw [World.drew_eq]
    go_wp2_with (go_at_call 180; refine hap.mono ?_; rintro e w3 ⟨rfl, hM3, hK3⟩)

    first | refine bodyPost_end (results_none rfl _ _ _) rfl ?_ | refine bodyPost_ret (results_none rfl _ _ _) rfl ?_
    exact ⟨rfl, FIN.out w3 hM3 hK3⟩
end Go.Proofs.YtemlbmamcbmnjaaGreatDoor
