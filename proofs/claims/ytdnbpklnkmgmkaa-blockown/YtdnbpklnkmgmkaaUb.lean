/-
  Contracts: press.unpacking: how it lies in memory; literal. (Written by tools/ub.py.)
-/
import Derived.Test.YtdnbpklnkmgmkaaUa
namespace Go.Proofs.Ytdnbpklnkmgmkaa
open Go.RowKit
set_option linter.unusedVariables false
set_option linter.unusedSimpArgs false

/-- An unpacking lies in block U: what is still to come, what came. -/
structure Up (w : World) (U : Nat) (ao : Option Addr) (rc : Nat) (xs : List UInt8) (bo : Option Addr) (bc : Nat) (out : List UInt8) (most : Nat) : Prop where
  row : w.heap[U]? = some (.cells #[.slice ao xs.length rc, .slice bo out.length bc, .int .i64 most] 83 (0, 0))
  rest : Sl w ao xs
  cap : xs.length ≤ rc
  ab : xs ≠ [] → ∀ a, ao = some a → a.block < U ∧ a.spot = none
  own : w.ownsRow (U + 1) 5 1 (.slice bo out.length bc) out.length (bys out)
  le : out.length ≤ most
  small : most ≤ 4096

section
variable {w : World} {U : Nat} {ao : Option Addr} {rc : Nat} {xs : List UInt8} {bo : Option Addr} {bc : Nat} {out : List UInt8} {most : Nat}

theorem Up.lt (h : Up w U ao rc xs bo bc out most) : U < w.heap.size := (Array.getElem?_eq_some_iff.1 h.row).1
theorem Up.c0 (h : Up w U ao rc xs bo bc out most) : w.cell? ⟨U, 0, none⟩ = some (.slice ao xs.length rc) := by rw [cell_of_row w U 0 _ _ _ h.row]; rfl
theorem Up.c1 (h : Up w U ao rc xs bo bc out most) : w.cell? ⟨U, 1, none⟩ = some (.slice bo out.length bc) := by rw [cell_of_row w U 1 _ _ _ h.row]; rfl
theorem Up.c2 (h : Up w U ao rc xs bo bc out most) : w.cell? ⟨U, 2, none⟩ = some (.int .i64 most) := by rw [cell_of_row w U 2 _ _ _ h.row]; rfl
theorem Up.fr (h : Up w U ao rc xs bo bc out most) (j : Nat) : w.frozen? ⟨U, j, none⟩ = false := frozen_of_row w U j _ _ h.row
theorem Up.ownlt (h : Up w U ao rc xs bo bc out most) (g : Nat) (hg : (Value.slice bo out.length bc).ownBlock = some g) : U + 1 ≤ g ∧ g < w.heap.size := h.own.lt g hg
/-- It stays where none of its blocks turns. -/
theorem Up.kept {w' : World} (h : Up w U ao rc xs bo bc out most) (hk : Kept [] w w') : Up w' U ao rc xs bo bc out most := by
  refine ⟨(hk.block U h.lt (by simp)).trans h.row, h.rest.kept hk (by simp), h.cap, h.ab, ?_, h.le, h.small⟩
  exact h.own.kept (row := none) ⟨hk.os, hk.tape, hk.output, hk.size, fun i hi _ => hk.block i hi (by simp)⟩ (by cases (Value.slice bo out.length bc).ownBlock <;> simp)
theorem Up.drewN (h : Up w U ao rc xs bo bc out most) (n : Nat) : Up (w.drewN n) U ao rc xs bo bc out most := h.kept ((Kept.refl [] w).drewN n)
theorem Up.drew (h : Up w U ao rc xs bo bc out most) : Up w.drew U ao rc xs bo bc out most := h.kept ((Kept.refl [] w).drew)

/-- What came is more now. -/
theorem Up.grown {w1 : World} {g c : Nat} {ys : List UInt8} (h : Up w U ao rc xs bo bc out most) (hg : w.grownBy w1 (Value.slice bo out.length bc).ownBlock) (ho : w1.ownsRow (U + 1) 5 1 (.slice (some ⟨g, 0, none⟩) (out ++ ys).length c) (out ++ ys).length (bys (out ++ ys))) (hm : (out ++ ys).length ≤ most) :
    Up (w1.setCell ⟨U, 1, none⟩ (.slice (some ⟨g, 0, none⟩) (out ++ ys).length c)) U ao rc xs (some ⟨g, 0, none⟩) c (out ++ ys) most ∧ Below U w (w1.setCell ⟨U, 1, none⟩ (.slice (some ⟨g, 0, none⟩) (out ++ ys).length c)) ∧ w1.cell? ⟨U, 1, none⟩ = some (.slice bo out.length bc) ∧ w1.frozen? ⟨U, 1, none⟩ = false := by
  have hne : (Value.slice bo out.length bc).ownBlock ≠ some U := fun e => by have := (h.ownlt U e).1; omega
  have hr : w1.heap[U]? = some (.cells #[.slice ao xs.length rc, .slice bo out.length bc, .int .i64 most] 83 (0, 0)) := (hg.block U h.lt (fun e => hne e.symm)).trans h.row
  have hk : Kept [U] w1 (w1.setCell ⟨U, 1, none⟩ (.slice (some ⟨g, 0, none⟩) (out ++ ys).length c)) := (Kept.refl [U] w1).setCell (by simp) _
  have hgU : U + 1 ≤ g := (ho.lt g rfl).1
  have hB : Below U w w1 := (Below.refl U w).grown hg (Nat.le_of_lt h.lt) (fun j hj => by have := (h.ownlt j hj).1; omega)
  refine ⟨⟨?_, ?_, h.cap, h.ab, ?_, hm, h.small⟩, ?_, by rw [cell_of_row w1 U 1 _ _ _ hr]; rfl, frozen_of_row w1 U 1 _ _ hr⟩
  · rw [heap_setCell_same w1 U 1 _ _ _ hr]; rfl
  · refine Sl.kept (l := [U]) (w := w1) ?_ hk (fun hne a ha => by have := (h.ab hne a ha).1; simp; omega)
    intro i hi
    obtain ⟨b', off', e', hc⟩ := h.rest i hi
    refine ⟨b', off', e', ?_⟩
    rw [hB.cell (p := ⟨b', off' + i, none⟩) (h.ab (by rintro rfl; simp at hi) _ e').1]
    exact hc
  · exact ho.kept (row := some U) ⟨hk.os, hk.tape, hk.output, hk.size, fun i hi hne => hk.block i hi (by simpa using fun e => hne (by rw [e]))⟩ (.inr (by simp [Value.ownBlock]; omega))
  · exact ⟨hk.os.trans hB.os, hk.tape.trans hB.tape, hk.output.trans hB.output, Nat.le_trans hB.size hk.size, fun i hi => (hk.block i (Nat.lt_of_lt_of_le (Nat.lt_trans hi h.lt) hB.size) (by simp; omega)).trans (hB.block i hi)⟩

/-- What is still to come is less now. -/
theorem Up.cut (h : Up w U ao rc xs bo bc out most) (m : Nat) (hm : m ≤ xs.length) (hm0 : 0 < m) :
    ∃ ao' rc', (∀ W, (Instr.slice 23 (.slice ao xs.length rc) (some (.int .i64 m)) none none).run Try.prog W = .ok (.slice ao' (xs.drop m).length rc') W) ∧ Up (w.setCell ⟨U, 0, none⟩ (.slice ao' (xs.drop m).length rc')) U ao' rc' (xs.drop m) bo bc out most ∧ Below U w (w.setCell ⟨U, 0, none⟩ (.slice ao' (xs.drop m).length rc')) := by
  have hne : xs ≠ [] := by rintro rfl; simp at hm; omega
  obtain ⟨b, off, rfl, hb, hc⟩ := h.rest.open hne
  have hbU := (h.ab hne _ rfl).1
  have hl : (xs.drop m).length = xs.length - m := by simp
  rw [hl]
  refine ⟨_, _, fun W => Try.cutFrom W b off xs.length rc m hm, ⟨?_, ?_, ?_, ?_, ?_, h.le, h.small⟩, ?_⟩
  · rw [heap_setCell_same w U 0 _ _ _ h.row, hl]; rfl
  · exact (h.rest.drop m rc hm h.cap).kept ((Kept.refl [U] w).setCell (by simp) _) (fun _ a ha => by split at ha <;> (cases ha; simp at hbU ⊢; omega))
  · have := h.cap; rw [hl]; omega
  · intro _ a ha
    split at ha <;> (cases ha; exact ⟨hbU, rfl⟩)
  · have hk : Kept [U] w (w.setCell ⟨U, 0, none⟩ (.slice (if rc = m then some ⟨b, off, none⟩ else some ⟨b, off + m, none⟩) (xs.length - m) (rc - m))) := (Kept.refl [U] w).setCell (by simp) _
    exact h.own.kept (row := some U) ⟨hk.os, hk.tape, hk.output, hk.size, fun i hi hne => hk.block i hi (by simpa using fun e => hne (by rw [e]))⟩ (by cases hv : (Value.slice bo out.length bc).ownBlock with | none => simp | some g => exact .inr (by have := (h.ownlt g hv).1; simp; omega))
  · have hk : Kept [U] w (w.setCell ⟨U, 0, none⟩ (.slice (if rc = m then some ⟨b, off, none⟩ else some ⟨b, off + m, none⟩) (xs.length - m) (rc - m))) := (Kept.refl [U] w).setCell (by simp) _
    exact hk.below (Nat.le_of_lt h.lt) (by simp)
end

/-- literal: no more bytes may come. -/
theorem ulit_full {w : World} {U : Nat} {ao : Option Addr} {rc : Nat} {xs : List UInt8} {bo : Option Addr} {bc : Nat} {out : List UInt8} {most : Nat} (h : Up w U ao rc xs bo bc out most) (hf : out.length = most) :
    Calls Try.prog 41 #[.pointer (some ⟨U, 0, none⟩)] w fun e w' => e = .returned (.int .i64 41) ∧ Kept [] w w' := by
  have c1 := h.c1
  have c2 := h.c2
  have hq : ((out.length : Int) == (most : Int)) = true := by simp [hf]
  clear h
  go_enter Try.func41, Try.ntmps41
  go_wp2
  go_quiet (fail)
  have K1 : Hid (Kept [] w (w.drewN nq)) := (Kept.refl _ w).drewN nq
  go_wp2
  go_ret
  exact ⟨rfl, K1.out⟩

set_option maxHeartbeats 1000000 in
set_option maxRecDepth 100000 in
theorem ulit_ok {w : World} {U : Nat} {ao : Option Addr} {rc : Nat} {x : UInt8} {r : List UInt8} {bo : Option Addr} {bc : Nat} {out : List UInt8} {most : Nat} (h : Up w U ao rc (x :: r) bo bc out most) (hf : out.length ≠ most) :
    Calls Try.prog 41 #[.pointer (some ⟨U, 0, none⟩)] w fun e w' => e = .returned (.int .i64 0) ∧ (∃ ao' rc' bo' bc', Up w' U ao' rc' r bo' bc' (out ++ [x]) most) ∧ Below U w w' := by
  have c1 := h.c1
  have c2 := h.c2
  have hq : ((out.length : Int) == (most : Int)) = false := by simp; omega
  have H : Hid (Up w U ao rc (x :: r) bo bc out most) := h
  have HF : Hid (out.length ≠ most) := hf
  clear h hf
  go_enter Try.func41, Try.ntmps41
  go_wp2
  go_quiet (fail)
  have H1 : Hid (Up (w.drewN nq) U ao rc (x :: r) bo bc out most) := H.out.drewN nq
  have K1 : Hid (Below U w (w.drewN nq)) := ((Kept.refl [] w).drewN nq).below (Nat.le_of_lt H.out.lt) (by simp)
  clear H c1 c2
  generalize w.drewN nq = w1 at H1 K1 ⊢
  go_wp2
  clear hq
  obtain ⟨rb, ro, hao, hrb, hcell⟩ := H1.out.rest.open (by simp)
  subst hao
  have c0 := H1.out.c0
  have c1 := H1.out.c1
  have cx := hcell 0 (by simp)
  simp only [Nat.add_zero, List.getD_cons_zero] at cx
  have hUl := H1.out.lt
  simp only [List.length_cons] at c0
  clear hcell
  refine wp_region_late (fun w' => Kept [] w1 w') (fun i => decide (12 ≤ i)) (by kernel_rfl) ?_
  have h0 : Kept [] w1 w1.drew := (Kept.refl [] w1).drew
  generalize World.drew w1 = v0 at h0 ⊢
  refine wpAnyL_free (i := 0) (v := .pointer (some ⟨U, 0, none⟩)) rfl (by kernel_rfl) (by kernel_rfl) (by kernel_rfl) (fun _ _ _ h => h) (Or.inl ⟨by rfl, fun w _ => by go_simp⟩) ?_
  try simp only [List.getElem_toArray, List.getElem_cons_zero, List.getElem_cons_succ, Act.put, List.setIfInBounds_toArray, List.set_cons_zero, List.set_cons_succ]
  refine wpAnyL_free (i := 1) (v := .pointer (some ⟨U, 0, none⟩)) rfl (by kernel_rfl) (by kernel_rfl) (by kernel_rfl) (fun _ _ _ h => h) (Or.inl ⟨by rfl, fun w _ => by go_simp⟩) ?_
  try simp only [List.getElem_toArray, List.getElem_cons_zero, List.getElem_cons_succ, Act.put, List.setIfInBounds_toArray, List.set_cons_zero, List.set_cons_succ]
  refine wpAnyL_free (i := 2) (v := .pointer (some ⟨U, 0, none⟩)) rfl (by kernel_rfl) (by kernel_rfl) (by kernel_rfl) (fun _ _ _ h => h) (Or.inl ⟨by rfl, fun w _ => by go_simp⟩) ?_
  try simp only [List.getElem_toArray, List.getElem_cons_zero, List.getElem_cons_succ, Act.put, List.setIfInBounds_toArray, List.set_cons_zero, List.set_cons_succ]
  refine wpAnyL_free (i := 3) (v := .pointer (some ⟨U, 1, none⟩)) rfl (by kernel_rfl) (by kernel_rfl) (by kernel_rfl) (fun _ _ _ h => h) (Or.inl ⟨by rfl, fun w _ => by go_simp⟩) ?_
  try simp only [List.getElem_toArray, List.getElem_cons_zero, List.getElem_cons_succ, Act.put, List.setIfInBounds_toArray, List.set_cons_zero, List.set_cons_succ]
  refine wpAnyL_take (i := 4) (v := .slice bo out.length bc) rfl (by kernel_rfl) (by kernel_rfl) (by kernel_rfl) (by kernel_rfl) (by kernel_rfl) (fun _ _ _ h => h) (Or.inl ⟨by rfl, fun w hSw => by have c := Kept.cellOf hSw c1 (by simp); go_simp⟩) h0 ?_
  try simp only [List.getElem_toArray, List.getElem_cons_zero, List.getElem_cons_succ, Act.put, List.setIfInBounds_toArray, List.set_cons_zero, List.set_cons_succ]
  refine wpAnyL_free (i := 5) (v := .pointer (some ⟨U, 0, none⟩)) rfl (by kernel_rfl) (by kernel_rfl) (by kernel_rfl) (fun _ _ _ h => h) (Or.inl ⟨by rfl, fun w _ => by go_simp⟩) ?_
  try simp only [List.getElem_toArray, List.getElem_cons_zero, List.getElem_cons_succ, Act.put, List.setIfInBounds_toArray, List.set_cons_zero, List.set_cons_succ]
  refine wpAnyL_free (i := 6) (v := .pointer (some ⟨U, 0, none⟩)) rfl (by kernel_rfl) (by kernel_rfl) (by kernel_rfl) (fun _ _ _ h => h) (Or.inl ⟨by rfl, fun w _ => by go_simp⟩) ?_
  try simp only [List.getElem_toArray, List.getElem_cons_zero, List.getElem_cons_succ, Act.put, List.setIfInBounds_toArray, List.set_cons_zero, List.set_cons_succ]
  refine wpAnyL_free (i := 7) (v := .pointer (some ⟨U, 0, none⟩)) rfl (by kernel_rfl) (by kernel_rfl) (by kernel_rfl) (fun _ _ _ h => h) (Or.inl ⟨by rfl, fun w _ => by go_simp⟩) ?_
  try simp only [List.getElem_toArray, List.getElem_cons_zero, List.getElem_cons_succ, Act.put, List.setIfInBounds_toArray, List.set_cons_zero, List.set_cons_succ]
  refine wpAnyL_take (i := 8) (v := .slice (some ⟨rb, ro, none⟩) (r.length + 1) rc) rfl (by kernel_rfl) (by kernel_rfl) (by kernel_rfl) (by kernel_rfl) (by kernel_rfl) (fun _ _ _ h => h) (Or.inl ⟨by rfl, fun w hSw => by have c := Kept.cellOf hSw c0 (by simp); go_simp⟩) h0 ?_
  try simp only [List.getElem_toArray, List.getElem_cons_zero, List.getElem_cons_succ, Act.put, List.setIfInBounds_toArray, List.set_cons_zero, List.set_cons_succ]
  refine wpAnyL_free (i := 9) (v := .pointer (some ⟨rb, ro, none⟩)) rfl (by kernel_rfl) (by kernel_rfl) (by kernel_rfl) (fun _ _ _ h => h) (Or.inl ⟨by rfl, fun w _ => by go_simp⟩) ?_
  try simp only [List.getElem_toArray, List.getElem_cons_zero, List.getElem_cons_succ, Act.put, List.setIfInBounds_toArray, List.set_cons_zero, List.set_cons_succ]
  refine wpAnyL_take (i := 10) (v := .int .u8 x.toNat) rfl (by kernel_rfl) (by kernel_rfl) (by kernel_rfl) (by kernel_rfl) (by kernel_rfl) (fun _ _ _ h => h) (Or.inl ⟨by rfl, fun w hSw => by have c := Kept.cellOf hSw cx (by simp); go_simp⟩) h0 ?_
  try simp only [List.getElem_toArray, List.getElem_cons_zero, List.getElem_cons_succ, Act.put, List.setIfInBounds_toArray, List.set_cons_zero, List.set_cons_succ]
  refine wpAnyL_one (i := 11) (by kernel_rfl) rfl (fun K hK => ?_)
  rw [if_pos (by rfl)]
  go_simp
  refine hK.out _ _ (fun _ _ => h0.alloc _) ?_
  clear hK K
  have h1 : Kept [] w1 (v0.alloc (.cells #[.int .u8 x.toNat] 5)) := h0.alloc _
  try simp only [List.getElem_toArray, List.getElem_cons_zero, List.getElem_cons_succ, Act.put, List.setIfInBounds_toArray, List.set_cons_zero, List.set_cons_succ]
  have H2 : Hid (Up (v0.alloc (.cells #[.int .u8 x.toNat] 5)) U (some ⟨rb, ro, none⟩) rc (x :: r) bo bc out most) := H1.out.kept h1
  have B2 : Hid (Below U w (v0.alloc (.cells #[.int .u8 x.toNat] 5))) := K1.out.trans (h1.below (Nat.le_of_lt hUl) (by simp))
  have y2 : Sl (v0.alloc (.cells #[.int .u8 x.toNat] 5)) (some ⟨v0.heap.size, 0, none⟩) [x] := Sl.of (fun i hi => by
    obtain rfl : i = 0 := by simpa using hi
    rw [World.cell?_alloc_new]; rfl)
  obtain ⟨g, c, w3, hrun, hown3, hg3⟩ := run_append1 _ (U + 1) bo bc out [x] v0.heap.size 1 H2.out.own y2 rfl (by decide) (by have := H1.out.le; have := H1.out.small; omega) (by have := H2.out.lt; omega)
  have hfin := H2.out.grown hg3 hown3 (by have := H1.out.le; have := HF.out; simp; omega)
  refine wpAnyL_one (i := 12) (by kernel_rfl) rfl (fun K hK => ?_)
  rw [if_pos (by rfl)]
  refine wp_append_run (.tmp 17) (.tmp 24) 23 rfl _ _ rfl rfl _ _ hrun ?_
  refine hK.out _ _ (fun _ h => by cases h) ?_
  clear hK K
  try simp only [List.getElem_toArray, List.getElem_cons_zero, List.getElem_cons_succ, Act.put, List.setIfInBounds_toArray, List.set_cons_zero, List.set_cons_succ]
  obtain ⟨hU4, hB4, c4, f4⟩ := hfin
  have HU4 : Hid (Up (w3.setCell ⟨U, 1, none⟩ (.slice (some ⟨g, 0, none⟩) (out ++ [x]).length c)) U (some ⟨rb, ro, none⟩) rc (x :: r) (some ⟨g, 0, none⟩) c (out ++ [x]) most ∧ Below U w (w3.setCell ⟨U, 1, none⟩ (.slice (some ⟨g, 0, none⟩) (out ++ [x]).length c))) := ⟨hU4, B2.out.trans hB4⟩
  clear hU4 hB4 H2 B2 y2 hrun hown3 hg3 h0 h1 H1 K1 c0 c1 cx hUl
  refine wpAnyL_one (i := 13) (by kernel_rfl) rfl (fun K hK => ?_)
  rw [if_pos (by rfl)]
  go_simp
  refine hK.out _ _ (fun _ h => by cases h) ?_
  clear hK K
  try simp only [List.getElem_toArray, List.getElem_cons_zero, List.getElem_cons_succ, Act.put, List.setIfInBounds_toArray, List.set_cons_zero, List.set_cons_succ]
  refine wpAnyL_one (i := 14) (by kernel_rfl) rfl (fun K hK => ?_)
  rw [if_pos (by rfl)]
  go_simp
  refine hK.out _ _ (fun _ h => by cases h) ?_
  clear hK K
  try simp only [List.getElem_toArray, List.getElem_cons_zero, List.getElem_cons_succ, Act.put, List.setIfInBounds_toArray, List.set_cons_zero, List.set_cons_succ]
  refine wpAnyL_one (i := 15) (by kernel_rfl) rfl (fun K hK => ?_)
  rw [if_pos (by rfl)]
  go_simp
  refine hK.out _ _ (fun _ h => by cases h) ?_
  clear hK K
  try simp only [List.getElem_toArray, List.getElem_cons_zero, List.getElem_cons_succ, Act.put, List.setIfInBounds_toArray, List.set_cons_zero, List.set_cons_succ]
  refine wpAnyL_done (by kernel_rfl) ?_ _
  rw [show (out ++ [x]).length = out.length + 1 by simp] at HU4
  generalize w3.setCell ⟨U, 1, none⟩ (.slice (some ⟨g, 0, none⟩) (out.length + 1) c) = w4 at HU4 ⊢
  have c0 := HU4.out.1.c0
  have f0 := HU4.out.1.fr 0
  obtain ⟨ao', rc', hcut, hU5, hB5⟩ := HU4.out.1.cut 1 (by simp) (by decide)
  simp only [List.length_cons, List.drop_succ_cons, List.drop_zero] at hcut hU5 hB5 c0
  have hcut1 : ∀ W, (Instr.slice 23 (.slice (some ⟨rb, ro, none⟩) (r.length + 1) rc) (some (.int .i64 1)) none none).run Try.prog W = .ok (.slice ao' r.length rc') W := hcut
  clear hcut
  have HU5 : Hid (Up (w4.setCell ⟨U, 0, none⟩ (.slice ao' r.length rc')) U ao' rc' r (some ⟨g, 0, none⟩) c (out ++ [x]) most ∧ Below U w (w4.setCell ⟨U, 0, none⟩ (.slice ao' r.length rc'))) := ⟨hU5, HU4.out.2.trans hB5⟩
  clear hU5 hB5 HU4 c4 f4
  go_wp2
  go_ret
  exact ⟨rfl, ⟨_, _, _, _, HU5.out.1⟩, HU5.out.2⟩

end Go.Proofs.Ytdnbpklnkmgmkaa
