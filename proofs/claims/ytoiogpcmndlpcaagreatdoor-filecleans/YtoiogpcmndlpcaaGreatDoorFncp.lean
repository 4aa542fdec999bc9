import Derived.Test.YtoiogpcmndlpcaaGreatDoorFnbp
import Derived.Test.YtoiogpcmndlpcaaGreatDoorFnap
import Derived.Test.YtoiogpcmndlpcaaGreatDoorJpp
import Derived.Defers
import Derived.Recover
import Derived.Scope
namespace Go.Proofs.YtoiogpcmndlpcaaGreatDoor
section
open Go.RowKit Dsk
set_option linter.unusedVariables false
set_option linter.unusedSimpArgs false

theorem pd_lim {w : World} {p : Nat} {S : Ds} {A : Nat → Nat} {o : Lab} (h : PD w p S A o) {b : Nat} (hb : o b ≠ 0) : b < w.heap.size := by
  obtain ⟨_, _, _, _, hz⟩ := h
  exact hz.lim b hb
theorem ax_free {X : Nat → Prop} {wa w w' : World} {p : Nat} {S : Ds} {N : Nat} (h : Ax X wa w p S N) {Y F : Nat → Prop} (hk : Keep F w w') (hF : ∀ b, b < w.heap.size → F b → X b) (hY : ∀ b, Y b → (X b ∨ w.heap.size ≤ b) ∧ b < w'.heap.size) : Ax Y w' w' p S N := by
  obtain ⟨A, o, h1, h2, h3, h4⟩ := h
  refine ⟨A, o, h1.keep hk (fun b hb hf => hb (h2 b (hF b (pd_lim h1 hb) hf)).1), fun b hb => ?_, Keep.refl _ _, h4⟩
  obtain ⟨h7, h8⟩ := hY b hb
  rcases h7 with h7 | h7
  · exact ⟨(h2 b h7).1, h8⟩
  · exact ⟨Classical.byContradiction fun hn => by have := pd_lim h1 hn; omega, h8⟩
/-- A draft beside a disk. -/
structure Drf (X : Nat → Prop) (wa w : World) (p : Nat) (S : Ds) (N : Nat) (fb : Nat) (name plus : By) (c : Bool) : Prop where
  ax : Ax (fun b => X b ∨ b = fb) w w p S N
  cell : w.heap[fb]? = some (.cells #[.pointer (some ⟨p, 0, none⟩), encStr name, encStr plus, .bool c] 115 (0, 0))
  keep : Keep (fun b => ¬ X b) wa w
  nx : ¬ X fb
  lt : ∀ b, X b → b < wa.heap.size
section
variable {X : Nat → Prop} {wa w w' : World} {p : Nat} {S : Ds} {N : Nat} {fb : Nat} {name plus : By} {c : Bool}
theorem Drf.next (h : Drf X wa w p S N fb name plus c) {S' : Ds} {N' : Nat} (hx : Ax (fun b => X b ∨ b = fb) w w' p S' N') : Drf X wa w' p S' N' fb name plus c := by
  have hk := hx.old
  exact ⟨hx.here, hk.heapOf h.cell (fun hn => hn (.inr rfl)), h.keep.trans (hk.mono (fun b hb _ hX => hb (.inl hX))) (fun b hb _ => hb), h.nx, h.lt⟩
theorem Drf.kept (h : Drf X wa w p S N fb name plus c) (hk : Kept [] w w') : Drf X wa w' p S N fb name plus c := h.next (h.ax.kept hk)
theorem Drf.mono {M : Nat} (h : Drf X wa w p S N fb name plus c) (hm : N ≤ M) : Drf X wa w p S M fb name plus c := ⟨h.ax.mono hm, h.cell, h.keep, h.nx, h.lt⟩
theorem Drf.mark (h : Drf X wa w p S N fb name plus c) : Drf X wa (w.setCell ⟨fb, 3, none⟩ (.bool true)) p S N fb name plus true := by
  have hk : Keep (fun b => b = fb) w (w.setCell ⟨fb, 3, none⟩ (.bool true)) := (Keep.refl (fun b => b = fb) w).setCell (p := ⟨fb, 3, none⟩) (fun _ => rfl) _
  have hfl := (Array.getElem?_eq_some_iff.1 h.cell).1
  refine ⟨ax_free h.ax hk (fun b _ hb => .inr hb) (fun b hb => ⟨.inl hb, ?_⟩), ?_, h.keep.trans (hk.mono (fun b hb _ hX => h.nx (hb ▸ hX))) (fun b hb _ => hb), h.nx, h.lt⟩
  · rcases hb with hb | hb
    · exact Nat.lt_of_lt_of_le (h.lt b hb) (Nat.le_trans h.keep.size hk.size)
    · rw [hb]; exact Nat.lt_of_lt_of_le hfl hk.size
  · rw [heap_setCell_same _ _ _ _ _ _ h.cell]
    rfl
theorem Drf.begin (h : Ax X wa w p S N) (name plus : By) : Drf X wa (w.alloc (.cells #[.pointer (some ⟨p, 0, none⟩), encStr name, encStr plus, .bool false] 115)) p S N w.heap.size name plus false := by
  have hb := (MapKept.heap_alloc w (.cells #[.pointer (some ⟨p, 0, none⟩), encStr name, encStr plus, .bool false] 115)).1
  have hk : Kept [] w (w.alloc (.cells #[.pointer (some ⟨p, 0, none⟩), encStr name, encStr plus, .bool false] 115)) := (Kept.refl [] w).alloc _
  have hlt : ∀ b, X b → b < wa.heap.size := fun b hb => by obtain ⟨A, o, h1, h2, h3, h4⟩ := h; exact (h2 b hb).2
  have hfl := (Array.getElem?_eq_some_iff.1 hb).1
  refine ⟨ax_free h (Keep.ofNone (F := fun _ => False) hk) (fun _ _ h => h.elim) (fun b hb2 => ?_), hb, h.old.kept hk, fun hX => ?_, hlt⟩
  · rcases hb2 with hb2 | hb2
    · exact ⟨.inl hb2, Nat.lt_of_lt_of_le (hlt b hb2) (Nat.le_trans h.old.size hk.size)⟩
    · exact ⟨.inr (by omega), by omega⟩
  · have h1 := hlt _ hX
    have h2 := h.old.size
    omega
theorem Drf.end (h : Drf X wa w p S N fb name plus c) : Ax X wa w p S N := by
  obtain ⟨A, o, h1, h2, h3, h4⟩ := h.ax
  exact ⟨A, o, h1, fun b hb => ⟨(h2 b (.inl hb)).1, h.lt b hb⟩, h.keep, h4⟩
theorem Drf.k0 (h : Drf X wa w p S N fb name plus c) : w.cell? ⟨fb, 0, none⟩ = some (.pointer (some ⟨p, 0, none⟩)) := by rw [cell_of_row _ _ _ _ _ _ h.cell]; rfl
theorem Drf.k1 (h : Drf X wa w p S N fb name plus c) : w.cell? ⟨fb, 1, none⟩ = some (encStr name) := by rw [cell_of_row _ _ _ _ _ _ h.cell]; rfl
theorem Drf.k2 (h : Drf X wa w p S N fb name plus c) : w.cell? ⟨fb, 2, none⟩ = some (encStr plus) := by rw [cell_of_row _ _ _ _ _ _ h.cell]; rfl
theorem Drf.k3 (h : Drf X wa w p S N fb name plus c) : w.cell? ⟨fb, 3, none⟩ = some (.bool c) := by rw [cell_of_row _ _ _ _ _ _ h.cell]; rfl
theorem Drf.fr (h : Drf X wa w p S N fb name plus c) (j : Nat) : w.frozen? ⟨fb, j, none⟩ = false := frozen_of_row _ _ _ _ _ h.cell

set_option maxHeartbeats 4000000 in
set_option maxRecDepth 100000 in
/-- No draft lies there. -/
theorem clear_none (h : Drf X wa w p S N fb name plus c) (hpl : plus.length ≤ 4611686018427387904) (h53 : (S.find plus).1 = 53) :
    Calls Tryz.prog 127 #[.pointer (some ⟨fb, 0, none⟩)] w fun e w' => e = .returned (.int .i64 0) ∧ Drf X wa w' p S N fb name plus c := by
  have k0 := h.k0
  have k2 := h.k2
  have HD := hide h
  have H53 := hide h53
  clear h h53
  go_enter Tryz.func127, Tryz.ntmps127
  go_upto_region 1 with (fail)
  refine wp_region_late (fun w' => Kept [] w w') (fun i => i == 8) (by kernel_rfl) ?_
  have h0 : Kept [] w w.drew := (Kept.refl [] w).drew
  generalize World.drew w = v0 at h0 ⊢
  refine wpAnyL_free (i := 0) (v := .pointer (some ⟨fb, 0, none⟩)) rfl (by kernel_rfl) (by kernel_rfl) (by kernel_rfl) (fun _ _ _ h => h) (Or.inl ⟨by rfl, fun w _ => by go_simp⟩) ?_
  try simp only [List.getElem_toArray, List.getElem_cons_zero, List.getElem_cons_succ, Act.put, List.setIfInBounds_toArray, List.set_cons_zero, List.set_cons_succ]
  refine wpAnyL_free (i := 1) (v := .pointer (some ⟨fb, 0, none⟩)) rfl (by kernel_rfl) (by kernel_rfl) (by kernel_rfl) (fun _ _ _ h => h) (Or.inl ⟨by rfl, fun w _ => by go_simp⟩) ?_
  try simp only [List.getElem_toArray, List.getElem_cons_zero, List.getElem_cons_succ, Act.put, List.setIfInBounds_toArray, List.set_cons_zero, List.set_cons_succ]
  refine wpAnyL_free (i := 2) (v := .pointer (some ⟨fb, 0, none⟩)) rfl (by kernel_rfl) (by kernel_rfl) (by kernel_rfl) (fun _ _ _ h => h) (Or.inl ⟨by rfl, fun w _ => by go_simp⟩) ?_
  try simp only [List.getElem_toArray, List.getElem_cons_zero, List.getElem_cons_succ, Act.put, List.setIfInBounds_toArray, List.set_cons_zero, List.set_cons_succ]
  refine wpAnyL_take (i := 3) (v := .pointer (some ⟨p, 0, none⟩)) rfl (by kernel_rfl) (by kernel_rfl) (by kernel_rfl) (by kernel_rfl) (by kernel_rfl) (fun _ _ _ h => h) (Or.inl ⟨by rfl, fun w hSw => by have c := Kept.cellOf hSw k0 (by simp); go_simp⟩) h0 ?_
  try simp only [List.getElem_toArray, List.getElem_cons_zero, List.getElem_cons_succ, Act.put, List.setIfInBounds_toArray, List.set_cons_zero, List.set_cons_succ]
  refine wpAnyL_free (i := 4) (v := .pointer (some ⟨fb, 0, none⟩)) rfl (by kernel_rfl) (by kernel_rfl) (by kernel_rfl) (fun _ _ _ h => h) (Or.inl ⟨by rfl, fun w _ => by go_simp⟩) ?_
  try simp only [List.getElem_toArray, List.getElem_cons_zero, List.getElem_cons_succ, Act.put, List.setIfInBounds_toArray, List.set_cons_zero, List.set_cons_succ]
  refine wpAnyL_free (i := 5) (v := .pointer (some ⟨fb, 0, none⟩)) rfl (by kernel_rfl) (by kernel_rfl) (by kernel_rfl) (fun _ _ _ h => h) (Or.inl ⟨by rfl, fun w _ => by go_simp⟩) ?_
  try simp only [List.getElem_toArray, List.getElem_cons_zero, List.getElem_cons_succ, Act.put, List.setIfInBounds_toArray, List.set_cons_zero, List.set_cons_succ]
  refine wpAnyL_free (i := 6) (v := .pointer (some ⟨fb, 2, none⟩)) rfl (by kernel_rfl) (by kernel_rfl) (by kernel_rfl) (fun _ _ _ h => h) (Or.inl ⟨by rfl, fun w _ => by go_simp⟩) ?_
  try simp only [List.getElem_toArray, List.getElem_cons_zero, List.getElem_cons_succ, Act.put, List.setIfInBounds_toArray, List.set_cons_zero, List.set_cons_succ]
  refine wpAnyL_take (i := 7) (v := encStr plus) rfl (by kernel_rfl) (by kernel_rfl) (by kernel_rfl) (by kernel_rfl) (by kernel_rfl) (fun _ _ _ h => h) (Or.inl ⟨by rfl, fun w hSw => by have c := Kept.cellOf hSw k2 (by simp); go_simp⟩) h0 ?_
  try simp only [List.getElem_toArray, List.getElem_cons_zero, List.getElem_cons_succ, Act.put, List.setIfInBounds_toArray, List.set_cons_zero, List.set_cons_succ]
  have hcc := size_ax (HD.out.kept h0).ax plus hpl
  refine wpAnyL_one (i := 8) (by kernel_rfl) rfl (fun K' hK => ?_)
  rw [if_pos (by rfl)]
  go_simp
  refine hcc.mono ?_
  rintro e w2 ⟨rfl, hww⟩; obtain rfl := hww.symm
  rw [H53.out]
  refine hK.out _ _ (fun _ h => by cases h) ?_
  clear hK K' hcc
  try simp only [List.getElem_toArray, List.getElem_cons_zero, List.getElem_cons_succ, Act.put, List.setIfInBounds_toArray, List.set_cons_zero, List.set_cons_succ]
  refine wpAnyL_free (i := 9) (v := .tuple #[.int .i64 (S.size plus), .int .i64 53]) rfl (by kernel_rfl) (by kernel_rfl) (by kernel_rfl) (fun _ _ _ h => h) (Or.inl ⟨by rfl, fun w _ => by go_simp⟩) ?_
  try simp only [List.getElem_toArray, List.getElem_cons_zero, List.getElem_cons_succ, Act.put, List.setIfInBounds_toArray, List.set_cons_zero, List.set_cons_succ]
  refine wpAnyL_free (i := 10) (v := .int .i64 (S.size plus)) rfl (by kernel_rfl) (by kernel_rfl) (by kernel_rfl) (fun _ _ _ h => h) (Or.inl ⟨by rfl, fun w _ => by go_simp⟩) ?_
  try simp only [List.getElem_toArray, List.getElem_cons_zero, List.getElem_cons_succ, Act.put, List.setIfInBounds_toArray, List.set_cons_zero, List.set_cons_succ]
  refine wpAnyL_free (i := 11) (v := .int .i64 53) rfl (by kernel_rfl) (by kernel_rfl) (by kernel_rfl) (fun _ _ _ h => h) (Or.inl ⟨by rfl, fun w _ => by go_simp⟩) ?_
  try simp only [List.getElem_toArray, List.getElem_cons_zero, List.getElem_cons_succ, Act.put, List.setIfInBounds_toArray, List.set_cons_zero, List.set_cons_succ]
  refine wpAnyL_free (i := 12) (v := .int .i64 (S.size plus)) rfl (by kernel_rfl) (by kernel_rfl) (by kernel_rfl) (fun _ _ _ h => h) (Or.inl ⟨by rfl, fun w _ => by go_simp⟩) ?_
  try simp only [List.getElem_toArray, List.getElem_cons_zero, List.getElem_cons_succ, Act.put, List.setIfInBounds_toArray, List.set_cons_zero, List.set_cons_succ]
  refine wpAnyL_free (i := 13) (v := .int .i64 53) rfl (by kernel_rfl) (by kernel_rfl) (by kernel_rfl) (fun _ _ _ h => h) (Or.inl ⟨by rfl, fun w _ => by go_simp⟩) ?_
  try simp only [List.getElem_toArray, List.getElem_cons_zero, List.getElem_cons_succ, Act.put, List.setIfInBounds_toArray, List.set_cons_zero, List.set_cons_succ]
  refine wpAnyL_done (by kernel_rfl) ?_ _
  go_wp2
  go_ret
  exact ⟨rfl, HD.out.kept h0⟩

set_option maxHeartbeats 4000000 in
set_option maxRecDepth 100000 in
theorem begin_fine (h : Drf X wa w p S N fb name plus c) (hN : N ≤ 268435456) (hpl : plus.length ≤ 4611686018427387904) (h53 : (S.find plus).1 = 53) (hc : (S.create plus).1 = 0) :
    Calls Tryz.prog 111 #[.pointer (some ⟨fb, 0, none⟩)] w fun e w' => e = .returned (.int .i64 0) ∧ Drf X wa w' p (S.create plus).2 (N + 1) fb name plus true := by
  have hcl := clear_none h hpl h53
  have HC := hide hc
  clear h h53 hc
  go_enter Tryz.func111, Tryz.ntmps111
  go_upto_region 4 with (go_at_call 127; refine hcl.mono ?_; rintro e w1 ⟨rfl, hd⟩; have HD := hide hd; clear hcl hd)
  have k0 := HD.out.k0
  have k2 := HD.out.k2
  refine wp_region_late (fun w' => Kept [] w1 w') (fun i => i == 8) (by kernel_rfl) ?_
  have h0 : Kept [] w1 w1.drew := (Kept.refl [] w1).drew
  generalize World.drew w1 = v0 at h0 ⊢
  refine wpAnyL_free (i := 0) (v := .pointer (some ⟨fb, 0, none⟩)) rfl (by kernel_rfl) (by kernel_rfl) (by kernel_rfl) (fun _ _ _ h => h) (Or.inl ⟨by rfl, fun w _ => by go_simp⟩) ?_
  try simp only [List.getElem_toArray, List.getElem_cons_zero, List.getElem_cons_succ, Act.put, List.setIfInBounds_toArray, List.set_cons_zero, List.set_cons_succ]
  refine wpAnyL_free (i := 1) (v := .pointer (some ⟨fb, 0, none⟩)) rfl (by kernel_rfl) (by kernel_rfl) (by kernel_rfl) (fun _ _ _ h => h) (Or.inl ⟨by rfl, fun w _ => by go_simp⟩) ?_
  try simp only [List.getElem_toArray, List.getElem_cons_zero, List.getElem_cons_succ, Act.put, List.setIfInBounds_toArray, List.set_cons_zero, List.set_cons_succ]
  refine wpAnyL_free (i := 2) (v := .pointer (some ⟨fb, 0, none⟩)) rfl (by kernel_rfl) (by kernel_rfl) (by kernel_rfl) (fun _ _ _ h => h) (Or.inl ⟨by rfl, fun w _ => by go_simp⟩) ?_
  try simp only [List.getElem_toArray, List.getElem_cons_zero, List.getElem_cons_succ, Act.put, List.setIfInBounds_toArray, List.set_cons_zero, List.set_cons_succ]
  refine wpAnyL_take (i := 3) (v := .pointer (some ⟨p, 0, none⟩)) rfl (by kernel_rfl) (by kernel_rfl) (by kernel_rfl) (by kernel_rfl) (by kernel_rfl) (fun _ _ _ h => h) (Or.inl ⟨by rfl, fun w hSw => by have c := Kept.cellOf hSw k0 (by simp); go_simp⟩) h0 ?_
  try simp only [List.getElem_toArray, List.getElem_cons_zero, List.getElem_cons_succ, Act.put, List.setIfInBounds_toArray, List.set_cons_zero, List.set_cons_succ]
  refine wpAnyL_free (i := 4) (v := .pointer (some ⟨fb, 0, none⟩)) rfl (by kernel_rfl) (by kernel_rfl) (by kernel_rfl) (fun _ _ _ h => h) (Or.inl ⟨by rfl, fun w _ => by go_simp⟩) ?_
  try simp only [List.getElem_toArray, List.getElem_cons_zero, List.getElem_cons_succ, Act.put, List.setIfInBounds_toArray, List.set_cons_zero, List.set_cons_succ]
  refine wpAnyL_free (i := 5) (v := .pointer (some ⟨fb, 0, none⟩)) rfl (by kernel_rfl) (by kernel_rfl) (by kernel_rfl) (fun _ _ _ h => h) (Or.inl ⟨by rfl, fun w _ => by go_simp⟩) ?_
  try simp only [List.getElem_toArray, List.getElem_cons_zero, List.getElem_cons_succ, Act.put, List.setIfInBounds_toArray, List.set_cons_zero, List.set_cons_succ]
  refine wpAnyL_free (i := 6) (v := .pointer (some ⟨fb, 2, none⟩)) rfl (by kernel_rfl) (by kernel_rfl) (by kernel_rfl) (fun _ _ _ h => h) (Or.inl ⟨by rfl, fun w _ => by go_simp⟩) ?_
  try simp only [List.getElem_toArray, List.getElem_cons_zero, List.getElem_cons_succ, Act.put, List.setIfInBounds_toArray, List.set_cons_zero, List.set_cons_succ]
  refine wpAnyL_take (i := 7) (v := encStr plus) rfl (by kernel_rfl) (by kernel_rfl) (by kernel_rfl) (by kernel_rfl) (by kernel_rfl) (fun _ _ _ h => h) (Or.inl ⟨by rfl, fun w hSw => by have c := Kept.cellOf hSw k2 (by simp); go_simp⟩) h0 ?_
  try simp only [List.getElem_toArray, List.getElem_cons_zero, List.getElem_cons_succ, Act.put, List.setIfInBounds_toArray, List.set_cons_zero, List.set_cons_succ]
  have hcc := create_ax (HD.out.kept h0).ax hN plus hpl
  refine wpAnyL_one (i := 8) (by kernel_rfl) rfl (fun K' hK => ?_)
  rw [if_pos (by rfl)]
  go_simp
  refine hcc.mono ?_
  rintro e w2 ⟨rfl, hx⟩
  have HD2 := hide ((HD.out.kept h0).next hx); rw [HC.out]; clear hx
  refine hK.out _ _ (fun _ h => by cases h) ?_
  clear hK K' hcc
  try simp only [List.getElem_toArray, List.getElem_cons_zero, List.getElem_cons_succ, Act.put, List.setIfInBounds_toArray, List.set_cons_zero, List.set_cons_succ]
  refine wpAnyL_free (i := 9) (v := .int .i64 0) rfl (by kernel_rfl) (by kernel_rfl) (by kernel_rfl) (fun _ _ _ h => h) (Or.inl ⟨by rfl, fun w _ => by go_simp⟩) ?_
  try simp only [List.getElem_toArray, List.getElem_cons_zero, List.getElem_cons_succ, Act.put, List.setIfInBounds_toArray, List.set_cons_zero, List.set_cons_succ]
  refine wpAnyL_done (by kernel_rfl) ?_ _
  have f3 := HD2.out.fr 3
  have d3 := HD2.out.k3
  have HM := hide HD2.out.mark
  clear k0 k2 h0 HD HD2
  go_wp2
  go_ret
  exact ⟨rfl, HM.out⟩

set_option maxHeartbeats 4000000 in
set_option maxRecDepth 100000 in
theorem finish_fine (h : Drf X wa w p S N fb name plus c) {ao : Option Addr} {n cp : Nat} {d : By} (hN : N + n + 10 ≤ 268435456) (hpl : plus.length ≤ 4611686018427387904) (hnl : name.length ≤ 4611686018427387904) (hl : d.length = n) (hs : Sl w ao d) (h0a : ao = none → n = 0) (hnew : d ≠ [] → ∀ a, ao = some a → X a.block)
    (e1 : (S.append plus d).1 = 0) (e2 : ((S.append plus d).2.sync plus).1 = 0) (e3 : (((S.append plus d).2.sync plus).2.rename plus name).1 = 0) (e4 : ((((S.append plus d).2.sync plus).2.rename plus name).2.syncNames).1 = 0) :
    Calls Tryz.prog 112 #[.pointer (some ⟨fb, 0, none⟩), .slice ao n cp] w fun e w' => e = .returned (.int .i64 0) ∧ Drf X wa w' p ((((S.append plus d).2.sync plus).2.rename plus name).2.syncNames).2 (N + n + 6) fb name plus c := by
  have k0 := h.k0
  have k2 := h.k2
  have HD := hide h
  have HS := hide hs
  have HNW := hide hnew
  have H0A := hide h0a
  have HE := hide (And.intro e1 (And.intro e2 (And.intro e3 e4)))
  clear h hs hnew h0a e1 e2 e3 e4
  go_enter Tryz.func112, Tryz.ntmps112
  go_upto_region 1 with (fail)
  refine wp_region_late (fun w' => Kept [] w w') (fun i => i == 9) (by kernel_rfl) ?_
  have h0 : Kept [] w w.drew := (Kept.refl [] w).drew
  generalize World.drew w = v0 at h0 ⊢
  refine wpAnyL_free (i := 0) (v := .pointer (some ⟨fb, 0, none⟩)) rfl (by kernel_rfl) (by kernel_rfl) (by kernel_rfl) (fun _ _ _ h => h) (Or.inl ⟨by rfl, fun w _ => by go_simp⟩) ?_
  try simp only [List.getElem_toArray, List.getElem_cons_zero, List.getElem_cons_succ, Act.put, List.setIfInBounds_toArray, List.set_cons_zero, List.set_cons_succ]
  refine wpAnyL_free (i := 1) (v := .pointer (some ⟨fb, 0, none⟩)) rfl (by kernel_rfl) (by kernel_rfl) (by kernel_rfl) (fun _ _ _ h => h) (Or.inl ⟨by rfl, fun w _ => by go_simp⟩) ?_
  try simp only [List.getElem_toArray, List.getElem_cons_zero, List.getElem_cons_succ, Act.put, List.setIfInBounds_toArray, List.set_cons_zero, List.set_cons_succ]
  refine wpAnyL_free (i := 2) (v := .pointer (some ⟨fb, 0, none⟩)) rfl (by kernel_rfl) (by kernel_rfl) (by kernel_rfl) (fun _ _ _ h => h) (Or.inl ⟨by rfl, fun w _ => by go_simp⟩) ?_
  try simp only [List.getElem_toArray, List.getElem_cons_zero, List.getElem_cons_succ, Act.put, List.setIfInBounds_toArray, List.set_cons_zero, List.set_cons_succ]
  refine wpAnyL_take (i := 3) (v := .pointer (some ⟨p, 0, none⟩)) rfl (by kernel_rfl) (by kernel_rfl) (by kernel_rfl) (by kernel_rfl) (by kernel_rfl) (fun _ _ _ h => h) (Or.inl ⟨by rfl, fun w hSw => by have c := Kept.cellOf hSw k0 (by simp); go_simp⟩) h0 ?_
  try simp only [List.getElem_toArray, List.getElem_cons_zero, List.getElem_cons_succ, Act.put, List.setIfInBounds_toArray, List.set_cons_zero, List.set_cons_succ]
  refine wpAnyL_free (i := 4) (v := .pointer (some ⟨fb, 0, none⟩)) rfl (by kernel_rfl) (by kernel_rfl) (by kernel_rfl) (fun _ _ _ h => h) (Or.inl ⟨by rfl, fun w _ => by go_simp⟩) ?_
  try simp only [List.getElem_toArray, List.getElem_cons_zero, List.getElem_cons_succ, Act.put, List.setIfInBounds_toArray, List.set_cons_zero, List.set_cons_succ]
  refine wpAnyL_free (i := 5) (v := .pointer (some ⟨fb, 0, none⟩)) rfl (by kernel_rfl) (by kernel_rfl) (by kernel_rfl) (fun _ _ _ h => h) (Or.inl ⟨by rfl, fun w _ => by go_simp⟩) ?_
  try simp only [List.getElem_toArray, List.getElem_cons_zero, List.getElem_cons_succ, Act.put, List.setIfInBounds_toArray, List.set_cons_zero, List.set_cons_succ]
  refine wpAnyL_free (i := 6) (v := .pointer (some ⟨fb, 2, none⟩)) rfl (by kernel_rfl) (by kernel_rfl) (by kernel_rfl) (fun _ _ _ h => h) (Or.inl ⟨by rfl, fun w _ => by go_simp⟩) ?_
  try simp only [List.getElem_toArray, List.getElem_cons_zero, List.getElem_cons_succ, Act.put, List.setIfInBounds_toArray, List.set_cons_zero, List.set_cons_succ]
  refine wpAnyL_take (i := 7) (v := encStr plus) rfl (by kernel_rfl) (by kernel_rfl) (by kernel_rfl) (by kernel_rfl) (by kernel_rfl) (fun _ _ _ h => h) (Or.inl ⟨by rfl, fun w hSw => by have c := Kept.cellOf hSw k2 (by simp); go_simp⟩) h0 ?_
  try simp only [List.getElem_toArray, List.getElem_cons_zero, List.getElem_cons_succ, Act.put, List.setIfInBounds_toArray, List.set_cons_zero, List.set_cons_succ]
  refine wpAnyL_free (i := 8) (v := .slice ao n cp) rfl (by kernel_rfl) (by kernel_rfl) (by kernel_rfl) (fun _ _ _ h => h) (Or.inl ⟨by rfl, fun w _ => by go_simp⟩) ?_
  try simp only [List.getElem_toArray, List.getElem_cons_zero, List.getElem_cons_succ, Act.put, List.setIfInBounds_toArray, List.set_cons_zero, List.set_cons_succ]
  have hcc := append_ax (HD.out.kept h0).ax (Kept.refl [] v0) (c := cp) (by omega) plus hpl hl (HS.out.kept h0 (by simp)) H0A.out (fun hd a ha => .inr (.inl (HNW.out hd a ha)))
  refine wpAnyL_one (i := 9) (by kernel_rfl) rfl (fun K' hK => ?_)
  rw [if_pos (by rfl)]
  go_simp
  refine hcc.mono ?_
  rintro e w2 ⟨rfl, hx⟩
  have HD2 := hide ((HD.out.kept h0).next hx); rw [HE.out.1]; clear hx
  refine hK.out _ _ (fun _ h => by cases h) ?_
  clear hK K' hcc
  try simp only [List.getElem_toArray, List.getElem_cons_zero, List.getElem_cons_succ, Act.put, List.setIfInBounds_toArray, List.set_cons_zero, List.set_cons_succ]
  refine wpAnyL_free (i := 10) (v := .int .i64 0) rfl (by kernel_rfl) (by kernel_rfl) (by kernel_rfl) (fun _ _ _ h => h) (Or.inl ⟨by rfl, fun w _ => by go_simp⟩) ?_
  try simp only [List.getElem_toArray, List.getElem_cons_zero, List.getElem_cons_succ, Act.put, List.setIfInBounds_toArray, List.set_cons_zero, List.set_cons_succ]
  refine wpAnyL_done (by kernel_rfl) ?_ _
  obtain ⟨S2, hS2⟩ : ∃ x, (S.append plus d).2 = x := ⟨_, rfl⟩
  rw [hS2] at HD2 HE
  have HS2 := hide hS2
  clear hS2
  clear k0 k2 h0 HD HS HNW H0A
  have k0 := HD2.out.k0
  have k2 := HD2.out.k2
  go_upto_region 4 with (fail)
  refine wp_region_late (fun w' => Kept [] w2 w') (fun i => i == 8) (by kernel_rfl) ?_
  have h0 : Kept [] w2 w2.drew := (Kept.refl [] w2).drew
  generalize World.drew w2 = v0 at h0 ⊢
  refine wpAnyL_free (i := 0) (v := .pointer (some ⟨fb, 0, none⟩)) rfl (by kernel_rfl) (by kernel_rfl) (by kernel_rfl) (fun _ _ _ h => h) (Or.inl ⟨by rfl, fun w _ => by go_simp⟩) ?_
  try simp only [List.getElem_toArray, List.getElem_cons_zero, List.getElem_cons_succ, Act.put, List.setIfInBounds_toArray, List.set_cons_zero, List.set_cons_succ]
  refine wpAnyL_free (i := 1) (v := .pointer (some ⟨fb, 0, none⟩)) rfl (by kernel_rfl) (by kernel_rfl) (by kernel_rfl) (fun _ _ _ h => h) (Or.inl ⟨by rfl, fun w _ => by go_simp⟩) ?_
  try simp only [List.getElem_toArray, List.getElem_cons_zero, List.getElem_cons_succ, Act.put, List.setIfInBounds_toArray, List.set_cons_zero, List.set_cons_succ]
  refine wpAnyL_free (i := 2) (v := .pointer (some ⟨fb, 0, none⟩)) rfl (by kernel_rfl) (by kernel_rfl) (by kernel_rfl) (fun _ _ _ h => h) (Or.inl ⟨by rfl, fun w _ => by go_simp⟩) ?_
  try simp only [List.getElem_toArray, List.getElem_cons_zero, List.getElem_cons_succ, Act.put, List.setIfInBounds_toArray, List.set_cons_zero, List.set_cons_succ]
  refine wpAnyL_take (i := 3) (v := .pointer (some ⟨p, 0, none⟩)) rfl (by kernel_rfl) (by kernel_rfl) (by kernel_rfl) (by kernel_rfl) (by kernel_rfl) (fun _ _ _ h => h) (Or.inl ⟨by rfl, fun w hSw => by have c := Kept.cellOf hSw k0 (by simp); go_simp⟩) h0 ?_
  try simp only [List.getElem_toArray, List.getElem_cons_zero, List.getElem_cons_succ, Act.put, List.setIfInBounds_toArray, List.set_cons_zero, List.set_cons_succ]
  refine wpAnyL_free (i := 4) (v := .pointer (some ⟨fb, 0, none⟩)) rfl (by kernel_rfl) (by kernel_rfl) (by kernel_rfl) (fun _ _ _ h => h) (Or.inl ⟨by rfl, fun w _ => by go_simp⟩) ?_
  try simp only [List.getElem_toArray, List.getElem_cons_zero, List.getElem_cons_succ, Act.put, List.setIfInBounds_toArray, List.set_cons_zero, List.set_cons_succ]
  refine wpAnyL_free (i := 5) (v := .pointer (some ⟨fb, 0, none⟩)) rfl (by kernel_rfl) (by kernel_rfl) (by kernel_rfl) (fun _ _ _ h => h) (Or.inl ⟨by rfl, fun w _ => by go_simp⟩) ?_
  try simp only [List.getElem_toArray, List.getElem_cons_zero, List.getElem_cons_succ, Act.put, List.setIfInBounds_toArray, List.set_cons_zero, List.set_cons_succ]
  refine wpAnyL_free (i := 6) (v := .pointer (some ⟨fb, 2, none⟩)) rfl (by kernel_rfl) (by kernel_rfl) (by kernel_rfl) (fun _ _ _ h => h) (Or.inl ⟨by rfl, fun w _ => by go_simp⟩) ?_
  try simp only [List.getElem_toArray, List.getElem_cons_zero, List.getElem_cons_succ, Act.put, List.setIfInBounds_toArray, List.set_cons_zero, List.set_cons_succ]
  refine wpAnyL_take (i := 7) (v := encStr plus) rfl (by kernel_rfl) (by kernel_rfl) (by kernel_rfl) (by kernel_rfl) (by kernel_rfl) (fun _ _ _ h => h) (Or.inl ⟨by rfl, fun w hSw => by have c := Kept.cellOf hSw k2 (by simp); go_simp⟩) h0 ?_
  try simp only [List.getElem_toArray, List.getElem_cons_zero, List.getElem_cons_succ, Act.put, List.setIfInBounds_toArray, List.set_cons_zero, List.set_cons_succ]
  have hcc := sync_ax (HD2.out.kept h0).ax (by omega) plus hpl
  refine wpAnyL_one (i := 8) (by kernel_rfl) rfl (fun K' hK => ?_)
  rw [if_pos (by rfl)]
  go_simp
  refine hcc.mono ?_
  rintro e w3 ⟨rfl, hx⟩
  have HD3 := hide ((HD2.out.kept h0).next hx); rw [HE.out.2.1]; clear hx
  refine hK.out _ _ (fun _ h => by cases h) ?_
  clear hK K' hcc
  try simp only [List.getElem_toArray, List.getElem_cons_zero, List.getElem_cons_succ, Act.put, List.setIfInBounds_toArray, List.set_cons_zero, List.set_cons_succ]
  refine wpAnyL_free (i := 9) (v := .int .i64 0) rfl (by kernel_rfl) (by kernel_rfl) (by kernel_rfl) (fun _ _ _ h => h) (Or.inl ⟨by rfl, fun w _ => by go_simp⟩) ?_
  try simp only [List.getElem_toArray, List.getElem_cons_zero, List.getElem_cons_succ, Act.put, List.setIfInBounds_toArray, List.set_cons_zero, List.set_cons_succ]
  refine wpAnyL_done (by kernel_rfl) ?_ _
  obtain ⟨S3, hS3⟩ : ∃ x, (S2.sync plus).2 = x := ⟨_, rfl⟩
  rw [hS3] at HD3 HE
  have HS3 := hide hS3
  clear hS3
  clear k0 k2 h0 HD2
  have k0 := HD3.out.k0
  have k1 := HD3.out.k1
  have k2 := HD3.out.k2
  go_upto_region 7 with (fail)
  refine wp_region_late (fun w' => Kept [] w3 w') (fun i => i == 12) (by kernel_rfl) ?_
  have h0 : Kept [] w3 w3.drew := (Kept.refl [] w3).drew
  generalize World.drew w3 = v0 at h0 ⊢
  refine wpAnyL_free (i := 0) (v := .pointer (some ⟨fb, 0, none⟩)) rfl (by kernel_rfl) (by kernel_rfl) (by kernel_rfl) (fun _ _ _ h => h) (Or.inl ⟨by rfl, fun w _ => by go_simp⟩) ?_
  try simp only [List.getElem_toArray, List.getElem_cons_zero, List.getElem_cons_succ, Act.put, List.setIfInBounds_toArray, List.set_cons_zero, List.set_cons_succ]
  refine wpAnyL_free (i := 1) (v := .pointer (some ⟨fb, 0, none⟩)) rfl (by kernel_rfl) (by kernel_rfl) (by kernel_rfl) (fun _ _ _ h => h) (Or.inl ⟨by rfl, fun w _ => by go_simp⟩) ?_
  try simp only [List.getElem_toArray, List.getElem_cons_zero, List.getElem_cons_succ, Act.put, List.setIfInBounds_toArray, List.set_cons_zero, List.set_cons_succ]
  refine wpAnyL_free (i := 2) (v := .pointer (some ⟨fb, 0, none⟩)) rfl (by kernel_rfl) (by kernel_rfl) (by kernel_rfl) (fun _ _ _ h => h) (Or.inl ⟨by rfl, fun w _ => by go_simp⟩) ?_
  try simp only [List.getElem_toArray, List.getElem_cons_zero, List.getElem_cons_succ, Act.put, List.setIfInBounds_toArray, List.set_cons_zero, List.set_cons_succ]
  refine wpAnyL_take (i := 3) (v := .pointer (some ⟨p, 0, none⟩)) rfl (by kernel_rfl) (by kernel_rfl) (by kernel_rfl) (by kernel_rfl) (by kernel_rfl) (fun _ _ _ h => h) (Or.inl ⟨by rfl, fun w hSw => by have c := Kept.cellOf hSw k0 (by simp); go_simp⟩) h0 ?_
  try simp only [List.getElem_toArray, List.getElem_cons_zero, List.getElem_cons_succ, Act.put, List.setIfInBounds_toArray, List.set_cons_zero, List.set_cons_succ]
  refine wpAnyL_free (i := 4) (v := .pointer (some ⟨fb, 0, none⟩)) rfl (by kernel_rfl) (by kernel_rfl) (by kernel_rfl) (fun _ _ _ h => h) (Or.inl ⟨by rfl, fun w _ => by go_simp⟩) ?_
  try simp only [List.getElem_toArray, List.getElem_cons_zero, List.getElem_cons_succ, Act.put, List.setIfInBounds_toArray, List.set_cons_zero, List.set_cons_succ]
  refine wpAnyL_free (i := 5) (v := .pointer (some ⟨fb, 0, none⟩)) rfl (by kernel_rfl) (by kernel_rfl) (by kernel_rfl) (fun _ _ _ h => h) (Or.inl ⟨by rfl, fun w _ => by go_simp⟩) ?_
  try simp only [List.getElem_toArray, List.getElem_cons_zero, List.getElem_cons_succ, Act.put, List.setIfInBounds_toArray, List.set_cons_zero, List.set_cons_succ]
  refine wpAnyL_free (i := 6) (v := .pointer (some ⟨fb, 2, none⟩)) rfl (by kernel_rfl) (by kernel_rfl) (by kernel_rfl) (fun _ _ _ h => h) (Or.inl ⟨by rfl, fun w _ => by go_simp⟩) ?_
  try simp only [List.getElem_toArray, List.getElem_cons_zero, List.getElem_cons_succ, Act.put, List.setIfInBounds_toArray, List.set_cons_zero, List.set_cons_succ]
  refine wpAnyL_take (i := 7) (v := encStr plus) rfl (by kernel_rfl) (by kernel_rfl) (by kernel_rfl) (by kernel_rfl) (by kernel_rfl) (fun _ _ _ h => h) (Or.inl ⟨by rfl, fun w hSw => by have c := Kept.cellOf hSw k2 (by simp); go_simp⟩) h0 ?_
  try simp only [List.getElem_toArray, List.getElem_cons_zero, List.getElem_cons_succ, Act.put, List.setIfInBounds_toArray, List.set_cons_zero, List.set_cons_succ]
  refine wpAnyL_free (i := 8) (v := .pointer (some ⟨fb, 0, none⟩)) rfl (by kernel_rfl) (by kernel_rfl) (by kernel_rfl) (fun _ _ _ h => h) (Or.inl ⟨by rfl, fun w _ => by go_simp⟩) ?_
  try simp only [List.getElem_toArray, List.getElem_cons_zero, List.getElem_cons_succ, Act.put, List.setIfInBounds_toArray, List.set_cons_zero, List.set_cons_succ]
  refine wpAnyL_free (i := 9) (v := .pointer (some ⟨fb, 0, none⟩)) rfl (by kernel_rfl) (by kernel_rfl) (by kernel_rfl) (fun _ _ _ h => h) (Or.inl ⟨by rfl, fun w _ => by go_simp⟩) ?_
  try simp only [List.getElem_toArray, List.getElem_cons_zero, List.getElem_cons_succ, Act.put, List.setIfInBounds_toArray, List.set_cons_zero, List.set_cons_succ]
  refine wpAnyL_free (i := 10) (v := .pointer (some ⟨fb, 1, none⟩)) rfl (by kernel_rfl) (by kernel_rfl) (by kernel_rfl) (fun _ _ _ h => h) (Or.inl ⟨by rfl, fun w _ => by go_simp⟩) ?_
  try simp only [List.getElem_toArray, List.getElem_cons_zero, List.getElem_cons_succ, Act.put, List.setIfInBounds_toArray, List.set_cons_zero, List.set_cons_succ]
  refine wpAnyL_take (i := 11) (v := encStr name) rfl (by kernel_rfl) (by kernel_rfl) (by kernel_rfl) (by kernel_rfl) (by kernel_rfl) (fun _ _ _ h => h) (Or.inl ⟨by rfl, fun w hSw => by have c := Kept.cellOf hSw k1 (by simp); go_simp⟩) h0 ?_
  try simp only [List.getElem_toArray, List.getElem_cons_zero, List.getElem_cons_succ, Act.put, List.setIfInBounds_toArray, List.set_cons_zero, List.set_cons_succ]
  have hcc := rename_ax (HD3.out.kept h0).ax (by omega) plus name hpl hnl
  refine wpAnyL_one (i := 12) (by kernel_rfl) rfl (fun K' hK => ?_)
  rw [if_pos (by rfl)]
  go_simp
  refine hcc.mono ?_
  rintro e w4 ⟨rfl, hx⟩
  have HD4 := hide ((HD3.out.kept h0).next hx); rw [HE.out.2.2.1]; clear hx
  refine hK.out _ _ (fun _ h => by cases h) ?_
  clear hK K' hcc
  try simp only [List.getElem_toArray, List.getElem_cons_zero, List.getElem_cons_succ, Act.put, List.setIfInBounds_toArray, List.set_cons_zero, List.set_cons_succ]
  refine wpAnyL_free (i := 13) (v := .int .i64 0) rfl (by kernel_rfl) (by kernel_rfl) (by kernel_rfl) (fun _ _ _ h => h) (Or.inl ⟨by rfl, fun w _ => by go_simp⟩) ?_
  try simp only [List.getElem_toArray, List.getElem_cons_zero, List.getElem_cons_succ, Act.put, List.setIfInBounds_toArray, List.set_cons_zero, List.set_cons_succ]
  refine wpAnyL_done (by kernel_rfl) ?_ _
  obtain ⟨S4, hS4⟩ : ∃ x, (S3.rename plus name).2 = x := ⟨_, rfl⟩
  rw [hS4] at HD4 HE
  have HS4 := hide hS4
  clear hS4
  clear k0 k1 k2 h0 HD3
  have k0 := HD4.out.k0
  have hsn := syncNames_ax HD4.out.ax (by omega)
  rw [HE.out.2.2.2] at hsn
  go_wp2_with (go_at_call 44; refine hsn.mono ?_; rintro e w9 ⟨rfl, hx⟩; have HX := hide hx; clear hsn hx)
  go_ret
  rw [HS2.out, HS3.out, HS4.out]
  exact ⟨rfl, (HD4.out.next HX.out).mono (by omega)⟩
end
end

section
open Go.RowKit Dsk
set_option linter.unusedVariables false
set_option linter.unusedSimpArgs false

theorem forRoom_none (w : World) : Calls Tryz.prog 109 #[.nilIface] w fun e w' => e = .returned (.bool false) ∧ w' = w := by
  have c1 := is_none 55 w
  have c2 := is_none 56 w
  go_enter Tryz.func109, Tryz.ntmps109
  go_wp2_with (first
    | (go_at_call 71; refine c1.mono ?_; rintro e w' ⟨rfl, hww⟩; obtain rfl := hww.symm; clear c1)
    | (go_at_call 71; refine c2.mono ?_; rintro e w' ⟨rfl, hww⟩; obtain rfl := hww.symm; clear c2))
  go_ret
  exact ⟨rfl, rfl⟩

theorem lay1_fine (pb rb fb : Nat) (w : World) (h1 : w.cell? ⟨pb, 0, none⟩ = some (.pointer (some ⟨fb, 0, none⟩))) (h2 : w.cell? ⟨fb, 3, none⟩ = some (.bool true)) (h3 : w.cell? ⟨rb, 0, none⟩ = some .nilIface) :
    CallsD Tryz.prog 108 #[.pointer (some ⟨pb, 0, none⟩), .pointer (some ⟨rb, 0, none⟩)] .returning w fun e u' w' => u' = .returning ∧ (e = .returned (.tuple #[]) ∧ w' = w) := by
  have c1 := forRoom_none w
  go_enter_d Tryz.func108, Tryz.ntmps108
  go_wp2_with (go_at_call 109; refine c1.mono ?_; rintro e w' ⟨rfl, hww⟩; obtain rfl := hww.symm; clear c1)
  first | go_end0 | refine bodyPost_ret (results_none rfl _ _ _) rfl ?_
  exact ⟨rfl, rfl⟩
section
variable {X : Nat → Prop} {wa w w' : World} {p : Nat} {S : Ds} {N : Nat} {fb : Nat} {name plus : By} {c : Bool}
theorem leaves_congr {P : Program} {fn : Func} {t1 t2 : Array Value} {R : Ending → World → Prop} (h : results fn t1 = results fn t2) : ∀ (ds : List Deferred) (u : FrameMode) (w : World), Leaves P fn t1 R ds u w → Leaves P fn t2 R ds u w
  | [], .returning, w, ⟨v, h1, h2⟩ => ⟨v, h ▸ h1, h2⟩
  | [], .panicking _, _, h1 => h1
  | [], .run, _, h1 => h1
  | d :: ds, u, w, ⟨h1, fv, cap, f, args, h2, h3, h4⟩ => ⟨h1, fv, cap, f, args, h2, h3, h4.mono (fun e u' w' he => by
      cases e with
      | returned _ => exact leaves_congr h ds _ _ he
      | panicked _ => exact leaves_congr h ds _ _ he
      | outgrown => exact he)⟩
theorem layRes (t : Array Value) (k : Nat) (v : Value) (hk : k ≠ 4) : results Tryz.f67 (t.setIfInBounds k v) = results Tryz.f67 t := by
  simp [results, Tryz.results67, Array.getD]
  by_cases h : 4 < t.size <;> simp [h, Array.getElem_setIfInBounds, hk]
theorem layQ (R : Ending → World → Prop) (k : Nat) (v : Value) (hk : k ≠ 4) (ch : List PanicEntry) (a : Act) (w : World) (h : bodyPostD Tryz.prog Tryz.f67 R (.panic ch) (a.put (some k) v) w) : bodyPostD Tryz.prog Tryz.f67 R (.panic ch) a w :=
  leaves_congr (layRes a.tmps k v hk) a.defers _ w h
theorem set_same {w : World} {b : Nat} {v : Value} {T : TypeId} (h : w.heap[b]? = some (.cells #[v] T (0, 0))) : w.setCell ⟨b, 0, none⟩ v = w := by
  have hb := heap_setCell_same w b 0 #[v] T v h
  have hl := (Array.getElem?_eq_some_iff.1 h).1
  have hh : (w.setCell ⟨b, 0, none⟩ v).heap = w.heap := by
    apply Array.ext_getElem?
    intro i
    by_cases hi : i = b
    · subst hi
      rw [hb, h]
      rfl
    · by_cases hlt : i < w.heap.size
      · exact Below.heap_setCell _ _ _ _ hi
      · rw [Array.getElem?_eq_none (by simp; omega), Array.getElem?_eq_none (by omega)]
  cases w
  simp only [World.setCell] at hh ⊢
  simp_all
/-- What has come besides stays too. -/
theorem Drf.widen (h : Drf X wa w p S N fb name plus c) (hk : Kept [] w w') : Drf (More X w w') w' w' p S N fb name plus c := by
  have hfl := (Array.getElem?_eq_some_iff.1 h.cell).1
  have h2 := h.kept hk
  refine ⟨ax_free h.ax (Keep.ofNone (F := fun _ => False) hk) (fun _ _ h => h.elim) (fun b hb => ?_), h2.cell, Keep.refl _ _, fun hX => ?_, fun b hb => ?_⟩
  · rcases hb with (hb | hb) | hb
    · exact ⟨.inl (.inl hb), Nat.lt_of_lt_of_le (h.lt b hb) (Nat.le_trans h.keep.size hk.size)⟩
    · exact ⟨.inr hb.1, hb.2⟩
    · exact ⟨.inl (.inr hb), by rw [hb]; exact Nat.lt_of_lt_of_le hfl hk.size⟩
  · rcases hX with hX | hX
    · exact h.nx hX
    · omega
  · rcases hb with hb | hb
    · exact Nat.lt_of_lt_of_le (h.lt b hb) (Nat.le_trans h.keep.size hk.size)
    · exact hb.2
theorem Drf.narrow {w1 w2 : World} {S' : Ds} {N' : Nat} {c' : Bool} (h : Drf X wa w p S N fb name plus c) (hk : Kept [] w w1) (h2 : Drf (More X w w1) w1 w2 p S' N' fb name plus c') : Drf X wa w2 p S' N' fb name plus c' := by
  obtain ⟨A, o, g1, g2, g3, g4⟩ := h2.ax
  refine ⟨⟨A, o, g1, fun b hb => ⟨(g2 b (hb.imp .inl id)).1, (g2 b (hb.imp .inl id)).2⟩, Keep.refl _ _, g4⟩, h2.cell, (h.keep.kept hk).trans (h2.keep.mono (fun b hb _ hX => hb (.inl hX))) (fun b hb _ => hb), h.nx, h.lt⟩

set_option maxHeartbeats 4000000 in
set_option maxRecDepth 100000 in
theorem lay_fine (h : Drf X wa w p S N fb name plus c) {ao : Option Addr} {n cp : Nat} {d : By} (hN : N + n + 20 ≤ 268435456) (hpl : plus.length ≤ 4611686018427387904) (hnl : name.length ≤ 4611686018427387904) (hl : d.length = n) (hs : Sl w ao d) (h0a : ao = none → n = 0) (hnew : d ≠ [] → ∀ a, ao = some a → X a.block)
    (h53 : (S.find plus).1 = 53) (hc : (S.create plus).1 = 0) (e1 : ((S.create plus).2.append plus d).1 = 0) (e2 : (((S.create plus).2.append plus d).2.sync plus).1 = 0) (e3 : ((((S.create plus).2.append plus d).2.sync plus).2.rename plus name).1 = 0) (e4 : (((((S.create plus).2.append plus d).2.sync plus).2.rename plus name).2.syncNames).1 = 0) :
    Calls Tryz.prog 67 #[.pointer (some ⟨fb, 0, none⟩), .slice ao n cp] w fun e w' => e = .returned .nilIface ∧ Drf X wa w' p (((((S.create plus).2.append plus d).2.sync plus).2.rename plus name).2.syncNames).2 (N + n + 7) fb name plus true := by
  have hmf : ∀ (fn : Fn) (first cap : Array Value) (w : World), (Instr.makeFunc fn first cap).run Tryz.prog w = .ok (.func fn first cap) w := fun _ _ _ _ => rfl
  have hk1 : Kept [] w ((w.alloc (.cells #[.pointer (some ⟨fb, 0, none⟩)] 113)).alloc (.cells #[.nilIface] 45)) := ((Kept.refl [] w).alloc _).alloc _
  have hb1 : ((w.alloc (.cells #[.pointer (some ⟨fb, 0, none⟩)] 113)).alloc (.cells #[.nilIface] 45)).heap[w.heap.size]? = some (.cells #[.pointer (some ⟨fb, 0, none⟩)] 113 (0, 0)) := by
    rw [Below.heap_alloc _ _ _ (by simp)]
    exact (MapKept.heap_alloc w _).1
  have hb2 : ((w.alloc (.cells #[.pointer (some ⟨fb, 0, none⟩)] 113)).alloc (.cells #[.nilIface] 45)).heap[w.heap.size + 1]? = some (.cells #[.nilIface] 45 (0, 0)) := by
    have := (MapKept.heap_alloc (w.alloc (.cells #[.pointer (some ⟨fb, 0, none⟩)] 113)) (.cells #[.nilIface] 45)).1
    simpa using this
  have hsz : ((w.alloc (.cells #[.pointer (some ⟨fb, 0, none⟩)] 113)).alloc (.cells #[.nilIface] 45)).heap.size = w.heap.size + 2 := by simp
  have HH := hide h
  have HS := hide (hs.kept hk1 (by simp))
  have HNW := hide hnew
  have H0A := hide h0a
  have HE := hide (And.intro e1 (And.intro e2 (And.intro e3 e4)))
  have H53 := hide h53
  have HC := hide hc
  have HPL := hide hl
  clear h hs hnew h0a e1 e2 e3 e4 h53 hc
  go_enter_defers Tryz.func67, Tryz.ntmps67
  go_upto_region 2 with (fail)
  generalize (w.alloc (.cells #[.pointer (some ⟨fb, 0, none⟩)] 113)).alloc (.cells #[.nilIface] 45) = w1 at hk1 hb1 hb2 hsz HS ⊢
  have HK1 := hide hk1
  have HB1 := hide hb1
  have HB2 := hide hb2
  have HSZ := hide hsz
  have q1 : w1.cell? ⟨w.heap.size, 0, none⟩ = some (.pointer (some ⟨fb, 0, none⟩)) := by rw [cell_of_row _ _ _ _ _ _ hb1]; rfl
  have HW := hide (HH.out.widen hk1)
  have hbg := begin_fine HW.out (by omega) hpl H53.out HC.out
  clear hk1 hb1 hb2 hsz
  go_upto_region 5 with (go_at_call 111; refine hbg.mono ?_; rintro e w2 ⟨rfl, hd⟩; have HD := hide hd; clear hbg hd)
  clear q1
  have hkp : Keep (fun b => ¬ (More X w w1) b) w1 w2 := HD.out.keep
  have p1 : w2.heap[w.heap.size]? = _ := hkp.heapOf HB1.out (fun hn => hn (.inr ⟨Nat.le_refl _, by rw [HSZ.out]; omega⟩))
  have p2 : w2.heap[w.heap.size + 1]? = _ := hkp.heapOf HB2.out (fun hn => hn (.inr ⟨by omega, by rw [HSZ.out]; omega⟩))
  have q1 : w2.cell? ⟨w.heap.size, 0, none⟩ = some (.pointer (some ⟨fb, 0, none⟩)) := by rw [cell_of_row _ _ _ _ _ _ p1]; rfl
  have q2 := HD.out.k1
  have HSl := hide (HS.out.keep hkp (fun hd a ha hn => hn (.inl (HNW.out hd a ha))))
  refine wp_region_held_drew (S := fun w' => w'.cell? ⟨w.heap.size, 0, none⟩ = some (.pointer (some ⟨fb, 0, none⟩)) ∧ w'.cell? ⟨fb, 1, none⟩ = some (encStr name)) (by kernel_rfl) ⟨q1, q2⟩ (fun h0 => ?_)
  have k0 : Kept [] w2 w2.drew := (Kept.refl [] w2).drew
  generalize World.drew w2 = v0 at h0 k0 ⊢
  refine wpAnyH_take (i := 0) (v := .pointer (some ⟨fb, 0, none⟩)) rfl (by kernel_rfl) (by kernel_rfl) (by kernel_rfl) (fun _ _ _ h => layQ _ 17 _ (by decide) _ _ _ h) (Or.inl ⟨by rfl, fun w hSw => by have c := hSw.1; go_simp⟩) h0 ?_
  try simp only [List.getElem_toArray, List.getElem_cons_zero, List.getElem_cons_succ, Act.put, List.setIfInBounds_toArray, List.set_cons_zero, List.set_cons_succ]
  refine wpAnyH_take (i := 1) (v := .pointer (some ⟨fb, 0, none⟩)) rfl (by kernel_rfl) (by kernel_rfl) (by kernel_rfl) (fun _ _ _ h => layQ _ 18 _ (by decide) _ _ _ h) (Or.inl ⟨by rfl, fun w hSw => by go_simp⟩) h0 ?_
  try simp only [List.getElem_toArray, List.getElem_cons_zero, List.getElem_cons_succ, Act.put, List.setIfInBounds_toArray, List.set_cons_zero, List.set_cons_succ]
  refine wpAnyH_take (i := 2) (v := .pointer (some ⟨fb, 1, none⟩)) rfl (by kernel_rfl) (by kernel_rfl) (by kernel_rfl) (fun _ _ _ h => layQ _ 19 _ (by decide) _ _ _ h) (Or.inl ⟨by rfl, fun w hSw => by go_simp⟩) h0 ?_
  try simp only [List.getElem_toArray, List.getElem_cons_zero, List.getElem_cons_succ, Act.put, List.setIfInBounds_toArray, List.set_cons_zero, List.set_cons_succ]
  refine wpAnyH_take (i := 3) (v := encStr name) rfl (by kernel_rfl) (by kernel_rfl) (by kernel_rfl) (fun _ _ _ h => layQ _ 20 _ (by decide) _ _ _ h) (Or.inl ⟨by rfl, fun w hSw => by have c := hSw.2; go_simp⟩) h0 ?_
  try simp only [List.getElem_toArray, List.getElem_cons_zero, List.getElem_cons_succ, Act.put, List.setIfInBounds_toArray, List.set_cons_zero, List.set_cons_succ]
  refine wpAnyH_take (i := 4) (v := .pointer (some ⟨fb, 0, none⟩)) rfl (by kernel_rfl) (by kernel_rfl) (by kernel_rfl) (fun _ _ _ h => layQ _ 21 _ (by decide) _ _ _ h) (Or.inl ⟨by rfl, fun w hSw => by have c := hSw.1; go_simp⟩) h0 ?_
  try simp only [List.getElem_toArray, List.getElem_cons_zero, List.getElem_cons_succ, Act.put, List.setIfInBounds_toArray, List.set_cons_zero, List.set_cons_succ]
  refine wpAnyH_take (i := 5) (v := .slice ao n cp) rfl (by kernel_rfl) (by kernel_rfl) (by kernel_rfl) (fun _ _ _ h => layQ _ 22 _ (by decide) _ _ _ h) (Or.inl ⟨by rfl, fun w hSw => by go_simp⟩) h0 ?_
  try simp only [List.getElem_toArray, List.getElem_cons_zero, List.getElem_cons_succ, Act.put, List.setIfInBounds_toArray, List.set_cons_zero, List.set_cons_succ]
  have hfi := finish_fine (HD.out.kept k0) (ao := ao) (cp := cp) (by omega) hpl hnl HPL.out (HSl.out.kept k0 (by simp)) H0A.out (fun hd a ha => .inl (HNW.out hd a ha)) HE.out.1 HE.out.2.1 HE.out.2.2.1 HE.out.2.2.2
  refine wpAnyH_ready (rs := [6]) (by kernel_rfl) (by simp) (AllReadyH.cons (i := 6) rfl (fun K' hK => ?_) AllReadyH.nil)
  rw [if_pos (by rfl)]
  go_simp
  refine hfi.mono ?_
  rintro e w3 ⟨rfl, hd3⟩
  have HD3 := hide hd3
  have hkq3 : Keep (fun b => ¬ (More X w w1) b) w1 w3 := hd3.keep
  have r13 : w3.heap[w.heap.size]? = _ := hkq3.heapOf HB1.out (fun hn => hn (.inr ⟨Nat.le_refl _, by rw [HSZ.out]; omega⟩))
  refine hK.out _ _ ⟨by rw [cell_of_row _ _ _ _ _ _ r13]; rfl, hd3.k1⟩ (fun h1 => ?_)
  clear hK K' hfi hd3 hkq3 r13
  try simp only [List.getElem_toArray, List.getElem_cons_zero, List.getElem_cons_succ, Act.put, List.setIfInBounds_toArray, List.set_cons_zero, List.set_cons_succ]
  have hfa := fault_ok [102, 105, 108, 101, 46, 112, 117, 116] name 0 w3
  refine wpAnyH_ready (rs := [7]) (by kernel_rfl) (by simp) (AllReadyH.cons (i := 7) rfl (fun K' hK => ?_) AllReadyH.nil)
  rw [if_pos (by rfl)]
  go_simp
  refine hfa.mono ?_
  rintro e w4 ⟨v, rfl, hv, hk4⟩
  obtain rfl : v = .nilIface := by rcases hv with hv | hv; exact hv.2; exact absurd rfl hv.1
  have HD4 := hide (HD3.out.kept hk4)
  refine hK.out _ _ ⟨hk4.cellOf h1.1 (by simp), hk4.cellOf h1.2 (by simp)⟩ (fun h2 => ?_)
  clear hK K' hfa hv hk4
  try simp only [List.getElem_toArray, List.getElem_cons_zero, List.getElem_cons_succ, Act.put, List.setIfInBounds_toArray, List.set_cons_zero, List.set_cons_succ]
  have hkq : Keep (fun b => ¬ (More X w w1) b) w1 w4 := HD4.out.keep
  have r1 : w4.heap[w.heap.size]? = _ := hkq.heapOf HB1.out (fun hn => hn (.inr ⟨Nat.le_refl _, by rw [HSZ.out]; omega⟩))
  have r2 : w4.heap[w.heap.size + 1]? = _ := hkq.heapOf HB2.out (fun hn => hn (.inr ⟨by omega, by rw [HSZ.out]; omega⟩))
  have s2 : w4.cell? ⟨w.heap.size + 1, 0, none⟩ = some .nilIface := by rw [cell_of_row _ _ _ _ _ _ r2]; rfl
  have s3 : w4.frozen? ⟨w.heap.size + 1, 0, none⟩ = false := frozen_of_row _ _ _ _ _ r2
  have hset : w4.setCell ⟨w.heap.size + 1, 0, none⟩ .nilIface = w4 := set_same r2
  refine wpAnyH_ready (rs := [8]) (by kernel_rfl) (by simp) (AllReadyH.cons (i := 8) rfl (fun K' hK => ?_) AllReadyH.nil)
  rw [if_pos (by rfl)]
  go_simp
  try rw [hset]
  refine hK.out _ _ h2 (fun h3 => ?_)
  clear hK K'
  try simp only [List.getElem_toArray, List.getElem_cons_zero, List.getElem_cons_succ, Act.put, List.setIfInBounds_toArray, List.set_cons_zero, List.set_cons_succ]
  refine wpAnyH_done (by kernel_rfl) ?_ _
  go_wp2
  have l1 : w4.cell? ⟨w.heap.size, 0, none⟩ = some (.pointer (some ⟨fb, 0, none⟩)) := by rw [cell_of_row _ _ _ _ _ _ r1]; rfl
  refine leaves_cons (f := 108) (args := #[.pointer (some ⟨w.heap.size, 0, none⟩), .pointer (some ⟨w.heap.size + 1, 0, none⟩)]) (by simp) (by simp [go_sem]) ?_
  refine (lay1_fine w.heap.size (w.heap.size + 1) fb w4 l1 HD4.out.k3 s2).mono ?_
  rintro e u' w'' ⟨rfl, rfl, rfl⟩
  simp [Leaves, settle, results, Tryz.results67, go_sem, s2]
  exact (HH.out.narrow HK1.out HD4.out).mono (by omega)
end
end

section
open Go.RowKit Dsk
set_option linter.unusedVariables false
set_option linter.unusedSimpArgs false

abbrev opPut : By := [102, 105, 108, 101, 46, 112, 117, 116]
abbrev opGet : By := [102, 105, 108, 101, 46, 103, 101, 116]
abbrev opDrop : By := [102, 105, 108, 101, 46, 100, 114, 111, 112]
abbrev opClean : By := [102, 105, 108, 101, 46, 99, 108, 101, 97, 110]

theorem put_name (dv : Value) (name : By) (dt : Value) (w : World) (hm : name.length ≤ 4611686018427387900) (hp : isPut name = false) :
    Calls Tryz.prog 24 #[dv, encStr name, dt] w fun e w' => ∃ v, e = .returned v ∧ ErrV w' v opPut name 51 ∧ Kept [] w w' := by
  have c1 := isPutName_ok name w hm
  rw [hp] at c1
  have c2 := fault_ok opPut name 51 w
  go_enter Tryz.func24, Tryz.ntmps24
  go_wp2_with (first
    | (go_at_call 66; refine c1.mono ?_; rintro e w' ⟨rfl, hww⟩; obtain rfl := hww.symm; clear c1)
    | (go_at_call 57; refine c2.mono ?_; rintro e w' ⟨v, rfl, hv⟩; have HV := hide hv; clear c2 hv))
  go_ret
  exact ⟨_, rfl, HV.out⟩

theorem put_off (dv : Value) (name : By) (dt : Value) (w : World) (hm : name.length ≤ 4611686018427387900) (hp : isPut name = true) (hoff : Calls Tryz.prog 48 #[dv] w fun e w' => e = .returned (.bool true) ∧ w' = w) :
    Calls Tryz.prog 24 #[dv, encStr name, dt] w fun e w' => ∃ v, e = .returned v ∧ ErrV w' v opPut name 50 ∧ Kept [] w w' := by
  have c1 := isPutName_ok name w hm
  rw [hp] at c1
  have c2 := fault_ok opPut name 50 w
  go_enter Tryz.func24, Tryz.ntmps24
  go_wp2_with (first
    | (go_at_call 66; refine c1.mono ?_; rintro e w' ⟨rfl, hww⟩; obtain rfl := hww.symm; clear c1)
    | (go_at_call 48; refine hoff.mono ?_; rintro e w' ⟨rfl, hww⟩; obtain rfl := hww.symm; clear hoff)
    | (go_at_call 57; refine c2.mono ?_; rintro e w' ⟨v, rfl, hv⟩; have HV := hide hv; clear c2 hv))
  go_ret
  exact ⟨_, rfl, HV.out⟩

theorem get_name (dv : Value) (name : By) (w : World) (hm : name.length ≤ 4611686018427387900) (hp : isNm name = false) :
    Calls Tryz.prog 25 #[dv, encStr name] w fun e w' => ∃ v, e = .returned (.tuple #[.slice none 0 0, v]) ∧ ErrV w' v opGet name 51 ∧ Kept [] w w' := by
  have c1 := fisName_ok name w (by omega)
  rw [hp] at c1
  have c2 := fault_ok opGet name 51 w
  go_enter Tryz.func25, Tryz.ntmps25
  go_wp2_with (first
    | (go_at_call 68; refine c1.mono ?_; rintro e w' ⟨rfl, hww⟩; obtain rfl := hww.symm; clear c1)
    | (go_at_call 57; refine c2.mono ?_; rintro e w' ⟨v, rfl, hv⟩; have HV := hide hv; clear c2 hv))
  go_ret2
  exact ⟨_, rfl, HV.out⟩

theorem get_bad (dv : Value) (name : By) (z E : Int) (w : World) (hm : name.length ≤ 4611686018427387900) (hp : isNm name = true) (hE : E ≠ 0) (hsz : Calls Tryz.prog 69 #[dv, encStr name] w fun e w' => e = .returned (.tuple #[.int .i64 z, .int .i64 E]) ∧ w' = w) :
    Calls Tryz.prog 25 #[dv, encStr name] w fun e w' => ∃ v, e = .returned (.tuple #[.slice none 0 0, v]) ∧ ErrV w' v opGet name E ∧ Kept [] w w' := by
  have c1 := fisName_ok name w (by omega)
  rw [hp] at c1
  have c2 := fault_ok opGet name E w
  have hb : (E != 0) = true := by simpa using hE
  clear hE
  go_enter Tryz.func25, Tryz.ntmps25
  go_wp2_with (first
    | (go_at_call 68; refine c1.mono ?_; rintro e w' ⟨rfl, hww⟩; obtain rfl := hww.symm; clear c1)
    | (go_at_call 69; refine hsz.mono ?_; rintro e w' ⟨rfl, hww⟩; obtain rfl := hww.symm; clear hsz)
    | (go_at_call 57; refine c2.mono ?_; rintro e w' ⟨v, rfl, hv⟩; have HV := hide hv; clear c2 hv))
  go_ret2
  exact ⟨_, rfl, HV.out⟩

theorem drop_name (dv : Value) (name : By) (w : World) (hm : name.length ≤ 4611686018427387900) (hp : isNm name = false) :
    Calls Tryz.prog 29 #[dv, encStr name] w fun e w' => ∃ v, e = .returned v ∧ ErrV w' v opDrop name 51 ∧ Kept [] w w' := by
  have c1 := fisName_ok name w (by omega)
  rw [hp] at c1
  have c2 := fault_ok opDrop name 51 w
  go_enter Tryz.func29, Tryz.ntmps29
  go_wp2_with (first
    | (go_at_call 68; refine c1.mono ?_; rintro e w' ⟨rfl, hww⟩; obtain rfl := hww.symm; clear c1)
    | (go_at_call 57; refine c2.mono ?_; rintro e w' ⟨v, rfl, hv⟩; have HV := hide hv; clear c2 hv))
  go_ret
  exact ⟨_, rfl, HV.out⟩

theorem drop_bad (dv : Value) (name : By) (E : Int) (w : World) (hm : name.length ≤ 4611686018427387900) (hp : isNm name = true) (hE : E ≠ 0) (hrm : Calls Tryz.prog 40 #[dv, encStr name] w fun e w' => e = .returned (.int .i64 E) ∧ w' = w) :
    Calls Tryz.prog 29 #[dv, encStr name] w fun e w' => ∃ v, e = .returned v ∧ ErrV w' v opDrop name E ∧ Kept [] w w' := by
  have c1 := fisName_ok name w (by omega)
  rw [hp] at c1
  have c2 := fault_ok opDrop name E w
  have hb : (E != 0) = true := by simpa using hE
  clear hE
  go_enter Tryz.func29, Tryz.ntmps29
  go_wp2_with (first
    | (go_at_call 68; refine c1.mono ?_; rintro e w' ⟨rfl, hww⟩; obtain rfl := hww.symm; clear c1)
    | (go_at_call 40; refine hrm.mono ?_; rintro e w' ⟨rfl, hww⟩; obtain rfl := hww.symm; clear hrm)
    | (go_at_call 57; refine c2.mono ?_; rintro e w' ⟨v, rfl, hv⟩; have HV := hide hv; clear c2 hv))
  go_ret
  exact ⟨_, rfl, HV.out⟩

theorem clean_off (dv : Value) (name : By) (w : World) (hoff : Calls Tryz.prog 48 #[dv] w fun e w' => e = .returned (.bool true) ∧ w' = w) :
    Calls Tryz.prog 14 #[dv, encStr name] w fun e w' => ∃ v, e = .returned v ∧ ErrV w' v opClean name 50 ∧ Kept [] w w' := by
  have c2 := fault_ok opClean name 50 w
  go_enter Tryz.func14, Tryz.ntmps14
  go_wp2
  refine wp_scope_straight ?_
  go_wp2_with (first
    | (go_at_call 48; refine hoff.mono ?_; rintro e w' ⟨rfl, hww⟩; obtain rfl := hww.symm; clear hoff)
    | (go_at_call 57; refine c2.mono ?_; rintro e w' ⟨v, rfl, hv⟩; have HV := hide hv; clear c2 hv))
  unfold Exit.noGoto
  refine bodyPost_ret (results_tmp rfl _ _ _) rfl ?_
  exact ⟨_, rfl, HV.out⟩

section
variable {X : Nat → Prop} {wa w w' : World} {p : Nat} {S : Ds} {N : Nat}
set_option maxHeartbeats 4000000 in
set_option maxRecDepth 100000 in
theorem put_fine (h : Ax X wa w p S N) (name : By) {ao : Option Addr} {n cp : Nat} {d : By} (hN : N + n + 20 ≤ 268435456) (hm : name.length ≤ 4611686018427387900) (hl : d.length = n) (hs : Sl w ao d) (h0a : ao = none → n = 0) (hnew : d ≠ [] → ∀ a, ao = some a → X a.block)
    (hp : isPut name = true) (hon : S.on = true) (h53 : (S.find (43 :: name)).1 = 53) (hc : (S.create (43 :: name)).1 = 0) (e1 : ((S.create (43 :: name)).2.append (43 :: name) d).1 = 0) (e2 : (((S.create (43 :: name)).2.append (43 :: name) d).2.sync (43 :: name)).1 = 0) (e3 : ((((S.create (43 :: name)).2.append (43 :: name) d).2.sync (43 :: name)).2.rename (43 :: name) name).1 = 0) (e4 : (((((S.create (43 :: name)).2.append (43 :: name) d).2.sync (43 :: name)).2.rename (43 :: name) name).2.syncNames).1 = 0) :
    Calls Tryz.prog 24 #[.pointer (some ⟨p, 0, none⟩), encStr name, .slice ao n cp] w fun e w' => e = .returned .nilIface ∧ Ax X wa w' p (((((S.create (43 :: name)).2.append (43 :: name) d).2.sync (43 :: name)).2.rename (43 :: name) name).2.syncNames).2 (N + n + 7) := by
  have c1 := isPutName_ok name w hm
  rw [hp] at c1
  have hof := off_ax h
  rw [hon] at hof
  have hcat : ¬ (9223372036854775807 < 1 + name.length) := by omega
  have hcat2 : ¬ ((9223372036854775807 : Int) < 1 + (name.length : Int)) := by omega
  have hcc : (ByteArray.mk #[43] ++ ByteArray.mk name.toArray) = ByteArray.mk (43 :: name).toArray := by apply ByteArray.ext; simp [ByteArray.data_append]
  have hd := Drf.begin h name (43 :: name)
  have hk : Kept [] w (w.alloc (.cells #[.pointer (some ⟨p, 0, none⟩), encStr name, encStr (43 :: name), .bool false] 115)) := (Kept.refl [] w).alloc _
  have hla := lay_fine hd (ao := ao) (cp := cp) hN (by simp; omega) (by omega) hl (hs.kept hk (by simp)) h0a hnew h53 hc e1 e2 e3 e4
  clear hd hk h hs hnew h0a hon h53 hc e1 e2 e3 e4 hp
  go_enter Tryz.func24, Tryz.ntmps24
  go_wp2_with (first
    | (go_at_call 66; refine c1.mono ?_; rintro e w' ⟨rfl, hww⟩; obtain rfl := hww.symm; clear c1)
    | (go_at_call 48; refine hof.mono ?_; rintro e w' ⟨rfl, hww⟩; obtain rfl := hww.symm; clear hof)
    | (go_at_call 67; refine hla.mono ?_; rintro e w2 ⟨rfl, hd2⟩; have HD := hide hd2; clear hla hd2))
  go_ret
  exact ⟨rfl, HD.out.end⟩

set_option maxHeartbeats 4000000 in
set_option maxRecDepth 100000 in
theorem get_fine (h : Ax X wa w p S N) (name : By) (hN : N + 20 ≤ 268435456) (hm : name.length ≤ 4611686018427387900) (hp : isNm name = true) (hf : (S.find name).1 = 0) :
    Calls Tryz.prog 25 #[.pointer (some ⟨p, 0, none⟩), encStr name] w fun e w' => ∃ v, e = .returned (.tuple #[v, .nilIface]) ∧ Ax X wa w' p (S.read name 0 (S.size name)) (N + 1) ∧ OwnB w' v (S.readBytes name 0 (S.size name)).length (S.readBytes name 0 (S.size name)) := by
  have c1 := fisName_ok name w (by omega)
  rw [hp] at c1
  have hsz := size_ax h name (by omega)
  rw [hf] at hsz
  have hrd := read_ax h (by omega) name (by omega) 0 (S.size name)
  have hok : S.readOk name 0 (S.size name) = 0 := by
    simp only [Ds.readOk, Ds.size, hf, ne_eq, not_true_eq_false, if_false]
    rw [if_neg (by omega)]
  rw [hok] at hrd
  have hfa := fun v => fault_ok opGet name 0 v
  clear h hp hf hok
  generalize S.size name = z at *
  go_enter Tryz.func25, Tryz.ntmps25
  go_wp2_with (first
    | (go_at_call 68; refine c1.mono ?_; rintro e w' ⟨rfl, hww⟩; obtain rfl := hww.symm; clear c1)
    | (go_at_call 69; refine hsz.mono ?_; rintro e w' ⟨rfl, hww⟩; obtain rfl := hww.symm; clear hsz)
    | (go_at_call 70; refine hrd.mono ?_; rintro e w2 ⟨v, rfl, hx, ho⟩; have HX := hide hx; have HO := hide ho; clear hrd hx ho)
    | (go_at_call 57; refine (hfa _).mono ?_; rintro e w3 ⟨v3, rfl, hv3, hk3⟩; obtain rfl : v3 = .nilIface := (by rcases hv3 with hv | hv; exact hv.2; exact absurd rfl hv.1); have HK3 := hide hk3; clear hfa hv3 hk3))
  go_ret2
  exact ⟨_, rfl, HX.out.kept HK3.out, HO.out.kept HK3.out⟩
end
end

end Go.Proofs.YtoiogpcmndlpcaaGreatDoor
