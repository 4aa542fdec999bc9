import Derived.Test.YtodihkdmneihiaaGreatDoorFnbp
import Derived.Test.YtodihkdmneihiaaGreatDoorJpp
namespace Go.Proofs.YtodihkdmneihiaaGreatDoor
open Go.RowKit Dsk
set_option linter.unusedVariables false
set_option linter.unusedSimpArgs false
theorem pd_lim {w : World} {p : Nat} {S : Ds} {A : Nat → Nat} {o : Lab} (h : PD w p S A o) {b : Nat} (hb : o b ≠ 0) : b < w.heap.size := by
 obtain ⟨_, _, _, _, hz⟩ := h
 exact hz.lim b hb
theorem ax_free {X : Nat → Prop} {wa w w' : World} {p : Nat} {S : Ds} {N : Nat} (h : Ax X wa w p S N) {Y F : Nat → Prop} (hk : Keep F w w') (hF : ∀ b, b < w.heap.size → F b → X b) (hY : ∀ b, Y b → (X b ∨ w.heap.size ≤ b) ∧ b < w'.heap.size) : Ax Y w' w' p S N := by
 obtain ⟨A, o, h1, h2, h3, h4⟩ := h
 refine ⟨A, o, h1.keep hk (fun b hb hf => hb (h2 b (hF b (pd_lim h1 hb) hf)).1), fun b hb => ?_, Keep.refl _ _, h4⟩
 obtain ⟨h7, h8⟩ := hY b hb
 rcases h7 with h7 | h7
 ·exact ⟨(h2 b h7).1, h8⟩
 ·exact ⟨Classical.byContradiction fun hn => by have := pd_lim h1 hn; omega, h8⟩
structure Drf (X : Nat → Prop) (wa w : World) (p : Nat) (S : Ds) (N : Nat) (fb : Nat) (name plus : By) (c : Bool) : Prop where
 ax : Ax (fun b => X b ∨ b = fb) w w p S N
 cell : w.heap[fb]? = some (.cells #[.pointer (some ⟨p, 0, none⟩), encStr name, encStr plus, .bool c] 86 (0, 0))
 keep : Keep (fun b => ¬ X b) wa w
 nx : ¬ X fb
 lt : ∀ b, X b → b < wa.heap.size
section
variable {X : Nat → Prop} {wa w w' : World} {p : Nat} {S : Ds} {N : Nat} {fb : Nat} {name plus : By} {c : Bool}
theorem Drf.next (h : Drf X wa w p S N fb name plus c) {S' : Ds} {N' : Nat} (hx : Ax (fun b => X b ∨ b = fb) w w' p S' N') : Drf X wa w' p S' N' fb name plus c := by
 have hk := hx.old
 exact ⟨hx.here, hk.heapOf h.cell (fun hn => hn (.inr rfl)), h.keep.trans (hk.mono (fun b hb _ hX => hb (.inl hX))) (fun b hb _ => hb), h.nx, h.lt⟩
theorem Drf.kept (h : Drf X wa w p S N fb name plus c) (hk : Kept [] w w') : Drf X wa w' p S N fb name plus c := h.next (h.ax.kept hk)
theorem Drf.mono {M : Nat} (h : Drf X wa w p S N fb name plus c) (hm : N ≤ M) : Drf X wa w p S M fb name plus c := ⟨h.ax.mono hm, h.cell, h.keep, h.nx, h.lt⟩
theorem Drf.mark (h : Drf X wa w p S N fb name plus c) : Drf X wa (w.setCell ⟨fb, 3, none⟩ (.bool true)) p S N fb name plus true := by
 have hk : Keep (fun b => b = fb) w (w.setCell ⟨fb, 3, none⟩ (.bool true)) := (Keep.refl (fun b => b = fb) w).setCell (p := ⟨fb, 3, none⟩) (fun _ => rfl) _
 have hfl := (Array.getElem?_eq_some_iff.1 h.cell).1
 refine ⟨ax_free h.ax hk (fun b _ hb => .inr hb) (fun b hb => ⟨.inl hb, ?_⟩), ?_, h.keep.trans (hk.mono (fun b hb _ hX => h.nx (hb ▸ hX))) (fun b hb _ => hb), h.nx, h.lt⟩
 ·rcases hb with hb | hb
  ·exact Nat.lt_of_lt_of_le (h.lt b hb) (Nat.le_trans h.keep.size hk.size)
  ·rw [hb]; exact Nat.lt_of_lt_of_le hfl hk.size
 ·rw [heap_setCell_same _ _ _ _ _ _ h.cell]
  rfl
theorem Drf.begin (h : Ax X wa w p S N) (name plus : By) : Drf X wa (w.alloc (.cells #[.pointer (some ⟨p, 0, none⟩), encStr name, encStr plus, .bool false] 86)) p S N w.heap.size name plus false := by
 have hb := (MapKept.heap_alloc w (.cells #[.pointer (some ⟨p, 0, none⟩), encStr name, encStr plus, .bool false] 86)).1
 have hk : Kept [] w (w.alloc (.cells #[.pointer (some ⟨p, 0, none⟩), encStr name, encStr plus, .bool false] 86)) := (Kept.refl [] w).alloc _
 have hlt : ∀ b, X b → b < wa.heap.size := fun b hb => by obtain ⟨A, o, h1, h2, h3, h4⟩ := h; exact (h2 b hb).2
 have hfl := (Array.getElem?_eq_some_iff.1 hb).1
 refine ⟨ax_free h (Keep.ofNone (F := fun _ => False) hk) (fun _ _ h => h.elim) (fun b hb2 => ?_), hb, h.old.kept hk, fun hX => ?_, hlt⟩
 ·rcases hb2 with hb2 | hb2
  ·exact ⟨.inl hb2, Nat.lt_of_lt_of_le (hlt b hb2) (Nat.le_trans h.old.size hk.size)⟩
  ·exact ⟨.inr (by omega), by omega⟩
 ·have h1 := hlt _ hX
  have h2 := h.old.size
  omega
theorem Drf.end (h : Drf X wa w p S N fb name plus c) : Ax X wa w p S N := by
 obtain ⟨A, o, h1, h2, h3, h4⟩ := h.ax
 exact ⟨A, o, h1, fun b hb => ⟨(h2 b (.inl hb)).1, h.lt b hb⟩, h.keep, h4⟩
theorem Drf.k0 (h : Drf X wa w p S N fb name plus c) : w.cell? ⟨fb, 0, none⟩ = some (.pointer (some ⟨p, 0, none⟩)) := by rw [cell_of_row _ _ _ _ _ _ h.cell]; rfl
theorem Drf.k1 (h : Drf X wa w p S N fb name plus c) : w.cell? ⟨fb, 1, none⟩ = some (encStr name) := by rw [cell_of_row _ _ _ _ _ _ h.cell]; rfl
theorem Drf.k2 (h : Drf X wa w p S N fb name plus c) : w.cell? ⟨fb, 2, none⟩ = some (encStr plus) := by rw [cell_of_row _ _ _ _ _ _ h.cell]; rfl
theorem Drf.k3 (h : Drf X wa w p S N fb name plus c) : w.cell? ⟨fb, 3, none⟩ = some (.bool c) := by rw [cell_of_row _ _ _ _ _ _ h.cell]; rfl
theorem Drf.fr (h : Drf X wa w p S N fb name plus c) (j : Nat) : w.frozen? ⟨fb, j, none⟩ = false := frozen_of_row _ _ _ _ _ h.cell
set_option maxHeartbeats 4000000 in
set_option maxRecDepth 100000 in
theorem clear_none (h : Drf X wa w p S N fb name plus c) (hpl : plus.length ≤ 4611686018427387904) (h53 : (S.find plus).1 = 53) :
  Calls Tryz.prog 116 #[.pointer (some ⟨fb, 0, none⟩)] w fun e w' => e = .returned (.int .i64 0) ∧ Drf X wa w' p S N fb name plus c := by
 have k0 := h.k0
 have k2 := h.k2
 have HD := hide h
 have H53 := hide h53
 clear h h53
 go_enter Tryz.func116, Tryz.ntmps116
 go_upto_region 1 with (fail)
 refine wp_region_late (fun w' => Kept [] w w') (fun i => i == 8) (by kernel_rfl) ?_
 have h0 : Kept [] w w.drew := (Kept.refl [] w).drew
 generalize World.drew w = v0 at h0 ⊢
 refine wpAnyL_free (i := 0) (v := .pointer (some ⟨fb, 0, none⟩)) rfl (by kernel_rfl) (by kernel_rfl) (by kernel_rfl) (fun _ _ _ h => h) (Or.inl ⟨by rfl, fun w _ => by go_simp⟩) ?_
 try simp only [z1, z2, z3, z4, z5, z6, z7, z8]
 refine wpAnyL_free (i := 1) (v := .pointer (some ⟨fb, 0, none⟩)) rfl (by kernel_rfl) (by kernel_rfl) (by kernel_rfl) (fun _ _ _ h => h) (Or.inl ⟨by rfl, fun w _ => by go_simp⟩) ?_
 try simp only [z1, z2, z3, z4, z5, z6, z7, z8]
 refine wpAnyL_free (i := 2) (v := .pointer (some ⟨fb, 0, none⟩)) rfl (by kernel_rfl) (by kernel_rfl) (by kernel_rfl) (fun _ _ _ h => h) (Or.inl ⟨by rfl, fun w _ => by go_simp⟩) ?_
 try simp only [z1, z2, z3, z4, z5, z6, z7, z8]
 refine wpAnyL_take (i := 3) (v := .pointer (some ⟨p, 0, none⟩)) rfl (by kernel_rfl) (by kernel_rfl) (by kernel_rfl) (by kernel_rfl) (by kernel_rfl) (fun _ _ _ h => h) (Or.inl ⟨by rfl, fun w hSw => by have c := Kept.cellOf hSw k0 (by simp); go_simp⟩) h0 ?_
 try simp only [z1, z2, z3, z4, z5, z6, z7, z8]
 refine wpAnyL_free (i := 4) (v := .pointer (some ⟨fb, 0, none⟩)) rfl (by kernel_rfl) (by kernel_rfl) (by kernel_rfl) (fun _ _ _ h => h) (Or.inl ⟨by rfl, fun w _ => by go_simp⟩) ?_
 try simp only [z1, z2, z3, z4, z5, z6, z7, z8]
 refine wpAnyL_free (i := 5) (v := .pointer (some ⟨fb, 0, none⟩)) rfl (by kernel_rfl) (by kernel_rfl) (by kernel_rfl) (fun _ _ _ h => h) (Or.inl ⟨by rfl, fun w _ => by go_simp⟩) ?_
 try simp only [z1, z2, z3, z4, z5, z6, z7, z8]
 refine wpAnyL_free (i := 6) (v := .pointer (some ⟨fb, 2, none⟩)) rfl (by kernel_rfl) (by kernel_rfl) (by kernel_rfl) (fun _ _ _ h => h) (Or.inl ⟨by rfl, fun w _ => by go_simp⟩) ?_
 try simp only [z1, z2, z3, z4, z5, z6, z7, z8]
 refine wpAnyL_take (i := 7) (v := encStr plus) rfl (by kernel_rfl) (by kernel_rfl) (by kernel_rfl) (by kernel_rfl) (by kernel_rfl) (fun _ _ _ h => h) (Or.inl ⟨by rfl, fun w hSw => by have c := Kept.cellOf hSw k2 (by simp); go_simp⟩) h0 ?_
 try simp only [z1, z2, z3, z4, z5, z6, z7, z8]
 have hcc := size_ax (HD.out.kept h0).ax plus hpl
 refine wpAnyL_one (i := 8) (by kernel_rfl) rfl (fun K' hK => ?_)
 rw [if_pos (by rfl)]
 go_simp
 refine hcc.mono ?_
 rintro e w2 ⟨rfl, hww⟩; obtain rfl := hww.symm
 rw [H53.out]
 refine hK.out _ _ (fun _ h => by cases h) ?_
 clear hK K' hcc
 try simp only [z1, z2, z3, z4, z5, z6, z7, z8]
 refine wpAnyL_free (i := 9) (v := .tuple #[.int .i64 (S.size plus), .int .i64 53]) rfl (by kernel_rfl) (by kernel_rfl) (by kernel_rfl) (fun _ _ _ h => h) (Or.inl ⟨by rfl, fun w _ => by go_simp⟩) ?_
 try simp only [z1, z2, z3, z4, z5, z6, z7, z8]
 refine wpAnyL_free (i := 10) (v := .int .i64 (S.size plus)) rfl (by kernel_rfl) (by kernel_rfl) (by kernel_rfl) (fun _ _ _ h => h) (Or.inl ⟨by rfl, fun w _ => by go_simp⟩) ?_
 try simp only [z1, z2, z3, z4, z5, z6, z7, z8]
 refine wpAnyL_free (i := 11) (v := .int .i64 53) rfl (by kernel_rfl) (by kernel_rfl) (by kernel_rfl) (fun _ _ _ h => h) (Or.inl ⟨by rfl, fun w _ => by go_simp⟩) ?_
 try simp only [z1, z2, z3, z4, z5, z6, z7, z8]
 refine wpAnyL_free (i := 12) (v := .int .i64 (S.size plus)) rfl (by kernel_rfl) (by kernel_rfl) (by kernel_rfl) (fun _ _ _ h => h) (Or.inl ⟨by rfl, fun w _ => by go_simp⟩) ?_
 try simp only [z1, z2, z3, z4, z5, z6, z7, z8]
 refine wpAnyL_free (i := 13) (v := .int .i64 53) rfl (by kernel_rfl) (by kernel_rfl) (by kernel_rfl) (fun _ _ _ h => h) (Or.inl ⟨by rfl, fun w _ => by go_simp⟩) ?_
 try simp only [z1, z2, z3, z4, z5, z6, z7, z8]
 refine wpAnyL_done (by kernel_rfl) ?_ _
 go_wp2
 go_ret
 exact ⟨rfl, HD.out.kept h0⟩
set_option maxHeartbeats 4000000 in
set_option maxRecDepth 100000 in
theorem begin_fine (h : Drf X wa w p S N fb name plus c) (hN : N ≤ 268435456) (hpl : plus.length ≤ 4611686018427387904) (h53 : (S.find plus).1 = 53) (hc : (S.create plus).1 = 0) :
  Calls Tryz.prog 97 #[.pointer (some ⟨fb, 0, none⟩)] w fun e w' => e = .returned (.int .i64 0) ∧ Drf X wa w' p (S.create plus).2 (N + 1) fb name plus true := by
 have hcl := clear_none h hpl h53
 have HC := hide hc
 clear h h53 hc
 go_enter Tryz.func97, Tryz.ntmps97
 go_upto_region 4 with (go_at_call 116; refine hcl.mono ?_; rintro e w1 ⟨rfl, hd⟩; have HD := hide hd; clear hcl hd)
 have k0 := HD.out.k0
 have k2 := HD.out.k2
 refine wp_region_late (fun w' => Kept [] w1 w') (fun i => i == 8) (by kernel_rfl) ?_
 have h0 : Kept [] w1 w1.drew := (Kept.refl [] w1).drew
 generalize World.drew w1 = v0 at h0 ⊢
 refine wpAnyL_free (i := 0) (v := .pointer (some ⟨fb, 0, none⟩)) rfl (by kernel_rfl) (by kernel_rfl) (by kernel_rfl) (fun _ _ _ h => h) (Or.inl ⟨by rfl, fun w _ => by go_simp⟩) ?_
 try simp only [z1, z2, z3, z4, z5, z6, z7, z8]
 refine wpAnyL_free (i := 1) (v := .pointer (some ⟨fb, 0, none⟩)) rfl (by kernel_rfl) (by kernel_rfl) (by kernel_rfl) (fun _ _ _ h => h) (Or.inl ⟨by rfl, fun w _ => by go_simp⟩) ?_
 try simp only [z1, z2, z3, z4, z5, z6, z7, z8]
 refine wpAnyL_free (i := 2) (v := .pointer (some ⟨fb, 0, none⟩)) rfl (by kernel_rfl) (by kernel_rfl) (by kernel_rfl) (fun _ _ _ h => h) (Or.inl ⟨by rfl, fun w _ => by go_simp⟩) ?_
 try simp only [z1, z2, z3, z4, z5, z6, z7, z8]
 refine wpAnyL_take (i := 3) (v := .pointer (some ⟨p, 0, none⟩)) rfl (by kernel_rfl) (by kernel_rfl) (by kernel_rfl) (by kernel_rfl) (by kernel_rfl) (fun _ _ _ h => h) (Or.inl ⟨by rfl, fun w hSw => by have c := Kept.cellOf hSw k0 (by simp); go_simp⟩) h0 ?_
 try simp only [z1, z2, z3, z4, z5, z6, z7, z8]
 refine wpAnyL_free (i := 4) (v := .pointer (some ⟨fb, 0, none⟩)) rfl (by kernel_rfl) (by kernel_rfl) (by kernel_rfl) (fun _ _ _ h => h) (Or.inl ⟨by rfl, fun w _ => by go_simp⟩) ?_
 try simp only [z1, z2, z3, z4, z5, z6, z7, z8]
 refine wpAnyL_free (i := 5) (v := .pointer (some ⟨fb, 0, none⟩)) rfl (by kernel_rfl) (by kernel_rfl) (by kernel_rfl) (fun _ _ _ h => h) (Or.inl ⟨by rfl, fun w _ => by go_simp⟩) ?_
 try simp only [z1, z2, z3, z4, z5, z6, z7, z8]
 refine wpAnyL_free (i := 6) (v := .pointer (some ⟨fb, 2, none⟩)) rfl (by kernel_rfl) (by kernel_rfl) (by kernel_rfl) (fun _ _ _ h => h) (Or.inl ⟨by rfl, fun w _ => by go_simp⟩) ?_
 try simp only [z1, z2, z3, z4, z5, z6, z7, z8]
 refine wpAnyL_take (i := 7) (v := encStr plus) rfl (by kernel_rfl) (by kernel_rfl) (by kernel_rfl) (by kernel_rfl) (by kernel_rfl) (fun _ _ _ h => h) (Or.inl ⟨by rfl, fun w hSw => by have c := Kept.cellOf hSw k2 (by simp); go_simp⟩) h0 ?_
 try simp only [z1, z2, z3, z4, z5, z6, z7, z8]
 have hcc := create_ax (HD.out.kept h0).ax hN plus hpl
 refine wpAnyL_one (i := 8) (by kernel_rfl) rfl (fun K' hK => ?_)
 rw [if_pos (by rfl)]
 go_simp
 refine hcc.mono ?_
 rintro e w2 ⟨rfl, hx⟩
 have HD2 := hide ((HD.out.kept h0).next hx); rw [HC.out]; clear hx
 refine hK.out _ _ (fun _ h => by cases h) ?_
 clear hK K' hcc
 try simp only [z1, z2, z3, z4, z5, z6, z7, z8]
 refine wpAnyL_free (i := 9) (v := .int .i64 0) rfl (by kernel_rfl) (by kernel_rfl) (by kernel_rfl) (fun _ _ _ h => h) (Or.inl ⟨by rfl, fun w _ => by go_simp⟩) ?_
 try simp only [z1, z2, z3, z4, z5, z6, z7, z8]
 refine wpAnyL_done (by kernel_rfl) ?_ _
 have f3 := HD2.out.fr 3
 have d3 := HD2.out.k3
 have HM := hide HD2.out.mark
 clear k0 k2 h0 HD HD2
 go_wp2
 go_ret
 exact ⟨rfl, HM.out⟩
set_option maxHeartbeats 4000000 in
set_option maxRecDepth 100000 in
theorem finish_fine (h : Drf X wa w p S N fb name plus c) {ao : Option Addr} {n cp : Nat} {d : By} (hN : N + n + 10 ≤ 268435456) (hpl : plus.length ≤ 4611686018427387904) (hnl : name.length ≤ 4611686018427387904) (hl : d.length = n) (hs : Sl w ao d) (h0a : ao = none → n = 0) (hnew : d ≠ [] → ∀ a, ao = some a → X a.block)
  (e1 : (S.append plus d).1 = 0) (e2 : ((S.append plus d).2.sync plus).1 = 0) (e3 : (((S.append plus d).2.sync plus).2.rename plus name).1 = 0) (e4 : ((((S.append plus d).2.sync plus).2.rename plus name).2.syncNames).1 = 0) :
  Calls Tryz.prog 98 #[.pointer (some ⟨fb, 0, none⟩), .slice ao n cp] w fun e w' => e = .returned (.int .i64 0) ∧ Drf X wa w' p ((((S.append plus d).2.sync plus).2.rename plus name).2.syncNames).2 (N + n + 6) fb name plus c := by
 have k0 := h.k0
 have k2 := h.k2
 have HD := hide h
 have HS := hide hs
 have HNW := hide hnew
 have H0A := hide h0a
 have HE := hide (And.intro e1 (And.intro e2 (And.intro e3 e4)))
 clear h hs hnew h0a e1 e2 e3 e4
 go_enter Tryz.func98, Tryz.ntmps98
 go_upto_region 1 with (fail)
 refine wp_region_late (fun w' => Kept [] w w') (fun i => i == 9) (by kernel_rfl) ?_
 have h0 : Kept [] w w.drew := (Kept.refl [] w).drew
 generalize World.drew w = v0 at h0 ⊢
 refine wpAnyL_free (i := 0) (v := .pointer (some ⟨fb, 0, none⟩)) rfl (by kernel_rfl) (by kernel_rfl) (by kernel_rfl) (fun _ _ _ h => h) (Or.inl ⟨by rfl, fun w _ => by go_simp⟩) ?_
 try simp only [z1, z2, z3, z4, z5, z6, z7, z8]
 refine wpAnyL_free (i := 1) (v := .pointer (some ⟨fb, 0, none⟩)) rfl (by kernel_rfl) (by kernel_rfl) (by kernel_rfl) (fun _ _ _ h => h) (Or.inl ⟨by rfl, fun w _ => by go_simp⟩) ?_
 try simp only [z1, z2, z3, z4, z5, z6, z7, z8]
 refine wpAnyL_free (i := 2) (v := .pointer (some ⟨fb, 0, none⟩)) rfl (by kernel_rfl) (by kernel_rfl) (by kernel_rfl) (fun _ _ _ h => h) (Or.inl ⟨by rfl, fun w _ => by go_simp⟩) ?_
 try simp only [z1, z2, z3, z4, z5, z6, z7, z8]
 refine wpAnyL_take (i := 3) (v := .pointer (some ⟨p, 0, none⟩)) rfl (by kernel_rfl) (by kernel_rfl) (by kernel_rfl) (by kernel_rfl) (by kernel_rfl) (fun _ _ _ h => h) (Or.inl ⟨by rfl, fun w hSw => by have c := Kept.cellOf hSw k0 (by simp); go_simp⟩) h0 ?_
 try simp only [z1, z2, z3, z4, z5, z6, z7, z8]
 refine wpAnyL_free (i := 4) (v := .pointer (some ⟨fb, 0, none⟩)) rfl (by kernel_rfl) (by kernel_rfl) (by kernel_rfl) (fun _ _ _ h => h) (Or.inl ⟨by rfl, fun w _ => by go_simp⟩) ?_
 try simp only [z1, z2, z3, z4, z5, z6, z7, z8]
 refine wpAnyL_free (i := 5) (v := .pointer (some ⟨fb, 0, none⟩)) rfl (by kernel_rfl) (by kernel_rfl) (by kernel_rfl) (fun _ _ _ h => h) (Or.inl ⟨by rfl, fun w _ => by go_simp⟩) ?_
 try simp only [z1, z2, z3, z4, z5, z6, z7, z8]
 refine wpAnyL_free (i := 6) (v := .pointer (some ⟨fb, 2, none⟩)) rfl (by kernel_rfl) (by kernel_rfl) (by kernel_rfl) (fun _ _ _ h => h) (Or.inl ⟨by rfl, fun w _ => by go_simp⟩) ?_
 try simp only [z1, z2, z3, z4, z5, z6, z7, z8]
 refine wpAnyL_take (i := 7) (v := encStr plus) rfl (by kernel_rfl) (by kernel_rfl) (by kernel_rfl) (by kernel_rfl) (by kernel_rfl) (fun _ _ _ h => h) (Or.inl ⟨by rfl, fun w hSw => by have c := Kept.cellOf hSw k2 (by simp); go_simp⟩) h0 ?_
 try simp only [z1, z2, z3, z4, z5, z6, z7, z8]
 refine wpAnyL_free (i := 8) (v := .slice ao n cp) rfl (by kernel_rfl) (by kernel_rfl) (by kernel_rfl) (fun _ _ _ h => h) (Or.inl ⟨by rfl, fun w _ => by go_simp⟩) ?_
 try simp only [z1, z2, z3, z4, z5, z6, z7, z8]
 have hcc := append_ax (HD.out.kept h0).ax (Kept.refl [] v0) (c := cp) (by omega) plus hpl hl (HS.out.kept h0 (by simp)) H0A.out (fun hd a ha => .inr (.inl (HNW.out hd a ha)))
 refine wpAnyL_one (i := 9) (by kernel_rfl) rfl (fun K' hK => ?_)
 rw [if_pos (by rfl)]
 go_simp
 refine hcc.mono ?_
 rintro e w2 ⟨rfl, hx⟩
 have HD2 := hide ((HD.out.kept h0).next hx); rw [HE.out.1]; clear hx
 refine hK.out _ _ (fun _ h => by cases h) ?_
 clear hK K' hcc
 try simp only [z1, z2, z3, z4, z5, z6, z7, z8]
 refine wpAnyL_free (i := 10) (v := .int .i64 0) rfl (by kernel_rfl) (by kernel_rfl) (by kernel_rfl) (fun _ _ _ h => h) (Or.inl ⟨by rfl, fun w _ => by go_simp⟩) ?_
 try simp only [z1, z2, z3, z4, z5, z6, z7, z8]
 refine wpAnyL_done (by kernel_rfl) ?_ _
 obtain ⟨S2, hS2⟩ : ∃ x, (S.append plus d).2 = x := ⟨_, rfl⟩
 rw [hS2] at HD2 HE
 have HS2 := hide hS2
 clear hS2
 clear k0 k2 h0 HD HS HNW H0A
 have k0 := HD2.out.k0
 have k2 := HD2.out.k2
 go_upto_region 4 with (fail)
 refine wp_region_late (fun w' => Kept [] w2 w') (fun i => i == 8) (by kernel_rfl) ?_
 have h0 : Kept [] w2 w2.drew := (Kept.refl [] w2).drew
 generalize World.drew w2 = v0 at h0 ⊢
 refine wpAnyL_free (i := 0) (v := .pointer (some ⟨fb, 0, none⟩)) rfl (by kernel_rfl) (by kernel_rfl) (by kernel_rfl) (fun _ _ _ h => h) (Or.inl ⟨by rfl, fun w _ => by go_simp⟩) ?_
 try simp only [z1, z2, z3, z4, z5, z6, z7, z8]
 refine wpAnyL_free (i := 1) (v := .pointer (some ⟨fb, 0, none⟩)) rfl (by kernel_rfl) (by kernel_rfl) (by kernel_rfl) (fun _ _ _ h => h) (Or.inl ⟨by rfl, fun w _ => by go_simp⟩) ?_
 try simp only [z1, z2, z3, z4, z5, z6, z7, z8]
 refine wpAnyL_free (i := 2) (v := .pointer (some ⟨fb, 0, none⟩)) rfl (by kernel_rfl) (by kernel_rfl) (by kernel_rfl) (fun _ _ _ h => h) (Or.inl ⟨by rfl, fun w _ => by go_simp⟩) ?_
 try simp only [z1, z2, z3, z4, z5, z6, z7, z8]
 refine wpAnyL_take (i := 3) (v := .pointer (some ⟨p, 0, none⟩)) rfl (by kernel_rfl) (by kernel_rfl) (by kernel_rfl) (by kernel_rfl) (by kernel_rfl) (fun _ _ _ h => h) (Or.inl ⟨by rfl, fun w hSw => by have c := Kept.cellOf hSw k0 (by simp); go_simp⟩) h0 ?_
 try simp only [z1, z2, z3, z4, z5, z6, z7, z8]
 refine wpAnyL_free (i := 4) (v := .pointer (some ⟨fb, 0, none⟩)) rfl (by kernel_rfl) (by kernel_rfl) (by kernel_rfl) (fun _ _ _ h => h) (Or.inl ⟨by rfl, fun w _ => by go_simp⟩) ?_
 try simp only [z1, z2, z3, z4, z5, z6, z7, z8]
 refine wpAnyL_free (i := 5) (v := .pointer (some ⟨fb, 0, none⟩)) rfl (by kernel_rfl) (by kernel_rfl) (by kernel_rfl) (fun _ _ _ h => h) (Or.inl ⟨by rfl, fun w _ => by go_simp⟩) ?_
 try simp only [z1, z2, z3, z4, z5, z6, z7, z8]
 refine wpAnyL_free (i := 6) (v := .pointer (some ⟨fb, 2, none⟩)) rfl (by kernel_rfl) (by kernel_rfl) (by kernel_rfl) (fun _ _ _ h => h) (Or.inl ⟨by rfl, fun w _ => by go_simp⟩) ?_
 try simp only [z1, z2, z3, z4, z5, z6, z7, z8]
 refine wpAnyL_take (i := 7) (v := encStr plus) rfl (by kernel_rfl) (by kernel_rfl) (by kernel_rfl) (by kernel_rfl) (by kernel_rfl) (fun _ _ _ h => h) (Or.inl ⟨by rfl, fun w hSw => by have c := Kept.cellOf hSw k2 (by simp); go_simp⟩) h0 ?_
 try simp only [z1, z2, z3, z4, z5, z6, z7, z8]
 have hcc := sync_ax (HD2.out.kept h0).ax (by omega) plus hpl
 refine wpAnyL_one (i := 8) (by kernel_rfl) rfl (fun K' hK => ?_)
 rw [if_pos (by rfl)]
 go_simp
 refine hcc.mono ?_
 rintro e w3 ⟨rfl, hx⟩
 have HD3 := hide ((HD2.out.kept h0).next hx); rw [HE.out.2.1]; clear hx
 refine hK.out _ _ (fun _ h => by cases h) ?_
 clear hK K' hcc
 try simp only [z1, z2, z3, z4, z5, z6, z7, z8]
 refine wpAnyL_free (i := 9) (v := .int .i64 0) rfl (by kernel_rfl) (by kernel_rfl) (by kernel_rfl) (fun _ _ _ h => h) (Or.inl ⟨by rfl, fun w _ => by go_simp⟩) ?_
 try simp only [z1, z2, z3, z4, z5, z6, z7, z8]
 refine wpAnyL_done (by kernel_rfl) ?_ _
 obtain ⟨S3, hS3⟩ : ∃ x, (S2.sync plus).2 = x := ⟨_, rfl⟩
 rw [hS3] at HD3 HE
 have HS3 := hide hS3
 clear hS3
 clear k0 k2 h0 HD2
 have k0 := HD3.out.k0
 have k1 := HD3.out.k1
 have k2 := HD3.out.k2
 go_upto_region 7 with (fail)
 refine wp_region_late (fun w' => Kept [] w3 w') (fun i => i == 12) (by kernel_rfl) ?_
 have h0 : Kept [] w3 w3.drew := (Kept.refl [] w3).drew
 generalize World.drew w3 = v0 at h0 ⊢
 refine wpAnyL_free (i := 0) (v := .pointer (some ⟨fb, 0, none⟩)) rfl (by kernel_rfl) (by kernel_rfl) (by kernel_rfl) (fun _ _ _ h => h) (Or.inl ⟨by rfl, fun w _ => by go_simp⟩) ?_
 try simp only [z1, z2, z3, z4, z5, z6, z7, z8]
 refine wpAnyL_free (i := 1) (v := .pointer (some ⟨fb, 0, none⟩)) rfl (by kernel_rfl) (by kernel_rfl) (by kernel_rfl) (fun _ _ _ h => h) (Or.inl ⟨by rfl, fun w _ => by go_simp⟩) ?_
 try simp only [z1, z2, z3, z4, z5, z6, z7, z8]
 refine wpAnyL_free (i := 2) (v := .pointer (some ⟨fb, 0, none⟩)) rfl (by kernel_rfl) (by kernel_rfl) (by kernel_rfl) (fun _ _ _ h => h) (Or.inl ⟨by rfl, fun w _ => by go_simp⟩) ?_
 try simp only [z1, z2, z3, z4, z5, z6, z7, z8]
 refine wpAnyL_take (i := 3) (v := .pointer (some ⟨p, 0, none⟩)) rfl (by kernel_rfl) (by kernel_rfl) (by kernel_rfl) (by kernel_rfl) (by kernel_rfl) (fun _ _ _ h => h) (Or.inl ⟨by rfl, fun w hSw => by have c := Kept.cellOf hSw k0 (by simp); go_simp⟩) h0 ?_
 try simp only [z1, z2, z3, z4, z5, z6, z7, z8]
 refine wpAnyL_free (i := 4) (v := .pointer (some ⟨fb, 0, none⟩)) rfl (by kernel_rfl) (by kernel_rfl) (by kernel_rfl) (fun _ _ _ h => h) (Or.inl ⟨by rfl, fun w _ => by go_simp⟩) ?_
 try simp only [z1, z2, z3, z4, z5, z6, z7, z8]
 refine wpAnyL_free (i := 5) (v := .pointer (some ⟨fb, 0, none⟩)) rfl (by kernel_rfl) (by kernel_rfl) (by kernel_rfl) (fun _ _ _ h => h) (Or.inl ⟨by rfl, fun w _ => by go_simp⟩) ?_
 try simp only [z1, z2, z3, z4, z5, z6, z7, z8]
 refine wpAnyL_free (i := 6) (v := .pointer (some ⟨fb, 2, none⟩)) rfl (by kernel_rfl) (by kernel_rfl) (by kernel_rfl) (fun _ _ _ h => h) (Or.inl ⟨by rfl, fun w _ => by go_simp⟩) ?_
 try simp only [z1, z2, z3, z4, z5, z6, z7, z8]
 refine wpAnyL_take (i := 7) (v := encStr plus) rfl (by kernel_rfl) (by kernel_rfl) (by kernel_rfl) (by kernel_rfl) (by kernel_rfl) (fun _ _ _ h => h) (Or.inl ⟨by rfl, fun w hSw => by have c := Kept.cellOf hSw k2 (by simp); go_simp⟩) h0 ?_
 try simp only [z1, z2, z3, z4, z5, z6, z7, z8]
 refine wpAnyL_free (i := 8) (v := .pointer (some ⟨fb, 0, none⟩)) rfl (by kernel_rfl) (by kernel_rfl) (by kernel_rfl) (fun _ _ _ h => h) (Or.inl ⟨by rfl, fun w _ => by go_simp⟩) ?_
 try simp only [z1, z2, z3, z4, z5, z6, z7, z8]
 refine wpAnyL_free (i := 9) (v := .pointer (some ⟨fb, 0, none⟩)) rfl (by kernel_rfl) (by kernel_rfl) (by kernel_rfl) (fun _ _ _ h => h) (Or.inl ⟨by rfl, fun w _ => by go_simp⟩) ?_
 try simp only [z1, z2, z3, z4, z5, z6, z7, z8]
 refine wpAnyL_free (i := 10) (v := .pointer (some ⟨fb, 1, none⟩)) rfl (by kernel_rfl) (by kernel_rfl) (by kernel_rfl) (fun _ _ _ h => h) (Or.inl ⟨by rfl, fun w _ => by go_simp⟩) ?_
 try simp only [z1, z2, z3, z4, z5, z6, z7, z8]
 refine wpAnyL_take (i := 11) (v := encStr name) rfl (by kernel_rfl) (by kernel_rfl) (by kernel_rfl) (by kernel_rfl) (by kernel_rfl) (fun _ _ _ h => h) (Or.inl ⟨by rfl, fun w hSw => by have c := Kept.cellOf hSw k1 (by simp); go_simp⟩) h0 ?_
 try simp only [z1, z2, z3, z4, z5, z6, z7, z8]
 have hcc := rename_ax (HD3.out.kept h0).ax (by omega) plus name hpl hnl
 refine wpAnyL_one (i := 12) (by kernel_rfl) rfl (fun K' hK => ?_)
 rw [if_pos (by rfl)]
 go_simp
 refine hcc.mono ?_
 rintro e w4 ⟨rfl, hx⟩
 have HD4 := hide ((HD3.out.kept h0).next hx); rw [HE.out.2.2.1]; clear hx
 refine hK.out _ _ (fun _ h => by cases h) ?_
 clear hK K' hcc
 try simp only [z1, z2, z3, z4, z5, z6, z7, z8]
 refine wpAnyL_free (i := 13) (v := .int .i64 0) rfl (by kernel_rfl) (by kernel_rfl) (by kernel_rfl) (fun _ _ _ h => h) (Or.inl ⟨by rfl, fun w _ => by go_simp⟩) ?_
 try simp only [z1, z2, z3, z4, z5, z6, z7, z8]
 refine wpAnyL_done (by kernel_rfl) ?_ _
 obtain ⟨S4, hS4⟩ : ∃ x, (S3.rename plus name).2 = x := ⟨_, rfl⟩
 rw [hS4] at HD4 HE
 have HS4 := hide hS4
 clear hS4
 clear k0 k1 k2 h0 HD3
 have k0 := HD4.out.k0
 have hsn := syncNames_ax HD4.out.ax (by omega)
 rw [HE.out.2.2.2] at hsn
 go_wp2_with (go_at_call 35; refine hsn.mono ?_; rintro e w9 ⟨rfl, hx⟩; have HX := hide hx; clear hsn hx)
 go_ret
 rw [HS2.out, HS3.out, HS4.out]
 exact ⟨rfl, (HD4.out.next HX.out).mono (by omega)⟩
end
end Go.Proofs.YtodihkdmneihiaaGreatDoor
