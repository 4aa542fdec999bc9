import Derived.Test.YtodihkdmneihiaaGreatDoorFohp
namespace Go.Proofs.YtodihkdmneihiaaGreatDoor
open Go.RowKit Dsk
set_option linter.unusedVariables false
set_option linter.unusedSimpArgs false
namespace Dsk
def Ds.clr (S : Ds) (q : By) : Bool × Int × Ds := if (S.find q).1 = 53 then (false, 0, S) else (true, S.remove q)
def Ds.beg (S : Ds) (q : By) : Bool × Int × Ds :=
 if (S.clr q).2.1 = 0 then (if ((S.clr q).2.2.create q).1 = 0 then (true, 0, ((S.clr q).2.2.create q).2) else ((S.clr q).1, (S.clr q).2.2.create q)) else S.clr q
def Ds.fin (S : Ds) (n q d : By) : Int × Ds :=
 if (S.append q d).1 = 0 then
  (if ((S.append q d).2.sync q).1 = 0 then
   (if (((S.append q d).2.sync q).2.rename q n).1 = 0 then (((S.append q d).2.sync q).2.rename q n).2.syncNames else ((S.append q d).2.sync q).2.rename q n)
  else (S.append q d).2.sync q)
 else S.append q d
def Ds.tbk (S : Ds) (q : By) : Int × Ds := if (S.clr q).2.1 = 0 then (S.clr q).2.2.syncNames else (S.clr q).2
def forRoom (E : Int) : Bool := E == 55 || E == 56
def Ds.rest (S : Ds) (c : Bool) (E : Int) (q : By) : Int × Ds := if (c && forRoom E) = true then (if (S.tbk q).1 = 0 then (E, (S.tbk q).2) else S.tbk q) else (E, S)
def Ds.lay (S : Ds) (n q d : By) : Int × Ds :=
 if (S.beg q).2.1 = 0 then ((S.beg q).2.2.fin n q d).2.rest (S.beg q).1 ((S.beg q).2.2.fin n q d).1 q else (S.beg q).2.2.rest (S.beg q).1 (S.beg q).2.1 q
def Ds.put (S : Ds) (n d : By) : Int × Ds := if isPut n = true then (if S.on = true then S.lay n (43 :: n) d else (50, S)) else (51, S)
theorem beg_ok {S : Ds} {q : By} (h : (S.beg q).2.1 = 0) : (S.beg q).1 = true := by
 unfold Ds.beg at h ⊢
 split at h
 ·rename_i h1
  split at h
  ·rename_i h2; rw [if_pos h1, if_pos h2]
  ·rename_i h2; exact absurd h h2
 ·rename_i h1; exact absurd h h1
end Dsk
section
variable {X : Nat → Prop} {wa w w' : World} {p : Nat} {S : Ds} {N : Nat} {fb : Nat} {name plus : By} {c : Bool}
theorem Drf.touch {F Y : Nat → Prop} (h : Drf X wa w p S N fb name plus c) (hk : Keep F w w') (hF : ∀ b, b < w.heap.size → F b → X b) (hY : ∀ b, Y b → (X b ∨ w.heap.size ≤ b) ∧ b < w'.heap.size ∧ b ≠ fb) : Drf Y w' w' p S N fb name plus c := by
 have hfl := (Array.getElem?_eq_some_iff.1 h.cell).1
 refine ⟨ax_free h.ax hk (fun b hb hf => .inl (hF b hb hf)) (fun b hb => ?_), hk.heapOf h.cell (fun hf => h.nx (hF fb hfl hf)), Keep.refl _ _, fun hy => (hY fb hy).2.2 rfl, fun b hb => (hY b hb).2.1⟩
 rcases hb with hb | hb
 ·obtain ⟨h1, h2, _⟩ := hY b hb
  exact ⟨h1.imp .inl id, h2⟩
 ·rw [hb]
  exact ⟨.inl (.inr rfl), Nat.lt_of_lt_of_le hfl hk.size⟩
set_option maxHeartbeats 4000000 in
set_option maxRecDepth 100000 in
theorem clear_any (h : Drf X wa w p S N fb name plus c) (hN : N + 2 ≤ 268435456) (hpl : plus.length ≤ 4611686018427387904) :
  Calls Tryz.prog 116 #[.pointer (some ⟨fb, 0, none⟩)] w fun e w' => e = .returned (.int .i64 (S.clr plus).2.1) ∧ Drf X wa w' p (S.clr plus).2.2 (N + 2) fb name plus (c || (S.clr plus).1) := by
 by_cases h53 : (S.find plus).1 = 53
 ·have e : S.clr plus = (false, 0, S) := by unfold Ds.clr; rw [if_pos h53]
  rw [e]
  refine (clear_none h hpl h53).mono ?_
  rintro e w' ⟨rfl, hd⟩
  exact ⟨rfl, by simpa using hd.mono (by omega)⟩
 ·have e : S.clr plus = (true, S.remove plus) := by unfold Ds.clr; rw [if_neg h53]
  rw [e]
  clear e
  have hb : ((S.find plus).1 == 53) = false := by simpa using h53
  obtain ⟨E, hE⟩ : ∃ x, (S.find plus).1 = x := ⟨_, rfl⟩
  rw [hE] at hb
  have HE := hide hE
  have k0 := h.k0
  have k2 := h.k2
  have HD := hide h
  clear h h53 hE
  go_enter Tryz.func116, Tryz.ntmps116
  go_upto_region 1 with (fail)
  refine wp_region_late (fun w' => Kept [] w w') (fun i => i == 8) (by kernel_rfl) ?_
  have h0 : Kept [] w w.drew := (Kept.refl [] w).drew
  generalize World.drew w = v0 at h0 ⊢
  refine wpAnyL_free (i := 0) (v := .pointer (some ⟨fb, 0, none⟩)) rfl (by kernel_rfl) (by kernel_rfl) (by kernel_rfl) (fun _ _ _ h => h) (Or.inl ⟨by rfl, fun w _ => by go_simp⟩) ?_
  try simp only [z1, z2, z3, z4, z5, z6, z7, z8]
  refine wpAnyL_free (i := 1) (v := .pointer (some ⟨fb, 0, none⟩)) rfl (by kernel_rfl) (by kernel_rfl) (by kernel_rfl) (fun _ _ _ h => h) (Or.inl ⟨by rfl, fun w _ => by go_simp⟩) ?_
  try simp only [z1, z2, z3, z4, z5, z6, z7, z8]
  refine wpAnyL_free (i := 2) (v := .pointer (some ⟨fb, 0, none⟩)) rfl (by kernel_rfl) (by kernel_rfl) (by kernel_rfl) (fun _ _ _ h => h) (Or.inl ⟨by rfl, fun w _ => by go_simp⟩) ?_
  try simp only [z1, z2, z3, z4, z5, z6, z7, z8]
  refine wpAnyL_take (i := 3) (v := .pointer (some ⟨p, 0, none⟩)) rfl (by kernel_rfl) (by kernel_rfl) (by kernel_rfl) (by kernel_rfl) (by kernel_rfl) (fun _ _ _ h => h) (Or.inl ⟨by rfl, fun w hSw => by have c := Kept.cellOf hSw k0 (by simp); go_simp⟩) h0 ?_
  try simp only [z1, z2, z3, z4, z5, z6, z7, z8]
  refine wpAnyL_free (i := 4) (v := .pointer (some ⟨fb, 0, none⟩)) rfl (by kernel_rfl) (by kernel_rfl) (by kernel_rfl) (fun _ _ _ h => h) (Or.inl ⟨by rfl, fun w _ => by go_simp⟩) ?_
  try simp only [z1, z2, z3, z4, z5, z6, z7, z8]
  refine wpAnyL_free (i := 5) (v := .pointer (some ⟨fb, 0, none⟩)) rfl (by kernel_rfl) (by kernel_rfl) (by kernel_rfl) (fun _ _ _ h => h) (Or.inl ⟨by rfl, fun w _ => by go_simp⟩) ?_
  try simp only [z1, z2, z3, z4, z5, z6, z7, z8]
  refine wpAnyL_free (i := 6) (v := .pointer (some ⟨fb, 2, none⟩)) rfl (by kernel_rfl) (by kernel_rfl) (by kernel_rfl) (fun _ _ _ h => h) (Or.inl ⟨by rfl, fun w _ => by go_simp⟩) ?_
  try simp only [z1, z2, z3, z4, z5, z6, z7, z8]
  refine wpAnyL_take (i := 7) (v := encStr plus) rfl (by kernel_rfl) (by kernel_rfl) (by kernel_rfl) (by kernel_rfl) (by kernel_rfl) (fun _ _ _ h => h) (Or.inl ⟨by rfl, fun w hSw => by have c := Kept.cellOf hSw k2 (by simp); go_simp⟩) h0 ?_
  try simp only [z1, z2, z3, z4, z5, z6, z7, z8]
  have hcc := size_ax (HD.out.kept h0).ax plus hpl
  refine wpAnyL_one (i := 8) (by kernel_rfl) rfl (fun K' hK => ?_)
  rw [if_pos (by rfl)]
  go_simp
  refine hcc.mono ?_
  rintro e w2 ⟨rfl, hww⟩; obtain rfl := hww.symm
  rw [HE.out]
  refine hK.out _ _ (fun _ h => by cases h) ?_
  clear hK K' hcc
  try simp only [z1, z2, z3, z4, z5, z6, z7, z8]
  refine wpAnyL_free (i := 9) (v := .tuple #[.int .i64 (S.size plus), .int .i64 E]) rfl (by kernel_rfl) (by kernel_rfl) (by kernel_rfl) (fun _ _ _ h => h) (Or.inl ⟨by rfl, fun w _ => by go_simp⟩) ?_
  try simp only [z1, z2, z3, z4, z5, z6, z7, z8]
  refine wpAnyL_free (i := 10) (v := .int .i64 (S.size plus)) rfl (by kernel_rfl) (by kernel_rfl) (by kernel_rfl) (fun _ _ _ h => h) (Or.inl ⟨by rfl, fun w _ => by go_simp⟩) ?_
  try simp only [z1, z2, z3, z4, z5, z6, z7, z8]
  refine wpAnyL_free (i := 11) (v := .int .i64 E) rfl (by kernel_rfl) (by kernel_rfl) (by kernel_rfl) (fun _ _ _ h => h) (Or.inl ⟨by rfl, fun w _ => by go_simp⟩) ?_
  try simp only [z1, z2, z3, z4, z5, z6, z7, z8]
  refine wpAnyL_free (i := 12) (v := .int .i64 (S.size plus)) rfl (by kernel_rfl) (by kernel_rfl) (by kernel_rfl) (fun _ _ _ h => h) (Or.inl ⟨by rfl, fun w _ => by go_simp⟩) ?_
  try simp only [z1, z2, z3, z4, z5, z6, z7, z8]
  refine wpAnyL_free (i := 13) (v := .int .i64 E) rfl (by kernel_rfl) (by kernel_rfl) (by kernel_rfl) (fun _ _ _ h => h) (Or.inl ⟨by rfl, fun w _ => by go_simp⟩) ?_
  try simp only [z1, z2, z3, z4, z5, z6, z7, z8]
  refine wpAnyL_done (by kernel_rfl) ?_ _
  clear k0 k2
  have HD1 := hide (HD.out.kept h0)
  have f3 := HD1.out.fr 3
  have d3 := HD1.out.k3
  have HM := hide HD1.out.mark
  clear HD h0
  go_upto_region 5 with (fail)
  generalize v0.setCell ⟨fb, 3, none⟩ (.bool true) = w3 at HM ⊢
  clear f3 d3 HD1
  have k0 := HM.out.k0
  have k2 := HM.out.k2
  refine wp_region_late (fun w' => Kept [] w3 w') (fun i => i == 8) (by kernel_rfl) ?_
  have h0 : Kept [] w3 w3.drew := (Kept.refl [] w3).drew
  generalize World.drew w3 = v0 at h0 ⊢
  refine wpAnyL_free (i := 0) (v := .pointer (some ⟨fb, 0, none⟩)) rfl (by kernel_rfl) (by kernel_rfl) (by kernel_rfl) (fun _ _ _ h => h) (Or.inl ⟨by rfl, fun w _ => by go_simp⟩) ?_
  try simp only [z1, z2, z3, z4, z5, z6, z7, z8]
  refine wpAnyL_free (i := 1) (v := .pointer (some ⟨fb, 0, none⟩)) rfl (by kernel_rfl) (by kernel_rfl) (by kernel_rfl) (fun _ _ _ h => h) (Or.inl ⟨by rfl, fun w _ => by go_simp⟩) ?_
  try simp only [z1, z2, z3, z4, z5, z6, z7, z8]
  refine wpAnyL_free (i := 2) (v := .pointer (some ⟨fb, 0, none⟩)) rfl (by kernel_rfl) (by kernel_rfl) (by kernel_rfl) (fun _ _ _ h => h) (Or.inl ⟨by rfl, fun w _ => by go_simp⟩) ?_
  try simp only [z1, z2, z3, z4, z5, z6, z7, z8]
  refine wpAnyL_take (i := 3) (v := .pointer (some ⟨p, 0, none⟩)) rfl (by kernel_rfl) (by kernel_rfl) (by kernel_rfl) (by kernel_rfl) (by kernel_rfl) (fun _ _ _ h => h) (Or.inl ⟨by rfl, fun w hSw => by have c := Kept.cellOf hSw k0 (by simp); go_simp⟩) h0 ?_
  try simp only [z1, z2, z3, z4, z5, z6, z7, z8]
  refine wpAnyL_free (i := 4) (v := .pointer (some ⟨fb, 0, none⟩)) rfl (by kernel_rfl) (by kernel_rfl) (by kernel_rfl) (fun _ _ _ h => h) (Or.inl ⟨by rfl, fun w _ => by go_simp⟩) ?_
  try simp only [z1, z2, z3, z4, z5, z6, z7, z8]
  refine wpAnyL_free (i := 5) (v := .pointer (some ⟨fb, 0, none⟩)) rfl (by kernel_rfl) (by kernel_rfl) (by kernel_rfl) (fun _ _ _ h => h) (Or.inl ⟨by rfl, fun w _ => by go_simp⟩) ?_
  try simp only [z1, z2, z3, z4, z5, z6, z7, z8]
  refine wpAnyL_free (i := 6) (v := .pointer (some ⟨fb, 2, none⟩)) rfl (by kernel_rfl) (by kernel_rfl) (by kernel_rfl) (fun _ _ _ h => h) (Or.inl ⟨by rfl, fun w _ => by go_simp⟩) ?_
  try simp only [z1, z2, z3, z4, z5, z6, z7, z8]
  refine wpAnyL_take (i := 7) (v := encStr plus) rfl (by kernel_rfl) (by kernel_rfl) (by kernel_rfl) (by kernel_rfl) (by kernel_rfl) (fun _ _ _ h => h) (Or.inl ⟨by rfl, fun w hSw => by have c := Kept.cellOf hSw k2 (by simp); go_simp⟩) h0 ?_
  try simp only [z1, z2, z3, z4, z5, z6, z7, z8]
  have hcc := remove_ax (HM.out.kept h0).ax (by omega) plus hpl
  refine wpAnyL_one (i := 8) (by kernel_rfl) rfl (fun K' hK => ?_)
  rw [if_pos (by rfl)]
  go_simp
  refine hcc.mono ?_
  rintro e w4 ⟨rfl, hx⟩
  have HD4 := hide ((HM.out.kept h0).next hx)
  clear hx
  refine hK.out _ _ (fun _ h => by cases h) ?_
  clear hK K' hcc
  try simp only [z1, z2, z3, z4, z5, z6, z7, z8]
  refine wpAnyL_free (i := 9) (v := .int .i64 (S.remove plus).1) rfl (by kernel_rfl) (by kernel_rfl) (by kernel_rfl) (fun _ _ _ h => h) (Or.inl ⟨by rfl, fun w _ => by go_simp⟩) ?_
  try simp only [z1, z2, z3, z4, z5, z6, z7, z8]
  refine wpAnyL_done (by kernel_rfl) ?_ _
  go_wp2
  go_ret
  refine ⟨rfl, ?_⟩
  have h9 := HD4.out
  simpa using h9
set_option maxHeartbeats 4000000 in
set_option maxRecDepth 100000 in
theorem begin_any (h : Drf X wa w p S N fb name plus c) (hN : N + 4 ≤ 268435456) (hpl : plus.length ≤ 4611686018427387904) :
  Calls Tryz.prog 97 #[.pointer (some ⟨fb, 0, none⟩)] w fun e w' => e = .returned (.int .i64 (S.beg plus).2.1) ∧ Drf X wa w' p (S.beg plus).2.2 (N + 4) fb name plus (c || (S.beg plus).1) := by
 have hcl := clear_any h (by omega) hpl
 have HBG : Hid (S.beg plus = _) := hide (Ds.beg.eq_1 S plus)
 clear h
 obtain ⟨c1, hc1⟩ : ∃ x, (S.clr plus).1 = x := ⟨_, rfl⟩
 rw [hc1] at hcl HBG
 have HC1 := hide hc1
 clear hc1
 by_cases h1 : (S.clr plus).2.1 = 0
 ·have HB1 : Hid (S.beg plus = if ((S.clr plus).2.2.create plus).1 = 0 then (true, 0, ((S.clr plus).2.2.create plus).2) else (c1, (S.clr plus).2.2.create plus)) := hide (HBG.out.trans (if_pos h1))
  rw [h1] at hcl
  clear HBG h1
  generalize (S.clr plus).2.2 = S1 at hcl HB1
  by_cases h2 : (S1.create plus).1 = 0
  ·have HB2 : Hid (S.beg plus = (true, 0, (S1.create plus).2)) := hide (HB1.out.trans (if_pos h2))
   have HC := hide h2
   clear HB1 h2
   go_enter Tryz.func97, Tryz.ntmps97
   go_upto_region 4 with (go_at_call 116; refine hcl.mono ?_; rintro e w1 ⟨rfl, hd⟩; have HD := hide hd; clear hcl hd)
   have k0 := HD.out.k0
   have k2 := HD.out.k2
   refine wp_region_late (fun w' => Kept [] w1 w') (fun i => i == 8) (by kernel_rfl) ?_
   have h0 : Kept [] w1 w1.drew := (Kept.refl [] w1).drew
   generalize World.drew w1 = v0 at h0 ⊢
   refine wpAnyL_free (i := 0) (v := .pointer (some ⟨fb, 0, none⟩)) rfl (by kernel_rfl) (by kernel_rfl) (by kernel_rfl) (fun _ _ _ h => h) (Or.inl ⟨by rfl, fun w _ => by go_simp⟩) ?_
   try simp only [z1, z2, z3, z4, z5, z6, z7, z8]
   refine wpAnyL_free (i := 1) (v := .pointer (some ⟨fb, 0, none⟩)) rfl (by kernel_rfl) (by kernel_rfl) (by kernel_rfl) (fun _ _ _ h => h) (Or.inl ⟨by rfl, fun w _ => by go_simp⟩) ?_
   try simp only [z1, z2, z3, z4, z5, z6, z7, z8]
   refine wpAnyL_free (i := 2) (v := .pointer (some ⟨fb, 0, none⟩)) rfl (by kernel_rfl) (by kernel_rfl) (by kernel_rfl) (fun _ _ _ h => h) (Or.inl ⟨by rfl, fun w _ => by go_simp⟩) ?_
   try simp only [z1, z2, z3, z4, z5, z6, z7, z8]
   refine wpAnyL_take (i := 3) (v := .pointer (some ⟨p, 0, none⟩)) rfl (by kernel_rfl) (by kernel_rfl) (by kernel_rfl) (by kernel_rfl) (by kernel_rfl) (fun _ _ _ h => h) (Or.inl ⟨by rfl, fun w hSw => by have c := Kept.cellOf hSw k0 (by simp); go_simp⟩) h0 ?_
   try simp only [z1, z2, z3, z4, z5, z6, z7, z8]
   refine wpAnyL_free (i := 4) (v := .pointer (some ⟨fb, 0, none⟩)) rfl (by kernel_rfl) (by kernel_rfl) (by kernel_rfl) (fun _ _ _ h => h) (Or.inl ⟨by rfl, fun w _ => by go_simp⟩) ?_
   try simp only [z1, z2, z3, z4, z5, z6, z7, z8]
   refine wpAnyL_free (i := 5) (v := .pointer (some ⟨fb, 0, none⟩)) rfl (by kernel_rfl) (by kernel_rfl) (by kernel_rfl) (fun _ _ _ h => h) (Or.inl ⟨by rfl, fun w _ => by go_simp⟩) ?_
   try simp only [z1, z2, z3, z4, z5, z6, z7, z8]
   refine wpAnyL_free (i := 6) (v := .pointer (some ⟨fb, 2, none⟩)) rfl (by kernel_rfl) (by kernel_rfl) (by kernel_rfl) (fun _ _ _ h => h) (Or.inl ⟨by rfl, fun w _ => by go_simp⟩) ?_
   try simp only [z1, z2, z3, z4, z5, z6, z7, z8]
   refine wpAnyL_take (i := 7) (v := encStr plus) rfl (by kernel_rfl) (by kernel_rfl) (by kernel_rfl) (by kernel_rfl) (by kernel_rfl) (fun _ _ _ h => h) (Or.inl ⟨by rfl, fun w hSw => by have c := Kept.cellOf hSw k2 (by simp); go_simp⟩) h0 ?_
   try simp only [z1, z2, z3, z4, z5, z6, z7, z8]
   have hcc := create_ax (HD.out.kept h0).ax (by omega) plus hpl
   refine wpAnyL_one (i := 8) (by kernel_rfl) rfl (fun K' hK => ?_)
   rw [if_pos (by rfl)]
   go_simp
   refine hcc.mono ?_
   rintro e w2 ⟨rfl, hx⟩
   have HD2 := hide ((HD.out.kept h0).next hx)
   rw [HC.out]
   clear hx
   refine hK.out _ _ (fun _ h => by cases h) ?_
   clear hK K' hcc
   try simp only [z1, z2, z3, z4, z5, z6, z7, z8]
   refine wpAnyL_free (i := 9) (v := .int .i64 0) rfl (by kernel_rfl) (by kernel_rfl) (by kernel_rfl) (fun _ _ _ h => h) (Or.inl ⟨by rfl, fun w _ => by go_simp⟩) ?_
   try simp only [z1, z2, z3, z4, z5, z6, z7, z8]
   refine wpAnyL_done (by kernel_rfl) ?_ _
   have f3 := HD2.out.fr 3
   have d3 := HD2.out.k3
   have HM := hide HD2.out.mark
   clear k0 k2 h0 HD HD2
   go_wp2
   go_ret
   rw [HB2.out]
   exact ⟨rfl, by simpa using HM.out.mono (by omega)⟩
  ·have HB2 : Hid (S.beg plus = (c1, S1.create plus)) := hide (HB1.out.trans (if_neg h2))
   have hb : ((S1.create plus).1 != 0) = true := by simpa using h2
   obtain ⟨E, hE⟩ : ∃ x, (S1.create plus).1 = x := ⟨_, rfl⟩
   rw [hE] at hb
   have HC := hide hE
   clear HB1 h2 hE
   go_enter Tryz.func97, Tryz.ntmps97
   go_upto_region 4 with (go_at_call 116; refine hcl.mono ?_; rintro e w1 ⟨rfl, hd⟩; have HD := hide hd; clear hcl hd)
   have k0 := HD.out.k0
   have k2 := HD.out.k2
   refine wp_region_late (fun w' => Kept [] w1 w') (fun i => i == 8) (by kernel_rfl) ?_
   have h0 : Kept [] w1 w1.drew := (Kept.refl [] w1).drew
   generalize World.drew w1 = v0 at h0 ⊢
   refine wpAnyL_free (i := 0) (v := .pointer (some ⟨fb, 0, none⟩)) rfl (by kernel_rfl) (by kernel_rfl) (by kernel_rfl) (fun _ _ _ h => h) (Or.inl ⟨by rfl, fun w _ => by go_simp⟩) ?_
   try simp only [z1, z2, z3, z4, z5, z6, z7, z8]
   refine wpAnyL_free (i := 1) (v := .pointer (some ⟨fb, 0, none⟩)) rfl (by kernel_rfl) (by kernel_rfl) (by kernel_rfl) (fun _ _ _ h => h) (Or.inl ⟨by rfl, fun w _ => by go_simp⟩) ?_
   try simp only [z1, z2, z3, z4, z5, z6, z7, z8]
   refine wpAnyL_free (i := 2) (v := .pointer (some ⟨fb, 0, none⟩)) rfl (by kernel_rfl) (by kernel_rfl) (by kernel_rfl) (fun _ _ _ h => h) (Or.inl ⟨by rfl, fun w _ => by go_simp⟩) ?_
   try simp only [z1, z2, z3, z4, z5, z6, z7, z8]
   refine wpAnyL_take (i := 3) (v := .pointer (some ⟨p, 0, none⟩)) rfl (by kernel_rfl) (by kernel_rfl) (by kernel_rfl) (by kernel_rfl) (by kernel_rfl) (fun _ _ _ h => h) (Or.inl ⟨by rfl, fun w hSw => by have c := Kept.cellOf hSw k0 (by simp); go_simp⟩) h0 ?_
   try simp only [z1, z2, z3, z4, z5, z6, z7, z8]
   refine wpAnyL_free (i := 4) (v := .pointer (some ⟨fb, 0, none⟩)) rfl (by kernel_rfl) (by kernel_rfl) (by kernel_rfl) (fun _ _ _ h => h) (Or.inl ⟨by rfl, fun w _ => by go_simp⟩) ?_
   try simp only [z1, z2, z3, z4, z5, z6, z7, z8]
   refine wpAnyL_free (i := 5) (v := .pointer (some ⟨fb, 0, none⟩)) rfl (by kernel_rfl) (by kernel_rfl) (by kernel_rfl) (fun _ _ _ h => h) (Or.inl ⟨by rfl, fun w _ => by go_simp⟩) ?_
   try simp only [z1, z2, z3, z4, z5, z6, z7, z8]
   refine wpAnyL_free (i := 6) (v := .pointer (some ⟨fb, 2, none⟩)) rfl (by kernel_rfl) (by kernel_rfl) (by kernel_rfl) (fun _ _ _ h => h) (Or.inl ⟨by rfl, fun w _ => by go_simp⟩) ?_
   try simp only [z1, z2, z3, z4, z5, z6, z7, z8]
   refine wpAnyL_take (i := 7) (v := encStr plus) rfl (by kernel_rfl) (by kernel_rfl) (by kernel_rfl) (by kernel_rfl) (by kernel_rfl) (fun _ _ _ h => h) (Or.inl ⟨by rfl, fun w hSw => by have c := Kept.cellOf hSw k2 (by simp); go_simp⟩) h0 ?_
   try simp only [z1, z2, z3, z4, z5, z6, z7, z8]
   have hcc := create_ax (HD.out.kept h0).ax (by omega) plus hpl
   refine wpAnyL_one (i := 8) (by kernel_rfl) rfl (fun K' hK => ?_)
   rw [if_pos (by rfl)]
   go_simp
   refine hcc.mono ?_
   rintro e w2 ⟨rfl, hx⟩
   have HD2 := hide ((HD.out.kept h0).next hx)
   rw [HC.out]
   clear hx
   refine hK.out _ _ (fun _ h => by cases h) ?_
   clear hK K' hcc
   try simp only [z1, z2, z3, z4, z5, z6, z7, z8]
   refine wpAnyL_free (i := 9) (v := .int .i64 E) rfl (by kernel_rfl) (by kernel_rfl) (by kernel_rfl) (fun _ _ _ h => h) (Or.inl ⟨by rfl, fun w _ => by go_simp⟩) ?_
   try simp only [z1, z2, z3, z4, z5, z6, z7, z8]
   refine wpAnyL_done (by kernel_rfl) ?_ _
   clear k0 k2 h0 HD
   go_wp2
   go_ret
   rw [HB2.out]
   exact ⟨by rw [HC.out]; rfl, HD2.out.mono (by omega)⟩
 ·have HB1 : Hid (S.beg plus = S.clr plus) := hide (HBG.out.trans (if_neg h1))
  have hb : ((S.clr plus).2.1 != 0) = true := by simpa using h1
  have HR := HC1
  clear HBG h1
  generalize hE : (S.clr plus).2.1 = E at hcl hb
  have HE := hide hE
  clear hE
  go_enter Tryz.func97, Tryz.ntmps97
  go_wp2_with (go_at_call 116; refine hcl.mono ?_; rintro e w1 ⟨rfl, hd⟩; have HD := hide hd; clear hcl hd)
  go_ret
  rw [HB1.out, HR.out, HE.out]
  exact ⟨rfl, HD.out.mono (by omega)⟩
set_option maxHeartbeats 8000000 in
set_option maxRecDepth 100000 in
theorem finish_any (h : Drf X wa w p S N fb name plus c) {ao : Option Addr} {n cp : Nat} {d : By} (hN : N + 1048590 ≤ 268435456) (hnb : n ≤ 4611686018427387900) (hpl : plus.length ≤ 4611686018427387904) (hnl : name.length ≤ 4611686018427387904) (hl : d.length = n) (hs : Sl w ao d) (h0a : ao = none → n = 0) (hnew : d ≠ [] → ∀ a, ao = some a → X a.block) :
  Calls Tryz.prog 98 #[.pointer (some ⟨fb, 0, none⟩), .slice ao n cp] w fun e w' => e = .returned (.int .i64 (S.fin name plus d).1) ∧ Drf X wa w' p (S.fin name plus d).2 (N + min n 1048576 + 6) fb name plus c := by
 have k0 := h.k0
 have k2 := h.k2
 have HD := hide h
 have HS := hide hs
 have HNW := hide hnew
 have H0A := hide h0a
 have HFN : Hid (S.fin name plus d = _) := hide (Ds.fin.eq_1 S name plus d)
 clear h hs hnew h0a
 obtain ⟨E1, hE1⟩ : ∃ x, (S.append plus d).1 = x := ⟨_, rfl⟩
 have HE1 := hide hE1
 go_enter Tryz.func98, Tryz.ntmps98
 go_upto_region 1 with (fail)
 refine wp_region_late (fun w' => Kept [] w w') (fun i => i == 9) (by kernel_rfl) ?_
 have h0 : Kept [] w w.drew := (Kept.refl [] w).drew
 generalize World.drew w = v0 at h0 ⊢
 refine wpAnyL_free (i := 0) (v := .pointer (some ⟨fb, 0, none⟩)) rfl (by kernel_rfl) (by kernel_rfl) (by kernel_rfl) (fun _ _ _ h => h) (Or.inl ⟨by rfl, fun w _ => by go_simp⟩) ?_
 try simp only [z1, z2, z3, z4, z5, z6, z7, z8]
 refine wpAnyL_free (i := 1) (v := .pointer (some ⟨fb, 0, none⟩)) rfl (by kernel_rfl) (by kernel_rfl) (by kernel_rfl) (fun _ _ _ h => h) (Or.inl ⟨by rfl, fun w _ => by go_simp⟩) ?_
 try simp only [z1, z2, z3, z4, z5, z6, z7, z8]
 refine wpAnyL_free (i := 2) (v := .pointer (some ⟨fb, 0, none⟩)) rfl (by kernel_rfl) (by kernel_rfl) (by kernel_rfl) (fun _ _ _ h => h) (Or.inl ⟨by rfl, fun w _ => by go_simp⟩) ?_
 try simp only [z1, z2, z3, z4, z5, z6, z7, z8]
 refine wpAnyL_take (i := 3) (v := .pointer (some ⟨p, 0, none⟩)) rfl (by kernel_rfl) (by kernel_rfl) (by kernel_rfl) (by kernel_rfl) (by kernel_rfl) (fun _ _ _ h => h) (Or.inl ⟨by rfl, fun w hSw => by have c := Kept.cellOf hSw k0 (by simp); go_simp⟩) h0 ?_
 try simp only [z1, z2, z3, z4, z5, z6, z7, z8]
 refine wpAnyL_free (i := 4) (v := .pointer (some ⟨fb, 0, none⟩)) rfl (by kernel_rfl) (by kernel_rfl) (by kernel_rfl) (fun _ _ _ h => h) (Or.inl ⟨by rfl, fun w _ => by go_simp⟩) ?_
 try simp only [z1, z2, z3, z4, z5, z6, z7, z8]
 refine wpAnyL_free (i := 5) (v := .pointer (some ⟨fb, 0, none⟩)) rfl (by kernel_rfl) (by kernel_rfl) (by kernel_rfl) (fun _ _ _ h => h) (Or.inl ⟨by rfl, fun w _ => by go_simp⟩) ?_
 try simp only [z1, z2, z3, z4, z5, z6, z7, z8]
 refine wpAnyL_free (i := 6) (v := .pointer (some ⟨fb, 2, none⟩)) rfl (by kernel_rfl) (by kernel_rfl) (by kernel_rfl) (fun _ _ _ h => h) (Or.inl ⟨by rfl, fun w _ => by go_simp⟩) ?_
 try simp only [z1, z2, z3, z4, z5, z6, z7, z8]
 refine wpAnyL_take (i := 7) (v := encStr plus) rfl (by kernel_rfl) (by kernel_rfl) (by kernel_rfl) (by kernel_rfl) (by kernel_rfl) (fun _ _ _ h => h) (Or.inl ⟨by rfl, fun w hSw => by have c := Kept.cellOf hSw k2 (by simp); go_simp⟩) h0 ?_
 try simp only [z1, z2, z3, z4, z5, z6, z7, z8]
 refine wpAnyL_free (i := 8) (v := .slice ao n cp) rfl (by kernel_rfl) (by kernel_rfl) (by kernel_rfl) (fun _ _ _ h => h) (Or.inl ⟨by rfl, fun w _ => by go_simp⟩) ?_
 try simp only [z1, z2, z3, z4, z5, z6, z7, z8]
 have hcc := append_axm (HD.out.kept h0).ax (Kept.refl [] v0) (c := cp) (by omega) hnb plus hpl hl (HS.out.kept h0 (by simp)) H0A.out (fun hd a ha => .inr (.inl (HNW.out hd a ha)))
 refine wpAnyL_one (i := 9) (by kernel_rfl) rfl (fun K' hK => ?_)
 rw [if_pos (by rfl)]
 go_simp
 refine hcc.mono ?_
 rintro e w2 ⟨rfl, hx⟩
 have HD2 := hide ((HD.out.kept h0).next hx)
 rw [HE1.out]
 clear hx
 refine hK.out _ _ (fun _ h => by cases h) ?_
 clear hK K' hcc
 try simp only [z1, z2, z3, z4, z5, z6, z7, z8]
 refine wpAnyL_free (i := 10) (v := .int .i64 E1) rfl (by kernel_rfl) (by kernel_rfl) (by kernel_rfl) (fun _ _ _ h => h) (Or.inl ⟨by rfl, fun w _ => by go_simp⟩) ?_
 try simp only [z1, z2, z3, z4, z5, z6, z7, z8]
 refine wpAnyL_done (by kernel_rfl) ?_ _
 by_cases q1 : E1 = 0
 ·subst q1
  have HF1 := hide (HFN.out.trans (if_pos hE1))
  clear hE1 HFN HE1
  obtain ⟨S2, hS2⟩ : ∃ x, (S.append plus d).2 = x := ⟨_, rfl⟩
  rw [hS2] at HD2 HF1
  clear hS2 k0 k2 h0 HD HS HNW H0A
  have k0 := HD2.out.k0
  have k2 := HD2.out.k2
  obtain ⟨E2, hE2⟩ : ∃ x, (S2.sync plus).1 = x := ⟨_, rfl⟩
  have HE2 := hide hE2
  go_upto_region 4 with (fail)
  refine wp_region_late (fun w' => Kept [] w2 w') (fun i => i == 8) (by kernel_rfl) ?_
  have h0 : Kept [] w2 w2.drew := (Kept.refl [] w2).drew
  generalize World.drew w2 = v0 at h0 ⊢
  refine wpAnyL_free (i := 0) (v := .pointer (some ⟨fb, 0, none⟩)) rfl (by kernel_rfl) (by kernel_rfl) (by kernel_rfl) (fun _ _ _ h => h) (Or.inl ⟨by rfl, fun w _ => by go_simp⟩) ?_
  try simp only [z1, z2, z3, z4, z5, z6, z7, z8]
  refine wpAnyL_free (i := 1) (v := .pointer (some ⟨fb, 0, none⟩)) rfl (by kernel_rfl) (by kernel_rfl) (by kernel_rfl) (fun _ _ _ h => h) (Or.inl ⟨by rfl, fun w _ => by go_simp⟩) ?_
  try simp only [z1, z2, z3, z4, z5, z6, z7, z8]
  refine wpAnyL_free (i := 2) (v := .pointer (some ⟨fb, 0, none⟩)) rfl (by kernel_rfl) (by kernel_rfl) (by kernel_rfl) (fun _ _ _ h => h) (Or.inl ⟨by rfl, fun w _ => by go_simp⟩) ?_
  try simp only [z1, z2, z3, z4, z5, z6, z7, z8]
  refine wpAnyL_take (i := 3) (v := .pointer (some ⟨p, 0, none⟩)) rfl (by kernel_rfl) (by kernel_rfl) (by kernel_rfl) (by kernel_rfl) (by kernel_rfl) (fun _ _ _ h => h) (Or.inl ⟨by rfl, fun w hSw => by have c := Kept.cellOf hSw k0 (by simp); go_simp⟩) h0 ?_
  try simp only [z1, z2, z3, z4, z5, z6, z7, z8]
  refine wpAnyL_free (i := 4) (v := .pointer (some ⟨fb, 0, none⟩)) rfl (by kernel_rfl) (by kernel_rfl) (by kernel_rfl) (fun _ _ _ h => h) (Or.inl ⟨by rfl, fun w _ => by go_simp⟩) ?_
  try simp only [z1, z2, z3, z4, z5, z6, z7, z8]
  refine wpAnyL_free (i := 5) (v := .pointer (some ⟨fb, 0, none⟩)) rfl (by kernel_rfl) (by kernel_rfl) (by kernel_rfl) (fun _ _ _ h => h) (Or.inl ⟨by rfl, fun w _ => by go_simp⟩) ?_
  try simp only [z1, z2, z3, z4, z5, z6, z7, z8]
  refine wpAnyL_free (i := 6) (v := .pointer (some ⟨fb, 2, none⟩)) rfl (by kernel_rfl) (by kernel_rfl) (by kernel_rfl) (fun _ _ _ h => h) (Or.inl ⟨by rfl, fun w _ => by go_simp⟩) ?_
  try simp only [z1, z2, z3, z4, z5, z6, z7, z8]
  refine wpAnyL_take (i := 7) (v := encStr plus) rfl (by kernel_rfl) (by kernel_rfl) (by kernel_rfl) (by kernel_rfl) (by kernel_rfl) (fun _ _ _ h => h) (Or.inl ⟨by rfl, fun w hSw => by have c := Kept.cellOf hSw k2 (by simp); go_simp⟩) h0 ?_
  try simp only [z1, z2, z3, z4, z5, z6, z7, z8]
  have hcc := sync_ax (HD2.out.kept h0).ax (by omega) plus hpl
  refine wpAnyL_one (i := 8) (by kernel_rfl) rfl (fun K' hK => ?_)
  rw [if_pos (by rfl)]
  go_simp
  refine hcc.mono ?_
  rintro e w3 ⟨rfl, hx⟩
  have HD3 := hide ((HD2.out.kept h0).next hx)
  rw [HE2.out]
  clear hx
  refine hK.out _ _ (fun _ h => by cases h) ?_
  clear hK K' hcc
  try simp only [z1, z2, z3, z4, z5, z6, z7, z8]
  refine wpAnyL_free (i := 9) (v := .int .i64 E2) rfl (by kernel_rfl) (by kernel_rfl) (by kernel_rfl) (fun _ _ _ h => h) (Or.inl ⟨by rfl, fun w _ => by go_simp⟩) ?_
  try simp only [z1, z2, z3, z4, z5, z6, z7, z8]
  refine wpAnyL_done (by kernel_rfl) ?_ _
  by_cases q2 : E2 = 0
  ·subst q2
   have HF2 := hide (HF1.out.trans (if_pos hE2))
   clear hE2 HF1 HE2
   obtain ⟨S3, hS3⟩ : ∃ x, (S2.sync plus).2 = x := ⟨_, rfl⟩
   rw [hS3] at HD3 HF2
   clear hS3 k0 k2 h0 HD2
   have k0 := HD3.out.k0
   have k1 := HD3.out.k1
   have k2 := HD3.out.k2
   obtain ⟨E3, hE3⟩ : ∃ x, (S3.rename plus name).1 = x := ⟨_, rfl⟩
   have HE3 := hide hE3
   go_upto_region 7 with (fail)
   refine wp_region_late (fun w' => Kept [] w3 w') (fun i => i == 12) (by kernel_rfl) ?_
   have h0 : Kept [] w3 w3.drew := (Kept.refl [] w3).drew
   generalize World.drew w3 = v0 at h0 ⊢
   refine wpAnyL_free (i := 0) (v := .pointer (some ⟨fb, 0, none⟩)) rfl (by kernel_rfl) (by kernel_rfl) (by kernel_rfl) (fun _ _ _ h => h) (Or.inl ⟨by rfl, fun w _ => by go_simp⟩) ?_
   try simp only [z1, z2, z3, z4, z5, z6, z7, z8]
   refine wpAnyL_free (i := 1) (v := .pointer (some ⟨fb, 0, none⟩)) rfl (by kernel_rfl) (by kernel_rfl) (by kernel_rfl) (fun _ _ _ h => h) (Or.inl ⟨by rfl, fun w _ => by go_simp⟩) ?_
   try simp only [z1, z2, z3, z4, z5, z6, z7, z8]
   refine wpAnyL_free (i := 2) (v := .pointer (some ⟨fb, 0, none⟩)) rfl (by kernel_rfl) (by kernel_rfl) (by kernel_rfl) (fun _ _ _ h => h) (Or.inl ⟨by rfl, fun w _ => by go_simp⟩) ?_
   try simp only [z1, z2, z3, z4, z5, z6, z7, z8]
   refine wpAnyL_take (i := 3) (v := .pointer (some ⟨p, 0, none⟩)) rfl (by kernel_rfl) (by kernel_rfl) (by kernel_rfl) (by kernel_rfl) (by kernel_rfl) (fun _ _ _ h => h) (Or.inl ⟨by rfl, fun w hSw => by have c := Kept.cellOf hSw k0 (by simp); go_simp⟩) h0 ?_
   try simp only [z1, z2, z3, z4, z5, z6, z7, z8]
   refine wpAnyL_free (i := 4) (v := .pointer (some ⟨fb, 0, none⟩)) rfl (by kernel_rfl) (by kernel_rfl) (by kernel_rfl) (fun _ _ _ h => h) (Or.inl ⟨by rfl, fun w _ => by go_simp⟩) ?_
   try simp only [z1, z2, z3, z4, z5, z6, z7, z8]
   refine wpAnyL_free (i := 5) (v := .pointer (some ⟨fb, 0, none⟩)) rfl (by kernel_rfl) (by kernel_rfl) (by kernel_rfl) (fun _ _ _ h => h) (Or.inl ⟨by rfl, fun w _ => by go_simp⟩) ?_
   try simp only [z1, z2, z3, z4, z5, z6, z7, z8]
   refine wpAnyL_free (i := 6) (v := .pointer (some ⟨fb, 2, none⟩)) rfl (by kernel_rfl) (by kernel_rfl) (by kernel_rfl) (fun _ _ _ h => h) (Or.inl ⟨by rfl, fun w _ => by go_simp⟩) ?_
   try simp only [z1, z2, z3, z4, z5, z6, z7, z8]
   refine wpAnyL_take (i := 7) (v := encStr plus) rfl (by kernel_rfl) (by kernel_rfl) (by kernel_rfl) (by kernel_rfl) (by kernel_rfl) (fun _ _ _ h => h) (Or.inl ⟨by rfl, fun w hSw => by have c := Kept.cellOf hSw k2 (by simp); go_simp⟩) h0 ?_
   try simp only [z1, z2, z3, z4, z5, z6, z7, z8]
   refine wpAnyL_free (i := 8) (v := .pointer (some ⟨fb, 0, none⟩)) rfl (by kernel_rfl) (by kernel_rfl) (by kernel_rfl) (fun _ _ _ h => h) (Or.inl ⟨by rfl, fun w _ => by go_simp⟩) ?_
   try simp only [z1, z2, z3, z4, z5, z6, z7, z8]
   refine wpAnyL_free (i := 9) (v := .pointer (some ⟨fb, 0, none⟩)) rfl (by kernel_rfl) (by kernel_rfl) (by kernel_rfl) (fun _ _ _ h => h) (Or.inl ⟨by rfl, fun w _ => by go_simp⟩) ?_
   try simp only [z1, z2, z3, z4, z5, z6, z7, z8]
   refine wpAnyL_free (i := 10) (v := .pointer (some ⟨fb, 1, none⟩)) rfl (by kernel_rfl) (by kernel_rfl) (by kernel_rfl) (fun _ _ _ h => h) (Or.inl ⟨by rfl, fun w _ => by go_simp⟩) ?_
   try simp only [z1, z2, z3, z4, z5, z6, z7, z8]
   refine wpAnyL_take (i := 11) (v := encStr name) rfl (by kernel_rfl) (by kernel_rfl) (by kernel_rfl) (by kernel_rfl) (by kernel_rfl) (fun _ _ _ h => h) (Or.inl ⟨by rfl, fun w hSw => by have c := Kept.cellOf hSw k1 (by simp); go_simp⟩) h0 ?_
   try simp only [z1, z2, z3, z4, z5, z6, z7, z8]
   have hcc := rename_ax (HD3.out.kept h0).ax (by omega) plus name hpl hnl
   refine wpAnyL_one (i := 12) (by kernel_rfl) rfl (fun K' hK => ?_)
   rw [if_pos (by rfl)]
   go_simp
   refine hcc.mono ?_
   rintro e w4 ⟨rfl, hx⟩
   have HD4 := hide ((HD3.out.kept h0).next hx)
   rw [HE3.out]
   clear hx
   refine hK.out _ _ (fun _ h => by cases h) ?_
   clear hK K' hcc
   try simp only [z1, z2, z3, z4, z5, z6, z7, z8]
   refine wpAnyL_free (i := 13) (v := .int .i64 E3) rfl (by kernel_rfl) (by kernel_rfl) (by kernel_rfl) (fun _ _ _ h => h) (Or.inl ⟨by rfl, fun w _ => by go_simp⟩) ?_
   try simp only [z1, z2, z3, z4, z5, z6, z7, z8]
   refine wpAnyL_done (by kernel_rfl) ?_ _
   by_cases q3 : E3 = 0
   ·subst q3
    have HF3 := hide (HF2.out.trans (if_pos hE3))
    clear hE3 HF2 HE3
    obtain ⟨S4, hS4⟩ : ∃ x, (S3.rename plus name).2 = x := ⟨_, rfl⟩
    rw [hS4] at HD4 HF3
    clear hS4 k0 k1 k2 h0 HD3
    have k0 := HD4.out.k0
    have hsn := syncNames_ax HD4.out.ax (by omega)
    go_wp2_with (go_at_call 35; refine hsn.mono ?_; rintro e w9 ⟨rfl, hx⟩; have HX := hide hx; clear hsn hx)
    go_ret
    rw [HF3.out]
    exact ⟨rfl, (HD4.out.next HX.out).mono (by omega)⟩
   ·have HF3 := hide (HF2.out.trans (if_neg (fun h => q3 (hE3.symm.trans h))))
    have hb : (E3 != 0) = true := by simpa using q3
    clear q3 hE3 HF2 k0 k1 k2 h0 HD3
    go_wp2
    go_ret
    rw [HF3.out, HE3.out]
    exact ⟨rfl, HD4.out.mono (by omega)⟩
  ·have HF2 := hide (HF1.out.trans (if_neg (fun h => q2 (hE2.symm.trans h))))
   have hb : (E2 != 0) = true := by simpa using q2
   clear q2 hE2 HF1 k0 k2 h0 HD2
   go_wp2
   go_ret
   rw [HF2.out, HE2.out]
   exact ⟨rfl, HD3.out.mono (by omega)⟩
 ·have HF1 := hide (HFN.out.trans (if_neg (fun h => q1 (hE1.symm.trans h))))
  have hb : (E1 != 0) = true := by simpa using q1
  clear q1 hE1 HFN k0 k2 h0 HD HS HNW H0A
  go_wp2
  go_ret
  rw [HF1.out, HE1.out]
  exact ⟨rfl, HD2.out.mono (by omega)⟩
set_option maxHeartbeats 4000000 in
set_option maxRecDepth 100000 in
theorem takeBack_any (h : Drf X wa w p S N fb name plus c) (hN : N + 4 ≤ 268435456) (hpl : plus.length ≤ 4611686018427387904) :
  Calls Tryz.prog 96 #[.pointer (some ⟨fb, 0, none⟩)] w fun e w' => e = .returned (.int .i64 (S.tbk plus).1) ∧ Drf X wa w' p (S.tbk plus).2 (N + 3) fb name plus (c || (S.clr plus).1) := by
 have hcl := clear_any h (by omega) hpl
 have HTB : Hid (S.tbk plus = _) := hide (Ds.tbk.eq_1 S plus)
 clear h
 generalize (c || (S.clr plus).1) = c1 at hcl ⊢
 by_cases h1 : (S.clr plus).2.1 = 0
 ·have HB1 : Hid (S.tbk plus = (S.clr plus).2.2.syncNames) := hide (HTB.out.trans (if_pos h1))
  rw [h1] at hcl
  clear HTB h1
  generalize (S.clr plus).2.2 = S1 at hcl HB1
  go_enter Tryz.func96, Tryz.ntmps96
  go_upto_region 4 with (go_at_call 116; refine hcl.mono ?_; rintro e w1 ⟨rfl, hd⟩; have HD := hide hd; clear hcl hd)
  have k0 := HD.out.k0
  have hsn := syncNames_ax HD.out.ax (by omega)
  go_wp2_with (go_at_call 35; refine hsn.mono ?_; rintro e w9 ⟨rfl, hx⟩; have HX := hide hx; clear hsn hx)
  go_ret
  rw [HB1.out]
  exact ⟨rfl, (HD.out.next HX.out).mono (by omega)⟩
 ·have HB1 : Hid (S.tbk plus = (S.clr plus).2) := hide (HTB.out.trans (if_neg h1))
  have hb : ((S.clr plus).2.1 != 0) = true := by simpa using h1
  clear HTB h1
  generalize hE : (S.clr plus).2.1 = E at hcl hb
  have HE := hide hE
  clear hE
  go_enter Tryz.func96, Tryz.ntmps96
  go_wp2_with (go_at_call 116; refine hcl.mono ?_; rintro e w1 ⟨rfl, hd⟩; have HD := hide hd; clear hcl hd)
  go_ret
  rw [HB1.out, HE.out]
  exact ⟨rfl, HD.out.mono (by omega)⟩
end
theorem forRoom_any (v : Value) (op name : By) (E : Int) (w : World) (h : ErrV w v op name E) : Calls Tryz.prog 95 #[v] w fun e w' => e = .returned (.bool (forRoom E)) ∧ w' = w := by
 rcases h with ⟨rfl, rfl⟩ | ⟨h0, eb, rfl, hf⟩
 ·exact forRoom_none w
 ·have c1 := is_fault eb op name E 55 w hf
  have c2 := is_fault eb op name E 56 w hf
  unfold forRoom
  by_cases h5 : E = 55
  ·subst h5
   clear hf h0 c2
   go_enter Tryz.func95, Tryz.ntmps95
   go_wp2_with (go_at_call 57; refine c1.mono ?_; rintro e w' ⟨rfl, hww⟩; obtain rfl := hww.symm; clear c1)
   go_ret
   exact ⟨rfl, rfl⟩
  ·have hb : (E == 55) = false := by simpa using h5
   rw [hb] at c1 ⊢
   clear hf h0 h5
   go_enter Tryz.func95, Tryz.ntmps95
   go_wp2_with (first
    | (go_at_call 57; have hc := c1; clear c1; refine hc.mono ?_; rintro e w' ⟨rfl, hww⟩; obtain rfl := hww.symm; clear hc)
    | (go_at_call 57; refine c2.mono ?_; rintro e w' ⟨rfl, hww⟩; obtain rfl := hww.symm; clear c2))
   go_ret
   exact ⟨by simp, rfl⟩
end Go.Proofs.YtodihkdmneihiaaGreatDoor
