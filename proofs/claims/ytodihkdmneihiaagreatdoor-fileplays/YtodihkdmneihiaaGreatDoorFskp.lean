import Derived.Test.YtodihkdmneihiaaGreatDoorFqbp
namespace Go.Proofs.YtodihkdmneihiaaGreatDoor
open Go.RowKit Dsk
set_option linter.unusedVariables false
set_option linter.unusedSimpArgs false
section
variable {X : Nat → Prop} {wa w w' : World} {p : Nat} {S : Ds} {N : Nat} {fb : Nat} {name plus : By} {c : Bool}
set_option maxHeartbeats 4000000 in
set_option maxRecDepth 100000 in
theorem lay1_new {pb rb : Nat} {v : Value} {E : Int} (h : Drf X w w p S N fb name plus c) (hN : N + 4 ≤ 268435456) (hpl : plus.length ≤ 4611686018427387904) (hp : w.heap[pb]? = some (.cells #[.pointer (some ⟨fb, 0, none⟩)] 84 (0, 0))) (hr : w.heap[rb]? = some (.cells #[v] 46 (0, 0))) (xp : X pb) (xr : X rb) (hv : ErrV w v opPut name E) (xe : ∀ b, errB v b → X b) :
  CallsD Tryz.prog 94 #[.pointer (some ⟨pb, 0, none⟩), .pointer (some ⟨rb, 0, none⟩)] .returning w fun e u' w' => u' = .returning ∧ (e = .returned (.tuple #[]) ∧ ∃ v', w'.heap[rb]? = some (.cells #[v'] 46 (0, 0)) ∧ ErrV w' v' opPut name (S.rest c E plus).1 ∧ (∃ c', Drf (fun b => (X b ∧ b ≠ rb) ∨ errB v' b) w' w' p (S.rest c E plus).2 (N + 3) fb name plus c') ∧ Keep (fun b => ¬ X b ∨ b = rb) w w' ∧ ∀ b, errB v' b → errB v b ∨ w.heap.size ≤ b) := by
 have p1 : w.cell? ⟨pb, 0, none⟩ = some (.pointer (some ⟨fb, 0, none⟩)) := by rw [cell_of_row _ _ _ _ _ _ hp]; rfl
 have r1 : w.cell? ⟨rb, 0, none⟩ = some v := by rw [cell_of_row _ _ _ _ _ _ hr]; rfl
 have k3 := h.k3
 have hfr := forRoom_any v opPut name E w hv
 have HSAME : Hid (Drf (fun b => (X b ∧ b ≠ rb) ∨ errB v b) w w p S (N + 3) fb name plus c) := hide ((h.mono (by omega)).touch (F := fun _ => False) (Keep.refl _ w) (fun _ _ h => h.elim) (fun b hb => by
  have hX : X b := by rcases hb with hb | hb; exact hb.1; exact xe b hb
  exact ⟨.inl hX, h.lt b hX, fun e => h.nx (e ▸ hX)⟩))
 have HV := hide hv
 have HRR := hide hr
 by_cases hc : c = true
 ·subst hc
  by_cases hf : forRoom E = true
  ·rw [hf] at hfr
   have HRE : Hid (S.rest true E plus = if (S.tbk plus).1 = 0 then (E, (S.tbk plus).2) else S.tbk plus) := hide (by unfold Ds.rest; rw [if_pos (by rw [hf]; rfl)])
   have htb := takeBack_any h hN hpl
   have HD := hide h
   have HXE := hide xe
   have HPP := hide hp
   have HXS := hide (And.intro xp xr)
   clear h hv xe hp hr xp xr hf HSAME
   generalize (true || (S.clr plus).1) = c1 at htb
   by_cases h0 : (S.tbk plus).1 = 0
   ·have HR0 := hide (HRE.out.trans (if_pos h0))
    rw [h0] at htb
    clear HRE h0
    go_enter_d Tryz.func94, Tryz.ntmps94
    go_wp2_with (first
     | (go_at_call 95; refine hfr.mono ?_; rintro e w' ⟨rfl, hww⟩; obtain rfl := hww.symm; clear hfr)
     | (go_at_call 96; refine htb.mono ?_; rintro e w2 ⟨rfl, hd2⟩; have HD2 := hide hd2; clear htb hd2))
    first | go_end0 | refine bodyPost_ret (results_none rfl _ _ _) rfl ?_
    rw [HR0.out]
    have hkp := HD2.out.keep
    refine ⟨rfl, v, hkp.heapOf HRR.out (fun hn => hn HXS.out.2), HV.out.keepE hkp (fun b hb hn => hn (HXE.out b hb)), ⟨_, HD2.out.touch (F := fun _ => False) (Keep.refl _ w2) (fun _ _ h => h.elim) (fun b hb => ?_)⟩, ⟨hkp.mono (fun b hb _ => .inl hb), fun b hb => .inl hb⟩⟩
    have hX : X b := by rcases hb with hb | hb; exact hb.1; exact HXE.out b hb
    exact ⟨.inl hX, Nat.lt_of_lt_of_le (HD2.out.lt b hX) hkp.size, fun e => HD2.out.nx (e ▸ hX)⟩
   ·have HR0 := hide (HRE.out.trans (if_neg h0))
    have hb : ((S.tbk plus).1 != 0) = true := by simpa using h0
    generalize hE : (S.tbk plus).1 = T at htb hb
    have HE := hide hE
    clear HRE h0 hE
    go_enter_d Tryz.func94, Tryz.ntmps94
    go_upto_region 3 with (first
     | (go_at_call 95; refine hfr.mono ?_; rintro e w' ⟨rfl, hww⟩; obtain rfl := hww.symm; clear hfr)
     | (go_at_call 96; refine htb.mono ?_; rintro e w2 ⟨rfl, hd2⟩; have HD2 := hide hd2; clear htb hd2))
    have hkp : Keep (fun b => ¬ X b) w w2 := HD2.out.keep
    have q1 : w2.cell? ⟨pb, 0, none⟩ = some (.pointer (some ⟨fb, 0, none⟩)) := by rw [cell_of_row _ _ _ _ _ _ (hkp.heapOf HPP.out (fun hn => hn HXS.out.1))]; rfl
    have q2 := HD2.out.k1
    have hr2 : w2.heap[rb]? = some (.cells #[v] 46 (0, 0)) := hkp.heapOf HRR.out (fun hn => hn HXS.out.2)
    have hfa := fault_new opPut name T w2
    have HR2 := hide hr2
    have HKP := hide hkp
    clear p1 r1 k3 hkp hr2
    go_wp2_with (go_at_call 51; refine hfa.mono ?_; rintro e w3 ⟨v3, rfl, hv3, hk3, hn3⟩; obtain ⟨eb, hsh⟩ := hv3.shape1 hb; subst hsh; have HV3 := hide hv3; have HK3 := hide hk3; have HN3 := hide hn3; have s1 : w3.cell? ⟨rb, 0, none⟩ = some v := (by rw [cell_of_row _ _ _ _ _ _ ((hk3.block rb (Array.getElem?_eq_some_iff.1 HR2.out).1 (by simp)).trans HR2.out)]; rfl); have s2 : w3.frozen? ⟨rb, 0, none⟩ = false := frozen_of_row _ _ _ _ _ ((hk3.block rb (Array.getElem?_eq_some_iff.1 HR2.out).1 (by simp)).trans HR2.out); clear hfa hv3 hk3 hn3 q1 q2)
    first | go_end0 | refine bodyPost_ret (results_none rfl _ _ _) rfl ?_
    rw [HR0.out, HE.out]
    have hrl : rb < w2.heap.size := (Array.getElem?_eq_some_iff.1 HR2.out).1
    have hr3 : w3.heap[rb]? = some (.cells #[v] 46 (0, 0)) := (HK3.out.block rb hrl (by simp)).trans HR2.out
    generalize hve : Value.iface 98 (.pointer (some ⟨eb, 0, none⟩)) = v3 at HV3 HN3 ⊢
    have k34 : Keep (fun b => b = rb) w3 (w3.setCell ⟨rb, 0, none⟩ v3) := (Keep.refl (fun b => b = rb) w3).setCell (p := ⟨rb, 0, none⟩) (fun _ => rfl) _
    have k24 : Keep (fun b => b = rb) w2 (w3.setCell ⟨rb, 0, none⟩ v3) := (Keep.ofNone (F := fun b => b = rb) HK3.out).trans k34 (fun _ h _ => h)
    have hne : ∀ b, errB v3 b → b ≠ rb := fun b hb e => by have := newE_errB HN3.out hb; omega
    refine ⟨rfl, v3, by rw [heap_setCell_same _ _ _ _ _ _ hr3]; rfl, HV3.out.keepE k34 hne, ⟨_, HD2.out.touch k24 (fun b _ e => by rw [e]; exact HXS.out.2) (fun b hb => ?_)⟩, (HKP.out.mono (fun b hb _ => .inl hb)).trans k24 (fun b e _ => .inr e), fun b hb => .inr (Nat.le_trans HKP.out.size (newE_errB HN3.out hb))⟩
    rcases hb with hb | hb
    ·exact ⟨.inl hb.1, Nat.lt_of_lt_of_le (HD2.out.lt b hb.1) (Nat.le_trans HKP.out.size k24.size), fun e => HD2.out.nx (e ▸ hb.1)⟩
    ·have h1 := newE_errB HN3.out hb
     have h2 := HV3.out.ltB hb
     have h3 := (Array.getElem?_eq_some_iff.1 HD2.out.cell).1
     exact ⟨.inr h1, Nat.lt_of_lt_of_le h2 k34.size, by omega⟩
  ·have hf' : forRoom E = false := by simpa using hf
   rw [hf'] at hfr
   have HRE : Hid (S.rest true E plus = (E, S)) := hide (by unfold Ds.rest; rw [if_neg (by rw [hf']; decide)])
   clear h hv xe hp hr xp xr hf hf'
   go_enter_d Tryz.func94, Tryz.ntmps94
   go_wp2_with (go_at_call 95; refine hfr.mono ?_; rintro e w' ⟨rfl, hww⟩; obtain rfl := hww.symm; clear hfr)
   first | go_end0 | refine bodyPost_ret (results_none rfl _ _ _) rfl ?_
   rw [HRE.out]
   exact ⟨rfl, v, HRR.out, HV.out, ⟨_, HSAME.out⟩, Keep.refl _ _, fun b hb => .inl hb⟩
 ·have hc' : c = false := by simpa using hc
  subst hc'
  have HRE : Hid (S.rest false E plus = (E, S)) := hide (by unfold Ds.rest; rw [if_neg (by simp)])
  clear h hv xe hp hr xp xr hc hfr
  go_enter_d Tryz.func94, Tryz.ntmps94
  go_wp2
  first | go_end0 | refine bodyPost_ret (results_none rfl _ _ _) rfl ?_
  rw [HRE.out]
  exact ⟨rfl, v, HRR.out, HV.out, ⟨_, HSAME.out⟩, Keep.refl _ _, fun b hb => .inl hb⟩
set_option maxHeartbeats 8000000 in
set_option maxRecDepth 100000 in
theorem lay_new (h : Drf X wa w p S N fb name plus false) {ao : Option Addr} {n cp : Nat} {d : By} (hN : N + 1048610 ≤ 268435456) (hnb : n ≤ 4611686018427387900) (hpl : plus.length ≤ 4611686018427387904) (hnl : name.length ≤ 4611686018427387904) (hl : d.length = n) (hs : Sl w ao d) (h0a : ao = none → n = 0) (hnew : d ≠ [] → ∀ a, ao = some a → X a.block) :
  Calls Tryz.prog 52 #[.pointer (some ⟨fb, 0, none⟩), .slice ao n cp] w fun e w' => ∃ v, e = .returned v ∧ ErrV w' v opPut name (S.lay name plus d).1 ∧ (∃ c', Drf (fun b => X b ∨ errB v b) w' w' p (S.lay name plus d).2 (N + min n 1048576 + 20) fb name plus c') ∧ Keep (fun b => ¬ X b) wa w' ∧ ∀ b, errB v b → w.heap.size ≤ b := by
 have hmf : ∀ (fn : Fn) (first cap : Array Value) (w : World), (Instr.makeFunc fn first cap).run Tryz.prog w = .ok (.func fn first cap) w := fun _ _ _ _ => rfl
 have hk1 : Kept [] w ((w.alloc (.cells #[.pointer (some ⟨fb, 0, none⟩)] 84)).alloc (.cells #[.nilIface] 46)) := ((Kept.refl [] w).alloc _).alloc _
 have hb1 : ((w.alloc (.cells #[.pointer (some ⟨fb, 0, none⟩)] 84)).alloc (.cells #[.nilIface] 46)).heap[w.heap.size]? = some (.cells #[.pointer (some ⟨fb, 0, none⟩)] 84 (0, 0)) := by
  rw [Below.heap_alloc _ _ _ (by simp)]
  exact (MapKept.heap_alloc w _).1
 have hb2 : ((w.alloc (.cells #[.pointer (some ⟨fb, 0, none⟩)] 84)).alloc (.cells #[.nilIface] 46)).heap[w.heap.size + 1]? = some (.cells #[.nilIface] 46 (0, 0)) := by
  have := (MapKept.heap_alloc (w.alloc (.cells #[.pointer (some ⟨fb, 0, none⟩)] 84)) (.cells #[.nilIface] 46)).1
  simpa using this
 have hsz : ((w.alloc (.cells #[.pointer (some ⟨fb, 0, none⟩)] 84)).alloc (.cells #[.nilIface] 46)).heap.size = w.heap.size + 2 := by simp
 have HH := hide h
 have HS := hide (hs.kept hk1 (by simp))
 have HNW := hide hnew
 have H0A := hide h0a
 have HPL := hide hl
 have HBT := hide (@beg_ok S plus)
 have HLY : Hid (S.lay name plus d = _) := hide (Ds.lay.eq_1 S name plus d)
 have HFX : Hid (fb < w.heap.size ∧ ¬ X fb) := hide ⟨(Array.getElem?_eq_some_iff.1 h.cell).1, h.nx⟩
 clear h hs hnew h0a
 go_enter_defers Tryz.func52, Tryz.ntmps52
 go_upto_region 2 with (fail)
 generalize (w.alloc (.cells #[.pointer (some ⟨fb, 0, none⟩)] 84)).alloc (.cells #[.nilIface] 46) = w1 at hk1 hb1 hb2 hsz HS ⊢
 have HK1 := hide hk1
 have HB1 := hide hb1
 have HB2 := hide hb2
 have HSZ := hide hsz
 have q1 : w1.cell? ⟨w.heap.size, 0, none⟩ = some (.pointer (some ⟨fb, 0, none⟩)) := by rw [cell_of_row _ _ _ _ _ _ hb1]; rfl
 have HW := hide (HH.out.widen hk1)
 have hbg := begin_any HW.out (by omega) hpl
 simp only [Bool.false_or] at hbg
 clear hk1 hb1 hb2 hsz
 obtain ⟨c1, hc1⟩ : ∃ x, (S.beg plus).1 = x := ⟨_, rfl⟩
 obtain ⟨S1, hS1⟩ : ∃ x, (S.beg plus).2.2 = x := ⟨_, rfl⟩
 obtain ⟨Eb, hEb⟩ : ∃ x, (S.beg plus).2.1 = x := ⟨_, rfl⟩
 rw [hc1, hS1, hEb] at hbg
 have HBE := hide hEb
 have HC1 := hide hc1
 have HS1 := hide hS1
 clear hc1 hS1
 have HEND : Hid (∀ (w3 w5 : World) (v : Value) (E : Int) (S3 : Ds) (N3 : Nat) (c3 : Bool), Drf (More X w w1) w1 w3 p S3 N3 fb name plus c3 → Keep (fun b => b = w.heap.size + 1) w3 w5 → w5.heap[w.heap.size + 1]? = some (.cells #[v] 46 (0, 0)) → ErrV w5 v opPut name E → (∀ b, errB v b → w3.heap.size ≤ b) → N3 + 4 ≤ 268435456 → N3 + 3 ≤ N + min n 1048576 + 20 →
   CallsD Tryz.prog 94 #[.pointer (some ⟨w.heap.size, 0, none⟩), .pointer (some ⟨w.heap.size + 1, 0, none⟩)] .returning w5 fun e u' w' => u' = .returning ∧ (e = .returned (.tuple #[]) ∧ ∃ v', w'.cell? ⟨w.heap.size + 1, 0, none⟩ = some v' ∧ Hid (ErrV w' v' opPut name (S3.rest c3 E plus).1 ∧ (∃ c', Drf (fun b => X b ∨ errB v' b) w' w' p (S3.rest c3 E plus).2 (N + min n 1048576 + 20) fb name plus c') ∧ Keep (fun b => ¬ X b) wa w' ∧ ∀ b, errB v' b → w.heap.size ≤ b))) := hide (fun w3 w5 v E S3 N3 c3 hd hk hr hv hvn hN3 hN4 => by
  have z1 := HSZ.out
  have z3 := hd.keep.size
  have z5 := hk.size
  have hxl : ∀ b, X b → b < w.heap.size := fun b hb => Nat.lt_of_lt_of_le (HH.out.lt b hb) HH.out.keep.size
  have hd5 : Drf (fun b => More X w w1 b ∨ (w3.heap.size ≤ b ∧ b < w5.heap.size)) w5 w5 p S3 N3 fb name plus c3 := hd.touch hk (fun b _ e => .inr ⟨by omega, by omega⟩) (fun b hb => by
   have hfl := HFX.out
   rcases hb with hb | hb
   ·refine ⟨.inl hb, ?_, fun e => hd.nx (e ▸ hb)⟩
    have := hd.lt b hb
    omega
   ·exact ⟨.inr hb.1, hb.2, by have := hb.1; omega⟩)
  have hp3 : w3.heap[w.heap.size]? = some (.cells #[.pointer (some ⟨fb, 0, none⟩)] 84 (0, 0)) := hd.keep.heapOf HB1.out (fun hn => hn (.inr ⟨Nat.le_refl _, by omega⟩))
  have hp5 : w5.heap[w.heap.size]? = some (.cells #[.pointer (some ⟨fb, 0, none⟩)] 84 (0, 0)) := hk.heapOf hp3 (by omega)
  refine (lay1_new hd5 hN3 hpl hp5 hr (.inl (.inr ⟨Nat.le_refl _, by omega⟩)) (.inl (.inr ⟨by omega, by omega⟩)) hv (fun b hb => .inr ⟨hvn b hb, hv.ltB hb⟩)).mono ?_
  rintro e u' w' ⟨rfl, rfl, v', g1, g2, ⟨c', g3⟩, g4, g5⟩
  refine ⟨rfl, rfl, v', by rw [cell_of_row _ _ _ _ _ _ g1]; rfl, hide ⟨g2, ⟨c', (g3.mono (by omega)).touch (F := fun _ => False) (Keep.refl _ w') (fun _ _ h => h.elim) (fun b hb => ?_)⟩, ?_, fun b hb => by rcases g5 b hb with h | h; (have := hvn b h; omega); omega⟩⟩
  ·rcases hb with hb | hb
   ·have h1 := hxl b hb
    have h2 := g4.size
    exact ⟨.inl (.inl ⟨.inl (.inl hb), by omega⟩), by omega, fun e => HFX.out.2 (e ▸ hb)⟩
   ·exact ⟨.inl (.inr hb), g2.ltB hb, fun e => g3.nx (e ▸ .inr hb)⟩
  ·have a1 : Keep (fun b => ¬ X b) wa w1 := HH.out.keep.kept HK1.out
   have a2 : Keep (fun b => ¬ X b) wa w3 := a1.trans hd.keep (fun b hb _ hX => hb (.inl hX))
   have a3 : Keep (fun b => ¬ X b) wa w5 := a2.trans hk (fun b e _ hX => by have := hxl b hX; omega)
   exact a3.trans g4 (fun b hb _ hX => by
    rcases hb with hb | hb
    ·exact hb (.inl (.inl hX))
    ·have := hxl b hX; omega))
 by_cases he : Eb = 0
 ·subst he
  have HL1 := hide (HLY.out.trans (if_pos hEb))
  obtain rfl : c1 = true := HC1.out.symm.trans (HBT.out hEb)
  rw [HC1.out, HS1.out] at HL1
  clear HLY hEb HC1 HS1 HBE HBT
  go_upto_region 5 with (go_at_call 97; refine hbg.mono ?_; rintro e w2 ⟨rfl, hd⟩; have HD := hide hd; clear hbg hd)
  clear q1
  have hkp : Keep (fun b => ¬ (More X w w1) b) w1 w2 := HD.out.keep
  have p1 : w2.heap[w.heap.size]? = _ := hkp.heapOf HB1.out (fun hn => hn (.inr ⟨Nat.le_refl _, by rw [HSZ.out]; omega⟩))
  have q1 : w2.cell? ⟨w.heap.size, 0, none⟩ = some (.pointer (some ⟨fb, 0, none⟩)) := by rw [cell_of_row _ _ _ _ _ _ p1]; rfl
  have q2 := HD.out.k1
  have HSl := hide (HS.out.keep hkp (fun hd a ha hn => hn (.inl (HNW.out hd a ha))))
  refine wp_region_held_drew (S := fun w' => w'.cell? ⟨w.heap.size, 0, none⟩ = some (.pointer (some ⟨fb, 0, none⟩)) ∧ w'.cell? ⟨fb, 1, none⟩ = some (encStr name)) (by kernel_rfl) ⟨q1, q2⟩ (fun h0 => ?_)
  have k0 : Kept [] w2 w2.drew := (Kept.refl [] w2).drew
  generalize World.drew w2 = v0 at h0 k0 ⊢
  refine wpAnyH_take (i := 0) (v := .pointer (some ⟨fb, 0, none⟩)) rfl (by kernel_rfl) (by kernel_rfl) (by kernel_rfl) (fun _ _ _ h => layQ _ 17 _ (by decide) _ _ _ h) (Or.inl ⟨by rfl, fun w hSw => by have c := hSw.1; go_simp⟩) h0 ?_
  try simp only [z1, z2, z3, z4, z5, z6, z7, z8]
  refine wpAnyH_take (i := 1) (v := .pointer (some ⟨fb, 0, none⟩)) rfl (by kernel_rfl) (by kernel_rfl) (by kernel_rfl) (fun _ _ _ h => layQ _ 18 _ (by decide) _ _ _ h) (Or.inl ⟨by rfl, fun w hSw => by go_simp⟩) h0 ?_
  try simp only [z1, z2, z3, z4, z5, z6, z7, z8]
  refine wpAnyH_take (i := 2) (v := .pointer (some ⟨fb, 1, none⟩)) rfl (by kernel_rfl) (by kernel_rfl) (by kernel_rfl) (fun _ _ _ h => layQ _ 19 _ (by decide) _ _ _ h) (Or.inl ⟨by rfl, fun w hSw => by go_simp⟩) h0 ?_
  try simp only [z1, z2, z3, z4, z5, z6, z7, z8]
  refine wpAnyH_take (i := 3) (v := encStr name) rfl (by kernel_rfl) (by kernel_rfl) (by kernel_rfl) (fun _ _ _ h => layQ _ 20 _ (by decide) _ _ _ h) (Or.inl ⟨by rfl, fun w hSw => by have c := hSw.2; go_simp⟩) h0 ?_
  try simp only [z1, z2, z3, z4, z5, z6, z7, z8]
  refine wpAnyH_take (i := 4) (v := .pointer (some ⟨fb, 0, none⟩)) rfl (by kernel_rfl) (by kernel_rfl) (by kernel_rfl) (fun _ _ _ h => layQ _ 21 _ (by decide) _ _ _ h) (Or.inl ⟨by rfl, fun w hSw => by have c := hSw.1; go_simp⟩) h0 ?_
  try simp only [z1, z2, z3, z4, z5, z6, z7, z8]
  refine wpAnyH_take (i := 5) (v := .slice ao n cp) rfl (by kernel_rfl) (by kernel_rfl) (by kernel_rfl) (fun _ _ _ h => layQ _ 22 _ (by decide) _ _ _ h) (Or.inl ⟨by rfl, fun w hSw => by go_simp⟩) h0 ?_
  try simp only [z1, z2, z3, z4, z5, z6, z7, z8]
  have hfi := finish_any (HD.out.kept k0) (ao := ao) (cp := cp) (by omega) hnb hpl hnl HPL.out (HSl.out.kept k0 (by simp)) H0A.out (fun hd a ha => .inl (HNW.out hd a ha))
  obtain ⟨E, hE⟩ : ∃ x, (S1.fin name plus d).1 = x := ⟨_, rfl⟩
  rw [hE] at hfi HL1
  clear hE
  refine wpAnyH_ready (rs := [6]) (by kernel_rfl) (by simp) (AllReadyH.cons (i := 6) rfl (fun K' hK => ?_) AllReadyH.nil)
  rw [if_pos (by rfl)]
  go_simp
  refine hfi.mono ?_
  rintro e w3 ⟨rfl, hd3⟩
  have HD3 := hide hd3
  have hkq3 : Keep (fun b => ¬ (More X w w1) b) w1 w3 := hd3.keep
  have r13 : w3.heap[w.heap.size]? = _ := hkq3.heapOf HB1.out (fun hn => hn (.inr ⟨Nat.le_refl _, by rw [HSZ.out]; omega⟩))
  refine hK.out _ _ ⟨by rw [cell_of_row _ _ _ _ _ _ r13]; rfl, hd3.k1⟩ (fun h1 => ?_)
  clear hK K' hfi hd3 hkq3 r13
  try simp only [z1, z2, z3, z4, z5, z6, z7, z8]
  have hfa := fault_new [102, 105, 108, 101, 46, 112, 117, 116] name E w3
  refine wpAnyH_ready (rs := [7]) (by kernel_rfl) (by simp) (AllReadyH.cons (i := 7) rfl (fun K' hK => ?_) AllReadyH.nil)
  rw [if_pos (by rfl)]
  go_simp
  refine hfa.mono ?_
  rintro e w4 ⟨v, rfl, hv, hk4, hn4⟩
  have HV4 := hide hv
  have HK4 := hide hk4
  have HN4 := hide hn4
  refine hK.out _ _ ⟨hk4.cellOf h1.1 (by simp), hk4.cellOf h1.2 (by simp)⟩ (fun h2 => ?_)
  clear hK K' hfa hv hk4 hn4
  try simp only [z1, z2, z3, z4, z5, z6, z7, z8]
  have hkq : Keep (fun b => ¬ (More X w w1) b) w1 w3 := HD3.out.keep
  have r2 : w3.heap[w.heap.size + 1]? = some (.cells #[.nilIface] 46 (0, 0)) := hkq.heapOf HB2.out (fun hn => hn (.inr ⟨by omega, by rw [HSZ.out]; omega⟩))
  have r4 : w4.heap[w.heap.size + 1]? = some (.cells #[.nilIface] 46 (0, 0)) := (HK4.out.block _ (Array.getElem?_eq_some_iff.1 r2).1 (by simp)).trans r2
  have s2 : w4.cell? ⟨w.heap.size + 1, 0, none⟩ = some .nilIface := by rw [cell_of_row _ _ _ _ _ _ r4]; rfl
  have s3 : w4.frozen? ⟨w.heap.size + 1, 0, none⟩ = false := frozen_of_row _ _ _ _ _ r4
  have rl : w.heap.size + 1 < w3.heap.size := (Array.getElem?_eq_some_iff.1 r2).1
  obtain ⟨w5, hw5⟩ : ∃ x, x = w4.setCell ⟨w.heap.size + 1, 0, none⟩ v := ⟨_, rfl⟩
  have k45 : Keep (fun b => b = w.heap.size + 1) w4 w5 := by rw [hw5]; exact (Keep.refl (fun b => b = w.heap.size + 1) w4).setCell (p := ⟨w.heap.size + 1, 0, none⟩) (fun _ => rfl) _
  have hen := HEND.out w3 w5 v E _ _ _ HD3.out ((Keep.ofNone (F := fun b => b = w.heap.size + 1) HK4.out).trans k45 (fun _ h _ => h)) (by rw [hw5, heap_setCell_same _ _ _ _ _ _ r4]; rfl) (HV4.out.keepE k45 (fun b hb e => by have := newE_errB HN4.out hb; omega)) (fun b hb => newE_errB HN4.out hb) (by omega) (by omega)
  have hfl : fb < w.heap.size := HFX.out.1
  have h5 : w5.cell? ⟨w.heap.size, 0, none⟩ = some (.pointer (some ⟨fb, 0, none⟩)) ∧ w5.cell? ⟨fb, 1, none⟩ = some (encStr name) := ⟨k45.cellOf h2.1 (by show ¬ w.heap.size = w.heap.size + 1; omega), k45.cellOf h2.2 (by show ¬ fb = w.heap.size + 1; omega)⟩
  have hshp := HV4.out.shape
  clear HEND HD3 HV4 HK4 HN4 r2 r4 k45 rl
  rcases hshp with hsh | ⟨eb, hsh⟩
  ·subst hsh
   refine wpAnyH_ready (rs := [8]) (by kernel_rfl) (by simp) (AllReadyH.cons (i := 8) rfl (fun K' hK => ?_) AllReadyH.nil)
   rw [if_pos (by rfl)]
   go_simp
   rw [← hw5]
   refine hK.out _ _ h5 (fun h3 => ?_)
   clear hK K'
   try simp only [z1, z2, z3, z4, z5, z6, z7, z8]
   refine wpAnyH_done (by kernel_rfl) ?_ _
   go_wp2
   clear s2 s3 hw5 h5 h3
   refine leaves_cons (f := 94) (args := #[.pointer (some ⟨w.heap.size, 0, none⟩), .pointer (some ⟨w.heap.size + 1, 0, none⟩)]) (by simp) (by simp [go_sem]) ?_
   refine hen.mono ?_
   rintro e u' w6 ⟨rfl, rfl, v', s6, HQ⟩
   simp [Leaves, settle, results, Tryz.results52, go_sem, s6]
   rw [HL1.out]
   obtain ⟨g1, ⟨c', g2⟩, g3⟩ := HQ.out
   exact ⟨g1, by cases c'; exact .inl g2; exact .inr g2, g3⟩
  ·subst hsh
   refine wpAnyH_ready (rs := [8]) (by kernel_rfl) (by simp) (AllReadyH.cons (i := 8) rfl (fun K' hK => ?_) AllReadyH.nil)
   rw [if_pos (by rfl)]
   go_simp
   rw [← hw5]
   refine hK.out _ _ h5 (fun h3 => ?_)
   clear hK K'
   try simp only [z1, z2, z3, z4, z5, z6, z7, z8]
   refine wpAnyH_done (by kernel_rfl) ?_ _
   go_wp2
   clear s2 s3 hw5 h5 h3
   refine leaves_cons (f := 94) (args := #[.pointer (some ⟨w.heap.size, 0, none⟩), .pointer (some ⟨w.heap.size + 1, 0, none⟩)]) (by simp) (by simp [go_sem]) ?_
   refine hen.mono ?_
   rintro e u' w6 ⟨rfl, rfl, v', s6, HQ⟩
   simp [Leaves, settle, results, Tryz.results52, go_sem, s6]
   rw [HL1.out]
   obtain ⟨g1, ⟨c', g2⟩, g3⟩ := HQ.out
   exact ⟨g1, by cases c'; exact .inl g2; exact .inr g2, g3⟩
 ·have HL1 := hide (HLY.out.trans (if_neg (fun h => he (hEb.symm.trans h))))
  rw [HC1.out, HS1.out, HBE.out] at HL1
  have hb : (Eb != 0) = true := by simpa using he
  clear HLY hEb HC1 HS1 HBE HBT he
  go_upto_region 4 with (go_at_call 97; refine hbg.mono ?_; rintro e w2 ⟨rfl, hd⟩; have HD := hide hd; clear hbg hd)
  clear q1
  have hkp : Keep (fun b => ¬ (More X w w1) b) w1 w2 := HD.out.keep
  have p1 : w2.heap[w.heap.size]? = _ := hkp.heapOf HB1.out (fun hn => hn (.inr ⟨Nat.le_refl _, by rw [HSZ.out]; omega⟩))
  have q1 : w2.cell? ⟨w.heap.size, 0, none⟩ = some (.pointer (some ⟨fb, 0, none⟩)) := by rw [cell_of_row _ _ _ _ _ _ p1]; rfl
  have q2 := HD.out.k1
  have r2 : w2.heap[w.heap.size + 1]? = some (.cells #[.nilIface] 46 (0, 0)) := hkp.heapOf HB2.out (fun hn => hn (.inr ⟨by omega, by rw [HSZ.out]; omega⟩))
  have R2 := hide r2
  have hfa := fault_new [102, 105, 108, 101, 46, 112, 117, 116] name Eb w2
  clear r2 p1 hkp
  go_wp2_with (go_at_call 51; refine hfa.mono ?_; rintro e w4 ⟨v, rfl, hv, hk4, hn4⟩; obtain ⟨eb, hsh⟩ := hv.shape1 hb; subst hsh; have HV4 := hide hv; have HK4 := hide hk4; have HN4 := hide hn4; have r4 : w4.heap[w.heap.size + 1]? = some (.cells #[.nilIface] 46 (0, 0)) := (hk4.block _ (Array.getElem?_eq_some_iff.1 R2.out).1 (by simp)).trans R2.out; have R4 := hide r4; have s2 : w4.cell? ⟨w.heap.size + 1, 0, none⟩ = some .nilIface := (by rw [cell_of_row _ _ _ _ _ _ r4]; rfl); have s3 : w4.frozen? ⟨w.heap.size + 1, 0, none⟩ = false := frozen_of_row _ _ _ _ _ r4; clear hfa hv hk4 hn4 q1 q2 r4)
  generalize hve : Value.iface 98 (.pointer (some ⟨eb, 0, none⟩)) = v at HV4 HN4 ⊢
  obtain ⟨w5, hw5⟩ : ∃ x, x = w4.setCell ⟨w.heap.size + 1, 0, none⟩ v := ⟨_, rfl⟩
  rw [← hw5]
  have k45 : Keep (fun b => b = w.heap.size + 1) w4 w5 := by rw [hw5]; exact (Keep.refl (fun b => b = w.heap.size + 1) w4).setCell (p := ⟨w.heap.size + 1, 0, none⟩) (fun _ => rfl) _
  have rl : w.heap.size + 1 < w2.heap.size := (Array.getElem?_eq_some_iff.1 R2.out).1
  have hen := HEND.out w2 w5 v Eb _ _ _ HD.out ((Keep.ofNone (F := fun b => b = w.heap.size + 1) HK4.out).trans k45 (fun _ h _ => h)) (by rw [hw5, heap_setCell_same _ _ _ _ _ _ R4.out]; rfl) (HV4.out.keepE k45 (fun b hb e => by have := newE_errB HN4.out hb; omega)) (fun b hb => newE_errB HN4.out hb) (by omega) (by omega)
  clear HEND HV4 HK4 HN4 R2 R4 k45 rl s2 s3 hw5
  refine leaves_cons (f := 94) (args := #[.pointer (some ⟨w.heap.size, 0, none⟩), .pointer (some ⟨w.heap.size + 1, 0, none⟩)]) (by simp) (by simp [go_sem]) ?_
  refine hen.mono ?_
  rintro e u' w6 ⟨rfl, rfl, v', s6, HQ⟩
  simp [Leaves, settle, results, Tryz.results52, go_sem, s6]
  rw [HL1.out]
  obtain ⟨g1, ⟨c', g2⟩, g3⟩ := HQ.out
  exact ⟨g1, by cases c'; exact .inl g2; exact .inr g2, g3⟩
set_option maxHeartbeats 4000000 in
set_option maxRecDepth 100000 in
theorem put_new (h : Ax X wa w p S N) (name : By) {ao : Option Addr} {n cp : Nat} {d : By} (hN : N + 1048610 ≤ 268435456) (hnb : n ≤ 4611686018427387900) (hm : name.length ≤ 4611686018427387900) (hl : d.length = n) (hs : Sl w ao d) (h0a : ao = none → n = 0) (hnew : d ≠ [] → ∀ a, ao = some a → X a.block) :
  Calls Tryz.prog 12 #[.pointer (some ⟨p, 0, none⟩), encStr name, .slice ao n cp] w fun e w' => ∃ v, e = .returned v ∧ ErrV w' v opPut name (S.put name d).1 ∧ Ax (fun b => X b ∨ errB v b) w' w' p (S.put name d).2 (N + min n 1048576 + 20) ∧ Keep (fun b => ¬ X b) wa w' ∧ ∀ b, errB v b → w.heap.size ≤ b := by
 have c1 := isPutName_ok name w hm
 have hof := off_ax h
 have hlt : ∀ b, X b → b < wa.heap.size := fun b hb => by obtain ⟨A, o, h1, h2, h3, h4⟩ := h; exact (h2 b hb).2
 have HBAD : Hid (∀ (w' : World) (v : Value) (E : Int), ErrV w' v opPut name E → Kept [] w w' → NewE w v → Ax (fun b => X b ∨ errB v b) w' w' p S (N + min n 1048576 + 20) ∧ Keep (fun b => ¬ X b) wa w' ∧ ∀ b, errB v b → w.heap.size ≤ b) := hide (fun w' v E hv hk hn => ⟨(ax_free h (Keep.ofNone (F := fun _ => False) hk) (fun _ _ h => h.elim) (fun b hb => by
   rcases hb with hb | hb
   ·exact ⟨.inl hb, Nat.lt_of_lt_of_le (hlt b hb) (Nat.le_trans h.old.size hk.size)⟩
   ·exact ⟨.inr (newE_errB hn hb), hv.ltB hb⟩)).mono (by omega), h.old.kept hk, fun b hb => newE_errB hn hb⟩)
 by_cases hp : isPut name = true
 ·rw [hp] at c1
  by_cases hon : S.on = true
  ·have HPT : Hid (S.put name d = S.lay name (43 :: name) d) := hide (by unfold Ds.put; rw [if_pos hp, if_pos hon])
   rw [hon] at hof
   have hcat : ¬ (9223372036854775807 < 1 + name.length) := by omega
   have hcat2 : ¬ ((9223372036854775807 : Int) < 1 + (name.length : Int)) := by omega
   have hcc : (ByteArray.mk #[43] ++ ByteArray.mk name.toArray) = ByteArray.mk (43 :: name).toArray := by apply ByteArray.ext; simp [ByteArray.data_append]
   have hd := Drf.begin h name (43 :: name)
   have hk : Kept [] w (w.alloc (.cells #[.pointer (some ⟨p, 0, none⟩), encStr name, encStr (43 :: name), .bool false] 86)) := (Kept.refl [] w).alloc _
   have hla := lay_new hd (ao := ao) (cp := cp) hN hnb (by simp; omega) (by omega) hl (hs.kept hk (by simp)) h0a hnew
   clear hd hk h hs hnew h0a hon hp HBAD hlt
   go_enter Tryz.func12, Tryz.ntmps12
   go_wp2_with (first
    | (go_at_call 50; refine c1.mono ?_; rintro e w' ⟨rfl, hww⟩; obtain rfl := hww.symm; clear c1)
    | (go_at_call 41; refine hof.mono ?_; rintro e w' ⟨rfl, hww⟩; obtain rfl := hww.symm; clear hof)
    | (go_at_call 52; refine hla.mono ?_; rintro e w2 ⟨v, rfl, hd2⟩; have HD := hide hd2; clear hla hd2))
   go_ret
   rw [HPT.out]
   obtain ⟨g1, ⟨c', g2⟩, g3⟩ := HD.out
   exact ⟨v, rfl, g1, g2.end, g3.1, fun b hb => by have := g3.2 b hb; simp at this; omega⟩
  ·have hon' : S.on = false := by simpa using hon
   have HPT : Hid (S.put name d = (50, S)) := hide (by unfold Ds.put; rw [if_pos hp, if_neg hon])
   rw [hon'] at hof
   have c2 := fault_new opPut name 50 w
   clear h hs hnew h0a hon hp hlt hon'
   go_enter Tryz.func12, Tryz.ntmps12
   go_wp2_with (first
    | (go_at_call 50; refine c1.mono ?_; rintro e w' ⟨rfl, hww⟩; obtain rfl := hww.symm; clear c1)
    | (go_at_call 41; refine hof.mono ?_; rintro e w' ⟨rfl, hww⟩; obtain rfl := hww.symm; clear hof)
    | (go_at_call 51; refine c2.mono ?_; rintro e w2 ⟨v, rfl, hv⟩; have HV := hide hv; clear c2 hv))
   go_ret
   rw [HPT.out]
   exact ⟨v, rfl, HV.out.1, HBAD.out _ v 50 HV.out.1 HV.out.2.1 HV.out.2.2⟩
 ·have hp' : isPut name = false := by simpa using hp
  have HPT : Hid (S.put name d = (51, S)) := hide (by unfold Ds.put; rw [if_neg hp])
  rw [hp'] at c1
  have c2 := fault_new opPut name 51 w
  clear h hs hnew h0a hp hlt hp' hof
  go_enter Tryz.func12, Tryz.ntmps12
  go_wp2_with (first
   | (go_at_call 50; refine c1.mono ?_; rintro e w' ⟨rfl, hww⟩; obtain rfl := hww.symm; clear c1)
   | (go_at_call 51; refine c2.mono ?_; rintro e w2 ⟨v, rfl, hv⟩; have HV := hide hv; clear c2 hv))
  go_ret
  rw [HPT.out]
  exact ⟨v, rfl, HV.out.1, HBAD.out _ v 51 HV.out.1 HV.out.2.1 HV.out.2.2⟩
end
end Go.Proofs.YtodihkdmneihiaaGreatDoor
