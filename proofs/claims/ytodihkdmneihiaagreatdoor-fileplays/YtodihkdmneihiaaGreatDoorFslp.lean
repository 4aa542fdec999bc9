import Derived.Test.YtodihkdmneihiaaGreatDoorFsip
import Derived.Test.YtodihkdmneihiaaGreatDoorFskp
namespace Go.Proofs.YtodihkdmneihiaaGreatDoor
open Go.RowKit Dsk
set_option linter.unusedVariables false
set_option linter.unusedSimpArgs false
set_option maxRecDepth 100000 in
theorem get_name_new (dv : Value) (name : By) (w : World) (hm : name.length ≤ 4611686018427387900) (hp : isNm name = false) :
  Calls Tryz.prog 13 #[dv, encStr name] w fun e w' => ∃ v, e = .returned (.tuple #[.slice none 0 0, v]) ∧ ErrV w' v opGet name 51 ∧ Kept [] w w' ∧ NewE w v := by
 have c1 := fisName_ok name w (by omega)
 rw [hp] at c1
 have c2 := fault_new opGet name 51 w
 go_enter Tryz.func13, Tryz.ntmps13
 go_wp2_with (first
  | (go_at_call 53; refine c1.mono ?_; rintro e w' ⟨rfl, hww⟩; obtain rfl := hww.symm; clear c1)
  | (go_at_call 51; refine c2.mono ?_; rintro e w' ⟨v, rfl, hv⟩; have HV := hide hv; clear c2 hv))
 go_ret2
 exact ⟨_, rfl, HV.out⟩
set_option maxRecDepth 100000 in
theorem get_bad_new (dv : Value) (name : By) (z E : Int) (w : World) (hm : name.length ≤ 4611686018427387900) (hp : isNm name = true) (hE : E ≠ 0) (hsz : Calls Tryz.prog 54 #[dv, encStr name] w fun e w' => e = .returned (.tuple #[.int .i64 z, .int .i64 E]) ∧ w' = w) :
  Calls Tryz.prog 13 #[dv, encStr name] w fun e w' => ∃ v, e = .returned (.tuple #[.slice none 0 0, v]) ∧ ErrV w' v opGet name E ∧ Kept [] w w' ∧ NewE w v := by
 have c1 := fisName_ok name w (by omega)
 rw [hp] at c1
 have c2 := fault_new opGet name E w
 have hb : (E != 0) = true := by simpa using hE
 clear hE
 go_enter Tryz.func13, Tryz.ntmps13
 go_wp2_with (first
  | (go_at_call 53; refine c1.mono ?_; rintro e w' ⟨rfl, hww⟩; obtain rfl := hww.symm; clear c1)
  | (go_at_call 54; refine hsz.mono ?_; rintro e w' ⟨rfl, hww⟩; obtain rfl := hww.symm; clear hsz)
  | (go_at_call 51; refine c2.mono ?_; rintro e w' ⟨v, rfl, hv⟩; have HV := hide hv; clear c2 hv))
 go_ret2
 exact ⟨_, rfl, HV.out⟩
set_option maxRecDepth 100000 in
theorem clean_off_new (dv : Value) (name : By) (w : World) (hoff : Calls Tryz.prog 41 #[dv] w fun e w' => e = .returned (.bool true) ∧ w' = w) :
  Calls Tryz.prog 21 #[dv, encStr name] w fun e w' => ∃ v, e = .returned v ∧ ErrV w' v opClean name 50 ∧ Kept [] w w' ∧ NewE w v := by
 have c2 := fault_new opClean name 50 w
 go_enter Tryz.func21, Tryz.ntmps21
 go_wp2
 refine wp_scope_straight ?_
 go_wp2_with (first
  | (go_at_call 41; refine hoff.mono ?_; rintro e w' ⟨rfl, hww⟩; obtain rfl := hww.symm; clear hoff)
  | (go_at_call 51; refine c2.mono ?_; rintro e w' ⟨v, rfl, hv⟩; have HV := hide hv; clear c2 hv))
 unfold Exit.noGoto
 refine bodyPost_ret (results_tmp rfl _ _ _) rfl ?_
 exact ⟨_, rfl, HV.out⟩
section
variable {X : Nat → Prop} {w : World} {P p q : Nat} {S : Ds} {N : Nat} {T : Ds} {M : Nat}
theorem Pz.oneE (h : Pz X w P p q S N T M) : ∃ Y, (∀ b, X b → Y b) ∧ Ax Y w w p S N ∧ ∀ (w' : World) (S' : Ds) (N' : Nat) (Z : Nat → Prop), Ax (fun b => Y b ∨ Z b) w' w' p S' N' → Keep (fun b => ¬ Y b) w w' → (∀ b, Z b → w.heap.size ≤ b) → Pz (fun b => X b ∨ Z b) w' P p q S' N' T M ∧ Keep (fun b => ¬ (X b ∨ b = P)) w w' := by
 obtain ⟨A, o, A', o', h1, h2, h3, h4, h5, h6⟩ := h.tw
 refine ⟨fun b => (X b ∨ b = P) ∨ o' b ≠ 0, fun _ h => .inl (.inl h), ⟨A, o, h1, fun b hb => ?_, Keep.refl _ _, h5⟩, fun w' S' N' Z ha hk hz => ?_⟩
 ·rcases hb with hb | hb
  ·exact ⟨(h4 b hb).1, (h4 b hb).2.2⟩
  ·exact ⟨Classical.byContradiction fun hn => hb (h3 b hn), h2.lim b hb⟩
 ·obtain ⟨A2, o2, g1, g2, g3, g4⟩ := ha
  refine ⟨⟨⟨A2, o2, A', o', g1, h2.keep hk (fun b hb hn => hn (.inr hb)), fun b hb => Classical.byContradiction fun hn => hb (g2 b (.inl (.inr hn))).1, fun b hb => ?_, g4, h6⟩, hk.heapOf h.cell (fun hn => hn (.inl (.inr rfl)))⟩, hk.mono (fun b hb _ hx => hb (.inl hx))⟩
  rcases hb with (hb | hb) | hb
  ·exact ⟨(g2 b (.inl (.inl (.inl hb)))).1, (h4 b (.inl hb)).2.1, (g2 b (.inl (.inl (.inl hb)))).2⟩
  ·exact ⟨(g2 b (.inr hb)).1, Classical.byContradiction fun hn => by have := h2.lim b hn; have := hz b hb; omega, (g2 b (.inr hb)).2⟩
  ·exact ⟨(g2 b (.inl (.inl (.inr hb)))).1, (h4 b (.inr hb)).2.1, (g2 b (.inl (.inl (.inr hb)))).2⟩
theorem put_z1 (h : Pz X w P p q S N T M) (name : By) {ao : Option Addr} {n cp : Nat} {d : By} (hN : N + 1048610 ≤ 268435456) (hnb : n ≤ 4611686018427387900) (hm : name.length ≤ 4611686018427387900) (hl : d.length = n) (hs : Sl w ao d) (h0a : ao = none → n = 0) (hfar : d ≠ [] → ∀ a, ao = some a → X a.block) :
  Calls Tryz.prog 12 #[.pointer (some ⟨p, 0, none⟩), encStr name, .slice ao n cp] w fun e w' => ∃ v, e = .returned v ∧ ErrV w' v opPut name (S.put name d).1 ∧ Pz (fun b => X b ∨ errB v b) w' P p q (S.put name d).2 (N + min n 1048576 + 20) T M ∧ Keep (fun b => ¬ (X b ∨ b = P)) w w' := by
 obtain ⟨Y, hY, h1, h2⟩ := h.oneE
 refine (put_new h1 name hN hnb hm hl hs h0a (fun hd a ha => hY _ (hfar hd a ha))).mono ?_
 rintro e w' ⟨v, rfl, hv, ha, hk, hn⟩
 exact ⟨v, rfl, hv, h2 _ _ _ _ ha hk hn⟩
theorem clean_z0 (h : Pz X w P p q S N T M) (hon : S.on = false) (name : By) :
  Calls Tryz.prog 21 #[.pointer (some ⟨p, 0, none⟩), encStr name] w fun e w' => ∃ v, e = .returned v ∧ ErrV w' v opClean name (S.rclean name).1 ∧ Pz (fun b => X b ∨ errB v b) w' P p q (S.rclean name).2 N T M ∧ Keep (fun b => ¬ (X b ∨ b = P)) w w' := by
 obtain ⟨Y, hY, h1, h2⟩ := h.one
 have hof := off_ax h1
 rw [hon] at hof
 have hc : S.rclean name = (50, S) := by unfold Ds.rclean; rw [if_neg (by rw [hon]; decide)]
 rw [hc]
 refine (clean_off_new _ name w hof).mono ?_
 rintro e w' ⟨v, rfl, hv, hk, hn⟩
 exact ⟨v, rfl, hv, h.err hk hn hv, Keep.ofNone hk⟩
theorem get_z1 (h : Pz X w P p q S N T M) (hN : N + 20 ≤ 268435456) (name : By) (hm : name.length ≤ 4611686018427387900) :
  Calls Tryz.prog 13 #[.pointer (some ⟨p, 0, none⟩), encStr name] w fun e w' => ∃ v ve, e = .returned (.tuple #[v, ve]) ∧ ErrV w' ve opGet name (S.getE name) ∧ (Pz (fun b => X b ∨ (v.ownBlock = some b ∨ errB ve b)) w' P p q (S.getD name) (N + 1) T M ∧ Keep (fun b => ¬ (X b ∨ b = P)) w w') ∧ OwnB w' v (S.getB name).length (S.getB name) := by
 obtain ⟨Y, hY, h1, h2⟩ := h.oneE
 by_cases hp : isNm name = true
 ·by_cases hf : (S.find name).1 = 0
  ·have hE : S.getE name = 0 := by unfold Ds.getE; rw [if_pos hp, hf]
   have hD : S.getD name = S.read name 0 (S.size name) := by unfold Ds.getD; rw [if_pos hE]
   have hB : S.getB name = S.readBytes name 0 (S.size name) := by unfold Ds.getB; rw [if_pos hE]
   rw [hE, hD, hB]
   refine (get_r h1 name hN hm hp hf).mono ?_
   rintro e w' ⟨v, rfl, hg⟩
   refine ⟨v, _, rfl, .inl ⟨rfl, rfl⟩, h2 _ _ _ _ ?_ hg.keep (fun b hb => ?_), OwnB.of hg.row⟩
   ·obtain ⟨A, o, g1, g2, g3, g4⟩ := hg.ax
    refine ⟨A, o, g1, fun b hb => ?_, Keep.refl _ _, g4⟩
    rcases hb with hb | hb | ⟨t, o', s, e⟩
    ·exact g2 b (.inl hb)
    ·exact g2 b (.inr hb)
    ·cases e
   ·rcases hb with hb | ⟨t, o', s, e⟩
    ·exact hg.new b hb
    ·cases e
  ·have hE : S.getE name = (S.find name).1 := by unfold Ds.getE; rw [if_pos hp]
   have hD : S.getD name = S := by unfold Ds.getD; rw [if_neg (by rw [hE]; exact hf)]
   have hB : S.getB name = [] := by unfold Ds.getB; rw [if_neg (by rw [hE]; exact hf)]
   rw [hE, hD, hB]
   refine (get_bad_new _ name _ _ w hm hp hf (size_ax h1 name (by omega))).mono ?_
   rintro e w' ⟨ve, rfl, hv, hk, hn⟩
   exact ⟨_, ve, rfl, hv, ⟨((h.err hk hn hv).mono (by omega) (Nat.le_refl _)).less (fun b hb => by
    rcases hb with hb | hb | hb
    ·exact .inl hb
    ·cases hb
    ·exact .inr hb), Keep.ofNone hk⟩, rfl, .inl ⟨rfl, rfl⟩⟩
 ·have hp' : isNm name = false := by simpa using hp
  have hE : S.getE name = 51 := by unfold Ds.getE; rw [if_neg hp]
  have hD : S.getD name = S := by unfold Ds.getD; rw [if_neg (by rw [hE]; decide)]
  have hB : S.getB name = [] := by unfold Ds.getB; rw [if_neg (by rw [hE]; decide)]
  rw [hE, hD, hB]
  refine (get_name_new _ name w hm hp').mono ?_
  rintro e w' ⟨ve, rfl, hv, hk, hn⟩
  exact ⟨_, ve, rfl, hv, ⟨((h.err hk hn hv).mono (by omega) (Nat.le_refl _)).less (fun b hb => by
   rcases hb with hb | hb | hb
   ·exact .inl hb
   ·cases hb
   ·exact .inr hb), Keep.ofNone hk⟩, rfl, .inl ⟨rfl, rfl⟩⟩
end
end Go.Proofs.YtodihkdmneihiaaGreatDoor
