/-
  Put, Get, Drop, Clean: what is refused ahead of the disk, or by it; Put and Get where nothing is refused.
-/
import Derived.Test.YtemlbmamcbmnjaaGreatDoorFndp
import Derived.Scope
namespace Go.Proofs.YtemlbmamcbmnjaaGreatDoor
open Go.RowKit Dsk
set_option linter.unusedVariables false
set_option linter.unusedSimpArgs false

abbrev opPut : By := [102, 105, 108, 101, 46, 112, 117, 116]
abbrev opGet : By := [102, 105, 108, 101, 46, 103, 101, 116]
abbrev opDrop : By := [102, 105, 108, 101, 46, 100, 114, 111, 112]
abbrev opClean : By := [102, 105, 108, 101, 46, 99, 108, 101, 97, 110]

theorem put_name (dv : Value) (name : By) (dt : Value) (w : World) (hm : name.length ≤ 4611686018427387900) (hp : isPut name = false) :
    Calls Tryz.prog 16 #[dv, encStr name, dt] w fun e w' => ∃ v, e = .returned v ∧ ErrV w' v opPut name 51 ∧ Kept [] w w' := by
  have c1 := isPutName_ok name w hm
  rw [hp] at c1
  have c2 := fault_ok opPut name 51 w
  go_enter Tryz.func16, Tryz.ntmps16
  go_wp2_with (first
    | (go_at_call 62; refine c1.mono ?_; rintro e w' ⟨rfl, hww⟩; obtain rfl := hww.symm; clear c1)
    | (go_at_call 63; refine c2.mono ?_; rintro e w' ⟨v, rfl, hv⟩; have HV := hide hv; clear c2 hv))
  go_ret
  exact ⟨_, rfl, HV.out⟩

theorem put_off (dv : Value) (name : By) (dt : Value) (w : World) (hm : name.length ≤ 4611686018427387900) (hp : isPut name = true) (hoff : Calls Tryz.prog 25 #[dv] w fun e w' => e = .returned (.bool true) ∧ w' = w) :
    Calls Tryz.prog 16 #[dv, encStr name, dt] w fun e w' => ∃ v, e = .returned v ∧ ErrV w' v opPut name 50 ∧ Kept [] w w' := by
  have c1 := isPutName_ok name w hm
  rw [hp] at c1
  have c2 := fault_ok opPut name 50 w
  go_enter Tryz.func16, Tryz.ntmps16
  go_wp2_with (first
    | (go_at_call 62; refine c1.mono ?_; rintro e w' ⟨rfl, hww⟩; obtain rfl := hww.symm; clear c1)
    | (go_at_call 25; refine hoff.mono ?_; rintro e w' ⟨rfl, hww⟩; obtain rfl := hww.symm; clear hoff)
    | (go_at_call 63; refine c2.mono ?_; rintro e w' ⟨v, rfl, hv⟩; have HV := hide hv; clear c2 hv))
  go_ret
  exact ⟨_, rfl, HV.out⟩

theorem get_name (dv : Value) (name : By) (w : World) (hm : name.length ≤ 4611686018427387900) (hp : isNm name = false) :
    Calls Tryz.prog 29 #[dv, encStr name] w fun e w' => ∃ v, e = .returned (.tuple #[.slice none 0 0, v]) ∧ ErrV w' v opGet name 51 ∧ Kept [] w w' := by
  have c1 := fisName_ok name w (by omega)
  rw [hp] at c1
  have c2 := fault_ok opGet name 51 w
  go_enter Tryz.func29, Tryz.ntmps29
  go_wp2_with (first
    | (go_at_call 73; refine c1.mono ?_; rintro e w' ⟨rfl, hww⟩; obtain rfl := hww.symm; clear c1)
    | (go_at_call 63; refine c2.mono ?_; rintro e w' ⟨v, rfl, hv⟩; have HV := hide hv; clear c2 hv))
  go_ret2
  exact ⟨_, rfl, HV.out⟩

theorem get_bad (dv : Value) (name : By) (z E : Int) (w : World) (hm : name.length ≤ 4611686018427387900) (hp : isNm name = true) (hE : E ≠ 0) (hsz : Calls Tryz.prog 74 #[dv, encStr name] w fun e w' => e = .returned (.tuple #[.int .i64 z, .int .i64 E]) ∧ w' = w) :
    Calls Tryz.prog 29 #[dv, encStr name] w fun e w' => ∃ v, e = .returned (.tuple #[.slice none 0 0, v]) ∧ ErrV w' v opGet name E ∧ Kept [] w w' := by
  have c1 := fisName_ok name w (by omega)
  rw [hp] at c1
  have c2 := fault_ok opGet name E w
  have hb : (E != 0) = true := by simpa using hE
  clear hE
  go_enter Tryz.func29, Tryz.ntmps29
  go_wp2_with (first
    | (go_at_call 73; refine c1.mono ?_; rintro e w' ⟨rfl, hww⟩; obtain rfl := hww.symm; clear c1)
    | (go_at_call 74; refine hsz.mono ?_; rintro e w' ⟨rfl, hww⟩; obtain rfl := hww.symm; clear hsz)
    | (go_at_call 63; refine c2.mono ?_; rintro e w' ⟨v, rfl, hv⟩; have HV := hide hv; clear c2 hv))
  go_ret2
  exact ⟨_, rfl, HV.out⟩

theorem drop_name (dv : Value) (name : By) (w : World) (hm : name.length ≤ 4611686018427387900) (hp : isNm name = false) :
    Calls Tryz.prog 35 #[dv, encStr name] w fun e w' => ∃ v, e = .returned v ∧ ErrV w' v opDrop name 51 ∧ Kept [] w w' := by
  have c1 := fisName_ok name w (by omega)
  rw [hp] at c1
  have c2 := fault_ok opDrop name 51 w
  go_enter Tryz.func35, Tryz.ntmps35
  go_wp2_with (first
    | (go_at_call 73; refine c1.mono ?_; rintro e w' ⟨rfl, hww⟩; obtain rfl := hww.symm; clear c1)
    | (go_at_call 63; refine c2.mono ?_; rintro e w' ⟨v, rfl, hv⟩; have HV := hide hv; clear c2 hv))
  go_ret
  exact ⟨_, rfl, HV.out⟩

theorem drop_bad (dv : Value) (name : By) (E : Int) (w : World) (hm : name.length ≤ 4611686018427387900) (hp : isNm name = true) (hE : E ≠ 0) (hrm : Calls Tryz.prog 46 #[dv, encStr name] w fun e w' => e = .returned (.int .i64 E) ∧ w' = w) :
    Calls Tryz.prog 35 #[dv, encStr name] w fun e w' => ∃ v, e = .returned v ∧ ErrV w' v opDrop name E ∧ Kept [] w w' := by
  have c1 := fisName_ok name w (by omega)
  rw [hp] at c1
  have c2 := fault_ok opDrop name E w
  have hb : (E != 0) = true := by simpa using hE
  clear hE
  go_enter Tryz.func35, Tryz.ntmps35
  go_wp2_with (first
    | (go_at_call 73; refine c1.mono ?_; rintro e w' ⟨rfl, hww⟩; obtain rfl := hww.symm; clear c1)
    | (go_at_call 46; refine hrm.mono ?_; rintro e w' ⟨rfl, hww⟩; obtain rfl := hww.symm; clear hrm)
    | (go_at_call 63; refine c2.mono ?_; rintro e w' ⟨v, rfl, hv⟩; have HV := hide hv; clear c2 hv))
  go_ret
  exact ⟨_, rfl, HV.out⟩

theorem clean_off (dv : Value) (name : By) (w : World) (hoff : Calls Tryz.prog 25 #[dv] w fun e w' => e = .returned (.bool true) ∧ w' = w) :
    Calls Tryz.prog 27 #[dv, encStr name] w fun e w' => ∃ v, e = .returned v ∧ ErrV w' v opClean name 50 ∧ Kept [] w w' := by
  have c2 := fault_ok opClean name 50 w
  go_enter Tryz.func27, Tryz.ntmps27
  go_wp2
  refine wp_scope_straight ?_
  go_wp2_with (first
    | (go_at_call 25; refine hoff.mono ?_; rintro e w' ⟨rfl, hww⟩; obtain rfl := hww.symm; clear hoff)
    | (go_at_call 63; refine c2.mono ?_; rintro e w' ⟨v, rfl, hv⟩; have HV := hide hv; clear c2 hv))
  unfold Exit.noGoto
  refine bodyPost_ret (results_tmp rfl _ _ _) rfl ?_
  exact ⟨_, rfl, HV.out⟩

section
variable {X : Nat → Prop} {wa w w' : World} {p : Nat} {S : Ds} {N : Nat}
set_option maxHeartbeats 4000000 in
set_option maxRecDepth 100000 in
theorem put_fine (h : Ax X wa w p S N) (name : By) {ao : Option Addr} {n cp : Nat} {d : By} (hN : N + n + 20 ≤ 268435456) (hm : name.length ≤ 4611686018427387900) (hl : d.length = n) (hs : Sl w ao d) (h0a : ao = none → n = 0) (hnew : d ≠ [] → ∀ a, ao = some a → X a.block)
    (hp : isPut name = true) (hon : S.on = true) (h53 : (S.find (43 :: name)).1 = 53) (hc : (S.create (43 :: name)).1 = 0) (e1 : ((S.create (43 :: name)).2.append (43 :: name) d).1 = 0) (e2 : (((S.create (43 :: name)).2.append (43 :: name) d).2.sync (43 :: name)).1 = 0) (e3 : ((((S.create (43 :: name)).2.append (43 :: name) d).2.sync (43 :: name)).2.rename (43 :: name) name).1 = 0) (e4 : (((((S.create (43 :: name)).2.append (43 :: name) d).2.sync (43 :: name)).2.rename (43 :: name) name).2.syncNames).1 = 0) :
    Calls Tryz.prog 16 #[.pointer (some ⟨p, 0, none⟩), encStr name, .slice ao n cp] w fun e w' => e = .returned .nilIface ∧ Ax X wa w' p (((((S.create (43 :: name)).2.append (43 :: name) d).2.sync (43 :: name)).2.rename (43 :: name) name).2.syncNames).2 (N + n + 7) := by
  have c1 := isPutName_ok name w hm
  rw [hp] at c1
  have hof := off_ax h
  rw [hon] at hof
  have hcat : ¬ (9223372036854775807 < 1 + name.length) := by omega
  have hcat2 : ¬ ((9223372036854775807 : Int) < 1 + (name.length : Int)) := by omega
  have hcc : (ByteArray.mk #[43] ++ ByteArray.mk name.toArray) = ByteArray.mk (43 :: name).toArray := by apply ByteArray.ext; simp [ByteArray.data_append]
  have hd := Drf.begin h name (43 :: name)
  have hk : Kept [] w (w.alloc (.cells #[.pointer (some ⟨p, 0, none⟩), encStr name, encStr (43 :: name), .bool false] 103)) := (Kept.refl [] w).alloc _
  have hla := lay_fine hd (ao := ao) (cp := cp) hN (by simp; omega) (by omega) hl (hs.kept hk (by simp)) h0a hnew h53 hc e1 e2 e3 e4
  clear hd hk h hs hnew h0a hon h53 hc e1 e2 e3 e4 hp
  go_enter Tryz.func16, Tryz.ntmps16
  go_wp2_with (first
    | (go_at_call 62; refine c1.mono ?_; rintro e w' ⟨rfl, hww⟩; obtain rfl := hww.symm; clear c1)
    | (go_at_call 25; refine hof.mono ?_; rintro e w' ⟨rfl, hww⟩; obtain rfl := hww.symm; clear hof)
    | (go_at_call 64; refine hla.mono ?_; rintro e w2 ⟨rfl, hd2⟩; have HD := hide hd2; clear hla hd2))
  go_ret
  exact ⟨rfl, HD.out.end⟩

set_option maxHeartbeats 4000000 in
set_option maxRecDepth 100000 in
theorem get_fine (h : Ax X wa w p S N) (name : By) (hN : N + 20 ≤ 268435456) (hm : name.length ≤ 4611686018427387900) (hp : isNm name = true) (hf : (S.find name).1 = 0) :
    Calls Tryz.prog 29 #[.pointer (some ⟨p, 0, none⟩), encStr name] w fun e w' => ∃ v, e = .returned (.tuple #[v, .nilIface]) ∧ Ax X wa w' p (S.read name 0 (S.size name)) (N + 1) ∧ OwnB w' v (S.readBytes name 0 (S.size name)).length (S.readBytes name 0 (S.size name)) := by
  have c1 := fisName_ok name w (by omega)
  rw [hp] at c1
  have hsz := size_ax h name (by omega)
  rw [hf] at hsz
  have hrd := read_ax h (by omega) name (by omega) 0 (S.size name)
  have hok : S.readOk name 0 (S.size name) = 0 := by
    simp only [Ds.readOk, Ds.size, hf, ne_eq, not_true_eq_false, if_false]
    rw [if_neg (by omega)]
  rw [hok] at hrd
  have hfa := fun v => fault_ok opGet name 0 v
  clear h hp hf hok
  generalize S.size name = z at *
  go_enter Tryz.func29, Tryz.ntmps29
  go_wp2_with (first
    | (go_at_call 73; refine c1.mono ?_; rintro e w' ⟨rfl, hww⟩; obtain rfl := hww.symm; clear c1)
    | (go_at_call 74; refine hsz.mono ?_; rintro e w' ⟨rfl, hww⟩; obtain rfl := hww.symm; clear hsz)
    | (go_at_call 75; refine hrd.mono ?_; rintro e w2 ⟨v, rfl, hx, ho⟩; have HX := hide hx; have HO := hide ho; clear hrd hx ho)
    | (go_at_call 63; refine (hfa _).mono ?_; rintro e w3 ⟨v3, rfl, hv3, hk3⟩; obtain rfl : v3 = .nilIface := (by rcases hv3 with hv | hv; exact hv.2; exact absurd rfl hv.1); have HK3 := hide hk3; clear hfa hv3 hk3))
  go_ret2
  exact ⟨_, rfl, HX.out.kept HK3.out, HO.out.kept HK3.out⟩
end
end Go.Proofs.YtemlbmamcbmnjaaGreatDoor
