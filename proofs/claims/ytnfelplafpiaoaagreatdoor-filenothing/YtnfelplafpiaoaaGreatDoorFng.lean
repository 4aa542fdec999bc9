/-
  FileNothing: the walk.
-/
import Derived.Test.YtnfelplafpiaoaaGreatDoorFnf
namespace Go.Proofs.YtnfelplafpiaoaaGreatDoor
open Go.RowKit Dsk
set_option linter.unusedVariables false
set_option linter.unusedSimpArgs false

def eB (b : Bool) : Int := if b then 50 else 51
theorem eB_t : eB true = 50 := rfl
theorem eB_f : eB false = 51 := rfl
theorem putV {dv : Value} {w : World} (h : OffV dv w) (name : By) (dt : Value) (hm : name.length ≤ 4611686018427387900) {bp : Bool} (hb : isPut name = bp) :
    Calls Tryz.prog 18 #[dv, encStr name, dt] w fun e w' => ∃ v, e = .returned v ∧ ErrV w' v opPut name (eB bp) ∧ Kept [] w w' := by
  cases bp with
  | true => exact put_off dv name dt w hm hb (off_v h)
  | false => exact put_name dv name dt w hm hb
theorem getV {dv : Value} {w : World} (h : OffV dv w) (name : By) (hm : name.length ≤ 4611686018427387900) {bn : Bool} (hb : isNm name = bn) :
    Calls Tryz.prog 33 #[dv, encStr name] w fun e w' => ∃ v, e = .returned (.tuple #[.slice none 0 0, v]) ∧ ErrV w' v opGet name (eB bn) ∧ Kept [] w w' := by
  cases bn with
  | true => exact get_bad dv name 0 50 w hm hb (by decide) (size_v h name)
  | false => exact get_name dv name w hm hb
theorem dropV {dv : Value} {w : World} (h : OffV dv w) (name : By) (hm : name.length ≤ 4611686018427387900) {bn : Bool} (hb : isNm name = bn) :
    Calls Tryz.prog 30 #[dv, encStr name] w fun e w' => ∃ v, e = .returned v ∧ ErrV w' v opDrop name (eB bn) ∧ Kept [] w w' := by
  cases bn with
  | true => exact drop_bad dv name 50 w hm hb (by decide) (remove_v h name)
  | false => exact drop_name dv name w hm hb

set_option maxHeartbeats 8000000 in
set_option maxRecDepth 100000 in
theorem nothing_walk (name : By) (ao : Option Addr) (n cap : Nat) (w : World) (hg : Gl w) (hm : name.length ≤ 4611686018427387900) :
    Calls Tryz.prog 8 #[.string ⟨name.toArray⟩, .slice ao n cap] w fun e w' => e = .returned (.bool true) ∧ Below w.heap.size w w' := by
  have hkn := known6_ok w hg
  have HG := hide hg
  clear hg
  go_enter Tryz.func8, Tryz.ntmps8
  go_upto_region 3 with (go_at_call 11; refine hkn.mono ?_; rintro e w1 ⟨rfl, hk1⟩; have HK1 := hide hk1; clear hkn hk1)
  go_upto_region 4 with (fail)
  have hkA : Kept [] w1 ((w1.alloc (.cells #[.int .i64 0, .bool false, .map none, .slice none 0 0, .map none, .int .i64 0, .int .i64 0, .int .i64 0, .int .i64 0, .int .i64 0, .slice none 0 0] 68)).alloc (.cells #[.pointer none, .pointer (some ⟨w1.heap.size, 0, none⟩)] 37)) := ((Kept.refl [] w1).alloc _).alloc _
  have hz1 : ((w1.alloc (.cells #[.int .i64 0, .bool false, .map none, .slice none 0 0, .map none, .int .i64 0, .int .i64 0, .int .i64 0, .int .i64 0, .int .i64 0, .slice none 0 0] 68)).alloc (.cells #[.pointer none, .pointer (some ⟨w1.heap.size, 0, none⟩)] 37)).heap[w1.heap.size]? = some (.cells #[.int .i64 0, .bool false, .map none, .slice none 0 0, .map none, .int .i64 0, .int .i64 0, .int .i64 0, .int .i64 0, .int .i64 0, .slice none 0 0] 68 (0, 0)) := by
    rw [Below.heap_alloc _ _ _ (by simp)]
    exact (MapKept.heap_alloc w1 _).1
  have hz2 : ((w1.alloc (.cells #[.int .i64 0, .bool false, .map none, .slice none 0 0, .map none, .int .i64 0, .int .i64 0, .int .i64 0, .int .i64 0, .int .i64 0, .slice none 0 0] 68)).alloc (.cells #[.pointer none, .pointer (some ⟨w1.heap.size, 0, none⟩)] 37)).heap[w1.heap.size + 1]? = some (.cells #[.pointer none, .pointer (some ⟨w1.heap.size, 0, none⟩)] 37 (0, 0)) := by
    have := (MapKept.heap_alloc (w1.alloc (.cells #[.int .i64 0, .bool false, .map none, .slice none 0 0, .map none, .int .i64 0, .int .i64 0, .int .i64 0, .int .i64 0, .int .i64 0, .slice none 0 0] 68)) (.cells #[.pointer none, .pointer (some ⟨w1.heap.size, 0, none⟩)] 37)).1
    simpa using this
  generalize (w1.alloc (.cells #[.int .i64 0, .bool false, .map none, .slice none 0 0, .map none, .int .i64 0, .int .i64 0, .int .i64 0, .int .i64 0, .int .i64 0, .slice none 0 0] 68)).alloc (.cells #[.pointer none, .pointer (some ⟨w1.heap.size, 0, none⟩)] 37) = w2 at hkA hz1 hz2 ⊢
  have HROW : Hid (∀ k : Nat, k < 2 → ∃ dv, w2.cell? ⟨w1.heap.size + 1, k, none⟩ = some dv ∧ OffV dv w2) := hide (fun k hk => by
    match k, hk with
    | 0, _ => exact ⟨.pointer none, by rw [cell_of_row _ _ _ _ _ _ hz2]; rfl, .inl rfl⟩
    | 1, _ => exact ⟨_, by rw [cell_of_row _ _ _ _ _ _ hz2]; rfl, .inr ⟨w1.heap.size, rfl, by rw [cell_of_row _ _ _ _ _ _ hz1]; rfl⟩⟩)
  have HK2 := hide (HK1.out.trans hkA (by simp))
  clear hkA hz1 hz2
  generalize w1.heap.size + 1 = sb at HROW ⊢
  generalize w1.heap.size = zb
  clear HK1
  go_loopw [18] (fun y wr => ∃ k : Nat, k ≤ 2 ∧ y = .int .i64 k ∧ Hid (Kept [] w2 wr)) (fun y wr => 2 - (intOf y).toNat)
  case atStart => exact ⟨0, by omega, rfl, hide (Kept.refl [] w2)⟩
  case round =>
    obtain ⟨k, hk, rfl, HKR⟩ := hrel
    by_cases hlt : k < 2
    · obtain ⟨dv, hc, hoff⟩ := HROW.out k hlt
      have hcr := HKR.out.cellOf hc (by simp)
      have HOF := hide (hoff.kept HKR.out)
      have HGR := hide (HG.out.kept (HK2.out.trans HKR.out (by simp)) (by simp))
      have hlt' : (k : Int) < 2 := by omega
      clear hc hoff
      obtain ⟨bp, hbp⟩ : ∃ bp, isPut name = bp := ⟨_, rfl⟩
      obtain ⟨bn, hbn⟩ : ∃ bn, isNm name = bn := ⟨_, rfl⟩
      have c1 := lays_ok name wr hm
      have c2 := risName_ok name wr (by omega)
      rw [hbp] at c1
      rw [hbn] at c2
      have hget := getV HOF.out name hm hbn
      have HP : Hid (∀ v, Kept [] wr v → Calls Tryz.prog 18 #[dv, encStr name, .slice ao n cap] v fun e w' => ∃ u, e = .returned u ∧ ErrV w' u opPut name (eB bp) ∧ Kept [] v w') := hide (fun v hv => putV (HOF.out.kept hv) name _ hm hbp)
      have HD : Hid (∀ v, Kept [] wr v → Calls Tryz.prog 30 #[dv, encStr name] v fun e w' => ∃ u, e = .returned u ∧ ErrV w' u opDrop name (eB bn) ∧ Kept [] v w') := hide (fun v hv => dropV (HOF.out.kept hv) name hm hbn)
      have HCl : Hid (∀ v, Kept [] wr v → Calls Tryz.prog 29 #[dv, encStr name] v fun e w' => ∃ u, e = .returned u ∧ ErrV w' u opClean name 50 ∧ Kept [] v w') := hide (fun v hv => clean_off dv name v (off_v (HOF.out.kept hv)))
      clear hbp hbn
      cases bp <;> cases bn
      all_goals
        simp only [eB_t, eB_f] at hget HP HD
        as_aux_lemma =>
          go_wp2_with (first
            | (go_at_call 25; refine c1.mono ?_; rintro e w' ⟨rfl, hww⟩; obtain rfl := hww.symm; clear c1)
            | (go_at_call 31; refine c2.mono ?_; rintro e w' ⟨rfl, hww⟩; obtain rfl := hww.symm; clear c2)
            | (go_at_call 33; refine hget.mono ?_; rintro e x1 ⟨u1, rfl, hv1, hk1⟩; have V1 := hide hv1; have K1 := hide hk1; clear hget hv1 hk1)
            | (go_at_call 18; refine (HP.out x1 K1.out).mono ?_; rintro e x2 ⟨u2, rfl, hv2, hk2⟩; have hs2 := says_yes u2 [112, 117, 116] name _ x2 (HGR.out.kept (K1.out.trans hk2 (by simp)) (by simp)) (by decide) hv2; have V2 := hide (V1.out.kept hk2); have K2 := hide (K1.out.trans hk2 (by simp)); clear HP hv2 hk2 V1 K1)
            | (go_at_call 34; refine hs2.mono ?_; rintro e x3 ⟨rfl, hk3⟩; have hs3 := says_yes u1 [103, 101, 116] name _ x3 (HGR.out.kept (K2.out.trans hk3 (by simp)) (by simp)) (by decide) (V2.out.kept hk3); have K3 := hide (K2.out.trans hk3 (by simp)); clear hs2 hk3 V2 K2)
            | (go_at_call 34; refine hs3.mono ?_; rintro e x4 ⟨rfl, hk4⟩; have K4 := hide (K3.out.trans hk4 (by simp)); clear hs3 hk4 K3)
            | (go_at_call 30; refine (HD.out x4 K4.out).mono ?_; rintro e x5 ⟨u5, rfl, hv5, hk5⟩; have hs5 := says_yes u5 [100, 114, 111, 112] name _ x5 (HGR.out.kept (K4.out.trans hk5 (by simp)) (by simp)) (by decide) hv5; have K5 := hide (K4.out.trans hk5 (by simp)); clear HD hv5 hk5 K4)
            | (go_at_call 34; refine hs5.mono ?_; rintro e x6 ⟨rfl, hk6⟩; have K6 := hide (K5.out.trans hk6 (by simp)); clear hs5 hk6 K5)
            | (go_at_call 29; refine (HCl.out x6 K6.out).mono ?_; rintro e x7 ⟨u7, rfl, hv7, hk7⟩; have hs7 := says_yes u7 [99, 108, 101, 97, 110] name _ x7 (HGR.out.kept (K6.out.trans hk7 (by simp)) (by simp)) (by decide) hv7; have K7 := hide (K6.out.trans hk7 (by simp)); clear HCl hv7 hk7 K6)
            | (go_at_call 34; refine hs7.mono ?_; rintro e x8 ⟨rfl, hk8⟩; have K8 := hide (K7.out.trans hk8 (by simp)); clear hs7 hk8 K7))
          go_roundw
          case rel => exact ⟨k + 1, by omega, by go_num, hide (HKR.out.trans K8.out (by simp))⟩
          case measure => simp [intOf]; omega
    · obtain rfl : k = 2 := by omega
      go_wp2
      go_ret
      exact ⟨rfl, (HK2.out.trans HKR.out (by simp)).below (Nat.le_refl _) (by simp)⟩
end Go.Proofs.YtnfelplafpiaoaaGreatDoor
