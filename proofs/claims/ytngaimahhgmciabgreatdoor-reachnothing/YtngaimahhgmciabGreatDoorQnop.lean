/-
  ReachNothing: the walk. (Written by tools/qno.py.)
-/
import Derived.Test.YtngaimahhgmciabGreatDoorQ9lp
import Derived.Test.YtngaimahhgmciabGreatDoorQ9ep
namespace Go.Proofs.YtngaimahhgmciabGreatDoor
open Go.RowKit Go.Lib Go.Sort
set_option linter.unusedVariables false
set_option linter.unusedSimpArgs false

theorem Tryz.buildId1 (w : World) : (Instr.build 36 #[(0, .int .u8 1)]).run Tryz.prog w = .ok (.agg (bys i1).toArray) w := by kernel_rfl
theorem NoS.kept {w2 w w' : World} {bm : Nat} {sv : Value} (h : NoS w2 bm w sv) (hw : Kept [] w2 w') (hl : bm < w2.heap.size) (_ : Kept [] w w') : NoS w2 bm w' sv := by
  rcases h with h | h | ⟨h, _⟩
  · exact .inl h
  · exact .inr (.inl h)
  · exact .inr (.inr ⟨h, hw.block bm hl (by simp)⟩)
theorem nget9 (w : World) : Calls Tryz.prog 16 #[.map none, .agg (bys i1).toArray] w fun e w' => ∃ eb, e = .returned (.tuple #[.slice none 0 0, faultV eb]) ∧ FltAt w' eb opGet i1 (.iface 38 (.int .i64 93)) ∧ Kept [] w w' := by
  refine (get9_ok (.map none) [] i1 w (.inl ⟨rfl, rfl⟩) rfl).mono ?_
  rintro e w' ⟨hk, ⟨_, eb, rfl, hf, _⟩ | ⟨xs, v, h, _⟩⟩
  · exact ⟨eb, rfl, hf, hk⟩
  · exact absurd h (by rw [mpf_void]; simp)
theorem inz0 (w : World) : InZ w none 0 0 [] := ⟨rfl, Nat.le_refl _, by omega, fun i hi => absurd hi (by simp), fun _ => ⟨rfl, rfl⟩⟩
theorem nneed0_9 (w : World) (gl : GlE w) (tabs : Tabs w) : Calls Tryz.prog 9 #[.nilIface, .slice none 0 0] w fun e w' => ∃ ao c, e = .returned (.tuple #[.slice ao 0 c, .nilIface]) ∧ Kept [] w w' :=
  (need_nil9 gl tabs none 0 0 [] rfl (inz0 w).rss (by omega) (fun h => absurd rfl h)).mono (fun e w' h => by
    obtain ⟨hk, h1⟩ := nne_of (RL := []) h (kept_of90 h.kp)
    rcases h1 with ⟨_, ao, c, e⟩ | ⟨hne, _⟩
    · exact ⟨ao, c, e, hk⟩
    · exact absurd rfl hne)
theorem nlacks0_9 (w : World) (gl : GlE w) (tabs : Tabs w) : Calls Tryz.prog 10 #[.iface 26 (.map none), .slice none 0 0] w fun e w' => ∃ ao c, e = .returned (.tuple #[.slice ao 0 c, .nilIface]) ∧ Kept [] w w' :=
  (lacks9_ok std_nil9 trivial (fun _ h => h.elim) gl tabs none 0 0 [] rfl (inz0 w).rss (by simp) (fun h => absurd rfl h)).mono (fun e w' h => by
    obtain ⟨hk, ao, c, e, _⟩ := nle_of (RL := []) h (kept_of90 h.kp)
    exact ⟨ao, c, e, hk⟩)

set_option maxHeartbeats 12800000 in
set_option maxRecDepth 100000 in
theorem nothing_walk (ra : Option Addr) (rn rc : Nat) (RL : List Rz) (w : World) (gl : GlE w) (tabs : Tabs w) (hR : InZ w ra rn rc RL) :
    Calls Tryz.prog 5 #[.slice ra rn rc] w fun e w' => e = .returned (.bool true) ∧ Kept [] w w' := by
  have hkn := known9_ok w gl tabs
  have HG := hide gl
  have HT := hide tabs
  have HR := hide hR
  have hr72 := hR.max
  have hrle := hR.le
  have hrn : rn ≤ 1954687338211 := by omega
  have hbI := Tryz.buildId1
  have hmk : ∀ W : World, (Instr.makeMap 26 none).run Tryz.prog W = .ok (.map (some W.heap.size)) (W.alloc (.map #[] 0)) := fun _ => rfl
  clear gl tabs hR hr72 hrle
  go_enter Tryz.func5, Tryz.ntmps5
  go_upto_region 4 with (go_at_call 7; refine hkn.mono ?_; rintro e w1 ⟨rfl, hk1⟩; have HK1 := hide hk1; clear hkn hk1)
  have hge := nget9 w1
  unfold faultV at hge
  go_upto_region 5 with (first
    | (refine wpList_buildRun9 rfl 36 #[(0, .const (.int .u8 1))] rfl #[(0, .int .u8 1)] (by simp [Act.eval]) _ (hbI _) ?_; try simp only [Act.put, List.setIfInBounds_toArray, List.set_cons_zero, List.set_cons_succ])
    | (go_at_call 16; refine hge.mono ?_; rintro e w2 ⟨eb, rfl, hf, hk2⟩; have HF := hide hf; have HK2 := hide (HK1.out.trans hk2 (by simp)); clear hge hf hk2))
  have hn1 := nneed0_9 w2 (HG.out.kept HK2.out) (HT.out.kept HK2.out (by simp))
  go_upto_region 6 with (go_at_call 9; refine hn1.mono ?_; rintro e w3 ⟨a1, c1, rfl, hk3⟩; have HK3 := hide (HK2.out.trans hk3 (by simp)); have HF3 := hide (HF.out.kept hk3); clear hn1 hk3)
  have hn2 := nlacks0_9 w3 (HG.out.kept HK3.out) (HT.out.kept HK3.out (by simp))
  go_upto_region 7 with (go_at_call 10; refine hn2.mono ?_; rintro e w4 ⟨a2, c2, rfl, hk4⟩; have HK4 := hide (HK3.out.trans hk4 (by simp)); have HF4 := hide (HF3.out.kept hk4); clear hn2 hk4)
  have hn3 : ∀ (T : TypeId) (sv : Value) (W : World), Kept [] w4 W → Calls Tryz.prog 9 #[.iface T sv, .slice none 0 0] W fun e w' => ∃ ao d, e = .returned (.tuple #[.slice ao 0 d, .nilIface]) ∧ Kept [] W w' := fun T sv W hk => need_none9 T sv 0 W (HG.out.kept (HK4.out.trans hk (by simp))) (HT.out.kept (HK4.out.trans hk (by simp)) (by simp))
  clear HF HF3 HK1 HK2 HK3
  go_upto_region 8 with (go_at_call 9; refine (hn3 _ _ _ (((Kept.refl [] w4).alloc _).alloc _)).mono ?_; rintro e w5 ⟨a3, c3, rfl, hk5⟩; have HK5 := hide ((HK4.out.trans (((Kept.refl [] w4).alloc _).alloc _) (by simp)).trans hk5 (by simp)); have HF5 := hide (HF4.out.kept ((((Kept.refl [] w4).alloc _).alloc _).trans hk5 (by simp))); clear hn3 hk5)
  have hrf := refused9_ok eb opGet i1 93 w5 (HG.out.kept HK5.out) HF5.out rfl (by decide)
  rw [show (⟨opGet.toArray⟩ : ByteArray) = ⟨#[114, 101, 97, 99, 104, 46, 103, 101, 116]⟩ from rfl] at hrf
  clear HF4 HK4
  go_upto_region 10 with (first
    | (refine wpList_buildRun9 rfl 36 #[(0, .const (.int .u8 1))] rfl #[(0, .int .u8 1)] (by simp [Act.eval]) _ (hbI _) ?_; try simp only [Act.put, List.setIfInBounds_toArray, List.set_cons_zero, List.set_cons_succ])
    | (go_at_call 13; refine Calls.mono (R := fun e w' => e = .returned (.bool true) ∧ Kept [] w5 w') hrf ?_; rintro e w6 ⟨rfl, hk6⟩; have HK6 := hide (HK5.out.trans hk6 (by simp)); clear hrf hk6))
  clear HF5 HK5 hbI
  obtain ⟨w9, hw9⟩ : ∃ w9, w9 = (w6.alloc (.map #[] 0)).alloc (.cells #[.nilIface, .iface 26 (.map none), .iface 26 (.map (some w6.heap.size))] 60) := ⟨_, rfl⟩
  have hk7 : Kept [] w6 (w6.alloc (.map #[] 0)) := (Kept.refl [] w6).alloc _
  have hk8 : Kept [] (w6.alloc (.map #[] 0)) w9 := by rw [hw9]; exact (Kept.refl [] _).alloc _
  have HK9 := hide ((HK6.out.trans hk7 (by simp)).trans hk8 (by simp))
  have HIM : Hid (Im w9 w6.heap.size [] []) := hide ((new_im w6).kept hk8 (by simp))
  have HGB : Hid (4 ≤ w6.heap.size) := hide (Nat.le_trans HT.out.big HK6.out.size)
  have HCS : Hid (w9.heap[w6.heap.size + 1]? = some (.cells #[.nilIface, .iface 26 (.map none), .iface 26 (.map (some w6.heap.size))] 60 (0, 0))) := hide (by
    have := new_atK (w6.alloc (.map #[] 0)) (.cells #[.nilIface, .iface 26 (.map none), .iface 26 (.map (some w6.heap.size))] 60)
    rw [← hw9] at this
    rwa [szal] at this)
  clear hk7 hk8
  go_wp2
  rw [← hw9]
  clear hw9 hmk
  generalize w6.heap.size = bm at *
  go_loopw [79] (fun y wr => ∃ k : Nat, k ≤ 3 ∧ y = .int .i64 k ∧ Hid (Kept [] w9 wr)) (fun y wr => 3 - (intOf y).toNat)
  case atStart => exact ⟨0, by omega, rfl, hide (Kept.refl _ _)⟩
  case round =>
    obtain ⟨k, hk, rfl, HKR⟩ := hrel
    have HKW := hide (HK9.out.trans HKR.out (by simp))
    by_cases hlt : k < 3
    · have hlt1 : (k : Int) < 3 := by omega
      obtain ⟨sv, hc, hsv⟩ : ∃ sv, wr.cell? ⟨bm + 1, k, none⟩ = some sv ∧ NoS w9 bm wr sv := by
        have hrow := HCS.out
        have hb : wr.heap[bm]? = w9.heap[bm]? := HKR.out.block bm HIM.out.lt (by simp)
        have h3 : k = 0 ∨ k = 1 ∨ k = 2 := by omega
        rcases h3 with rfl | rfl | rfl
        · exact ⟨_, HKR.out.cellOf (v := .nilIface) (by rw [cell_of_row _ _ _ _ _ _ hrow]; rfl) (by simp), .inl rfl⟩
        · exact ⟨_, HKR.out.cellOf (v := .iface 26 (.map none)) (by rw [cell_of_row _ _ _ _ _ _ hrow]; rfl) (by simp), .inr (.inl rfl)⟩
        · exact ⟨_, HKR.out.cellOf (v := .iface 26 (.map (some bm))) (by rw [cell_of_row _ _ _ _ _ _ hrow]; rfl) (by simp), .inr (.inr ⟨rfl, hb⟩)⟩
      have HSV := hide hsv
      go_upto_region 13 with (fail)
      have hnd0 := nneed9_ok HIM.out HGB.out hsv (HG.out.kept HKW.out) (HT.out.kept HKW.out (by simp)) (HR.out.kept HKW.out) (by omega)
      clear hc hsv
      obtain ⟨wo, rfl⟩ : ∃ wo, wo = wr := ⟨_, rfl⟩
      by_cases h0 : rn = 0
      · have HRL : Hid (RL = []) := hide (List.eq_nil_of_length_eq_zero (by rw [HR.out.len]; exact h0))
        obtain rfl : rn = 0 := h0
        have hnd : Calls Tryz.prog 9 #[sv, .slice ra 0 rc] wo fun e w' => ∃ ao c, e = .returned (.tuple #[.slice ao 0 c, .nilIface]) ∧ Kept [] wo w' := hnd0.mono (fun e w' h => by
          rcases h.2 with ⟨_, ao, c, e⟩ | ⟨hne, _⟩
          · exact ⟨ao, c, e, h.1⟩
          · exact absurd HRL.out hne)
        clear hnd0
        go_upto_region 14 with (go_at_call 9; refine hnd.mono ?_; rintro e w10 ⟨x1, y1, rfl, hk10⟩; have HK10 := hide hk10; clear hnd hk10)
        have hsv2 : NoS w9 bm w10 sv := HSV.out.kept (HKR.out.trans HK10.out (by simp)) HIM.out.lt HK10.out
        have hlk : Calls Tryz.prog 10 #[sv, .slice ra 0 rc] w10 fun e w' => ∃ ao c, e = .returned (.tuple #[.slice ao 0 c, .nilIface]) ∧ Kept [] w10 w' := (nlacks9_ok HIM.out HGB.out hsv2 (HG.out.kept (HKW.out.trans HK10.out (by simp))) (HT.out.kept (HKW.out.trans HK10.out (by simp)) (by simp)) (HR.out.kept (HKW.out.trans HK10.out (by simp))) (by omega)).mono (fun e w' h => by
          obtain ⟨hk, ao, c, e, _⟩ := h
          have e0 : (canon (RL.map (·.root))).length = 0 := by rw [HRL.out]; rfl
          rw [e0] at e
          exact ⟨ao, c, e, hk⟩)
        clear hsv2
        go_wp2_with (go_at_call 10; refine hlk.mono ?_; rintro e w11 ⟨x2, y2, rfl, hk11⟩; have HK11 := hide hk11; clear hlk hk11)
        go_ret
        exact ⟨rfl, (HKW.out.trans HK10.out (by simp)).trans HK11.out (by simp)⟩
      ·
        have hne : RL ≠ [] := fun e => h0 (by rw [← HR.out.len, e]; rfl)
        have hnd : Calls Tryz.prog 9 #[sv, .slice ra rn rc] wo fun e w' => ∃ eb, e = .returned (.tuple #[.slice none 0 0, faultV eb]) ∧ FltAt w' eb opNeed ((canon (RL.map (·.root))).getD 0 []) (.iface 38 (.int .i64 102)) ∧ Kept [] wo w' := hnd0.mono (fun e w' h => by
          rcases h.2 with ⟨he, _⟩ | ⟨_, eb, e, hf⟩
          · exact absurd he hne
          · exact ⟨eb, e, hf, h.1⟩)
        clear hnd0
        have hm0 : canon (RL.map (·.root)) ≠ [] := canon_ne (by simpa using hne)
        obtain ⟨m, hm⟩ : ∃ m, (canon (RL.map (·.root))).length = m := ⟨_, rfl⟩
        have hmp : 0 < m := by rw [← hm]; exact List.length_pos_iff.2 hm0
        have hil : ((canon (RL.map (·.root))).getD 0 []).length = 32 := by
          obtain ⟨rz, _, e⟩ := List.mem_map.1 (mem_canon.1 (gmem9 (L := canon (RL.map (·.root))) (by rw [hm]; exact hmp)))
          rw [← e]; exact rz.hr
        have HM := hide hm
        have HP0 : Hid (0 < (canon (RL.map (·.root))).length) := hide (by rw [hm]; exact hmp)
        obtain ⟨i, hi⟩ : ∃ i, (canon (RL.map (·.root))).getD 0 [] = i := ⟨_, rfl⟩
        have HI := hide hi
        rw [hi] at hnd hil
        clear hne hm0 hi
        unfold faultV at hnd
        go_upto_region 14 with (go_at_call 9; refine hnd.mono ?_; rintro e w10 ⟨eb, rfl, hf, hk10⟩; have HF := hide hf; have HK10 := hide hk10; clear hnd hf hk10)
        have hsv2 : NoS w9 bm w10 sv := HSV.out.kept (HKR.out.trans HK10.out (by simp)) HIM.out.lt HK10.out
        have hlk : Calls Tryz.prog 10 #[sv, .slice ra rn rc] w10 fun e w' => ∃ ao c, e = .returned (.tuple #[.slice ao m c, .nilIface]) ∧ OwnI w' w10.heap.size (.slice ao m c) (canon (RL.map (·.root))) ∧ Kept [] w10 w' := (nlacks9_ok HIM.out HGB.out hsv2 (HG.out.kept (HKW.out.trans HK10.out (by simp))) (HT.out.kept (HKW.out.trans HK10.out (by simp)) (by simp)) (HR.out.kept (HKW.out.trans HK10.out (by simp))) (by omega)).mono (fun e w' h => by
          obtain ⟨hk, ao, c, e, ho⟩ := h
          rw [hm] at e ho
          exact ⟨ao, c, e, ho, hk⟩)
        clear hsv2 hm
        go_upto_region 15 with (go_at_call 10; refine hlk.mono ?_; rintro e w11 ⟨a4, c4, rfl, ho, hk11⟩; have HL4 := hide ho; have HK11 := hide hk11; clear hlk ho hk11)
        obtain ⟨g4, o4, ha4, hrq⟩ := HL4.out.ids.1.1 0 HP0.out
        rw [HI.out, Nat.zero_mul, Nat.add_zero] at hrq
        have hrf := refused9_ok eb opNeed i 102 w11 (HG.out.kept ((HKW.out.trans HK10.out (by simp)).trans HK11.out (by simp))) (HF.out.kept HK11.out) hil (by decide)
        have HM9 : Hid (m ≤ 9223372036854775807) := hide (own_max9 HL4.out)
        rw [show (⟨opNeed.toArray⟩ : ByteArray) = ⟨#[114, 101, 97, 99, 104, 46, 110, 101, 101, 100]⟩ from rfl] at hrf
        have hilx := idl i hil
        have hrn0 : ¬ (rn : Int) = 0 := by omega
        have hm00 : ¬ (m : Int) = 0 := by omega
        have hmpi : (0 : Int) < (m : Int) := by omega
        subst ha4
        go_wp2_with (first
          | (refine wpList_load_midw9 36 (.tmp 127) rfl g4 o4 rfl (bys i) _ hrq Tryz.underlying36 rfl hilx (by first | rfl | go_simp) ?_; try simp only [Act.put, List.setIfInBounds_toArray, List.set_cons_zero, List.set_cons_succ])
          | (go_at_call 13; refine Calls.mono (R := fun e w' => e = .returned (.bool true) ∧ Kept [] w11 w') hrf ?_; rintro e w12 ⟨rfl, hk12⟩; have HK12 := hide hk12; clear hrf hk12))
        clear hm00 hmpi hmp hrn0 h0
        generalize ((m : Int) == 0) = d7
        go_loopw [18] (fun y wx => ∃ j : Nat, j ≤ rn ∧ y = .int .i64 j ∧ Hid (Kept [] w12 wx)) (fun y wx => rn - (intOf y).toNat)
        case atStart => exact ⟨0, by omega, rfl, hide (Kept.refl _ _)⟩
        case round =>
          obtain ⟨j, hj, rfl, HC⟩ := hrel
          by_cases hltj : j < rn
          · have hjl : j < RL.length := by rw [HR.out.len]; exact hltj
            have HKX := hide ((((HKW.out.trans HK10.out (by simp)).trans HK11.out (by simp)).trans HK12.out (by simp)).trans HC.out (by simp))
            obtain ⟨b, off, hab, hrg⟩ := (HR.out.kept HKX.out).rss j hjl
            subst hab
            obtain ⟨rz, hrz⟩ : ∃ rz, RL.getD j rz0 = rz := ⟨_, rfl⟩
            rw [hrz] at hrg
            have hmem : rz.root ∈ canon (RL.map (·.root)) := mem_canon.2 (List.mem_map.2 ⟨rz, by rw [← hrz, List.getD_eq_getElem?_getD, List.getElem?_eq_getElem hjl]; exact List.getElem_mem hjl, rfl⟩)
            obtain ⟨rt, hrt⟩ : ∃ rt, rz.root = rt := ⟨_, rfl⟩
            have hq : rt.length = 32 := by rw [← hrt]; exact rz.hr
            have hrr : wr.rangeAt b (off + j * 65 + 32) (bys rt) := fun jj v hv => by
              have h1 := hrg (32 + jj) v (by
                unfold Rz.cells
                rw [List.getElem?_append_right (by rw [bys_length, rz.ha]; omega), bys_length, rz.ha, show 32 + jj - 32 = jj by omega, hrt, List.getElem?_append_left (List.getElem?_eq_some_iff.1 hv).1]
                exact hv)
              rwa [← Nat.add_assoc] at h1
            rw [hrt] at hmem
            have hat := at9_ok (some ⟨g4, o4, none⟩) m c4 (canon (RL.map (·.root))) rt wr HM.out ((HL4.out.kept (HK12.out.trans HC.out (by simp)) (fun _ _ => by simp)).ids.1) hq hmem HM9.out
            have hql := idl rt hq
            have hltj1 : (j : Int) < (rn : Int) := by omega
            clear hrg hrz hrt hmem hq hjl
            go_wp2_with (first
              | refine wpList_load_mid rfl 36 (.tmp 142) rfl b (off + j * 65 + 32) rfl (bys rt) _ hrr Tryz.underlying36 rfl hql ?_
              | (go_at_call 17; refine hat.mono ?_; rintro e w13 ⟨kk, rfl, hk13⟩; have HK13 := hide hk13; have hkk : ¬ (kk : Int) < 0 := Int.not_lt.2 (Int.natCast_nonneg kk); clear hat hk13))
            go_roundw
            case rel => exact ⟨j + 1, by omega, by go_num, hide (HC.out.trans HK13.out (by simp))⟩
            case measure => simp [intOf]; omega
          · have hltj1 : ¬ (j : Int) < (rn : Int) := by omega
            have HKX := hide ((((HKR.out.trans HK10.out (by simp)).trans HK11.out (by simp)).trans HK12.out (by simp)).trans HC.out (by simp))
            go_wp2
            go_roundw
            case rel => exact ⟨k + 1, by omega, by go_num, HKX⟩
            case measure => simp [intOf]; omega
    · obtain rfl : k = 3 := by omega
      have hlt1 : ¬ ((3 : Nat) : Int) < 3 := by omega
      go_wp2
      go_ret
      exact ⟨rfl, HKW.out⟩
end Go.Proofs.YtngaimahhgmciabGreatDoor
