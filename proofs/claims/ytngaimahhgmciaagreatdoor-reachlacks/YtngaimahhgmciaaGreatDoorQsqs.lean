import Derived.Test.YtngaimahhgmciaaGreatDoorQsos
import Derived.Test.YtngaimahhgmciaaGreatDoorQsps
namespace Go.Proofs.YtngaimahhgmciaaGreatDoor
open Go.RowKit Go.Lib Go.Sort
set_option linter.unusedVariables false
set_option linter.unusedSimpArgs false
set_option maxHeartbeats 12800000 in
set_option maxRecDepth 100000 in
theorem lacking_walk (ia : Option Addr) (in_ ic : Nat) (ra : Option Addr) (rn rc : Nat) (IL : List It9) (RL : List Rz) (qa : List UInt8) (w : World) (gl : GlE w) (tabs : Tabs w) (hI : InI w ia in_ ic IL) (hR : InZ w ra rn rc RL) (hqa : qa.length = 32) :
  Calls Tryz.prog 4 #[.slice ia in_ ic, .slice ra rn rc, .agg (bys qa).toArray] w fun e w' => e = .returned (.bool true) ∧ Kept [] w w' := by
 obtain ⟨A, hA⟩ : ∃ r, r = w.heap.size := ⟨_, rfl⟩
 obtain ⟨w1, hw1⟩ : ∃ r, r = w.alloc (.cells (bys qa).toArray 25) := ⟨_, rfl⟩
 have hk1 : Kept [] w w1 := by rw [hw1]; exact (Kept.refl [] w).alloc _
 have hA1 := new_atK w (.cells (bys qa).toArray 25)
 rw [← hA, ← hw1] at hA1
 have hrn : rn ≤ 1954687338211 := by have := hR.le; have := hR.max; omega
 obtain ⟨v2, w2, hrun, hoz, hk12⟩ := run_freshZw w1 RL ra rn rc (hR.kept hk1)
 obtain ⟨aw, cw, e2, _⟩ := own_shape hoz
 rw [hR.len] at e2
 subst e2
 have hcp := copied9_ok aw rn cw RL w2 hR.len hoz.rss.1 (own_nilZ hoz) (by omega)
 have HG := hide gl
 have HT := hide tabs
 have HTOP : Hid (4 ≤ w.heap.size) := hide tabs.big
 have HI := hide hI
 have HL := hide hR.len
 have HOZ := hide hoz
 have HA1 := hide hA1
 have HK01 := hide hk1
 have HK12 := hide hk12
 have hqal := idl qa hqa
 have HSZ : Hid (w.heap.size ≤ w1.heap.size ∧ w1.heap.size ≤ w2.heap.size ∧ A < w1.heap.size ∧ A = w.heap.size) := hide ⟨hk1.size, hk12.size, (Array.getElem?_eq_some_iff.1 hA1).1, hA⟩
 clear gl tabs hI hR hk1 hA1 hoz hk12
 go_enter Tryz.func4, Tryz.ntmps4
 go_upto_region 1 with (fail)
 rw [← hA, ← hw1]
 clear hA hw1
 go_upto_region 2 with (refine wpList_appendRun9 rfl (.tmp 9) (.tmp 10) 23 rfl (.slice (some ⟨w1.heap.size, 0, none⟩) 0 0) (.slice ra rn rc) rfl rfl hrun ?_)
 clear hrun
 go_upto_region 3 with (go_at_call 9; refine hcp.mono ?_; rintro e w3 ⟨g, rfl, hg3, hrm, hk3⟩; have HG3 := hide hg3; have HRM := hide hrm; have HK23 := hide hk3; clear hcp hg3 hrm hk3)
 have HK03 := hide ((HK01.out.trans HK12.out (by simp)).trans HK23.out (by simp))
 have hkn := known9_ok w3 (HG.out.kept HK03.out) (HT.out.kept HK03.out (by simp))
 go_upto_region 5 with (first
  | (go_at_call 10; refine hkn.mono ?_; rintro e w4 ⟨rfl, hk4⟩; have HK34 := hide hk4; have HK04 := hide (HK03.out.trans hk4 (by simp)); have hnd := lacking9_ok ia in_ ic IL g aw rn cw RL w w4 HI.out HTOP.out HK04.out (HG.out.kept HK04.out) (HT.out.kept HK04.out (by simp)) HL.out (HRM.out.kept hk4 (by simp)) ((HOZ.out.kept (HK23.out.trans hk4 (by simp)) (fun _ _ => by simp)).rss.1) hrn; clear hkn hk4)
  | (go_at_call 12; refine hnd.mono ?_; rintro e w5 ⟨rfl, hk5⟩; have HK45 := hide hk5; clear hnd hk5))
 have HK35 := hide (HK34.out.trans HK45.out (by simp))
 have HK05 := hide (HK03.out.trans HK35.out (by simp))
 have HK15 := hide ((HK12.out.trans HK23.out (by simp)).trans HK35.out (by simp))
 have HK25 := hide (HK23.out.trans HK35.out (by simp))
 cases RL with
 | nil =>
  as_aux_lemma =>
  have h0 : rn = 0 := HL.out.symm
  subst h0
  go_wp2
  go_ret
  exact ⟨rfl, HK05.out⟩
 | cons z R =>
  as_aux_lemma =>
  have hpos : 0 < rn := by have := HL.out; simp only [List.length_cons] at this; omega
  have hpi : (0 : Int) < (rn : Int) := by omega
  have hpc : rn ≠ 0 := by omega
  have heq0 : ((rn : Int) == 0) = false := by
   simp only [beq_eq_false_iff_ne, ne_eq]
   omega
  obtain ⟨gw, rfl, hgw1, hgw2, hrw⟩ := rz_own HOZ.out hpos
  have HRW : Hid (Rm9 w5 gw cw (z :: R)) := hide (hrw.kept HK25.out (by simp))
  have HRL : Hid (Rm9 w5 g (rn + 40) (z :: (R ++ marks 40))) := hide (HRM.out.kept HK35.out (by simp))
  have HNE : Hid (gw ≠ g ∧ A ≠ gw ∧ A ≠ g ∧ gw < w5.heap.size ∧ w.heap.size ≤ gw ∧ w.heap.size ≤ g ∧ g < w5.heap.size) := hide (by
   have h1 := HG3.out
   have h2 := HSZ.out
   have h3 := HK25.out.size
   have h4 : g < w5.heap.size := by
    obtain ⟨⟨cur, h, _⟩, _⟩ := HRL.out
    exact (Array.getElem?_eq_some_iff.1 h).1
   omega)
  have ht1 := (HRW.out.root qa hqa).1
  have hra5 : w5.rangeAt A 0 (bys qa) := row_rangeK ((HK15.out.block A (Array.getElem?_eq_some_iff.1 HA1.out).1 (by simp)).trans HA1.out)
  have hsz32 : (bys qa).toArray.size = 32 := by rw [List.size_toArray, bys_length, hqa]
  clear hrw hgw1 hgw2
  go_upto_region 8 with (first
   | refine wpList_load_mid rfl 25 (.tmp 5) rfl A 0 rfl (bys qa) _ hra5 Tryz.underlying25 rfl hqal ?_
   | refine wpList_store_mid rfl 25 (.tmp 29) (.tmp 27) rfl gw 32 (bys qa).toArray (by first | rfl | simp [Act.eval, Act.put]) (by first | rfl | simp [Act.eval, Act.put]) (by rw [hsz32]; exact ht1) hqal (bys_allT _) ?_)
  have HW6 : Hid (Rm9 (w5.setCells gw 32 (bys qa)) gw cw (z.root' qa hqa :: R) ∧ Kept [gw] w5 (w5.setCells gw 32 (bys qa))) := hide (HRW.out.root qa hqa).2
  clear ht1 hra5
  generalize w5.setCells gw 32 _ = w6 at HW6 ⊢
  have ht2 := ((HRL.out.kept HW6.out.2 (by simp only [List.mem_singleton]; exact fun h => HNE.out.1 h.symm)).root qa hqa).1
  have hra6 : w6.rangeAt A 0 (bys qa) := row_rangeK ((HW6.out.2.block A (Nat.lt_of_lt_of_le (Array.getElem?_eq_some_iff.1 HA1.out).1 HK15.out.size) (by simp only [List.mem_singleton]; exact HNE.out.2.1)).trans ((HK15.out.block A (Array.getElem?_eq_some_iff.1 HA1.out).1 (by simp)).trans HA1.out))
  go_upto_region 9 with (first
   | refine wpList_load_mid rfl 25 (.tmp 5) rfl A 0 rfl (bys qa) _ hra6 Tryz.underlying25 rfl hqal ?_
   | refine wpList_store_mid rfl 25 (.tmp 33) (.tmp 31) rfl g 32 (bys qa).toArray (by first | rfl | simp [Act.eval, Act.put]) (by first | rfl | simp [Act.eval, Act.put]) (by rw [hsz32]; exact ht2) hqal (bys_allT _) ?_)
  have HW7 : Hid (Rm9 (w6.setCells g 32 (bys qa)) g (rn + 40) (z.root' qa hqa :: (R ++ marks 40)) ∧ Kept [g] w6 (w6.setCells g 32 (bys qa))) := hide ((HRL.out.kept HW6.out.2 (by simp only [List.mem_singleton]; exact fun h => HNE.out.1 h.symm)).root qa hqa).2
  clear ht2 hra6
  generalize w6.setCells g 32 _ = w7 at HW7 ⊢
  have HK57 : Hid (Kept [gw, g] w5 w7) := hide ((HW6.out.2.mono (l2 := [gw, g]) (fun j hj _ => by simp at hj; simp [hj])).trans (HW7.out.2.mono (l2 := [gw, g]) (fun j hj _ => by simp at hj; simp [hj])) (fun _ h _ => h))
  have HK07 : Hid (Kept [] w w7) := hide (HK05.out.trans HK57.out (fun j hj hlt => by
   have := HNE.out
   simp only [List.mem_cons, List.not_mem_nil, or_false] at hj
   omega))
  have hnd := lacking9_ok ia in_ ic IL g (some ⟨gw, 0, none⟩) rn cw (z.root' qa hqa :: R) w w7 HI.out HTOP.out HK07.out (HG.out.kept HK07.out) (HT.out.kept HK07.out (by simp)) (by have := HL.out; simpa using this) HW7.out.1 ((HW6.out.1.kept HW7.out.2 (by simp only [List.mem_singleton]; exact HNE.out.1)).rss) hrn
  go_wp2_with (go_at_call 12; refine hnd.mono ?_; rintro e w8 ⟨rfl, hk8⟩; have HK78 := hide hk8; clear hnd hk8)
  go_ret
  exact ⟨rfl, HK07.out.trans HK78.out (by simp)⟩
end Go.Proofs.YtngaimahhgmciaaGreatDoor
