import Derived.Test.YtngaimahhgmciaaGreatDoorQsms
namespace Go.Proofs.YtngaimahhgmciaaGreatDoor
open Go.RowKit Go.Lib Go.Sort
set_option linter.unusedVariables false
set_option linter.unusedSimpArgs false
theorem run_freshZw (w : World) (R : List Rz) (ao : Option Addr) (n c : Nat) (hR : InZ w ao n c R) :
  ∃ v' w', (Builtin.append_ #[23, 23] 23 #[.slice (some ⟨w.heap.size, 0, none⟩) 0 0, .slice ao n c]).run Tryz.prog (w.alloc (.cells #[] 30)) = .ok v' w' ∧ OwnZ w' w.heap.size v' R ∧ Kept [] w w' := by
 obtain ⟨i, hi, hx⟩ := Option.map_eq_some_iff.1 Tryz.infoRz9
 injection hx with e1 hx
 injection hx with e2 e3
 have hown : OwnZ (w.alloc (.cells #[] 30)) w.heap.size (.slice (some ⟨w.heap.size, 0, none⟩) 0 0) [] := World.ownsRow_made w #[] 0 (Nat.le_refl _) (by decide) rfl
 have hk := (Kept.refl [] w).alloc (.cells #[] 30)
 have hR' := hR.kept hk
 have hmx : n ≤ 1954687338211 := by have := hR.le; have := hR.max; omega
 cases ao with
 | none =>
  obtain ⟨rfl, rfl⟩ := hR.nil rfl
  have hR0 : R = [] := List.eq_nil_of_length_eq_zero hR.len
  subst hR0
  exact ⟨_, _, run_append_owned_none (P := Tryz.prog) (w := w.alloc (.cells #[] 30)) w.heap.size 23 23 30 i 65 Tryz.underlying23 hi _ 0 [] hown, hown, hk⟩
 | some ad =>
  have hlen := hR.len
  obtain ⟨v', w', hrun, h1', h2, _⟩ := run_append_own_wide (P := Tryz.prog) (w := w.alloc (.cells #[] 30)) w.heap.size 23 23 30 i (.agg zeroRz) 65 72 Tryz.underlying23 hi e3 e1 e2 rfl (by omega) (.slice (some ⟨w.heap.size, 0, none⟩) 0 0) 0 [] hown ad n c (rzrows R) (by rw [rzrows_len, hlen])
   (fun j u hj => by
    have hjl : j < (rzrows R).length := (List.getElem?_eq_some_iff.1 hj).1
    rw [rzrows_len] at hjl
    have hk : j / 65 < R.length := by omega
    have hm : j % 65 < 65 := Nat.mod_lt _ (by omega)
    have hd : j / 65 * 65 + j % 65 = j := by omega
    obtain ⟨b, off, e, hr⟩ := hR'.rss (j / 65) hk
    cases e
    rw [← hd, rzrows_at hk hm] at hj
    have := hr (j % 65) u hj
    rw [Addr.add_mid, show off + j = off + j / 65 * 65 + j % 65 by omega]
    exact this) (fun u hu => by obtain ⟨z, _, h⟩ := List.mem_flatMap.1 hu; exact rz_one z u h) (by unfold maxLen; omega) (by omega) hk.size
  refine ⟨v', w', hrun, ?_, hk.trans ((Kept.refl [w.heap.size] _).grown h2 (fun k hk _ => by simp [Value.ownBlock] at hk; simp [hk])) (fun j hj hlt => by simp at hj; omega)⟩
  unfold OwnZ
  rw [hlen]
  simpa using h1'
def Rz.root' (z : Rz) (q : List UInt8) (h : q.length = 32) : Rz := ⟨z.act, q, z.code, z.ha, h⟩
theorem rz_own {w : World} {base : Nat} {ao : Option Addr} {n c : Nat} {L : List Rz} (h : OwnZ w base (.slice ao n c) L) (hn : 0 < n) : ∃ g, ao = some ⟨g, 0, none⟩ ∧ base ≤ g ∧ g < w.heap.size ∧ Rm9 w g c L := by
 rcases h.2 with ⟨e, h1⟩ | ⟨g, cap, cur, e1, hb, hg, hn2, hm, hs, ht⟩
 ·injection e with _ e2 _
  omega
 ·injection e1 with e1 e2 e3
  subst e1
  subst e3
  have hn3 : L.length ≤ c := hn2
  exact ⟨g, rfl, hb, (Array.getElem?_eq_some_iff.1 hg).1, ⟨⟨cur, hg, hs, ht⟩, hn3⟩⟩
theorem own_nilZ {w : World} {base : Nat} {ao : Option Addr} {n c : Nat} {L : List Rz} (h : OwnZ w base (.slice ao n c) L) : ao = none → n = 0 ∧ c = 0 := fun h0 => by
 rcases h.2 with ⟨e, _⟩ | ⟨g, cap, cur, e, _⟩
 ·injection e with _ e2 e3; exact ⟨e2, e3⟩
 ·rw [h0] at e; cases e
theorem Rm9.root {w : World} {g c : Nat} {z : Rz} {R : List Rz} (h : Rm9 w g c (z :: R)) (q : List UInt8) (hq : q.length = 32) :
  w.there g 32 32 ∧ Rm9 (w.setCells g 32 (bys q)) g c (z.root' q hq :: R) ∧ Kept [g] w (w.setCells g 32 (bys q)) := by
 obtain ⟨⟨cur, h1, h2, h3⟩, h4⟩ := h
 have hc : 65 ≤ cur.size := by
  rw [h2]
  simp only [List.length_cons] at h4
  omega
 have hl : 32 + (bys q).length ≤ cur.toList.length := by rw [bys_length, hq, Array.length_toList]; omega
 have hrow := setCells_rowT (bys q) w g 32 cur.toList 30 (by simpa using h1) hl
 refine ⟨there_rowT h1 32 32 (by omega), ?_, kept_setCellsT (fun _ => by simp) _ _ _ (Kept.refl _ _)⟩
 rw [hrow]
 refine ⟨⟨_, setRow_heap w g cur _ _ _ h1, ?_, ?_⟩, by simpa using h4⟩
 ·simp only [List.size_toArray, List.length_append, List.length_take, List.length_drop, Array.length_toList, bys_length, hq]
  omega
 ·have e1 : rzrows (z :: R) = bys z.act ++ (bys z.root ++ (Value.int .i64 z.code :: rzrows R)) := by simp [rzrows, Rz.cells]
  have e2 : rzrows (z.root' q hq :: R) = bys z.act ++ (bys q ++ (Value.int .i64 z.code :: rzrows R)) := by simp [rzrows, Rz.cells, Rz.root']
  have la : (bys z.act).length = 32 := by rw [bys_length, z.ha]
  have lr : (bys z.root).length = 32 := by rw [bys_length, z.hr]
  have lq : (bys q).length = 32 := by rw [bys_length, hq]
  have e3 := h3
  rw [e1] at e3
  have hN : (z :: R).length * 65 = (z.root' q hq :: R).length * 65 := by simp
  rw [← hN, e2]
  obtain ⟨N, hNe⟩ : ∃ N, (z :: R).length * 65 = N := ⟨_, rfl⟩
  have hN65 : 65 ≤ N := by rw [← hNe]; simp only [List.length_cons]; omega
  rw [hNe] at e3 ⊢
  have t1 : cur.toList.take 32 = bys z.act := by
   have h5 : (cur.toList.take N).take 32 = bys z.act := by
    rw [e3, List.take_append_of_le_length (by omega), List.take_of_length_le (by omega)]
   rwa [List.take_take, Nat.min_eq_left (by omega)] at h5
  have t2 : (cur.toList.drop 64).take (N - 64) = Value.int .i64 z.code :: rzrows R := by
   have hl6 : (bys z.act ++ bys z.root).length = 64 := by rw [List.length_append, la, lr]
   have h5 : (cur.toList.take N).drop 64 = Value.int .i64 z.code :: rzrows R := by
    rw [e3, ← List.append_assoc, ← hl6, List.drop_left]
   rwa [List.drop_take] at h5
  simp only []
  rw [lq, t1]
  show List.take N (bys z.act ++ (bys q ++ List.drop (32 + 32) cur.toList)) = _
  rw [show N = (bys z.act).length + ((bys q).length + (N - 64)) by omega, List.take_length_add_append, List.take_length_add_append, t2]
set_option maxHeartbeats 12800000 in
set_option maxRecDepth 100000 in
theorem needed_walk (ia : Option Addr) (in_ ic : Nat) (ra : Option Addr) (rn rc : Nat) (IL : List It9) (RL : List Rz) (qa : List UInt8) (w : World) (gl : GlE w) (tabs : Tabs w) (hI : InI w ia in_ ic IL) (hR : InZ w ra rn rc RL) (hqa : qa.length = 32) :
  Calls Tryz.prog 3 #[.slice ia in_ ic, .slice ra rn rc, .agg (bys qa).toArray] w fun e w' => e = .returned (.bool true) ∧ Kept [] w w' := by
 obtain ⟨A, hA⟩ : ∃ r, r = w.heap.size := ⟨_, rfl⟩
 obtain ⟨w1, hw1⟩ : ∃ r, r = w.alloc (.cells (bys qa).toArray 25) := ⟨_, rfl⟩
 have hk1 : Kept [] w w1 := by rw [hw1]; exact (Kept.refl [] w).alloc _
 have hA1 := new_atK w (.cells (bys qa).toArray 25)
 rw [← hA, ← hw1] at hA1
 have hrn : rn ≤ 1954687338211 := by have := hR.le; have := hR.max; omega
 obtain ⟨v2, w2, hrun, hoz, hk12⟩ := run_freshZw w1 RL ra rn rc (hR.kept hk1)
 obtain ⟨aw, cw, e2, _⟩ := own_shape hoz
 rw [hR.len] at e2
 subst e2
 have hcp := copied9_ok aw rn cw RL w2 hR.len hoz.rss.1 (own_nilZ hoz) (by omega)
 have HG := hide gl
 have HT := hide tabs
 have HTOP : Hid (4 ≤ w.heap.size) := hide tabs.big
 have HI := hide hI
 have HL := hide hR.len
 have HOZ := hide hoz
 have HA1 := hide hA1
 have HK01 := hide hk1
 have HK12 := hide hk12
 have hqal := idl qa hqa
 have HSZ : Hid (w.heap.size ≤ w1.heap.size ∧ w1.heap.size ≤ w2.heap.size ∧ A < w1.heap.size ∧ A = w.heap.size) := hide ⟨hk1.size, hk12.size, (Array.getElem?_eq_some_iff.1 hA1).1, hA⟩
 clear gl tabs hI hR hk1 hA1 hoz hk12
 go_enter Tryz.func3, Tryz.ntmps3
 go_upto_region 1 with (fail)
 rw [← hA, ← hw1]
 clear hA hw1
 go_upto_region 2 with (refine wpList_appendRun9 rfl (.tmp 9) (.tmp 10) 23 rfl (.slice (some ⟨w1.heap.size, 0, none⟩) 0 0) (.slice ra rn rc) rfl rfl hrun ?_)
 clear hrun
 go_upto_region 3 with (go_at_call 9; refine hcp.mono ?_; rintro e w3 ⟨g, rfl, hg3, hrm, hk3⟩; have HG3 := hide hg3; have HRM := hide hrm; have HK23 := hide hk3; clear hcp hg3 hrm hk3)
 have HK03 := hide ((HK01.out.trans HK12.out (by simp)).trans HK23.out (by simp))
 have hkn := known9_ok w3 (HG.out.kept HK03.out) (HT.out.kept HK03.out (by simp))
 go_upto_region 5 with (first
  | (go_at_call 10; refine hkn.mono ?_; rintro e w4 ⟨rfl, hk4⟩; have HK34 := hide hk4; have HK04 := hide (HK03.out.trans hk4 (by simp)); have hnd := needed9_ok ia in_ ic IL g aw rn cw RL w w4 HI.out HTOP.out HK04.out (HG.out.kept HK04.out) (HT.out.kept HK04.out (by simp)) HL.out (HRM.out.kept hk4 (by simp)) ((HOZ.out.kept (HK23.out.trans hk4 (by simp)) (fun _ _ => by simp)).rss.1) hrn; clear hkn hk4)
  | (go_at_call 11; refine hnd.mono ?_; rintro e w5 ⟨rfl, hk5⟩; have HK45 := hide hk5; clear hnd hk5))
 have HK35 := hide (HK34.out.trans HK45.out (by simp))
 have HK05 := hide (HK03.out.trans HK35.out (by simp))
 have HK15 := hide ((HK12.out.trans HK23.out (by simp)).trans HK35.out (by simp))
 have HK25 := hide (HK23.out.trans HK35.out (by simp))
 cases RL with
 | nil =>
  as_aux_lemma =>
  have h0 : rn = 0 := HL.out.symm
  subst h0
  go_wp2
  go_ret
  exact ⟨rfl, HK05.out⟩
 | cons z R =>
  as_aux_lemma =>
  have hpos : 0 < rn := by have := HL.out; simp only [List.length_cons] at this; omega
  have hpi : (0 : Int) < (rn : Int) := by omega
  have hpc : rn ≠ 0 := by omega
  have heq0 : ((rn : Int) == 0) = false := by
   simp only [beq_eq_false_iff_ne, ne_eq]
   omega
  obtain ⟨gw, rfl, hgw1, hgw2, hrw⟩ := rz_own HOZ.out hpos
  have HRW : Hid (Rm9 w5 gw cw (z :: R)) := hide (hrw.kept HK25.out (by simp))
  have HRL : Hid (Rm9 w5 g (rn + 40) (z :: (R ++ marks 40))) := hide (HRM.out.kept HK35.out (by simp))
  have HNE : Hid (gw ≠ g ∧ A ≠ gw ∧ A ≠ g ∧ gw < w5.heap.size ∧ w.heap.size ≤ gw ∧ w.heap.size ≤ g ∧ g < w5.heap.size) := hide (by
   have h1 := HG3.out
   have h2 := HSZ.out
   have h3 := HK25.out.size
   have h4 : g < w5.heap.size := by
    obtain ⟨⟨cur, h, _⟩, _⟩ := HRL.out
    exact (Array.getElem?_eq_some_iff.1 h).1
   omega)
  have ht1 := (HRW.out.root qa hqa).1
  have hra5 : w5.rangeAt A 0 (bys qa) := row_rangeK ((HK15.out.block A (Array.getElem?_eq_some_iff.1 HA1.out).1 (by simp)).trans HA1.out)
  have hsz32 : (bys qa).toArray.size = 32 := by rw [List.size_toArray, bys_length, hqa]
  clear hrw hgw1 hgw2
  go_upto_region 8 with (first
   | refine wpList_load_mid rfl 25 (.tmp 5) rfl A 0 rfl (bys qa) _ hra5 Tryz.underlying25 rfl hqal ?_
   | refine wpList_store_mid rfl 25 (.tmp 29) (.tmp 27) rfl gw 32 (bys qa).toArray (by first | rfl | simp [Act.eval, Act.put]) (by first | rfl | simp [Act.eval, Act.put]) (by rw [hsz32]; exact ht1) hqal (bys_allT _) ?_)
  have HW6 : Hid (Rm9 (w5.setCells gw 32 (bys qa)) gw cw (z.root' qa hqa :: R) ∧ Kept [gw] w5 (w5.setCells gw 32 (bys qa))) := hide (HRW.out.root qa hqa).2
  clear ht1 hra5
  generalize w5.setCells gw 32 _ = w6 at HW6 ⊢
  have ht2 := ((HRL.out.kept HW6.out.2 (by simp only [List.mem_singleton]; exact fun h => HNE.out.1 h.symm)).root qa hqa).1
  have hra6 : w6.rangeAt A 0 (bys qa) := row_rangeK ((HW6.out.2.block A (Nat.lt_of_lt_of_le (Array.getElem?_eq_some_iff.1 HA1.out).1 HK15.out.size) (by simp only [List.mem_singleton]; exact HNE.out.2.1)).trans ((HK15.out.block A (Array.getElem?_eq_some_iff.1 HA1.out).1 (by simp)).trans HA1.out))
  go_upto_region 9 with (first
   | refine wpList_load_mid rfl 25 (.tmp 5) rfl A 0 rfl (bys qa) _ hra6 Tryz.underlying25 rfl hqal ?_
   | refine wpList_store_mid rfl 25 (.tmp 33) (.tmp 31) rfl g 32 (bys qa).toArray (by first | rfl | simp [Act.eval, Act.put]) (by first | rfl | simp [Act.eval, Act.put]) (by rw [hsz32]; exact ht2) hqal (bys_allT _) ?_)
  have HW7 : Hid (Rm9 (w6.setCells g 32 (bys qa)) g (rn + 40) (z.root' qa hqa :: (R ++ marks 40)) ∧ Kept [g] w6 (w6.setCells g 32 (bys qa))) := hide ((HRL.out.kept HW6.out.2 (by simp only [List.mem_singleton]; exact fun h => HNE.out.1 h.symm)).root qa hqa).2
  clear ht2 hra6
  generalize w6.setCells g 32 _ = w7 at HW7 ⊢
  have HK57 : Hid (Kept [gw, g] w5 w7) := hide ((HW6.out.2.mono (l2 := [gw, g]) (fun j hj _ => by simp at hj; simp [hj])).trans (HW7.out.2.mono (l2 := [gw, g]) (fun j hj _ => by simp at hj; simp [hj])) (fun _ h _ => h))
  have HK07 : Hid (Kept [] w w7) := hide (HK05.out.trans HK57.out (fun j hj hlt => by
   have := HNE.out
   simp only [List.mem_cons, List.not_mem_nil, or_false] at hj
   omega))
  have hnd := needed9_ok ia in_ ic IL g (some ⟨gw, 0, none⟩) rn cw (z.root' qa hqa :: R) w w7 HI.out HTOP.out HK07.out (HG.out.kept HK07.out) (HT.out.kept HK07.out (by simp)) (by have := HL.out; simpa using this) HW7.out.1 ((HW6.out.1.kept HW7.out.2 (by simp only [List.mem_singleton]; exact HNE.out.1)).rss) hrn
  go_wp2_with (go_at_call 11; refine hnd.mono ?_; rintro e w8 ⟨rfl, hk8⟩; have HK78 := hide hk8; clear hnd hk8)
  go_ret
  exact ⟨rfl, HK07.out.trans HK78.out (by simp)⟩
end Go.Proofs.YtngaimahhgmciaaGreatDoor
