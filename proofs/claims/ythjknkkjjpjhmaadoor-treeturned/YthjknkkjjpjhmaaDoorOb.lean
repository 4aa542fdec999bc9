/-
  Contract: freightlaw7.turned. (Written by tools/ob.py.)
-/
import Derived.Test.YthjknkkjjpjhmaaDoorOa
import Derived.Test.YthjknkkjjpjhmaaDoorNz
namespace Go.Proofs.YthjknkkjjpjhmaaDoor
open Go.RowKit
set_option linter.unusedVariables false
set_option linter.unusedSimpArgs false

/-- What turned answers: entries, new. -/
def TurnedEnd (w w' : World) (r : Ending) : Prop := (∃ ao n cap L, r = .returned (.slice ao n cap) ∧ L.length = n ∧ Ents w' ao L ∧ n ≤ cap ∧ n ≤ 4611686018427387904 ∧ (ao = none → n = 0 ∧ cap = 0)) ∧ Below w.heap.size w w'
theorem TurnedEnd.own {w w' : World} {v : Value} {L : List Ent} {base : Nat} (h : OwnE w' base v L) (hl : L.length ≤ 4611686018427387904) (hb : Below w.heap.size w w') : TurnedEnd w w' (.returned v) := by
  rcases h.1.2 with ⟨h0, h1⟩ | ⟨g, cap, cur, hv, _⟩
  · have : L = [] := List.eq_nil_of_length_eq_zero h1
    subst this
    subst h0
    exact ⟨⟨none, 0, 0, [], rfl, rfl, Ents.nil _ _, Nat.le_refl _, by omega, fun _ => ⟨rfl, rfl⟩⟩, hb⟩
  · subst hv
    obtain ⟨ao, cap', hv, hlc, hE, _, _⟩ := h.ents
    cases hv
    exact ⟨⟨_, _, _, L, rfl, rfl, hE, hlc, hl, by simp⟩, hb⟩
section
variable (ao : Option Addr) (n cap : Nat) (how at_ : Int) (nm : List UInt8) (kd : Int) (L : List Ent) (w : World)

set_option maxHeartbeats 3200000 in
set_option maxRecDepth 100000 in
theorem turned_none (hn : L.length = n) (hL : Ents w ao L) (hnc : n ≤ cap) (hcm : cap * 56 ≤ 140737488351232) (h0 : ao = none → n = 0 ∧ cap = 0) (hm : nm.length ≤ 4611686018427387904) (hkd : (Lit.int .i64 kd).wf = true) (hz : n = 0) :
    Calls Tryd.prog 23 #[.slice ao n cap, .int .i64 how, .int .i64 at_, .string ⟨nm.toArray⟩, .int .i64 kd] w fun r w' => TurnedEnd w w' r := by
  subst hz
  have hLe : L = [] := List.eq_nil_of_length_eq_zero hn
  subst hLe
  obtain ⟨v1, w1, hrun1, ho1, hk1⟩ := run_freshE w [] ao 0 cap rfl hL h0 (by omega)
  obtain ⟨ao1, cap1, hv1, _, _, hb1, _⟩ := ho1.ents
  have hE : EntOk ⟨nm, kd, List.replicate 32 0⟩ := ⟨by simp, hm, hkd⟩
  obtain ⟨v2, w2, hrun2, ho2, hk2, hg2⟩ := run_appE w1 w.heap.size v1 [] ⟨nm, kd, List.replicate 32 0⟩ ho1 hE (by simp) hk1.size
  have hob : ∀ g, v1.ownBlock = some g → w.heap.size ≤ g := fun g hg => by
    rw [hv1] at hg
    cases ao1 with
    | none => simp [Value.ownBlock] at hg
    | some a =>
      obtain ⟨g', rfl, h1, _, h2⟩ := hb1 a rfl
      rw [hv1, hg] at h2; cases h2; exact h1
  have H2 : Hid (OwnE w2 w.heap.size v2 [⟨nm, kd, List.replicate 32 0⟩] ∧ Below w.heap.size w w2) := ⟨ho2, (hk1.below (Nat.le_refl _) (by simp)).trans ((hk2 v1.ownBlock.toList (by simp)).below hk1.size (fun g hg => hob g (by simpa using hg)))⟩
  subst hv1
  simp only [List.length_nil] at hrun1 hrun2
  clear ho1 hk1 ho2 hk2 hg2 hob hb1
  go_enter Tryd.func23, Tryd.ntmps23
  go_wp2_with (first
    | refine wpList_app_run rfl (.tmp 14) (.tmp 15) 24 24 rfl (.slice (some ⟨w.heap.size, 0, none⟩) 0 0) (.slice ao 0 cap) rfl rfl (.slice ao1 0 cap1) w1 hrun1 ?_
    | refine wpList_build1 rfl (.tmp 23) rfl ⟨nm, kd, List.replicate 32 0⟩ rfl hE ?_
    | refine wpList_app_run rfl (.tmp 20) (.tmp 24) 24 24 rfl (.slice ao1 0 cap1) (.slice (some ⟨w1.heap.size, 0, none⟩) 1 1) rfl rfl v2 w2 hrun2 ?_)
  go_ret
  exact TurnedEnd.own H2.out.1 (by simp) H2.out.2

set_option maxHeartbeats 6400000 in
set_option maxRecDepth 100000 in
theorem turned_some (hn : L.length = n) (hL : Ents w ao L) (hnc : n ≤ cap) (hcm : cap * 56 ≤ 140737488351232) (h0 : ao = none → n = 0 ∧ cap = 0) (hm : nm.length ≤ 4611686018427387904) (hkd : (Lit.int .i64 kd).wf = true) (hz : 0 < n) (hat : -9223372036854775808 ≤ at_ ∧ at_ ≤ 9223372036854775807) :
    Calls Tryd.prog 23 #[.slice ao n cap, .int .i64 how, .int .i64 at_, .string ⟨nm.toArray⟩, .int .i64 kd] w fun r w' => TurnedEnd w w' r := by
  obtain ⟨v1, w1, hrun1, ho1, hk1⟩ := run_freshE w L ao n cap hn hL h0 (by omega)
  obtain ⟨ao1, cap1, hv1, hlc1, hE1, hb1, hcm1⟩ := ho1.ents
  rw [hn] at hv1 hlc1
  subst hv1
  cases ao1 with
  | none =>
    rcases ho1.1.2 with ⟨_, h2⟩ | ⟨g, c, cur, hv, _⟩
    · omega
    · cases hv
  | some a1 =>
  obtain ⟨g, rfl, hgb, hgl, _⟩ := hb1 a1 rfl
  obtain ⟨cur, hcur, _, hcs⟩ := ho1.row
  have hEk : EntOk ⟨nm, kd, List.replicate 32 0⟩ := ⟨by simp, hm, hkd⟩
  have hB1 : Below w.heap.size w w1 := hk1.below (Nat.le_refl _) (by simp)
  obtain ⟨r0, hr0, hr1, hr2⟩ := cut_at at_ n hz hat
  obtain ⟨k, hk0, hkn⟩ : ∃ k : Nat, (if r0 < 0 then r0 + n else r0) = (k : Int) ∧ k < n := by
    refine ⟨(if r0 < 0 then r0 + n else r0).toNat, ?_, ?_⟩ <;> split <;> omega
  have hkl : k < L.length := by rw [hn]; exact hkn
  have z0 : ((n : Int) == 0) = false := by simp; omega
  have z0' : ¬ ((n : Int) = 0) := by omega
  have H1 : Hid (OwnE w1 w.heap.size (.slice (some ⟨g, 0, none⟩) n cap1) L ∧ Below w.heap.size w w1 ∧ Ents w1 (some ⟨g, 0, none⟩) L ∧ w.heap.size ≤ g ∧ w1.heap[g]? = some (.cells cur 37 (0, 0)) ∧ cur.size = cap1 * 34) := ⟨ho1, hB1, hE1, hgb, hcur, hcs⟩
  have cN : w1.cell? ⟨g, k * 34, none⟩ = some (.string ⟨(L.getD k ent0).name.toArray⟩) := by
    obtain ⟨_, _, hx, hc, _⟩ := hE1 k hkl; cases hx
    have := hc 0 _ rfl
    simpa using this
  have cK : w1.cell? ⟨g, k * 34 + 1, none⟩ = some (.int .i64 (L.getD k ent0).kind) := by
    obtain ⟨_, _, hx, hc, _⟩ := hE1 k hkl; cases hx
    have := hc 1 _ rfl
    simpa using this
  have fN : w1.frozen? ⟨g, k * 34, none⟩ = false := frozen_of_row _ _ _ _ _ hcur
  have fK : w1.frozen? ⟨g, k * 34 + 1, none⟩ = false := frozen_of_row _ _ _ _ _ hcur
  generalize hnk : (L.getD k ent0).name = nk at cN
  generalize hkk : (L.getD k ent0).kind = kk at cK
  clear hnk hkk
  clear ho1 hB1 hE1 hcur hcs hb1 hk1
  by_cases q1 : how = 1
  · subst q1
    clear cK fK
    have hEE := hide (H1.out.2.2.1.name hkl nm hm)
    by_cases hneg : r0 < 0
    · rw [if_pos hneg] at hk0
      go_enter Tryd.func23, Tryd.ntmps23
      go_wp2_with (refine wpList_app_run rfl (.tmp 14) (.tmp 15) 24 24 rfl (.slice (some ⟨w.heap.size, 0, none⟩) 0 0) (.slice ao n cap) rfl rfl (.slice (some ⟨g, 0, none⟩) n cap1) w1 hrun1 ?_)
      go_ret
      exact ⟨⟨_, _, _, _, rfl, by simp [hn], hEE.out, hlc1, by omega, by simp⟩, H1.out.2.1.trans (((Kept.refl [g] w1).setCell (by simp) _).below H1.out.2.1.size (by have := H1.out.2.2.2.1; simp; omega))⟩
    · rw [if_neg hneg] at hk0
      subst hk0
      go_enter Tryd.func23, Tryd.ntmps23
      go_wp2_with (refine wpList_app_run rfl (.tmp 14) (.tmp 15) 24 24 rfl (.slice (some ⟨w.heap.size, 0, none⟩) 0 0) (.slice ao n cap) rfl rfl (.slice (some ⟨g, 0, none⟩) n cap1) w1 hrun1 ?_)
      go_ret
      exact ⟨⟨_, _, _, _, rfl, by simp [hn], hEE.out, hlc1, by omega, by simp⟩, H1.out.2.1.trans (((Kept.refl [g] w1).setCell (by simp) _).below H1.out.2.1.size (by have := H1.out.2.2.2.1; simp; omega))⟩
  by_cases q2 : how = 2
  · subst q2
    clear cN fN
    have hEE := hide (H1.out.2.2.1.kind hkl kd hkd)
    by_cases hneg : r0 < 0
    · rw [if_pos hneg] at hk0
      go_enter Tryd.func23, Tryd.ntmps23
      go_wp2_with (refine wpList_app_run rfl (.tmp 14) (.tmp 15) 24 24 rfl (.slice (some ⟨w.heap.size, 0, none⟩) 0 0) (.slice ao n cap) rfl rfl (.slice (some ⟨g, 0, none⟩) n cap1) w1 hrun1 ?_)
      go_ret
      exact ⟨⟨_, _, _, _, rfl, by simp [hn], hEE.out, hlc1, by omega, by simp⟩, H1.out.2.1.trans (((Kept.refl [g] w1).setCell (by simp) _).below H1.out.2.1.size (by have := H1.out.2.2.2.1; simp; omega))⟩
    · rw [if_neg hneg] at hk0
      subst hk0
      go_enter Tryd.func23, Tryd.ntmps23
      go_wp2_with (refine wpList_app_run rfl (.tmp 14) (.tmp 15) 24 24 rfl (.slice (some ⟨w.heap.size, 0, none⟩) 0 0) (.slice ao n cap) rfl rfl (.slice (some ⟨g, 0, none⟩) n cap1) w1 hrun1 ?_)
      go_ret
      exact ⟨⟨_, _, _, _, rfl, by simp [hn], hEE.out, hlc1, by omega, by simp⟩, H1.out.2.1.trans (((Kept.refl [g] w1).setCell (by simp) _).below H1.out.2.1.size (by have := H1.out.2.2.2.1; simp; omega))⟩
  by_cases q3 : how = 3
  · subst q3
    clear cN fN cK fK
    have hz' := Tryd.zeroEntry
    obtain ⟨_, _, hx, hrk, hokk⟩ := H1.out.2.2.1 k hkl
    cases hx
    obtain ⟨_, _, hx, hr0', hok0⟩ := H1.out.2.2.1 0 (by omega)
    cases hx
    simp only [Nat.zero_add, Nat.zero_mul] at hrk hr0'
    generalize L.getD k ent0 = ek at *
    generalize L.getD 0 ent0 = e0 at *
    have hnz := new_zero w1
    have ilk : (Tryd.prog.info? 37).map (·.size) = some ek.cells.length := by rw [hokk.len]; exact Tryd.infoEntry
    have il0 : (Tryd.prog.info? 37).map (·.size) = some e0.cells.length := by rw [hok0.len]; exact Tryd.infoEntry
    have iak : (Tryd.prog.info? 37).map (·.size) = some ek.cells.toArray.size := by rw [ent_size hokk]; exact Tryd.infoEntry
    have ia0 : (Tryd.prog.info? 37).map (·.size) = some e0.cells.toArray.size := by rw [ent_size hok0]; exact Tryd.infoEntry
    have hzs := zero_size hokk
    have alk := ent_all ek
    have al0 := ent_all e0
    have hWb := withEnt_below w1 ek
    have hgW : (withEnt w1 ek).heap[g]? = some (.cells cur 37 (0, 0)) := (hWb.block g hgl).trans H1.out.2.2.2.2.1
    have hcs := H1.out.2.2.2.2.2
    have hE2 := H1.out.2.2.1.below hWb
    have th1 : (withEnt w1 ek).there g (k * 34) 34 := there_row hgW _ _ (by rw [hcs]; have : k + 1 ≤ cap1 := by omega
                                                                            have := Nat.mul_le_mul_right 34 this; omega)
    have th0 : (withEnt w1 ek).there g 0 34 := there_row hgW _ _ (by rw [hcs]; have : 1 ≤ cap1 := by omega
                                                                     have := Nat.mul_le_mul_right 34 this; omega)
    have hE3 := hE2.put hkl hok0 th1
    have th2 := World.there_setCells th0 g (k * 34) e0.cells
    have hE4 := hE3.put (k := 0) (by simp; omega) hokk (by simpa using th2)
    simp only [Nat.zero_mul] at hE4
    have rX : (withEnt w1 ek).rangeAt w1.heap.size 0 ek.cells := ent_range (withEnt_row w1 ek)
    have rX2 : ((withEnt w1 ek).setCells g (k * 34) e0.cells).rangeAt w1.heap.size 0 ek.cells := World.rangeAt_setCells_apart rX g (k * 34) e0.cells (.inl (by omega))
    have r02 : (withEnt w1 ek).rangeAt g 0 e0.cells := fun j v hv => (Kept.of_below hWb).cellOf (hr0' j v hv) (by simp)
    have tt1 : (withEnt w1 ek).there g (k * 34) e0.cells.toArray.size := by rw [ent_size hok0]; exact th1
    have tt2 : ((withEnt w1 ek).setCells g (k * 34) e0.cells).there g 0 ek.cells.toArray.size := by rw [ent_size hokk]; exact th2
    have H4 : Hid (Ents (((withEnt w1 ek).setCells g (k * 34) e0.cells).setCells g 0 ek.cells) (some ⟨g, 0, none⟩) ((L.set k e0).set 0 ek) ∧ Below w.heap.size w (((withEnt w1 ek).setCells g (k * 34) e0.cells).setCells g 0 ek.cells)) := by
      refine ⟨hE4, H1.out.2.1.trans (Kept.below (l := [g]) ?_ H1.out.2.1.size (by have := H1.out.2.2.2.1; simp; omega))⟩
      exact kept_setCells (by simp) _ _ _ (kept_setCells (by simp) _ _ _ ((Kept.of_below hWb).mono (by simp)))
    have hgne : g ≠ w1.heap.size := by omega
    clear hE2 th1 th0 hE3 th2 hE4 rX hWb hgW hr0' hcs
    by_cases hneg : r0 < 0
    · rw [if_pos hneg] at hk0
      go_enter Tryd.func23, Tryd.ntmps23
      go_upto_region 15 with (first
        | refine wpList_app_run rfl (.tmp 14) (.tmp 15) 24 24 rfl (.slice (some ⟨w.heap.size, 0, none⟩) 0 0) (.slice ao n cap) rfl rfl (.slice (some ⟨g, 0, none⟩) n cap1) w1 hrun1 ?_
        | refine wpList_load_mid rfl 37 (.tmp 61) rfl g (k * 34) rfl ek.cells _ hrk Tryd.underlying37 rfl ilk ?_
        | refine wpList_store_rowTo rfl 37 (.tmp 13) (.tmp 62) rfl rfl w1.heap.size ek.cells.toArray rfl rfl 37 zeroE hnz iak hzs alk ?_)
      have hW : (w1.alloc (.cells zeroE 37)).setRow w1.heap.size ek.cells.toArray = withEnt w1 ek := rfl
      rw [hW]
      go_wp2_with (first
        | refine wpList_load_mid rfl 37 (.tmp 66) rfl g 0 rfl e0.cells _ r02 Tryd.underlying37 rfl il0 ?_
        | refine wpList_store_mid rfl 37 (.tmp 68) (.tmp 67) rfl g (k * 34) e0.cells.toArray rfl rfl tt1 ia0 al0 ?_
        | refine wpList_load_mid rfl 37 (.tmp 13) rfl w1.heap.size 0 rfl ek.cells _ rX2 Tryd.underlying37 rfl ilk ?_
        | refine wpList_store_mid rfl 37 (.tmp 71) (.tmp 70) rfl g 0 ek.cells.toArray rfl rfl tt2 iak alk ?_)
      go_ret
      exact ⟨⟨_, _, _, _, rfl, by simp [hn], H4.out.1, hlc1, by omega, by simp⟩, H4.out.2⟩
    · rw [if_neg hneg] at hk0
      subst hk0
      go_enter Tryd.func23, Tryd.ntmps23
      go_upto_region 15 with (first
        | refine wpList_app_run rfl (.tmp 14) (.tmp 15) 24 24 rfl (.slice (some ⟨w.heap.size, 0, none⟩) 0 0) (.slice ao n cap) rfl rfl (.slice (some ⟨g, 0, none⟩) n cap1) w1 hrun1 ?_
        | refine wpList_load_mid rfl 37 (.tmp 61) rfl g (k * 34) rfl ek.cells _ hrk Tryd.underlying37 rfl ilk ?_
        | refine wpList_store_rowTo rfl 37 (.tmp 13) (.tmp 62) rfl rfl w1.heap.size ek.cells.toArray rfl rfl 37 zeroE hnz iak hzs alk ?_)
      have hW : (w1.alloc (.cells zeroE 37)).setRow w1.heap.size ek.cells.toArray = withEnt w1 ek := rfl
      rw [hW]
      go_wp2_with (first
        | refine wpList_load_mid rfl 37 (.tmp 66) rfl g 0 rfl e0.cells _ r02 Tryd.underlying37 rfl il0 ?_
        | refine wpList_store_mid rfl 37 (.tmp 68) (.tmp 67) rfl g (k * 34) e0.cells.toArray rfl rfl tt1 ia0 al0 ?_
        | refine wpList_load_mid rfl 37 (.tmp 13) rfl w1.heap.size 0 rfl ek.cells _ rX2 Tryd.underlying37 rfl ilk ?_
        | refine wpList_store_mid rfl 37 (.tmp 71) (.tmp 70) rfl g 0 ek.cells.toArray rfl rfl tt2 iak alk ?_)
      go_ret
      exact ⟨⟨_, _, _, _, rfl, by simp [hn], H4.out.1, hlc1, by omega, by simp⟩, H4.out.2⟩
  by_cases q4 : how = 4
  · subst q4
    clear cN fN cK fK
    obtain ⟨_, _, hx, hrk, hokk⟩ := H1.out.2.2.1 k hkl
    cases hx
    simp only [Nat.zero_add] at hrk
    generalize L.getD k ent0 = ek at *
    have ilk : (Tryd.prog.info? 37).map (·.size) = some ek.cells.length := by rw [hokk.len]; exact Tryd.infoEntry
    obtain ⟨v2, w2, hrun2, ho2, hk2, hg2⟩ := run_appE w1 w.heap.size _ L ek H1.out.1 hokk (by omega) H1.out.2.1.size
    have H2 : Hid (OwnE w2 w.heap.size v2 (L ++ [ek]) ∧ Below w.heap.size w w2) := ⟨ho2, H1.out.2.1.trans ((hk2 [g] (by simp [Value.ownBlock])).below H1.out.2.1.size (by have := H1.out.2.2.2.1; simp; omega))⟩
    clear ho2 hk2 hg2
    by_cases hneg : r0 < 0
    · rw [if_pos hneg] at hk0
      go_enter Tryd.func23, Tryd.ntmps23
      go_wp2_with (first
        | refine wpList_app_run rfl (.tmp 14) (.tmp 15) 24 24 rfl (.slice (some ⟨w.heap.size, 0, none⟩) 0 0) (.slice ao n cap) rfl rfl (.slice (some ⟨g, 0, none⟩) n cap1) w1 hrun1 ?_
        | refine wpList_load_mid rfl 37 (.tmp 77) rfl g (k * 34) rfl ek.cells _ hrk Tryd.underlying37 rfl ilk ?_
        | refine wpList_build1 rfl (.tmp 78) rfl ek rfl hokk ?_
        | refine wpList_app_run rfl (.tmp 74) (.tmp 79) 24 24 rfl (.slice (some ⟨g, 0, none⟩) n cap1) (.slice (some ⟨w1.heap.size, 0, none⟩) 1 1) rfl rfl v2 w2 hrun2 ?_)
      go_ret
      exact TurnedEnd.own H2.out.1 (by simp; omega) H2.out.2
    · rw [if_neg hneg] at hk0
      subst hk0
      go_enter Tryd.func23, Tryd.ntmps23
      go_wp2_with (first
        | refine wpList_app_run rfl (.tmp 14) (.tmp 15) 24 24 rfl (.slice (some ⟨w.heap.size, 0, none⟩) 0 0) (.slice ao n cap) rfl rfl (.slice (some ⟨g, 0, none⟩) n cap1) w1 hrun1 ?_
        | refine wpList_load_mid rfl 37 (.tmp 77) rfl g (k * 34) rfl ek.cells _ hrk Tryd.underlying37 rfl ilk ?_
        | refine wpList_build1 rfl (.tmp 78) rfl ek rfl hokk ?_
        | refine wpList_app_run rfl (.tmp 74) (.tmp 79) 24 24 rfl (.slice (some ⟨g, 0, none⟩) n cap1) (.slice (some ⟨w1.heap.size, 0, none⟩) 1 1) rfl rfl v2 w2 hrun2 ?_)
      go_ret
      exact TurnedEnd.own H2.out.1 (by simp; omega) H2.out.2
  · clear cN fN cK fK
    have p1 : (how == 1) = false := by simpa using q1
    have p2 : (how == 2) = false := by simpa using q2
    have p3 : (how == 3) = false := by simpa using q3
    have p4 : (how == 4) = false := by simpa using q4
    obtain ⟨v2, w2, hrun2, ho2, hk2, hg2⟩ := run_appE w1 w.heap.size _ L ⟨nm, kd, List.replicate 32 0⟩ H1.out.1 hEk (by omega) H1.out.2.1.size
    have H2 : Hid (OwnE w2 w.heap.size v2 (L ++ [⟨nm, kd, List.replicate 32 0⟩]) ∧ Below w.heap.size w w2) := ⟨ho2, H1.out.2.1.trans ((hk2 [g] (by simp [Value.ownBlock])).below H1.out.2.1.size (by have := H1.out.2.2.2.1; simp; omega))⟩
    clear ho2 hk2 hg2
    by_cases hneg : r0 < 0
    · rw [if_pos hneg] at hk0
      go_enter Tryd.func23, Tryd.ntmps23
      go_wp2_with (first
        | refine wpList_app_run rfl (.tmp 14) (.tmp 15) 24 24 rfl (.slice (some ⟨w.heap.size, 0, none⟩) 0 0) (.slice ao n cap) rfl rfl (.slice (some ⟨g, 0, none⟩) n cap1) w1 hrun1 ?_
        | refine wpList_build1 rfl (.tmp 40) rfl ⟨nm, kd, List.replicate 32 0⟩ rfl hEk ?_
        | refine wpList_app_run rfl (.tmp 37) (.tmp 41) 24 24 rfl (.slice (some ⟨g, 0, none⟩) n cap1) (.slice (some ⟨w1.heap.size, 0, none⟩) 1 1) rfl rfl v2 w2 hrun2 ?_)
      go_ret
      exact TurnedEnd.own H2.out.1 (by simp; omega) H2.out.2
    · rw [if_neg hneg] at hk0
      subst hk0
      go_enter Tryd.func23, Tryd.ntmps23
      go_wp2_with (first
        | refine wpList_app_run rfl (.tmp 14) (.tmp 15) 24 24 rfl (.slice (some ⟨w.heap.size, 0, none⟩) 0 0) (.slice ao n cap) rfl rfl (.slice (some ⟨g, 0, none⟩) n cap1) w1 hrun1 ?_
        | refine wpList_build1 rfl (.tmp 40) rfl ⟨nm, kd, List.replicate 32 0⟩ rfl hEk ?_
        | refine wpList_app_run rfl (.tmp 37) (.tmp 41) 24 24 rfl (.slice (some ⟨g, 0, none⟩) n cap1) (.slice (some ⟨w1.heap.size, 0, none⟩) 1 1) rfl rfl v2 w2 hrun2 ?_)
      go_ret
      exact TurnedEnd.own H2.out.1 (by simp; omega) H2.out.2
end
/-- freightlaw7.turned. -/
theorem turned_ok (ao : Option Addr) (n cap : Nat) (how at_ : Int) (nm : List UInt8) (kd : Int) (L : List Ent) (w : World) (hn : L.length = n) (hL : Ents w ao L) (hnc : n ≤ cap) (hcm : cap * 56 ≤ 140737488351232) (h0 : ao = none → n = 0 ∧ cap = 0) (hm : nm.length ≤ 4611686018427387904) (hkd : (Lit.int .i64 kd).wf = true) (hat : -9223372036854775808 ≤ at_ ∧ at_ ≤ 9223372036854775807) :
    Calls Tryd.prog 23 #[.slice ao n cap, .int .i64 how, .int .i64 at_, .string ⟨nm.toArray⟩, .int .i64 kd] w fun r w' => TurnedEnd w w' r := by
  by_cases hz : n = 0
  · exact turned_none ao n cap how at_ nm kd L w hn hL hnc hcm h0 hm hkd hz
  · exact turned_some ao n cap how at_ nm kd L w hn hL hnc hcm h0 hm hkd (by omega) hat
end Go.Proofs.YthjknkkjjpjhmaaDoor
