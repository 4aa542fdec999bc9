/-
  freightlaw9.at of an id that is there: where it is. (Written by tools/qcb.py.)
-/
import Derived.Test.YtngaimahhgmciaaGreatDoorQ9lp
namespace Go.Proofs.YtngaimahhgmciaaGreatDoor
open Go.RowKit Go.Lib Go.Sort
set_option linter.unusedVariables false
set_option linter.unusedSimpArgs false

set_option maxHeartbeats 3200000 in
set_option maxRecDepth 100000 in
/-- at, of an id that is there: where it is. -/
theorem at9_idx (ao : Option Addr) (n c : Nat) (A : List (List UInt8)) (q : List UInt8) (w : World) (hA : A.length = n) (iA : Ids w ao A) (hq : q.length = 32) (hin : q ∈ A) (hn : n ≤ 9223372036854775807) :
    Calls Tryz.prog 28 #[.slice ao n c, .agg (bys q).toArray] w fun e w' => ∃ k : Nat, e = .returned (.int .i64 k) ∧ k < n ∧ A.getD k [] = q ∧ Kept [] w w' := by
  obtain ⟨w1, hw1⟩ : ∃ w1, w1 = w.alloc (.cells (bys q).toArray 25) := ⟨_, rfl⟩
  have hk1 : Kept [] w w1 := by rw [hw1]; exact (Kept.refl [] w).alloc _
  have hrx : w1.rangeAt w.heap.size 0 (bys q) := by rw [hw1]; exact row_rangeK (new_atK _ _)
  have HRX := hide hrx
  have HK1 := hide hk1
  have HA := hide (iA.kept hk1 (fun _ _ _ => by simp))
  have HN := hide hA
  have HIN := hide hin
  have hql := idl q hq
  clear hrx hk1 iA hA hin
  go_enter Tryz.func28, Tryz.ntmps28
  go_upto_region 1 with (fail)
  rw [← hw1]
  clear hw1
  generalize w.heap.size = bx at HRX ⊢
  go_wp2
  go_loopw [5] (fun x wr => ∃ k : Nat, k ≤ n ∧ x = .int .i64 k ∧ Hid (Kept [] w1 wr ∧ ∀ z, z < k → A.getD z [] ≠ q)) (fun x wr => n - (intOf x).toNat)
  case atStart => exact ⟨0, by omega, rfl, hide ⟨Kept.refl _ _, fun z hz => by omega⟩⟩
  case round =>
    obtain ⟨k, hk, rfl, HP⟩ := hrel
    by_cases hlt : k < n
    · have hkA : k < A.length := by rw [HN.out]; exact hlt
      obtain ⟨g, off, rfl, hrg⟩ := (HA.out.kept HP.out.1 (fun _ _ _ => by simp)).1 k hkA
      have hx : (A.getD k []).length = 32 := HA.out.2 _ (gmem9 hkA)
      obtain ⟨x, hxe⟩ : ∃ x, A.getD k [] = x := ⟨_, rfl⟩
      have HXE := hide hxe
      rw [hxe] at hrg hx
      have hxl := idl x hx
      have hrq : wr.rangeAt bx 0 (bys q) := fun jj u hu => HP.out.1.cellOf (HRX.out jj u hu) (by simp)
      have heqx : ∀ W, (Op.equalIn 10000 25 (.agg (bys x).toArray) (.agg (bys q).toArray)).run Tryz.prog W = .ok (decide (x = q)) W := fun W => Tryz.eqlID x q hx hq W
      have hlt1 : (k : Int) < (n : Int) := by omega
      clear hxe hkA
      by_cases hxy : x = q
      · have heq : ∀ W, (Op.equalIn 10000 25 (.agg (bys x).toArray) (.agg (bys q).toArray)).run Tryz.prog W = .ok true W := fun W => by rw [heqx W, decide_eq_true hxy]
        have HE := hide hxy
        clear heqx hxy
        go_upto_region 4 with (fail)
        refine wp_region_held_drew (S := fun w' => Kept [] wr w') (by kernel_rfl) ((Kept.refl [] wr).drew) (fun h0 => ?_)
        generalize World.drew wr = v0 at h0  ⊢
        refine wpAnyH_take (i := 0) (v := .slice (some ⟨g, off, none⟩) n c) rfl (by kernel_rfl) (by kernel_rfl) (by kernel_rfl) (fun _ _ _ h => h) (Or.inl ⟨by rfl, fun w hSw => by go_simp⟩) h0 ?_
        try simp only [List.getElem_toArray, List.getElem_cons_zero, List.getElem_cons_succ, Act.put, List.setIfInBounds_toArray, List.set_cons_zero, List.set_cons_succ]
        refine wpAnyH_take (i := 1) (v := .int .i64 k) rfl (by kernel_rfl) (by kernel_rfl) (by kernel_rfl) (fun _ _ _ h => h) (Or.inl ⟨by rfl, fun w hSw => by go_simp⟩) h0 ?_
        try simp only [List.getElem_toArray, List.getElem_cons_zero, List.getElem_cons_succ, Act.put, List.setIfInBounds_toArray, List.set_cons_zero, List.set_cons_succ]
        refine wpAnyH_take (i := 2) (v := .pointer (some ⟨g, off + k * 32, none⟩)) rfl (by kernel_rfl) (by kernel_rfl) (by kernel_rfl) (fun _ _ _ h => h) (Or.inl ⟨by rfl, fun w hSw => by go_simp⟩) h0 ?_
        try simp only [List.getElem_toArray, List.getElem_cons_zero, List.getElem_cons_succ, Act.put, List.setIfInBounds_toArray, List.set_cons_zero, List.set_cons_succ]
        refine wpAnyH_take (i := 3) (v := .agg (bys x).toArray) rfl (by kernel_rfl) (by kernel_rfl) (by kernel_rfl) (fun _ _ _ h => h) (yieldsIf_load_mid (by rfl) _ _ rfl g (off + k * 32) rfl (bys x) _ (fun W h => fun jj u hu => Kept.cellOf h (hrg jj u hu) (by simp)) Tryz.underlying25 rfl hxl) h0 ?_
        try simp only [List.getElem_toArray, List.getElem_cons_zero, List.getElem_cons_succ, Act.put, List.setIfInBounds_toArray, List.set_cons_zero, List.set_cons_succ]
        refine wpAnyH_take (i := 4) (v := .agg (bys q).toArray) rfl (by kernel_rfl) (by kernel_rfl) (by kernel_rfl) (fun _ _ _ h => h) (yieldsIf_load_mid (by rfl) _ _ rfl bx (0) rfl (bys q) _ (fun W h => fun jj u hu => Kept.cellOf h (hrq jj u hu) (by simp)) Tryz.underlying25 rfl hql) h0 ?_
        try simp only [List.getElem_toArray, List.getElem_cons_zero, List.getElem_cons_succ, Act.put, List.setIfInBounds_toArray, List.set_cons_zero, List.set_cons_succ]
        refine wpAnyH_take (i := 5) (v := .bool true) rfl (by kernel_rfl) (by kernel_rfl) (by kernel_rfl) (fun _ _ _ h => h) (Or.inl ⟨by rfl, fun w hSw => by have c0 := heq w; go_simp⟩) h0 ?_
        try simp only [List.getElem_toArray, List.getElem_cons_zero, List.getElem_cons_succ, Act.put, List.setIfInBounds_toArray, List.set_cons_zero, List.set_cons_succ]
        refine wpAnyH_done (by kernel_rfl) ?_ _
        have HKF := hide ((HK1.out.trans HP.out.1 (by simp)).trans h0 (by simp))
        clear h0 heq hrg hrq
        go_wp2
        go_ret
        exact ⟨k, rfl, hlt, by rw [HXE.out, HE.out], HKF.out⟩
      · have heq : ∀ W, (Op.equalIn 10000 25 (.agg (bys x).toArray) (.agg (bys q).toArray)).run Tryz.prog W = .ok false W := fun W => by rw [heqx W, decide_eq_false hxy]
        have HNE := hide hxy
        clear heqx hxy
        go_upto_region 4 with (fail)
        refine wp_region_held_drew (S := fun w' => Kept [] wr w') (by kernel_rfl) ((Kept.refl [] wr).drew) (fun h0 => ?_)
        generalize World.drew wr = v0 at h0  ⊢
        refine wpAnyH_take (i := 0) (v := .slice (some ⟨g, off, none⟩) n c) rfl (by kernel_rfl) (by kernel_rfl) (by kernel_rfl) (fun _ _ _ h => h) (Or.inl ⟨by rfl, fun w hSw => by go_simp⟩) h0 ?_
        try simp only [List.getElem_toArray, List.getElem_cons_zero, List.getElem_cons_succ, Act.put, List.setIfInBounds_toArray, List.set_cons_zero, List.set_cons_succ]
        refine wpAnyH_take (i := 1) (v := .int .i64 k) rfl (by kernel_rfl) (by kernel_rfl) (by kernel_rfl) (fun _ _ _ h => h) (Or.inl ⟨by rfl, fun w hSw => by go_simp⟩) h0 ?_
        try simp only [List.getElem_toArray, List.getElem_cons_zero, List.getElem_cons_succ, Act.put, List.setIfInBounds_toArray, List.set_cons_zero, List.set_cons_succ]
        refine wpAnyH_take (i := 2) (v := .pointer (some ⟨g, off + k * 32, none⟩)) rfl (by kernel_rfl) (by kernel_rfl) (by kernel_rfl) (fun _ _ _ h => h) (Or.inl ⟨by rfl, fun w hSw => by go_simp⟩) h0 ?_
        try simp only [List.getElem_toArray, List.getElem_cons_zero, List.getElem_cons_succ, Act.put, List.setIfInBounds_toArray, List.set_cons_zero, List.set_cons_succ]
        refine wpAnyH_take (i := 3) (v := .agg (bys x).toArray) rfl (by kernel_rfl) (by kernel_rfl) (by kernel_rfl) (fun _ _ _ h => h) (yieldsIf_load_mid (by rfl) _ _ rfl g (off + k * 32) rfl (bys x) _ (fun W h => fun jj u hu => Kept.cellOf h (hrg jj u hu) (by simp)) Tryz.underlying25 rfl hxl) h0 ?_
        try simp only [List.getElem_toArray, List.getElem_cons_zero, List.getElem_cons_succ, Act.put, List.setIfInBounds_toArray, List.set_cons_zero, List.set_cons_succ]
        refine wpAnyH_take (i := 4) (v := .agg (bys q).toArray) rfl (by kernel_rfl) (by kernel_rfl) (by kernel_rfl) (fun _ _ _ h => h) (yieldsIf_load_mid (by rfl) _ _ rfl bx (0) rfl (bys q) _ (fun W h => fun jj u hu => Kept.cellOf h (hrq jj u hu) (by simp)) Tryz.underlying25 rfl hql) h0 ?_
        try simp only [List.getElem_toArray, List.getElem_cons_zero, List.getElem_cons_succ, Act.put, List.setIfInBounds_toArray, List.set_cons_zero, List.set_cons_succ]
        refine wpAnyH_take (i := 5) (v := .bool false) rfl (by kernel_rfl) (by kernel_rfl) (by kernel_rfl) (fun _ _ _ h => h) (Or.inl ⟨by rfl, fun w hSw => by have c0 := heq w; go_simp⟩) h0 ?_
        try simp only [List.getElem_toArray, List.getElem_cons_zero, List.getElem_cons_succ, Act.put, List.setIfInBounds_toArray, List.set_cons_zero, List.set_cons_succ]
        refine wpAnyH_done (by kernel_rfl) ?_ _
        have HKF : Hid (Kept [] w1 v0 ∧ ∀ z, z < k + 1 → A.getD z [] ≠ q) := hide ⟨HP.out.1.trans h0 (by simp), fun z hz => by
          by_cases e : z = k
          · rw [e, HXE.out]; exact HNE.out
          · exact HP.out.2 z (by omega)⟩
        clear h0 heq hrg hrq
        go_wp2
        go_roundw
        case rel => exact ⟨k + 1, by omega, by go_num, HKF⟩
        case measure => simp [intOf]; omega
    · exfalso
      obtain ⟨z, hz, e⟩ := List.getElem_of_mem HIN.out
      refine HP.out.2 z (by have := HN.out; omega) ?_
      rw [← e]
      simp [List.getElem?_eq_getElem hz]
end Go.Proofs.YtngaimahhgmciaaGreatDoor
