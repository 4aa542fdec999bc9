/-
  freightlaw9.at of any id; freightlaw9.add. (Written by tools/q9m.py.)
-/
import Derived.Test.YtngaimahhgmciaaGreatDoorQ9lp
namespace Go.Proofs.YtngaimahhgmciaaGreatDoor
open Go.RowKit Go.Lib Go.Sort
set_option linter.unusedVariables false
set_option linter.unusedSimpArgs false

set_option maxHeartbeats 3200000 in
set_option maxRecDepth 100000 in
/-- at, of any id. -/
theorem at9_any (ao : Option Addr) (n c : Nat) (A : List (List UInt8)) (q : List UInt8) (w : World) (hA : A.length = n) (iA : Ids w ao A) (hq : q.length = 32) (hn : n ≤ 9223372036854775807) :
    Calls Tryz.prog 28 #[.slice ao n c, .agg (bys q).toArray] w fun e w' => ((q ∈ A ∧ ∃ k : Nat, e = .returned (.int .i64 k)) ∨ (q ∉ A ∧ e = .returned (.int .i64 (-1)))) ∧ Kept [] w w' := by
  obtain ⟨w1, hw1⟩ : ∃ w1, w1 = w.alloc (.cells (bys q).toArray 25) := ⟨_, rfl⟩
  have hk1 : Kept [] w w1 := by rw [hw1]; exact (Kept.refl [] w).alloc _
  have hrx : w1.rangeAt w.heap.size 0 (bys q) := by rw [hw1]; exact row_rangeK (new_atK _ _)
  have HRX := hide hrx
  have HK1 := hide hk1
  have HA := hide (iA.kept hk1 (fun _ _ _ => by simp))
  have HN := hide hA
  have hql := idl q hq
  clear hrx hk1 iA hA
  go_enter Tryz.func28, Tryz.ntmps28
  go_upto_region 1 with (fail)
  rw [← hw1]
  clear hw1
  generalize w.heap.size = bx at HRX ⊢
  go_wp2
  go_loopw [5] (fun x wr => ∃ k : Nat, k ≤ n ∧ x = .int .i64 k ∧ Hid (Kept [] w1 wr ∧ ∀ z, z < k → A.getD z [] ≠ q)) (fun x wr => n - (intOf x).toNat)
  case atStart => exact ⟨0, by omega, rfl, hide ⟨Kept.refl _ _, fun z hz => by omega⟩⟩
  case round =>
    obtain ⟨k, hk, rfl, HP⟩ := hrel
    by_cases hlt : k < n
    · have hkA : k < A.length := by rw [HN.out]; exact hlt
      obtain ⟨g, off, rfl, hrg⟩ := (HA.out.kept HP.out.1 (fun _ _ _ => by simp)).1 k hkA
      have hx : (A.getD k []).length = 32 := HA.out.2 _ (gmem9 hkA)
      obtain ⟨x, hxe⟩ : ∃ x, A.getD k [] = x := ⟨_, rfl⟩
      have HXE := hide hxe
      rw [hxe] at hrg hx
      have hxl := idl x hx
      have hrq : wr.rangeAt bx 0 (bys q) := fun jj u hu => HP.out.1.cellOf (HRX.out jj u hu) (by simp)
      have heqx : ∀ W, (Op.equalIn 10000 25 (.agg (bys x).toArray) (.agg (bys q).toArray)).run Tryz.prog W = .ok (decide (x = q)) W := fun W => Tryz.eqlID x q hx hq W
      have hlt1 : (k : Int) < (n : Int) := by omega
      clear hxe hkA
      by_cases hxy : x = q
      · have heq : ∀ W, (Op.equalIn 10000 25 (.agg (bys x).toArray) (.agg (bys q).toArray)).run Tryz.prog W = .ok true W := fun W => by rw [heqx W, decide_eq_true hxy]
        have HE := hide hxy
        clear heqx hxy
        go_upto_region 4 with (fail)
        refine wp_region_held_drew (S := fun w' => Kept [] wr w') (by kernel_rfl) ((Kept.refl [] wr).drew) (fun h0 => ?_)
        generalize World.drew wr = v0 at h0  ⊢
        refine wpAnyH_take (i := 0) (v := .slice (some ⟨g, off, none⟩) n c) rfl (by kernel_rfl) (by kernel_rfl) (by kernel_rfl) (fun _ _ _ h => h) (Or.inl ⟨by rfl, fun w hSw => by go_simp⟩) h0 ?_
        try simp only [List.getElem_toArray, List.getElem_cons_zero, List.getElem_cons_succ, Act.put, List.setIfInBounds_toArray, List.set_cons_zero, List.set_cons_succ]
        refine wpAnyH_take (i := 1) (v := .int .i64 k) rfl (by kernel_rfl) (by kernel_rfl) (by kernel_rfl) (fun _ _ _ h => h) (Or.inl ⟨by rfl, fun w hSw => by go_simp⟩) h0 ?_
        try simp only [List.getElem_toArray, List.getElem_cons_zero, List.getElem_cons_succ, Act.put, List.setIfInBounds_toArray, List.set_cons_zero, List.set_cons_succ]
        refine wpAnyH_take (i := 2) (v := .pointer (some ⟨g, off + k * 32, none⟩)) rfl (by kernel_rfl) (by kernel_rfl) (by kernel_rfl) (fun _ _ _ h => h) (Or.inl ⟨by rfl, fun w hSw => by go_simp⟩) h0 ?_
        try simp only [List.getElem_toArray, List.getElem_cons_zero, List.getElem_cons_succ, Act.put, List.setIfInBounds_toArray, List.set_cons_zero, List.set_cons_succ]
        refine wpAnyH_take (i := 3) (v := .agg (bys x).toArray) rfl (by kernel_rfl) (by kernel_rfl) (by kernel_rfl) (fun _ _ _ h => h) (yieldsIf_load_mid (by rfl) _ _ rfl g (off + k * 32) rfl (bys x) _ (fun W h => fun jj u hu => Kept.cellOf h (hrg jj u hu) (by simp)) Tryz.underlying25 rfl hxl) h0 ?_
        try simp only [List.getElem_toArray, List.getElem_cons_zero, List.getElem_cons_succ, Act.put, List.setIfInBounds_toArray, List.set_cons_zero, List.set_cons_succ]
        refine wpAnyH_take (i := 4) (v := .agg (bys q).toArray) rfl (by kernel_rfl) (by kernel_rfl) (by kernel_rfl) (fun _ _ _ h => h) (yieldsIf_load_mid (by rfl) _ _ rfl bx (0) rfl (bys q) _ (fun W h => fun jj u hu => Kept.cellOf h (hrq jj u hu) (by simp)) Tryz.underlying25 rfl hql) h0 ?_
        try simp only [List.getElem_toArray, List.getElem_cons_zero, List.getElem_cons_succ, Act.put, List.setIfInBounds_toArray, List.set_cons_zero, List.set_cons_succ]
        refine wpAnyH_take (i := 5) (v := .bool true) rfl (by kernel_rfl) (by kernel_rfl) (by kernel_rfl) (fun _ _ _ h => h) (Or.inl ⟨by rfl, fun w hSw => by have c0 := heq w; go_simp⟩) h0 ?_
        try simp only [List.getElem_toArray, List.getElem_cons_zero, List.getElem_cons_succ, Act.put, List.setIfInBounds_toArray, List.set_cons_zero, List.set_cons_succ]
        refine wpAnyH_done (by kernel_rfl) ?_ _
        have HKF := hide ((HK1.out.trans HP.out.1 (by simp)).trans h0 (by simp))
        clear h0 heq hrg hrq
        go_wp2
        go_ret
        exact ⟨.inl ⟨by rw [← HE.out, ← HXE.out]; exact gmem9 (by rw [HN.out]; exact hlt), k, rfl⟩, HKF.out⟩
      · have heq : ∀ W, (Op.equalIn 10000 25 (.agg (bys x).toArray) (.agg (bys q).toArray)).run Tryz.prog W = .ok false W := fun W => by rw [heqx W, decide_eq_false hxy]
        have HNE := hide hxy
        clear heqx hxy
        go_upto_region 4 with (fail)
        refine wp_region_held_drew (S := fun w' => Kept [] wr w') (by kernel_rfl) ((Kept.refl [] wr).drew) (fun h0 => ?_)
        generalize World.drew wr = v0 at h0  ⊢
        refine wpAnyH_take (i := 0) (v := .slice (some ⟨g, off, none⟩) n c) rfl (by kernel_rfl) (by kernel_rfl) (by kernel_rfl) (fun _ _ _ h => h) (Or.inl ⟨by rfl, fun w hSw => by go_simp⟩) h0 ?_
        try simp only [List.getElem_toArray, List.getElem_cons_zero, List.getElem_cons_succ, Act.put, List.setIfInBounds_toArray, List.set_cons_zero, List.set_cons_succ]
        refine wpAnyH_take (i := 1) (v := .int .i64 k) rfl (by kernel_rfl) (by kernel_rfl) (by kernel_rfl) (fun _ _ _ h => h) (Or.inl ⟨by rfl, fun w hSw => by go_simp⟩) h0 ?_
        try simp only [List.getElem_toArray, List.getElem_cons_zero, List.getElem_cons_succ, Act.put, List.setIfInBounds_toArray, List.set_cons_zero, List.set_cons_succ]
        refine wpAnyH_take (i := 2) (v := .pointer (some ⟨g, off + k * 32, none⟩)) rfl (by kernel_rfl) (by kernel_rfl) (by kernel_rfl) (fun _ _ _ h => h) (Or.inl ⟨by rfl, fun w hSw => by go_simp⟩) h0 ?_
        try simp only [List.getElem_toArray, List.getElem_cons_zero, List.getElem_cons_succ, Act.put, List.setIfInBounds_toArray, List.set_cons_zero, List.set_cons_succ]
        refine wpAnyH_take (i := 3) (v := .agg (bys x).toArray) rfl (by kernel_rfl) (by kernel_rfl) (by kernel_rfl) (fun _ _ _ h => h) (yieldsIf_load_mid (by rfl) _ _ rfl g (off + k * 32) rfl (bys x) _ (fun W h => fun jj u hu => Kept.cellOf h (hrg jj u hu) (by simp)) Tryz.underlying25 rfl hxl) h0 ?_
        try simp only [List.getElem_toArray, List.getElem_cons_zero, List.getElem_cons_succ, Act.put, List.setIfInBounds_toArray, List.set_cons_zero, List.set_cons_succ]
        refine wpAnyH_take (i := 4) (v := .agg (bys q).toArray) rfl (by kernel_rfl) (by kernel_rfl) (by kernel_rfl) (fun _ _ _ h => h) (yieldsIf_load_mid (by rfl) _ _ rfl bx (0) rfl (bys q) _ (fun W h => fun jj u hu => Kept.cellOf h (hrq jj u hu) (by simp)) Tryz.underlying25 rfl hql) h0 ?_
        try simp only [List.getElem_toArray, List.getElem_cons_zero, List.getElem_cons_succ, Act.put, List.setIfInBounds_toArray, List.set_cons_zero, List.set_cons_succ]
        refine wpAnyH_take (i := 5) (v := .bool false) rfl (by kernel_rfl) (by kernel_rfl) (by kernel_rfl) (fun _ _ _ h => h) (Or.inl ⟨by rfl, fun w hSw => by have c0 := heq w; go_simp⟩) h0 ?_
        try simp only [List.getElem_toArray, List.getElem_cons_zero, List.getElem_cons_succ, Act.put, List.setIfInBounds_toArray, List.set_cons_zero, List.set_cons_succ]
        refine wpAnyH_done (by kernel_rfl) ?_ _
        have HKF : Hid (Kept [] w1 v0 ∧ ∀ z, z < k + 1 → A.getD z [] ≠ q) := hide ⟨HP.out.1.trans h0 (by simp), fun z hz => by
          by_cases e : z = k
          · rw [e, HXE.out]; exact HNE.out
          · exact HP.out.2 z (by omega)⟩
        clear h0 heq hrg hrq
        go_wp2
        go_roundw
        case rel => exact ⟨k + 1, by omega, by go_num, HKF⟩
        case measure => simp [intOf]; omega
    · obtain rfl : k = n := by omega
      have hlt1 : ¬ (k : Int) < (k : Int) := by omega
      have HKF := hide (HK1.out.trans HP.out.1 (by simp))
      go_wp2
      go_ret
      refine ⟨.inr ⟨fun hin => ?_, rfl⟩, HKF.out⟩
      obtain ⟨z, hz, e⟩ := List.getElem_of_mem hin
      refine HP.out.2 z (by have := HN.out; omega) ?_
      rw [← e]
      simp [List.getElem?_eq_getElem hz]

theorem wpList_app_run9m {P : Program} {ops : Array Oper} {rest : List Oper} {o : Oper} {a : Act} {w : World} {Q : Exit → Act → World → Prop} (hg : o.guard = none) (s x : Operand) (t t2 : TypeId) (ho : o.op = .call { callee := .builtin .append, args := #[s, x], argTypes := #[t, t2] }) (vs vx : Value) (hs : a.eval s = vs) (hx : a.eval x = vx) (v' : Value) (w' : World)
    (hrun : (Builtin.append_ #[t, t2] o.type #[vs, vx]).run P w = .ok v' w') (hK : wpList P ops Q rest (a.put o.dst v') w') : wpList P ops Q (o :: rest) a w :=
  wpList_plain hg fun K' hK' => wp_append_run s x t t2 ho vs vx hs hx v' w' hrun (hK' _ _ hK)

/-- An id more, if it is not there. -/
def addI (A : List (List UInt8)) (q : List UInt8) : List (List UInt8) := if q ∈ A then A else A ++ [q]
theorem mem_addI {A : List (List UInt8)} {q p : List UInt8} : p ∈ addI A q ↔ p ∈ A ∨ p = q := by
  unfold addI
  by_cases h : q ∈ A
  · rw [if_pos h]; exact ⟨.inl, fun h1 => h1.elim id (fun e => e ▸ h)⟩
  · rw [if_neg h]; simp
theorem nodup_addI {A : List (List UInt8)} {q : List UInt8} (h : A.Nodup) : (addI A q).Nodup := by
  unfold addI
  by_cases hq : q ∈ A
  · rw [if_pos hq]; exact h
  · rw [if_neg hq, List.nodup_append]
    exact ⟨h, by simp, fun a ha b hb e => hq (by simp at hb; rw [← hb, ← e]; exact ha)⟩
set_option maxHeartbeats 3200000 in
set_option maxRecDepth 100000 in
theorem add9_ok (base : Nat) (ao : Option Addr) (n c : Nat) (A : List (List UInt8)) (q : List UInt8) (w : World) (ho : OwnI w base (.slice ao n c) A) (hA : A.length = n) (hb : base ≤ w.heap.size) (hq : q.length = 32) (hl : (n + 1) * 32 ≤ 140737488355328) :
    Calls Tryz.prog 27 #[.slice ao n c, .agg (bys q).toArray] w fun e w' => ∃ v, e = .returned v ∧ OwnI w' base v (addI A q) ∧ Kept (Value.slice ao n c).ownBlock.toList w w' := by
  obtain ⟨w1, hw1⟩ : ∃ w1, w1 = w.alloc (.cells (bys q).toArray 25) := ⟨_, rfl⟩
  have hk1 : Kept [] w w1 := by rw [hw1]; exact (Kept.refl [] w).alloc _
  have hrx : w1.rangeAt w.heap.size 0 (bys q) := by rw [hw1]; exact row_rangeK (new_atK _ _)
  have HRX := hide hrx
  have HK1 := hide hk1
  have HO := hide (ho.kept hk1 (fun _ _ => by simp))
  have HB := hide (Nat.le_trans hb hk1.size)
  have HN := hide hA
  have hql := idl q hq
  have hat := at9_any ao n c A q w1 hA HO.out.ids.1 hq (by omega)
  clear hk1 ho hA hb
  by_cases hin : q ∈ A
  · have HIN := hide hin
    have hat1 : Calls Tryz.prog 28 #[.slice ao n c, .agg (bys q).toArray] w1 fun e w' => ∃ k : Nat, e = .returned (.int .i64 k) ∧ Kept [] w1 w' := hat.mono (fun e w' h => by
      rcases h with ⟨⟨_, k, e⟩ | ⟨h1, _⟩, hk⟩
      · exact ⟨k, e, hk⟩
      · exact absurd HIN.out h1)
    clear hat hin
    go_enter Tryz.func27, Tryz.ntmps27
    go_upto_region 1 with (fail)
    rw [← hw1]
    clear hw1
    generalize w.heap.size = bx at hrx HRX ⊢
    go_wp2_with (first
      | refine wpList_load_mid rfl 25 (.tmp 3) rfl bx 0 rfl (bys q) _ hrx Tryz.underlying25 rfl hql ?_
      | (go_at_call 28; refine hat1.mono ?_; rintro e w2 ⟨k, rfl, hk2⟩; have HK2 := hide hk2; have hkk : (0 : Int) ≤ (k : Int) := Int.natCast_nonneg k; clear hat1 hk2))
    go_ret
    refine ⟨_, rfl, ?_, (HK1.out.trans HK2.out (by simp)).mono (by simp)⟩
    unfold addI
    rw [if_pos HIN.out]
    exact HO.out.kept HK2.out (fun _ _ => by simp)
  · have HIN := hide hin
    have hat1 : Calls Tryz.prog 28 #[.slice ao n c, .agg (bys q).toArray] w1 fun e w' => e = .returned (.int .i64 (-1)) ∧ Kept [] w1 w' := hat.mono (fun e w' h => by
      rcases h with ⟨⟨h1, _⟩ | ⟨_, e⟩, hk⟩
      · exact absurd h1 HIN.out
      · exact ⟨e, hk⟩)
    clear hat hin
    go_enter Tryz.func27, Tryz.ntmps27
    go_upto_region 1 with (fail)
    rw [← hw1]
    clear hw1
    generalize w.heap.size = bx at hrx HRX ⊢
    go_upto_region 3 with (first
      | refine wpList_load_mid rfl 25 (.tmp 3) rfl bx 0 rfl (bys q) _ hrx Tryz.underlying25 rfl hql ?_
      | (go_at_call 28; refine hat1.mono ?_; rintro e w2 ⟨rfl, hk2⟩; have HK2 := hide hk2; clear hat1 hk2))
    have ka : Kept [] w2 (w2.alloc (.cells (bys q).toArray 25)) := (Kept.refl [] w2).alloc _
    have hrx2 : w2.rangeAt bx 0 (bys q) := fun jj u hu => HK2.out.cellOf (HRX.out jj u hu) (by simp)
    obtain ⟨v', w', hrun, h1, h2, _⟩ := run_appI (((HO.out.kept HK2.out (fun _ _ => by simp)).kept ka (fun _ _ => by simp))) (Nat.le_trans (Nat.le_trans HB.out HK2.out.size) ka.size) q hq w2.heap.size (new_atK _ _) (by rw [HN.out]; exact hl)
    have h3 := h2 (Value.slice ao n c).ownBlock.toList (fun g hg => by simp [hg])
    have H9 := hide (And.intro h1 ((((HK1.out.trans HK2.out (by simp)).trans ka (by simp)).mono (by simp)).trans h3 (fun _ h _ => h)))
    clear h1 h2 h3 ka hrx
    go_wp2_with (first
      | refine wpList_load_mid rfl 25 (.tmp 3) rfl bx 0 rfl (bys q) _ hrx2 Tryz.underlying25 rfl hql ?_
      | refine wpList_buildI rfl (.tmp 11) rfl q rfl hq ?_
      | (at_builtin; refine wpList_app_run9m rfl (.tmp 10) (.tmp 12) 35 35 rfl (.slice ao n c) (.slice (some ⟨w2.heap.size, 0, none⟩) 1 1) rfl rfl _ _ hrun ?_))
    go_ret
    refine ⟨_, rfl, ?_, H9.out.2⟩
    unfold addI
    rw [if_neg HIN.out]
    exact H9.out.1
end Go.Proofs.YtngaimahhgmciaaGreatDoor
