/-
  Need and Lacks where nothing is there; freightlaw9.at. (Written by tools/q9l.py.)
-/
import Derived.Test.YtngaimahhgmciaaGreatDoorQlap
import Derived.Test.YtngaimahhgmciaaGreatDoorQ9np
import Derived.Test.YtngaimahhgmciaaGreatDoorQpcp
namespace Go.Proofs.YtngaimahhgmciaaGreatDoor
open Go.RowKit Go.Lib Go.Sort
set_option linter.unusedVariables false
set_option linter.unusedSimpArgs false

/-- A source in which nothing is: nil, a nil Map, a Map without ids (that of w2). -/
def NoS (w2 : World) (bm : Nat) (w : World) (sv : Value) : Prop := sv = .nilIface ∨ sv = .iface 33 (.map none) ∨ (sv = .iface 33 (.map (some bm)) ∧ w.heap[bm]? = w2.heap[bm]?)
theorem std_void9 {w2 : World} {bm : Nat} (him : Im w2 bm [] []) (hgb : 4 ≤ bm) : Std (.map (some bm)) [] (fun b => b = bm) (fun W => W.heap[bm]? = w2.heap[bm]?) where
  isM := ⟨_, rfl⟩
  keep h hk := (hk bm rfl).trans h
  at_ h := .inr ⟨bm, [], rfl, ⟨Im.same him h, fun j hj => absurd hj (by simp)⟩⟩
  off b hb e := by omega
theorem mpf_void (q : List UInt8) : mpf [] q = .lack := rfl
theorem kept_of9 {w w' : World} {bm : Nat} {w2 : World} (hk : Kp (fun b => b = bm) w w') (h1 : w.heap[bm]? = w2.heap[bm]?) (h2 : w'.heap[bm]? = w2.heap[bm]?) : Kept [] w w' :=
  ⟨hk.os, hk.tape, hk.output, hk.size, fun i hi _ => by
    by_cases e : i = bm
    · rw [e, h2, h1]
    · exact hk.block i hi e⟩
theorem kept_of90 {w w' : World} (hk : Kp (fun _ => False) w w') : Kept [] w w' := ⟨hk.os, hk.tape, hk.output, hk.size, fun i hi _ => hk.block i hi (fun h => h)⟩
/-- What Need tells of them. -/
def NnE (w : World) (RL : List Rz) (e : Ending) (w' : World) : Prop := Kept [] w w' ∧
  ((RL = [] ∧ ∃ ao c, e = .returned (.tuple #[.slice ao 0 c, .nilIface])) ∨
   (RL ≠ [] ∧ ∃ eb, e = .returned (.tuple #[.slice none 0 0, faultV eb]) ∧ FltAt w' eb opNeed ((canon (RL.map (·.root))).getD 0 []) (.iface 57 (.int .i64 102))))
def NlE (w : World) (RL : List Rz) (e : Ending) (w' : World) : Prop := Kept [] w w' ∧ ∃ ao c, e = .returned (.tuple #[.slice ao (canon (RL.map (·.root))).length c, .nilIface]) ∧ OwnI w' w.heap.size (.slice ao (canon (RL.map (·.root))).length c) (canon (RL.map (·.root)))
theorem nne_of {o1 : Nat → Prop} {St : World → Prop} {RL : List Rz} {w w' : World} {e : Ending} (h : NdM o1 St [] (RL.map (·.root)) w e w') (hk : Kept [] w w') : NnE w RL e w' := by
  have ht := none_tells mpf_void (walk_sem (mpf_nofail []) [] (RL.map (·.root)))
  obtain ⟨v, ev, rfl, hE⟩ := h.tup
  obtain ⟨r, hr⟩ : ∃ r, walkW (mpf []) [] (RL.map (·.root)) = r := ⟨_, rfl⟩
  rw [hr] at ht hE
  obtain ⟨t1, t2, t3, t4⟩ := ht
  refine ⟨hk, ?_⟩
  by_cases hR : RL = []
  · have hL : r.2.1.L = [] := by
      cases hl : r.2.1.L with
      | nil => rfl
      | cons a l => rw [hR] at t1; exact absurd t1 (canon_ne (by rw [hl]; simp))
    rcases hE with ⟨_, rfl, ho⟩ | ⟨cd, i, eb, h2, _⟩
    · obtain ⟨ao, c, e, _⟩ := own_shape ho.1
      refine .inl ⟨hR, ao, c, ?_⟩
      rw [e, t4, hR]
      rfl
    · exfalso
      rw [show picks r.2.1.B r.2.2 r.2.1.L = none by unfold picks; rw [if_neg (by simp [t2]), if_neg (by simp [t3]), if_neg (by simp [hL])]] at h2
      cases h2
  · have hL : r.2.1.L ≠ [] := by
      intro hl
      rw [canon_nil hl] at t1
      exact canon_ne (l := RL.map (·.root)) (by simpa using hR) t1.symm
    have hp : picks r.2.1.B r.2.2 r.2.1.L = some (102, (canon (RL.map (·.root))).getD 0 []) := by unfold picks; rw [if_neg (by simp [t2]), if_neg (by simp [t3]), if_pos hL, t1]
    rcases hE with ⟨h2, _⟩ | ⟨cd, i, eb, h2, rfl, rfl, hf, _⟩
    · rw [hp] at h2; cases h2
    · rw [hp] at h2
      injection h2 with h2
      injection h2 with h2 h3
      subst h2
      subst h3
      exact .inr ⟨hR, eb, rfl, hf⟩
theorem nle_of {o1 : Nat → Prop} {St : World → Prop} {RL : List Rz} {w w' : World} {e : Ending} (h : LkM o1 St [] (RL.map (·.root)) w e w') (hk : Kept [] w w') : NlE w RL e w' := by
  have ht := none_tells mpf_void (walk_sem (mpf_nofail []) [] (RL.map (·.root)))
  obtain ⟨v, rfl, ho⟩ := h.ans
  rw [ht.1] at ho
  obtain ⟨ao, c, e, _⟩ := own_shape ho.1
  subst e
  exact ⟨hk, ao, c, rfl, ho⟩
section
variable {w2 w : World} {bm : Nat} {sv : Value} {ra : Option Addr} {rn rc : Nat} {RL : List Rz}
theorem nneed9_ok (him : Im w2 bm [] []) (hgb : 4 ≤ bm) (hsv : NoS w2 bm w sv) (gl : GlE w) (tabs : Tabs w) (hR : InZ w ra rn rc RL) (hn : rn ≤ 4398046511104) :
    Calls Tryz.prog 19 #[sv, .slice ra rn rc] w fun e w' => NnE w RL e w' := by
  rcases hsv with rfl | rfl | ⟨rfl, hb⟩
  · exact (need_nil9 gl tabs ra rn rc RL hR.len hR.rss hn hR.far).mono (fun e w' h => nne_of h (kept_of90 h.kp))
  · exact (need9_ok std_nil9 trivial (fun _ h => h.elim) gl tabs ra rn rc RL hR.len hR.rss (by simp only [List.length_nil]; omega) hR.far).mono (fun e w' h => nne_of h (kept_of90 h.kp))
  · exact (need9_ok (std_void9 him hgb) hb (fun b h => by subst h; exact (Im.same him hb).lt) gl tabs ra rn rc RL hR.len hR.rss (by simp only [List.length_nil]; omega) hR.far).mono (fun e w' h => nne_of h (kept_of9 h.kp hb h.st))
theorem nlacks9_ok (him : Im w2 bm [] []) (hgb : 4 ≤ bm) (hsv : NoS w2 bm w sv) (gl : GlE w) (tabs : Tabs w) (hR : InZ w ra rn rc RL) (hn : rn ≤ 4398046511104) :
    Calls Tryz.prog 20 #[sv, .slice ra rn rc] w fun e w' => NlE w RL e w' := by
  rcases hsv with rfl | rfl | ⟨rfl, hb⟩
  · exact (lacks_nil9 gl tabs ra rn rc RL hR.len hR.rss hn hR.far).mono (fun e w' h => nle_of h (kept_of90 h.kp))
  · exact (lacks9_ok std_nil9 trivial (fun _ h => h.elim) gl tabs ra rn rc RL hR.len hR.rss (by simp only [List.length_nil]; omega) hR.far).mono (fun e w' h => nle_of h (kept_of90 h.kp))
  · exact (lacks9_ok (std_void9 him hgb) hb (fun b h => by subst h; exact (Im.same him hb).lt) gl tabs ra rn rc RL hR.len hR.rss (by simp only [List.length_nil]; omega) hR.far).mono (fun e w' h => nle_of h (kept_of9 h.kp hb h.st))
end

set_option maxHeartbeats 3200000 in
set_option maxRecDepth 100000 in
/-- at, of an id that is there. -/
theorem at9_ok (ao : Option Addr) (n c : Nat) (A : List (List UInt8)) (q : List UInt8) (w : World) (hA : A.length = n) (iA : Ids w ao A) (hq : q.length = 32) (hin : q ∈ A) (hn : n ≤ 9223372036854775807) :
    Calls Tryz.prog 28 #[.slice ao n c, .agg (bys q).toArray] w fun e w' => ∃ k : Nat, e = .returned (.int .i64 k) ∧ Kept [] w w' := by
  obtain ⟨w1, hw1⟩ : ∃ w1, w1 = w.alloc (.cells (bys q).toArray 25) := ⟨_, rfl⟩
  have hk1 : Kept [] w w1 := by rw [hw1]; exact (Kept.refl [] w).alloc _
  have hrx : w1.rangeAt w.heap.size 0 (bys q) := by rw [hw1]; exact row_rangeK (new_atK _ _)
  have HRX := hide hrx
  have HK1 := hide hk1
  have HA := hide (iA.kept hk1 (fun _ _ _ => by simp))
  have HN := hide hA
  have HIN := hide hin
  have hql := idl q hq
  clear hrx hk1 iA hA hin
  go_enter Tryz.func28, Tryz.ntmps28
  go_upto_region 1 with (fail)
  rw [← hw1]
  clear hw1
  generalize w.heap.size = bx at HRX ⊢
  go_wp2
  go_loopw [5] (fun x wr => ∃ k : Nat, k ≤ n ∧ x = .int .i64 k ∧ Hid (Kept [] w1 wr ∧ ∀ z, z < k → A.getD z [] ≠ q)) (fun x wr => n - (intOf x).toNat)
  case atStart => exact ⟨0, by omega, rfl, hide ⟨Kept.refl _ _, fun z hz => by omega⟩⟩
  case round =>
    obtain ⟨k, hk, rfl, HP⟩ := hrel
    by_cases hlt : k < n
    · have hkA : k < A.length := by rw [HN.out]; exact hlt
      obtain ⟨g, off, rfl, hrg⟩ := (HA.out.kept HP.out.1 (fun _ _ _ => by simp)).1 k hkA
      have hx : (A.getD k []).length = 32 := HA.out.2 _ (gmem9 hkA)
      obtain ⟨x, hxe⟩ : ∃ x, A.getD k [] = x := ⟨_, rfl⟩
      have HXE := hide hxe
      rw [hxe] at hrg hx
      have hxl := idl x hx
      have hrq : wr.rangeAt bx 0 (bys q) := fun jj u hu => HP.out.1.cellOf (HRX.out jj u hu) (by simp)
      have heqx : ∀ W, (Op.equalIn 10000 25 (.agg (bys x).toArray) (.agg (bys q).toArray)).run Tryz.prog W = .ok (decide (x = q)) W := fun W => Tryz.eqlID x q hx hq W
      have hlt1 : (k : Int) < (n : Int) := by omega
      clear hxe hkA
      by_cases hxy : x = q
      · have heq : ∀ W, (Op.equalIn 10000 25 (.agg (bys x).toArray) (.agg (bys q).toArray)).run Tryz.prog W = .ok true W := fun W => by rw [heqx W, decide_eq_true hxy]
        clear heqx hxy
        go_upto_region 4 with (fail)
        refine wp_region_held_drew (S := fun w' => Kept [] wr w') (by kernel_rfl) ((Kept.refl [] wr).drew) (fun h0 => ?_)
        generalize World.drew wr = v0 at h0  ⊢
        refine wpAnyH_take (i := 0) (v := .slice (some ⟨g, off, none⟩) n c) rfl (by kernel_rfl) (by kernel_rfl) (by kernel_rfl) (fun _ _ _ h => h) (Or.inl ⟨by rfl, fun w hSw => by go_simp⟩) h0 ?_
        try simp only [List.getElem_toArray, List.getElem_cons_zero, List.getElem_cons_succ, Act.put, List.setIfInBounds_toArray, List.set_cons_zero, List.set_cons_succ]
        refine wpAnyH_take (i := 1) (v := .int .i64 k) rfl (by kernel_rfl) (by kernel_rfl) (by kernel_rfl) (fun _ _ _ h => h) (Or.inl ⟨by rfl, fun w hSw => by go_simp⟩) h0 ?_
        try simp only [List.getElem_toArray, List.getElem_cons_zero, List.getElem_cons_succ, Act.put, List.setIfInBounds_toArray, List.set_cons_zero, List.set_cons_succ]
        refine wpAnyH_take (i := 2) (v := .pointer (some ⟨g, off + k * 32, none⟩)) rfl (by kernel_rfl) (by kernel_rfl) (by kernel_rfl) (fun _ _ _ h => h) (Or.inl ⟨by rfl, fun w hSw => by go_simp⟩) h0 ?_
        try simp only [List.getElem_toArray, List.getElem_cons_zero, List.getElem_cons_succ, Act.put, List.setIfInBounds_toArray, List.set_cons_zero, List.set_cons_succ]
        refine wpAnyH_take (i := 3) (v := .agg (bys x).toArray) rfl (by kernel_rfl) (by kernel_rfl) (by kernel_rfl) (fun _ _ _ h => h) (yieldsIf_load_mid (by rfl) _ _ rfl g (off + k * 32) rfl (bys x) _ (fun W h => fun jj u hu => Kept.cellOf h (hrg jj u hu) (by simp)) Tryz.underlying25 rfl hxl) h0 ?_
        try simp only [List.getElem_toArray, List.getElem_cons_zero, List.getElem_cons_succ, Act.put, List.setIfInBounds_toArray, List.set_cons_zero, List.set_cons_succ]
        refine wpAnyH_take (i := 4) (v := .agg (bys q).toArray) rfl (by kernel_rfl) (by kernel_rfl) (by kernel_rfl) (fun _ _ _ h => h) (yieldsIf_load_mid (by rfl) _ _ rfl bx (0) rfl (bys q) _ (fun W h => fun jj u hu => Kept.cellOf h (hrq jj u hu) (by simp)) Tryz.underlying25 rfl hql) h0 ?_
        try simp only [List.getElem_toArray, List.getElem_cons_zero, List.getElem_cons_succ, Act.put, List.setIfInBounds_toArray, List.set_cons_zero, List.set_cons_succ]
        refine wpAnyH_take (i := 5) (v := .bool true) rfl (by kernel_rfl) (by kernel_rfl) (by kernel_rfl) (fun _ _ _ h => h) (Or.inl ⟨by rfl, fun w hSw => by have c0 := heq w; go_simp⟩) h0 ?_
        try simp only [List.getElem_toArray, List.getElem_cons_zero, List.getElem_cons_succ, Act.put, List.setIfInBounds_toArray, List.set_cons_zero, List.set_cons_succ]
        refine wpAnyH_done (by kernel_rfl) ?_ _
        have HKF := hide ((HK1.out.trans HP.out.1 (by simp)).trans h0 (by simp))
        clear h0 heq hrg hrq
        go_wp2
        go_ret
        exact ⟨k, rfl, HKF.out⟩
      · have heq : ∀ W, (Op.equalIn 10000 25 (.agg (bys x).toArray) (.agg (bys q).toArray)).run Tryz.prog W = .ok false W := fun W => by rw [heqx W, decide_eq_false hxy]
        have HNE := hide hxy
        clear heqx hxy
        go_upto_region 4 with (fail)
        refine wp_region_held_drew (S := fun w' => Kept [] wr w') (by kernel_rfl) ((Kept.refl [] wr).drew) (fun h0 => ?_)
        generalize World.drew wr = v0 at h0  ⊢
        refine wpAnyH_take (i := 0) (v := .slice (some ⟨g, off, none⟩) n c) rfl (by kernel_rfl) (by kernel_rfl) (by kernel_rfl) (fun _ _ _ h => h) (Or.inl ⟨by rfl, fun w hSw => by go_simp⟩) h0 ?_
        try simp only [List.getElem_toArray, List.getElem_cons_zero, List.getElem_cons_succ, Act.put, List.setIfInBounds_toArray, List.set_cons_zero, List.set_cons_succ]
        refine wpAnyH_take (i := 1) (v := .int .i64 k) rfl (by kernel_rfl) (by kernel_rfl) (by kernel_rfl) (fun _ _ _ h => h) (Or.inl ⟨by rfl, fun w hSw => by go_simp⟩) h0 ?_
        try simp only [List.getElem_toArray, List.getElem_cons_zero, List.getElem_cons_succ, Act.put, List.setIfInBounds_toArray, List.set_cons_zero, List.set_cons_succ]
        refine wpAnyH_take (i := 2) (v := .pointer (some ⟨g, off + k * 32, none⟩)) rfl (by kernel_rfl) (by kernel_rfl) (by kernel_rfl) (fun _ _ _ h => h) (Or.inl ⟨by rfl, fun w hSw => by go_simp⟩) h0 ?_
        try simp only [List.getElem_toArray, List.getElem_cons_zero, List.getElem_cons_succ, Act.put, List.setIfInBounds_toArray, List.set_cons_zero, List.set_cons_succ]
        refine wpAnyH_take (i := 3) (v := .agg (bys x).toArray) rfl (by kernel_rfl) (by kernel_rfl) (by kernel_rfl) (fun _ _ _ h => h) (yieldsIf_load_mid (by rfl) _ _ rfl g (off + k * 32) rfl (bys x) _ (fun W h => fun jj u hu => Kept.cellOf h (hrg jj u hu) (by simp)) Tryz.underlying25 rfl hxl) h0 ?_
        try simp only [List.getElem_toArray, List.getElem_cons_zero, List.getElem_cons_succ, Act.put, List.setIfInBounds_toArray, List.set_cons_zero, List.set_cons_succ]
        refine wpAnyH_take (i := 4) (v := .agg (bys q).toArray) rfl (by kernel_rfl) (by kernel_rfl) (by kernel_rfl) (fun _ _ _ h => h) (yieldsIf_load_mid (by rfl) _ _ rfl bx (0) rfl (bys q) _ (fun W h => fun jj u hu => Kept.cellOf h (hrq jj u hu) (by simp)) Tryz.underlying25 rfl hql) h0 ?_
        try simp only [List.getElem_toArray, List.getElem_cons_zero, List.getElem_cons_succ, Act.put, List.setIfInBounds_toArray, List.set_cons_zero, List.set_cons_succ]
        refine wpAnyH_take (i := 5) (v := .bool false) rfl (by kernel_rfl) (by kernel_rfl) (by kernel_rfl) (fun _ _ _ h => h) (Or.inl ⟨by rfl, fun w hSw => by have c0 := heq w; go_simp⟩) h0 ?_
        try simp only [List.getElem_toArray, List.getElem_cons_zero, List.getElem_cons_succ, Act.put, List.setIfInBounds_toArray, List.set_cons_zero, List.set_cons_succ]
        refine wpAnyH_done (by kernel_rfl) ?_ _
        have HKF : Hid (Kept [] w1 v0 ∧ ∀ z, z < k + 1 → A.getD z [] ≠ q) := hide ⟨HP.out.1.trans h0 (by simp), fun z hz => by
          by_cases e : z = k
          · rw [e, HXE.out]; exact HNE.out
          · exact HP.out.2 z (by omega)⟩
        clear h0 heq hrg hrq
        go_wp2
        go_roundw
        case rel => exact ⟨k + 1, by omega, by go_num, HKF⟩
        case measure => simp [intOf]; omega
    · exfalso
      obtain ⟨z, hz, e⟩ := List.getElem_of_mem HIN.out
      refine HP.out.2 z (by have := HN.out; omega) ?_
      rw [← e]
      simp [List.getElem?_eq_getElem hz]
end Go.Proofs.YtngaimahhgmciaaGreatDoor
