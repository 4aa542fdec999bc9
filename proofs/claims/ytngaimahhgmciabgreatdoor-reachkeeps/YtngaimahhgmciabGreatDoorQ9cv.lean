import Derived.Test.YtngaimahhgmciabGreatDoorNmv
import Derived.Test.YtngaimahhgmciabGreatDoorK9iv
import Derived.Test.YtngaimahhgmciabGreatDoorK9nv
import Derived.Test.YtngaimahhgmciabGreatDoorProg
import Derived.Test.YtngaimahhgmciabGreatDoorMemv
import Derived.ProofKit
import Derived.OpenShut
import Derived.Deep.Slices
import Derived.Lib.SmallJoins
import Derived.Deep.MidRow
namespace Go.Proofs.YtngaimahhgmciabGreatDoor
section
open Go.RowKit
open Go.Lib (compareBytes)
set_option linter.unusedVariables false
set_option linter.unusedSimpArgs false

theorem wpList_app_run9 {ops : Array Oper} {rest : List Oper} {o : Oper} {a : Act} {w : World} {Q : Exit → Act → World → Prop} (hg : o.guard = none) (s x : Operand) (t t2 : TypeId) (ho : o.op = .call { callee := .builtin .append, args := #[s, x], argTypes := #[t, t2] }) (vs vx : Value) (hs : a.eval s = vs) (hx : a.eval x = vx) (v' : Value) (w' : World)
    (hrun : (Builtin.append_ #[t, t2] o.type #[vs, vx]).run Tryz.prog w = .ok v' w') (hK : wpList Tryz.prog ops Q rest (a.put o.dst v') w') : wpList Tryz.prog ops Q (o :: rest) a w := by
  refine wpList_plain hg fun K' hK' => ?_
  unfold Oper.wp
  simp [execOp, ho, resolve, invoke, builtin, hs, hx, hrun, Result.andThen]
  exact hK' _ _ hK
theorem own_base9 {w : World} {b1 b2 : Nat} {e : TypeId} {size : Nat} {v : Value} {n : Nat} {xs : List Value} (h : w.ownsRow b1 e size v n xs) (hb : b2 ≤ b1) : w.ownsRow b2 e size v n xs := by
  refine ⟨h.1, ?_⟩
  rcases h.2 with h1 | ⟨g, cap, cur, h1, h2, h3⟩
  · exact .inl h1
  · exact .inr ⟨g, cap, cur, h1, Nat.le_trans hb h2, h3⟩
theorem far9 {w1 w w2 : World} {v : Value} {C : List (List UInt8)} (h : OwnI w w1.heap.size v C) (hk : Kept [] w1 w) (hg : ∀ l, (∀ g, v.ownBlock = some g → g ∈ l) → Kept l w w2) : Kept [] w1 w2 := by
  refine hk.trans (hg v.ownBlock.toList (fun g hg => by simp [hg])) (fun j hj hl => ?_)
  have hb : v.ownBlock = some j := by simpa using hj
  rcases h.1.2 with ⟨rfl, _⟩ | ⟨g, cap, cur, rfl, h2, _⟩
  · cases hb
  · have : g = j := by simpa [Value.ownBlock] using hb
    omega
theorem wth0 {x i : List UInt8} {r : List (List UInt8)} {cc : Int} (h : compareBytes x i = cc) (h0 : cc = 0 := by rfl) : wth (x :: r) i = x :: r := by unfold wth; rw [if_pos (h.trans h0)]
theorem wthlt {x i : List UInt8} {r : List (List UInt8)} {cc : Int} (h : compareBytes x i = cc) (h0 : cc < 0) : wth (x :: r) i = x :: wth r i := by
  rw [wth, if_neg (by omega), if_pos (by omega)]
theorem wthgt {x i : List UInt8} {r : List (List UInt8)} {cc : Int} (h : compareBytes x i = cc) (h0 : 0 < cc) : wth (x :: r) i = i :: x :: r := by
  rw [wth, if_neg (by omega), if_neg (by omega)]
theorem wth_len9 : ∀ (L : List (List UInt8)) (i : List UInt8), (wth L i).length ≤ L.length + 1
  | [], i => by simp [wth]
  | a :: r, i => by
    have := wth_len9 r i
    unfold wth
    split
    · simp
    · split
      · simp; omega
      · simp
/-- How far With is. -/
def Inv9w (L : List (List UInt8)) (i : List UInt8) (k : Nat) (O : List (List UInt8)) : Bool → Prop
  | false => O = L.take k ∧ wth L i = L.take k ++ wth (L.drop k) i
  | true => wth L i = O ++ L.drop k ∧ ∀ q, q ∈ L.drop k → 0 < compareBytes q i

set_option maxHeartbeats 3200000 in
set_option maxRecDepth 100000 in
theorem with9_ok (B : Nat) (ao : Option Addr) (n c : Nat) (L : List (List UInt8)) (i : List UInt8) (w : World) (hL : OwnI w B (.slice ao n c) L) (hB : B ≤ w.heap.size) (hu : Up L) (hil0 : i.length = 32) (hlen : (L.length + 2) * 32 ≤ 140737488355328) :
    Calls Tryz.prog 30 #[.slice ao n c, .agg (bys i).toArray] w fun e w' => ∃ v, e = .returned v ∧ OwnI w' B v (wth L i) ∧ Kept [] w w' := by
  obtain ⟨G, hG⟩ : ∃ r, r = w.heap.size := ⟨_, rfl⟩
  have hk0 : Kept [] w (w.alloc (.cells (bys i).toArray 36)) := (Kept.refl [] w).alloc _
  have HR : Hid ((w.alloc (.cells (bys i).toArray 36)).heap[G]? = some (.cells (bys i).toArray 36)) := by rw [hG]; exact new_atK _ _
  have HK := hide hk0
  have HB := hide (hL.kept hk0 (by simp))
  have HBS : Hid (B ≤ (w.alloc (.cells (bys i).toArray 36)).heap.size) := Nat.le_trans hB hk0.size
  have HU := hide hu
  clear hL hk0 hB hu
  go_enter Tryz.func30, Tryz.ntmps30
  go_wp2
  rw [← hG]
  clear hG
  generalize w.alloc _ = w1 at HR HK HB HBS ⊢
  have HLI := hide HB.out.ids.1
  have HN : Hid (L.length = n) := HB.out.ids.2.1.symm
  have hn42 : (n + 2) * 32 ≤ 140737488355328 := by rw [← HN.out]; exact hlen
  clear hlen
  have HIN : Hid (OwnI w1 w1.heap.size (.slice none 0 0) [] ∧ Kept [] w1 w1 ∧ Inv9w L i 0 [] false) := ⟨⟨World.ownsRow_nil _ _ _ _, by simp⟩, Kept.refl _ _, rfl, rfl⟩
  go_loopw [5, 6, 7] (fun x y z wr => ∃ (k : Nat) (oo : Option Addr) (on oc : Nat) (O : List (List UInt8)) (b : Bool), k ≤ n ∧ x = .slice oo on oc ∧ y = .bool b ∧ z = .int .i64 k ∧ Hid (OwnI wr w1.heap.size (.slice oo on oc) O ∧ Kept [] w1 wr ∧ Inv9w L i k O b)) (fun x y z wr => n - (intOf z).toNat)
  case atStart => exact ⟨0, none, 0, 0, [], false, by omega, rfl, rfl, rfl, HIN⟩
  case round =>
    clear HIN
    obtain ⟨k, oo, on, oc, O, b, hk, rfl, rfl, rfl, HP⟩ := hrel
    have HI := hide HP.out.2.2
    by_cases hlt : k < n
    · have hkl : k < L.length := by rw [HN.out]; exact hlt
      have hOl : O.length ≤ k + 1 := by
        have h := HI.out
        have h3 : (wth L i).length ≤ L.length + 1 := wth_len9 L i
        cases b with
        | false => rw [h.1, List.length_take]; omega
        | true =>
          have h4 := congrArg List.length h.1
          rw [List.length_append, List.length_drop] at h4
          omega
      have hOl2 : (O.length + 2) * 32 ≤ 140737488355328 := by omega
      obtain ⟨g, off, rfl, hrg⟩ := (HLI.out.kept HP.out.2.1 (fun _ _ _ => by simp)).1 k hkl
      have hx : (L.getD k []).length = 32 := HLI.out.2 _ (gmem9 hkl)
      obtain ⟨x, hxe⟩ : ∃ x, L.getD k [] = x := ⟨_, rfl⟩
      have HXE := hide hxe
      have hxe2 : L[k] = x := by rw [← hxe]; simp [List.getElem?_eq_getElem hkl]
      have HXD : Hid (L.drop k = x :: L.drop (k + 1)) := by show _ = _; rw [List.drop_eq_getElem_cons hkl, hxe2]
      have HTK : Hid (L.take (k + 1) = L.take k ++ [x]) := by show _ = _; rw [List.take_succ_eq_append_getElem hkl, hxe2]
      have HXU : Hid (∀ q, q ∈ L.drop (k + 1) → compareBytes x q < 0) := by
        have h := HU.out
        unfold Up at h
        rw [← List.take_append_drop k L, HXD.out, List.pairwise_append] at h
        exact (List.pairwise_cons.1 h.2.1).1
      rw [hxe] at hrg hx
      have hxl0 := hx
      have hxl := idl x hx
      have hil := idl i hil0
      have hri : wr.rangeAt G 0 (bys i) := row_rangeK (by rw [HP.out.2.1.block G (Array.getElem?_eq_some_iff.1 HR.out).1 (by simp)]; exact HR.out)
      have hcmp := fun W => rcmp9_ok x i hx hil0 W
      obtain ⟨cc, hcc⟩ : ∃ cc, compareBytes x i = cc := ⟨_, rfl⟩
      rw [hcc] at hcmp
      have HCC := hide hcc
      have hlt1 : (k : Int) < (n : Int) := by omega
      clear hxe hxe2 hkl hcc
      cases b with
      | false =>
        by_cases h0c : cc = 0
        · as_aux_lemma =>
          have hcc0 : cc = 0 := h0c
          subst hcc0
          go_upto_region 6 with (fail)
          refine wp_region_held_drew (S := fun w' => Kept [] wr w') (by kernel_rfl) ((Kept.refl [] wr).drew) (fun h0 => ?_)
          generalize World.drew wr = v0 at h0  ⊢
          refine wpAnyH_take (i := 0) (v := .slice (some ⟨g, off, none⟩) n c) rfl (by kernel_rfl) (by kernel_rfl) (by kernel_rfl) (fun _ _ _ h => h) (Or.inl ⟨by rfl, fun w hSw => by go_simp⟩) h0 ?_
          try simp only [List.getElem_toArray, List.getElem_cons_zero, List.getElem_cons_succ, Act.put, List.setIfInBounds_toArray, List.set_cons_zero, List.set_cons_succ]
          refine wpAnyH_take (i := 1) (v := .int .i64 k) rfl (by kernel_rfl) (by kernel_rfl) (by kernel_rfl) (fun _ _ _ h => h) (Or.inl ⟨by rfl, fun w hSw => by go_simp⟩) h0 ?_
          try simp only [List.getElem_toArray, List.getElem_cons_zero, List.getElem_cons_succ, Act.put, List.setIfInBounds_toArray, List.set_cons_zero, List.set_cons_succ]
          refine wpAnyH_take (i := 2) (v := .pointer (some ⟨g, off + k * 32, none⟩)) rfl (by kernel_rfl) (by kernel_rfl) (by kernel_rfl) (fun _ _ _ h => h) (Or.inl ⟨by rfl, fun w hSw => by go_simp⟩) h0 ?_
          try simp only [List.getElem_toArray, List.getElem_cons_zero, List.getElem_cons_succ, Act.put, List.setIfInBounds_toArray, List.set_cons_zero, List.set_cons_succ]
          refine wpAnyH_take (i := 3) (v := .agg (bys x).toArray) rfl (by kernel_rfl) (by kernel_rfl) (by kernel_rfl) (fun _ _ _ h => h) (yieldsIf_load_mid (by rfl) _ _ rfl g (off + k * 32) rfl (bys x) _ (fun W h => fun j u hu => Kept.cellOf h (hrg j u hu) (by simp)) Tryz.underlying36 rfl hxl) h0 ?_
          try simp only [List.getElem_toArray, List.getElem_cons_zero, List.getElem_cons_succ, Act.put, List.setIfInBounds_toArray, List.set_cons_zero, List.set_cons_succ]
          refine wpAnyH_take (i := 4) (v := .agg (bys i).toArray) rfl (by kernel_rfl) (by kernel_rfl) (by kernel_rfl) (fun _ _ _ h => h) (yieldsIf_load_mid (by rfl) _ _ rfl G (0) rfl (bys i) _ (fun W h => fun j u hu => Kept.cellOf h (hri j u hu) (by simp)) Tryz.underlying36 rfl hil) h0 ?_
          try simp only [List.getElem_toArray, List.getElem_cons_zero, List.getElem_cons_succ, Act.put, List.setIfInBounds_toArray, List.set_cons_zero, List.set_cons_succ]
          refine wpAnyH_ready (rs := [5]) (by kernel_rfl) (by simp) (AllReadyH.cons (i := 5) rfl (fun K hK => ?_) AllReadyH.nil)
          rw [if_pos (by rfl)]
          go_simp
          refine (hcmp v0).mono ?_
          rintro e v1 ⟨rfl, hq⟩
          refine hK.out _ _ (h0.trans hq (by simp)) (fun h1 => ?_)
          clear hK K
          try simp only [List.getElem_toArray, List.getElem_cons_zero, List.getElem_cons_succ, Act.put, List.setIfInBounds_toArray, List.set_cons_zero, List.set_cons_succ]
          clear hq
          refine wpAnyH_take (i := 6) (v := .int .i64 0) rfl (by kernel_rfl) (by kernel_rfl) (by kernel_rfl) (fun _ _ _ h => h) (Or.inl ⟨by rfl, fun w hSw => by go_simp⟩) h1 ?_
          try simp only [List.getElem_toArray, List.getElem_cons_zero, List.getElem_cons_succ, Act.put, List.setIfInBounds_toArray, List.set_cons_zero, List.set_cons_succ]
          refine wpAnyH_done (by kernel_rfl) ?_ _
          have K1 : Kept [] w1 v1 := HP.out.2.1.trans h1 (by simp)
          have O1 := HP.out.1.kept h1 (by simp)
          have HF : Hid (OwnI v1 B (.slice (some ⟨g, off, none⟩) n c) (wth L i) ∧ Kept [] w v1) := ⟨by rw [HI.out.2, HXD.out, wth0 HCC.out, ← HXD.out, List.take_append_drop]; exact HB.out.kept K1 (by simp), HK.out.trans K1 (by simp)⟩
          clear h1 hcmp hrg hri K1 O1
          go_wp2
          go_ret
          exact ⟨_, rfl, HF.out⟩
        by_cases hlt0 : cc < 0
        · have hc1 : (cc == 0) = false := by simpa using h0c
          have hc2 : ¬ 0 < cc := by omega
          as_aux_lemma =>
          go_upto_region 6 with (fail)
          refine wp_region_held_drew (S := fun w' => Kept [] wr w') (by kernel_rfl) ((Kept.refl [] wr).drew) (fun h0 => ?_)
          generalize World.drew wr = v0 at h0  ⊢
          refine wpAnyH_take (i := 0) (v := .slice (some ⟨g, off, none⟩) n c) rfl (by kernel_rfl) (by kernel_rfl) (by kernel_rfl) (fun _ _ _ h => h) (Or.inl ⟨by rfl, fun w hSw => by go_simp⟩) h0 ?_
          try simp only [List.getElem_toArray, List.getElem_cons_zero, List.getElem_cons_succ, Act.put, List.setIfInBounds_toArray, List.set_cons_zero, List.set_cons_succ]
          refine wpAnyH_take (i := 1) (v := .int .i64 k) rfl (by kernel_rfl) (by kernel_rfl) (by kernel_rfl) (fun _ _ _ h => h) (Or.inl ⟨by rfl, fun w hSw => by go_simp⟩) h0 ?_
          try simp only [List.getElem_toArray, List.getElem_cons_zero, List.getElem_cons_succ, Act.put, List.setIfInBounds_toArray, List.set_cons_zero, List.set_cons_succ]
          refine wpAnyH_take (i := 2) (v := .pointer (some ⟨g, off + k * 32, none⟩)) rfl (by kernel_rfl) (by kernel_rfl) (by kernel_rfl) (fun _ _ _ h => h) (Or.inl ⟨by rfl, fun w hSw => by go_simp⟩) h0 ?_
          try simp only [List.getElem_toArray, List.getElem_cons_zero, List.getElem_cons_succ, Act.put, List.setIfInBounds_toArray, List.set_cons_zero, List.set_cons_succ]
          refine wpAnyH_take (i := 3) (v := .agg (bys x).toArray) rfl (by kernel_rfl) (by kernel_rfl) (by kernel_rfl) (fun _ _ _ h => h) (yieldsIf_load_mid (by rfl) _ _ rfl g (off + k * 32) rfl (bys x) _ (fun W h => fun j u hu => Kept.cellOf h (hrg j u hu) (by simp)) Tryz.underlying36 rfl hxl) h0 ?_
          try simp only [List.getElem_toArray, List.getElem_cons_zero, List.getElem_cons_succ, Act.put, List.setIfInBounds_toArray, List.set_cons_zero, List.set_cons_succ]
          refine wpAnyH_take (i := 4) (v := .agg (bys i).toArray) rfl (by kernel_rfl) (by kernel_rfl) (by kernel_rfl) (fun _ _ _ h => h) (yieldsIf_load_mid (by rfl) _ _ rfl G (0) rfl (bys i) _ (fun W h => fun j u hu => Kept.cellOf h (hri j u hu) (by simp)) Tryz.underlying36 rfl hil) h0 ?_
          try simp only [List.getElem_toArray, List.getElem_cons_zero, List.getElem_cons_succ, Act.put, List.setIfInBounds_toArray, List.set_cons_zero, List.set_cons_succ]
          refine wpAnyH_ready (rs := [5]) (by kernel_rfl) (by simp) (AllReadyH.cons (i := 5) rfl (fun K hK => ?_) AllReadyH.nil)
          rw [if_pos (by rfl)]
          go_simp
          refine (hcmp v0).mono ?_
          rintro e v1 ⟨rfl, hq⟩
          refine hK.out _ _ (h0.trans hq (by simp)) (fun h1 => ?_)
          clear hK K
          try simp only [List.getElem_toArray, List.getElem_cons_zero, List.getElem_cons_succ, Act.put, List.setIfInBounds_toArray, List.set_cons_zero, List.set_cons_succ]
          clear hq
          refine wpAnyH_take (i := 6) (v := .int .i64 cc) rfl (by kernel_rfl) (by kernel_rfl) (by kernel_rfl) (fun _ _ _ h => h) (Or.inl ⟨by rfl, fun w hSw => by go_simp⟩) h1 ?_
          try simp only [List.getElem_toArray, List.getElem_cons_zero, List.getElem_cons_succ, Act.put, List.setIfInBounds_toArray, List.set_cons_zero, List.set_cons_succ]
          refine wpAnyH_done (by kernel_rfl) ?_ _
          have K1 : Kept [] w1 v1 := HP.out.2.1.trans h1 (by simp)
          have O1 := HP.out.1.kept h1 (by simp)
          have K1x0 := K1
          have O1x0 := O1
          have hr2 := (HLI.out.kept K1 (fun _ _ _ => by simp)).1 k (by rw [HN.out]; exact hlt)
          have KA1 := K1x0.trans ((Kept.refl [] v1).alloc (.cells (bys x).toArray 36)) (by simp)
          obtain ⟨v3, w3, hrun1, ho1, hk1, _⟩ := run_appI (O1x0.kept ((Kept.refl [] v1).alloc (.cells (bys x).toArray 36)) (by simp)) KA1.size x hxl0 v1.heap.size (new_atK _ _) (by omega)
          have K1x1 : Kept [] w1 w3 := far9 (O1x0.kept ((Kept.refl [] v1).alloc (.cells (bys x).toArray 36)) (by simp)) KA1 hk1
          have O1x1 := ho1
          obtain ⟨q1, c1, e1, _⟩ := own_shape O1x1.1
          obtain ⟨m1, hm1⟩ : ∃ m, (O ++ [x]).length = m := ⟨_, rfl⟩
          rw [hm1] at e1
          subst e1
          clear hm1
          have hrg2 : (v1).rangeAt g (off + k * 32) (bys x) := fun j u hu => h1.cellOf (hrg j u hu) (by simp)
          have HN : Hid (OwnI w3 w1.heap.size (.slice q1 m1 c1) (O ++ [x]) ∧ Kept [] w1 w3 ∧ Inv9w L i (k + 1) (O ++ [x]) false) := ⟨O1x1, K1x1, ⟨by rw [HI.out.1]; exact HTK.out.symm, by rw [HI.out.2, HXD.out, wthlt HCC.out hlt0, HTK.out, List.append_assoc]; rfl⟩⟩
          clear h1 hcmp hrg hri K1 O1 K1x0 O1x0 hr2 KA1 ho1 hk1 K1x1 O1x1
          go_wp2_with (first
            | (refine wpList_load_mid rfl 36 (.tmp 37) rfl g (off + k * 32) rfl (bys x) _ hrg2 Tryz.underlying36 rfl hxl ?_)
            | (refine wpList_buildI rfl (.tmp 38) rfl x rfl hxl0 ?_)
            | (refine wpList_app_run9 rfl (.tmp 34) (.tmp 39) 28 28 rfl (.slice oo on oc) (.slice (some ⟨v1.heap.size, 0, none⟩) 1 1) rfl rfl _ w3 hrun1 ?_))
          go_roundw
          case rel => exact ⟨k + 1, q1, _, c1, O ++ [x], false, by omega, rfl, rfl, by go_num, HN⟩
          case measure => simp [intOf]; omega
        · have hgt0 : 0 < cc := by omega
          have hc1 : (cc == 0) = false := by simpa using h0c
          as_aux_lemma =>
          go_upto_region 6 with (fail)
          refine wp_region_held_drew (S := fun w' => Kept [] wr w') (by kernel_rfl) ((Kept.refl [] wr).drew) (fun h0 => ?_)
          generalize World.drew wr = v0 at h0  ⊢
          refine wpAnyH_take (i := 0) (v := .slice (some ⟨g, off, none⟩) n c) rfl (by kernel_rfl) (by kernel_rfl) (by kernel_rfl) (fun _ _ _ h => h) (Or.inl ⟨by rfl, fun w hSw => by go_simp⟩) h0 ?_
          try simp only [List.getElem_toArray, List.getElem_cons_zero, List.getElem_cons_succ, Act.put, List.setIfInBounds_toArray, List.set_cons_zero, List.set_cons_succ]
          refine wpAnyH_take (i := 1) (v := .int .i64 k) rfl (by kernel_rfl) (by kernel_rfl) (by kernel_rfl) (fun _ _ _ h => h) (Or.inl ⟨by rfl, fun w hSw => by go_simp⟩) h0 ?_
          try simp only [List.getElem_toArray, List.getElem_cons_zero, List.getElem_cons_succ, Act.put, List.setIfInBounds_toArray, List.set_cons_zero, List.set_cons_succ]
          refine wpAnyH_take (i := 2) (v := .pointer (some ⟨g, off + k * 32, none⟩)) rfl (by kernel_rfl) (by kernel_rfl) (by kernel_rfl) (fun _ _ _ h => h) (Or.inl ⟨by rfl, fun w hSw => by go_simp⟩) h0 ?_
          try simp only [List.getElem_toArray, List.getElem_cons_zero, List.getElem_cons_succ, Act.put, List.setIfInBounds_toArray, List.set_cons_zero, List.set_cons_succ]
          refine wpAnyH_take (i := 3) (v := .agg (bys x).toArray) rfl (by kernel_rfl) (by kernel_rfl) (by kernel_rfl) (fun _ _ _ h => h) (yieldsIf_load_mid (by rfl) _ _ rfl g (off + k * 32) rfl (bys x) _ (fun W h => fun j u hu => Kept.cellOf h (hrg j u hu) (by simp)) Tryz.underlying36 rfl hxl) h0 ?_
          try simp only [List.getElem_toArray, List.getElem_cons_zero, List.getElem_cons_succ, Act.put, List.setIfInBounds_toArray, List.set_cons_zero, List.set_cons_succ]
          refine wpAnyH_take (i := 4) (v := .agg (bys i).toArray) rfl (by kernel_rfl) (by kernel_rfl) (by kernel_rfl) (fun _ _ _ h => h) (yieldsIf_load_mid (by rfl) _ _ rfl G (0) rfl (bys i) _ (fun W h => fun j u hu => Kept.cellOf h (hri j u hu) (by simp)) Tryz.underlying36 rfl hil) h0 ?_
          try simp only [List.getElem_toArray, List.getElem_cons_zero, List.getElem_cons_succ, Act.put, List.setIfInBounds_toArray, List.set_cons_zero, List.set_cons_succ]
          refine wpAnyH_ready (rs := [5]) (by kernel_rfl) (by simp) (AllReadyH.cons (i := 5) rfl (fun K hK => ?_) AllReadyH.nil)
          rw [if_pos (by rfl)]
          go_simp
          refine (hcmp v0).mono ?_
          rintro e v1 ⟨rfl, hq⟩
          refine hK.out _ _ (h0.trans hq (by simp)) (fun h1 => ?_)
          clear hK K
          try simp only [List.getElem_toArray, List.getElem_cons_zero, List.getElem_cons_succ, Act.put, List.setIfInBounds_toArray, List.set_cons_zero, List.set_cons_succ]
          clear hq
          refine wpAnyH_take (i := 6) (v := .int .i64 cc) rfl (by kernel_rfl) (by kernel_rfl) (by kernel_rfl) (fun _ _ _ h => h) (Or.inl ⟨by rfl, fun w hSw => by go_simp⟩) h1 ?_
          try simp only [List.getElem_toArray, List.getElem_cons_zero, List.getElem_cons_succ, Act.put, List.setIfInBounds_toArray, List.set_cons_zero, List.set_cons_succ]
          refine wpAnyH_done (by kernel_rfl) ?_ _
          have K1 : Kept [] w1 v1 := HP.out.2.1.trans h1 (by simp)
          have O1 := HP.out.1.kept h1 (by simp)
          have K1x0 := K1
          have O1x0 := O1
          have KA1 := K1x0.trans ((Kept.refl [] v1).alloc (.cells (bys i).toArray 36)) (by simp)
          obtain ⟨v3, w3, hrun1, ho1, hk1, _⟩ := run_appI (O1x0.kept ((Kept.refl [] v1).alloc (.cells (bys i).toArray 36)) (by simp)) KA1.size i hil0 v1.heap.size (new_atK _ _) (by omega)
          have K1x1 : Kept [] w1 w3 := far9 (O1x0.kept ((Kept.refl [] v1).alloc (.cells (bys i).toArray 36)) (by simp)) KA1 hk1
          have O1x1 := ho1
          obtain ⟨q1, c1, e1, _⟩ := own_shape O1x1.1
          obtain ⟨m1, hm1⟩ : ∃ m, (O ++ [i]).length = m := ⟨_, rfl⟩
          rw [hm1] at e1
          subst e1
          clear hm1
          have KA2 := K1x1.trans ((Kept.refl [] w3).alloc (.cells (bys x).toArray 36)) (by simp)
          obtain ⟨v5, w5, hrun2, ho2, hk2, _⟩ := run_appI (O1x1.kept ((Kept.refl [] w3).alloc (.cells (bys x).toArray 36)) (by simp)) KA2.size x hxl0 w3.heap.size (new_atK _ _) (by rw [show (O ++ [i]).length + 1 = O.length + 2 from by simp]; exact hOl2)
          have K1x2 : Kept [] w1 w5 := far9 (O1x1.kept ((Kept.refl [] w3).alloc (.cells (bys x).toArray 36)) (by simp)) KA2 hk2
          have O1x2 := ho2
          obtain ⟨q2, c2, e2, _⟩ := own_shape O1x2.1
          obtain ⟨m2, hm2⟩ : ∃ m, (O ++ [i] ++ [x]).length = m := ⟨_, rfl⟩
          rw [hm2] at e2
          subst e2
          clear hm2
          have hri2 : v1.rangeAt G 0 (bys i) := fun j u hu => h1.cellOf (hri j u hu) (by simp)
          obtain ⟨g', off', e', hrg2⟩ := (HLI.out.kept K1x1 (fun _ _ _ => by simp)).1 k (by rw [HN.out]; exact hlt)
          cases e'
          rw [HXE.out] at hrg2
          obtain ⟨O2, hO2⟩ : ∃ O2, O ++ [i] ++ [x] = O2 := ⟨_, rfl⟩
          have HN : Hid (OwnI w5 w1.heap.size (.slice q2 m2 c2) O2 ∧ Kept [] w1 w5 ∧ Inv9w L i (k + 1) O2 true) := ⟨by rw [← hO2]; exact O1x2, K1x2, by rw [← hO2, HI.out.2, HXD.out, wthgt HCC.out hgt0, ← HI.out.1]; simp, fun q hq => by
            have h1 := HXU.out q hq
            have h2 : compareBytes i x < 0 := by have := cmp_swap x i; rw [HCC.out] at this; omega
            have h3 := cmp_trans h2 h1
            have := cmp_swap i q
            omega⟩
          clear h1 hcmp hrg hri K1 O1 K1x0 O1x0 KA1 ho1 hk1 K1x1 O1x1 KA2 ho2 hk2 K1x2 O1x2 hO2
          go_upto_region 11 with (first
            | (refine wpList_load_mid rfl 36 (.tmp 3) rfl G (0) rfl (bys i) _ hri2 Tryz.underlying36 rfl hil ?_)
            | (refine wpList_buildI rfl (.tmp 31) rfl i rfl hil0 ?_)
            | (refine wpList_app_run9 rfl (.tmp 30) (.tmp 32) 28 28 rfl (.slice oo on oc) (.slice (some ⟨v1.heap.size, 0, none⟩) 1 1) rfl rfl _ w3 hrun1 ?_))
          clear hri2 hrun1
          go_upto_region 12 with (fail)
          go_wp2_with (first
            | (refine wpList_load_mid rfl 36 (.tmp 37) rfl g (off + k * 32) rfl (bys x) _ hrg2 Tryz.underlying36 rfl hxl ?_)
            | (refine wpList_buildI rfl (.tmp 38) rfl x rfl hxl0 ?_)
            | (refine wpList_app_run9 rfl (.tmp 34) (.tmp 39) 28 28 rfl (.slice q1 m1 c1) (.slice (some ⟨w3.heap.size, 0, none⟩) 1 1) rfl rfl _ w5 hrun2 ?_))
          go_roundw
          case rel => exact ⟨k + 1, q2, _, c2, O2, true, by omega, rfl, rfl, by go_num, HN⟩
          case measure => simp [intOf]; omega
      | true =>
        have hgt0 : 0 < cc := by have := HI.out.2 x (by rw [HXD.out]; simp); rw [HCC.out] at this; exact this
        have hc1 : (cc == 0) = false := by simp; omega
        as_aux_lemma =>
        go_upto_region 6 with (fail)
        refine wp_region_held_drew (S := fun w' => Kept [] wr w') (by kernel_rfl) ((Kept.refl [] wr).drew) (fun h0 => ?_)
        generalize World.drew wr = v0 at h0  ⊢
        refine wpAnyH_take (i := 0) (v := .slice (some ⟨g, off, none⟩) n c) rfl (by kernel_rfl) (by kernel_rfl) (by kernel_rfl) (fun _ _ _ h => h) (Or.inl ⟨by rfl, fun w hSw => by go_simp⟩) h0 ?_
        try simp only [List.getElem_toArray, List.getElem_cons_zero, List.getElem_cons_succ, Act.put, List.setIfInBounds_toArray, List.set_cons_zero, List.set_cons_succ]
        refine wpAnyH_take (i := 1) (v := .int .i64 k) rfl (by kernel_rfl) (by kernel_rfl) (by kernel_rfl) (fun _ _ _ h => h) (Or.inl ⟨by rfl, fun w hSw => by go_simp⟩) h0 ?_
        try simp only [List.getElem_toArray, List.getElem_cons_zero, List.getElem_cons_succ, Act.put, List.setIfInBounds_toArray, List.set_cons_zero, List.set_cons_succ]
        refine wpAnyH_take (i := 2) (v := .pointer (some ⟨g, off + k * 32, none⟩)) rfl (by kernel_rfl) (by kernel_rfl) (by kernel_rfl) (fun _ _ _ h => h) (Or.inl ⟨by rfl, fun w hSw => by go_simp⟩) h0 ?_
        try simp only [List.getElem_toArray, List.getElem_cons_zero, List.getElem_cons_succ, Act.put, List.setIfInBounds_toArray, List.set_cons_zero, List.set_cons_succ]
        refine wpAnyH_take (i := 3) (v := .agg (bys x).toArray) rfl (by kernel_rfl) (by kernel_rfl) (by kernel_rfl) (fun _ _ _ h => h) (yieldsIf_load_mid (by rfl) _ _ rfl g (off + k * 32) rfl (bys x) _ (fun W h => fun j u hu => Kept.cellOf h (hrg j u hu) (by simp)) Tryz.underlying36 rfl hxl) h0 ?_
        try simp only [List.getElem_toArray, List.getElem_cons_zero, List.getElem_cons_succ, Act.put, List.setIfInBounds_toArray, List.set_cons_zero, List.set_cons_succ]
        refine wpAnyH_take (i := 4) (v := .agg (bys i).toArray) rfl (by kernel_rfl) (by kernel_rfl) (by kernel_rfl) (fun _ _ _ h => h) (yieldsIf_load_mid (by rfl) _ _ rfl G (0) rfl (bys i) _ (fun W h => fun j u hu => Kept.cellOf h (hri j u hu) (by simp)) Tryz.underlying36 rfl hil) h0 ?_
        try simp only [List.getElem_toArray, List.getElem_cons_zero, List.getElem_cons_succ, Act.put, List.setIfInBounds_toArray, List.set_cons_zero, List.set_cons_succ]
        refine wpAnyH_ready (rs := [5]) (by kernel_rfl) (by simp) (AllReadyH.cons (i := 5) rfl (fun K hK => ?_) AllReadyH.nil)
        rw [if_pos (by rfl)]
        go_simp
        refine (hcmp v0).mono ?_
        rintro e v1 ⟨rfl, hq⟩
        refine hK.out _ _ (h0.trans hq (by simp)) (fun h1 => ?_)
        clear hK K
        try simp only [List.getElem_toArray, List.getElem_cons_zero, List.getElem_cons_succ, Act.put, List.setIfInBounds_toArray, List.set_cons_zero, List.set_cons_succ]
        clear hq
        refine wpAnyH_take (i := 6) (v := .int .i64 cc) rfl (by kernel_rfl) (by kernel_rfl) (by kernel_rfl) (fun _ _ _ h => h) (Or.inl ⟨by rfl, fun w hSw => by go_simp⟩) h1 ?_
        try simp only [List.getElem_toArray, List.getElem_cons_zero, List.getElem_cons_succ, Act.put, List.setIfInBounds_toArray, List.set_cons_zero, List.set_cons_succ]
        refine wpAnyH_done (by kernel_rfl) ?_ _
        have K1 : Kept [] w1 v1 := HP.out.2.1.trans h1 (by simp)
        have O1 := HP.out.1.kept h1 (by simp)
        have K1x0 := K1
        have O1x0 := O1
        have hr2 := (HLI.out.kept K1 (fun _ _ _ => by simp)).1 k (by rw [HN.out]; exact hlt)
        have KA1 := K1x0.trans ((Kept.refl [] v1).alloc (.cells (bys x).toArray 36)) (by simp)
        obtain ⟨v3, w3, hrun1, ho1, hk1, _⟩ := run_appI (O1x0.kept ((Kept.refl [] v1).alloc (.cells (bys x).toArray 36)) (by simp)) KA1.size x hxl0 v1.heap.size (new_atK _ _) (by omega)
        have K1x1 : Kept [] w1 w3 := far9 (O1x0.kept ((Kept.refl [] v1).alloc (.cells (bys x).toArray 36)) (by simp)) KA1 hk1
        have O1x1 := ho1
        obtain ⟨q1, c1, e1, _⟩ := own_shape O1x1.1
        obtain ⟨m1, hm1⟩ : ∃ m, (O ++ [x]).length = m := ⟨_, rfl⟩
        rw [hm1] at e1
        subst e1
        clear hm1
        have hrg2 : (v1).rangeAt g (off + k * 32) (bys x) := fun j u hu => h1.cellOf (hrg j u hu) (by simp)
        have HN : Hid (OwnI w3 w1.heap.size (.slice q1 m1 c1) (O ++ [x]) ∧ Kept [] w1 w3 ∧ Inv9w L i (k + 1) (O ++ [x]) true) := ⟨O1x1, K1x1, ⟨by rw [HI.out.1, HXD.out, List.append_assoc]; rfl, fun q hq => HI.out.2 q (by rw [HXD.out]; exact List.mem_cons_of_mem _ hq)⟩⟩
        clear h1 hcmp hrg hri K1 O1 K1x0 O1x0 hr2 KA1 ho1 hk1 K1x1 O1x1
        go_wp2_with (first
          | (refine wpList_load_mid rfl 36 (.tmp 37) rfl g (off + k * 32) rfl (bys x) _ hrg2 Tryz.underlying36 rfl hxl ?_)
          | (refine wpList_buildI rfl (.tmp 38) rfl x rfl hxl0 ?_)
          | (refine wpList_app_run9 rfl (.tmp 34) (.tmp 39) 28 28 rfl (.slice oo on oc) (.slice (some ⟨v1.heap.size, 0, none⟩) 1 1) rfl rfl _ w3 hrun1 ?_))
        go_roundw
        case rel => exact ⟨k + 1, q1, _, c1, O ++ [x], true, by omega, rfl, rfl, by go_num, HN⟩
        case measure => simp [intOf]; omega
    · obtain rfl : k = n := by omega
      have hlt1 : ¬ (k : Int) < (k : Int) := by omega
      have hil := idl i hil0
      have hOl : O.length ≤ k + 1 := by
        have h := HI.out
        have h3 : (wth L i).length ≤ L.length + 1 := wth_len9 L i
        have h5 := HN.out
        cases b with
        | false => rw [h.1, List.length_take]; omega
        | true =>
          have h4 := congrArg List.length h.1
          rw [List.length_append, List.length_drop] at h4
          omega
      cases b with
      | false =>
        as_aux_lemma =>
        have K1 := HP.out.2.1
        have O1 := HP.out.1
        have K1x0 := K1
        have O1x0 := O1
        have hri : wr.rangeAt G 0 (bys i) := row_rangeK (by rw [HP.out.2.1.block G (Array.getElem?_eq_some_iff.1 HR.out).1 (by simp)]; exact HR.out)
        have KA1 := K1x0.trans ((Kept.refl [] wr).alloc (.cells (bys i).toArray 36)) (by simp)
        obtain ⟨v3, w3, hrun1, ho1, hk1, _⟩ := run_appI (O1x0.kept ((Kept.refl [] wr).alloc (.cells (bys i).toArray 36)) (by simp)) KA1.size i hil0 wr.heap.size (new_atK _ _) (by omega)
        have K1x1 : Kept [] w1 w3 := far9 (O1x0.kept ((Kept.refl [] wr).alloc (.cells (bys i).toArray 36)) (by simp)) KA1 hk1
        have O1x1 := ho1
        obtain ⟨q1, c1, e1, _⟩ := own_shape O1x1.1
        obtain ⟨m1, hm1⟩ : ∃ m, (O ++ [i]).length = m := ⟨_, rfl⟩
        rw [hm1] at e1
        subst e1
        clear hm1
        have HF : Hid (OwnI w3 B (.slice q1 m1 c1) (wth L i) ∧ Kept [] w w3) := ⟨by
          have e : wth L i = O ++ [i] := by rw [HI.out.2, HI.out.1, List.drop_of_length_le (by rw [HN.out]; exact Nat.le_refl _)]; rfl
          rw [e]
          exact ⟨own_base9 O1x1.1 HBS.out, O1x1.2⟩, HK.out.trans K1x1 (by simp)⟩
        clear K1 O1 K1x0 O1x0 KA1 ho1 hk1 K1x1 O1x1
        go_wp2_with (first
          | (refine wpList_load_mid rfl 36 (.tmp 3) rfl G (0) rfl (bys i) _ hri Tryz.underlying36 rfl hil ?_)
          | (refine wpList_buildI rfl (.tmp 44) rfl i rfl hil0 ?_)
          | (refine wpList_app_run9 rfl (.tmp 43) (.tmp 45) 28 28 rfl (.slice oo on oc) (.slice (some ⟨wr.heap.size, 0, none⟩) 1 1) rfl rfl _ w3 hrun1 ?_))
        go_ret
        exact ⟨.slice q1 m1 c1, rfl, HF.out⟩
      | true =>
        as_aux_lemma =>
        have HF : Hid (OwnI wr B (.slice oo on oc) (wth L i) ∧ Kept [] w wr) := ⟨by
          have e : wth L i = O := by rw [HI.out.1, List.drop_of_length_le (by rw [HN.out]; exact Nat.le_refl _), List.append_nil]
          rw [e]
          exact ⟨own_base9 HP.out.1.1 HBS.out, HP.out.1.2⟩, HK.out.trans HP.out.2.1 (by simp)⟩
        go_wp2
        go_ret
        exact ⟨.slice oo on oc, rfl, HF.out⟩
end

section
open Go.RowKit
open Go.Lib (compareBytes)
set_option linter.unusedVariables false
set_option linter.unusedSimpArgs false

/-- The document's source in memory: ids, what is there for them, codes. -/
structure Sr9 (w : World) (vi vd vc : Value) (I : List (List UInt8)) (D : List Value) (C : List Int) : Prop where
  ids : ∃ ao c, vi = .slice ao I.length c ∧ Ids w ao I
  dat : ∃ ad c, vd = .slice ad I.length c ∧ ∀ k, k < I.length → ∃ b off, ad = some ⟨b, off, none⟩ ∧ w.cell? ⟨b, off + k, none⟩ = some (D.getD k unitv)
  cod : ∃ ac c, vc = .slice ac I.length c ∧ ∀ k, k < I.length → ∃ b off, ac = some ⟨b, off, none⟩ ∧ w.cell? ⟨b, off + k, none⟩ = some (.int .i64 (C.getD k 0))
theorem Sr9.kept {w w' : World} {vi vd vc : Value} {I : List (List UInt8)} {D : List Value} {C : List Int} (h : Sr9 w vi vd vc I D C) (hk : Kept [] w w') : Sr9 w' vi vd vc I D C := by
  obtain ⟨⟨ao, c, e, h1⟩, ⟨ad, c2, e2, h2⟩, ⟨ac, c3, e3, h3⟩⟩ := h
  refine ⟨⟨ao, c, e, h1.kept hk (fun _ _ _ => by simp)⟩, ⟨ad, c2, e2, fun k hk2 => ?_⟩, ⟨ac, c3, e3, fun k hk2 => ?_⟩⟩
  · obtain ⟨b, off, e4, h4⟩ := h2 k hk2
    exact ⟨b, off, e4, hk.cellOf h4 (by simp)⟩
  · obtain ⟨b, off, e4, h4⟩ := h3 k hk2
    exact ⟨b, off, e4, hk.cellOf h4 (by simp)⟩
/-- What it says of an id. -/
def fnd9 (I : List (List UInt8)) (D : List Value) (C : List Int) (i : List UInt8) : Value × Int := match I.findIdx? (· == i) with
  | none => (.slice none 0 0, 93)
  | some k => if C.getD k 0 = 0 then (D.getD k unitv, 0) else (.slice none 0 0, C.getD k 0)
end

section
open Go.ChangeShapes Go.WideShapes Go.ChangeAt Go.RowKit Go.Deep Go.Joins
set_option linter.unusedVariables false
set_option linter.unusedSimpArgs false

/-- A row of bytes that came in. -/
structure InB (w : World) (ao : Option Addr) (n cap : Nat) (xs : List UInt8) : Prop where
  len : xs.length = n
  le : n ≤ cap
  max : cap ≤ 140737488351232
  sl : Sl w ao xs
  nil : ao = none → xs = [] ∧ cap = 0
  spot : n ≠ 0 → ∀ a, ao = some a → a.spot = none

theorem inb_of_ints {w : World} {a : Addr} {len cap : Nat} {zs : List Int} (hl : len ≤ cap) (hm : cap ≤ 140737488351232) (hz : zs.length = cap) (hcell : ∀ i, i < zs.length → w.cell? (a.add i) = some (.int .u8 (zs.getD i 0))) (hwz : ∀ n ∈ zs, (Lit.int .u8 n).wf = true) :
    ∃ xs, InB w (some a) len cap xs := by
  obtain ⟨b, off, spot⟩ := a
  have hsp : len ≠ 0 → spot = none := fun h => by simpa [Addr.add] using World.cell?_spot (hcell 0 (by omega))
  refine ⟨(zs.take len).map (fun z => UInt8.ofNat z.toNat), by simp; omega, hl, by omega, ?_, by simp, fun h a ha => by cases ha; exact hsp h⟩
  intro i hi
  have hi' : i < len := by simp at hi; omega
  have hc := hcell i (by omega)
  obtain rfl := hsp (by omega)
  refine ⟨b, off, rfl, ?_⟩
  rw [Addr.add_mid] at hc
  rw [hc]
  have hzi : i < zs.length := by omega
  have hb := bounds_u8 (hwz (zs.getD i 0) (by simp [List.getElem?_eq_getElem hzi]))
  have e : ((zs.take len).map (fun z => UInt8.ofNat z.toNat)).getD i 0 = UInt8.ofNat (zs.getD i 0).toNat := by
    simp [List.getElem?_eq_getElem hzi, hi']
  rw [e, UInt8.toNat_ofNat', Nat.mod_eq_of_lt (by omega)]
  congr 2
  omega

section
variable {H : Type} {enc : TypeId × Value → H} {w : World}

theorem open_bytes {fuel : Nat} {v : Value} {x : DataW H × List MemPlace} (h : DataW.trod enc Tryz.prog w 0 (fun _ => true) true fuel 33 [v] = some x) (hw : ∀ n ∈ x.1.weights Tryz.prog 33, n ≤ reachBytes) :
    ∃ ao n cap xs, v = .slice ao n cap ∧ InB w ao n cap xs := by
  rcases open_ints Tryz.underlying33 Tryz.underlying5 (by kernel_rfl) h with ⟨hcs, _⟩ | ⟨a, l, c, zs, hcs, _, hl, hm, hz, hx, hcell, hwz⟩
  · cases hcs
    exact ⟨none, 0, 0, [], rfl, rfl, Nat.le_refl _, by omega, Sl.nil _ _, fun _ => ⟨rfl, rfl⟩, by simp⟩
  · cases hcs
    have hb1 : Tryz.prog.bytesOf 5 = 1 := by kernel_rfl
    have hz' : zs.length = c := by simpa using hz
    have hsz : c ≤ 140737488351232 := by
      have := hw ((zs.take l).length + (zs.drop l).length) (by
        rw [hx]
        simp only [DataW.weights, Tryz.underlying33, hb1, Nat.mul_one, lits, List.length_map, List.mem_cons, true_or])
      have hr : reachBytes = 140737488351232 := rfl
      rw [hr] at this
      simp at this
      omega
    obtain ⟨xs, h⟩ := inb_of_ints hl hsz hz' hcell hwz
    exact ⟨some a, l, c, xs, rfl, h⟩

end
end

end Go.Proofs.YtngaimahhgmciabGreatDoor
