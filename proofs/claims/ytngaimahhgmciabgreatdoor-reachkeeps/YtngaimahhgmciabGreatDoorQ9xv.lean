import Derived.Test.YtngaimahhgmciabGreatDoorNmv
import Derived.Test.YtngaimahhgmciabGreatDoorK9xv
namespace Go.Proofs.YtngaimahhgmciabGreatDoor
section
open Go.RowKit Go.Lib Go.Sort
open Go.Extern
set_option linter.unusedVariables false
set_option linter.unusedSimpArgs false

set_option maxHeartbeats 3200000 in
set_option maxRecDepth 100000 in
/-- same. -/
theorem same9_ok (ao bo : Option Addr) (n m c d : Nat) (A B : List (List UInt8)) (w : World) (hA : A.length = n) (hB : B.length = m) (iA : Ids w ao A) (iB : Ids w bo B) (hn : n ≤ 9223372036854775807) (hm : m ≤ 9223372036854775807) :
    Calls Tryz.prog 18 #[.slice ao n c, .slice bo m d] w fun e w' => e = .returned (.bool (decide (A = B))) ∧ Kept [] w w' := by
  by_cases hnm : n = m
  · subst hnm
    have HA := hide iA
    have HB := hide iB
    have HN := hide (And.intro hA hB)
    clear iA iB hA hB hm
    go_enter Tryz.func18, Tryz.ntmps18
    go_wp2
    go_loopw [5] (fun x wr => ∃ k : Nat, k ≤ n ∧ x = .int .i64 k ∧ Hid (Kept [] w wr ∧ A.take k = B.take k)) (fun x wr => n - (intOf x).toNat)
    case atStart => exact ⟨0, by omega, rfl, Kept.refl _ _, rfl⟩
    case round =>
      obtain ⟨k, hk, rfl, HP⟩ := hrel
      by_cases hlt : k < n
      · have hkA : k < A.length := by rw [HN.out.1]; exact hlt
        have hkB : k < B.length := by rw [HN.out.2]; exact hlt
        obtain ⟨g, off, rfl, hrg⟩ := (HA.out.kept HP.out.1 (fun _ _ _ => by simp)).1 k hkA
        obtain ⟨g2, off2, rfl, hrg2⟩ := (HB.out.kept HP.out.1 (fun _ _ _ => by simp)).1 k hkB
        have hx : (A.getD k []).length = 32 := HA.out.2 _ (gmem9 hkA)
        have hy : (B.getD k []).length = 32 := HB.out.2 _ (gmem9 hkB)
        obtain ⟨x, hxe⟩ : ∃ x, A.getD k [] = x := ⟨_, rfl⟩
        obtain ⟨y, hye⟩ : ∃ y, B.getD k [] = y := ⟨_, rfl⟩
        have HX : Hid (A[k]? = some x ∧ B[k]? = some y) := hide ⟨by rw [← hxe]; simp [List.getElem?_eq_getElem hkA], by rw [← hye]; simp [List.getElem?_eq_getElem hkB]⟩
        rw [hxe] at hrg hx
        rw [hye] at hrg2 hy
        have hxl := idl x hx
        have hyl := idl y hy
        have heqx : ∀ W, (Op.equalIn 10000 36 (.agg (bys x).toArray) (.agg (bys y).toArray)).run Tryz.prog W = .ok (decide (x = y)) W := fun W => Tryz.eqlID x y hx hy W
        have hlt1 : (k : Int) < (n : Int) := by omega
        clear hxe hye hkA hkB
        by_cases hxy : x = y
        · have heq : ∀ W, (Op.equalIn 10000 36 (.agg (bys x).toArray) (.agg (bys y).toArray)).run Tryz.prog W = .ok true W := fun W => by rw [heqx W, decide_eq_true hxy]
          have HE := hide hxy
          clear heqx hxy
          go_upto_region 6 with (fail)
          refine wp_region_held_drew (S := fun w' => Kept [] wr w') (by kernel_rfl) ((Kept.refl [] wr).drew) (fun h0 => ?_)
          generalize World.drew wr = v0 at h0  ⊢
          refine wpAnyH_take (i := 0) (v := .slice (some ⟨g, off, none⟩) n c) rfl (by kernel_rfl) (by kernel_rfl) (by kernel_rfl) (fun _ _ _ h => h) (Or.inl ⟨by rfl, fun w hSw => by go_simp⟩) h0 ?_
          try simp only [List.getElem_toArray, List.getElem_cons_zero, List.getElem_cons_succ, Act.put, List.setIfInBounds_toArray, List.set_cons_zero, List.set_cons_succ]
          refine wpAnyH_take (i := 1) (v := .int .i64 k) rfl (by kernel_rfl) (by kernel_rfl) (by kernel_rfl) (fun _ _ _ h => h) (Or.inl ⟨by rfl, fun w hSw => by go_simp⟩) h0 ?_
          try simp only [List.getElem_toArray, List.getElem_cons_zero, List.getElem_cons_succ, Act.put, List.setIfInBounds_toArray, List.set_cons_zero, List.set_cons_succ]
          refine wpAnyH_take (i := 2) (v := .pointer (some ⟨g, off + k * 32, none⟩)) rfl (by kernel_rfl) (by kernel_rfl) (by kernel_rfl) (fun _ _ _ h => h) (Or.inl ⟨by rfl, fun w hSw => by go_simp⟩) h0 ?_
          try simp only [List.getElem_toArray, List.getElem_cons_zero, List.getElem_cons_succ, Act.put, List.setIfInBounds_toArray, List.set_cons_zero, List.set_cons_succ]
          refine wpAnyH_take (i := 3) (v := .agg (bys x).toArray) rfl (by kernel_rfl) (by kernel_rfl) (by kernel_rfl) (fun _ _ _ h => h) (yieldsIf_load_mid (by rfl) _ _ rfl g (off + k * 32) rfl (bys x) _ (fun W h => fun j u hu => Kept.cellOf h (hrg j u hu) (by simp)) Tryz.underlying36 rfl hxl) h0 ?_
          try simp only [List.getElem_toArray, List.getElem_cons_zero, List.getElem_cons_succ, Act.put, List.setIfInBounds_toArray, List.set_cons_zero, List.set_cons_succ]
          refine wpAnyH_take (i := 4) (v := .slice (some ⟨g2, off2, none⟩) n d) rfl (by kernel_rfl) (by kernel_rfl) (by kernel_rfl) (fun _ _ _ h => h) (Or.inl ⟨by rfl, fun w hSw => by go_simp⟩) h0 ?_
          try simp only [List.getElem_toArray, List.getElem_cons_zero, List.getElem_cons_succ, Act.put, List.setIfInBounds_toArray, List.set_cons_zero, List.set_cons_succ]
          refine wpAnyH_take (i := 5) (v := .int .i64 k) rfl (by kernel_rfl) (by kernel_rfl) (by kernel_rfl) (fun _ _ _ h => h) (Or.inl ⟨by rfl, fun w hSw => by go_simp⟩) h0 ?_
          try simp only [List.getElem_toArray, List.getElem_cons_zero, List.getElem_cons_succ, Act.put, List.setIfInBounds_toArray, List.set_cons_zero, List.set_cons_succ]
          refine wpAnyH_take (i := 6) (v := .pointer (some ⟨g2, off2 + k * 32, none⟩)) rfl (by kernel_rfl) (by kernel_rfl) (by kernel_rfl) (fun _ _ _ h => h) (Or.inl ⟨by rfl, fun w hSw => by go_simp⟩) h0 ?_
          try simp only [List.getElem_toArray, List.getElem_cons_zero, List.getElem_cons_succ, Act.put, List.setIfInBounds_toArray, List.set_cons_zero, List.set_cons_succ]
          refine wpAnyH_take (i := 7) (v := .agg (bys y).toArray) rfl (by kernel_rfl) (by kernel_rfl) (by kernel_rfl) (fun _ _ _ h => h) (yieldsIf_load_mid (by rfl) _ _ rfl g2 (off2 + k * 32) rfl (bys y) _ (fun W h => fun j u hu => Kept.cellOf h (hrg2 j u hu) (by simp)) Tryz.underlying36 rfl hyl) h0 ?_
          try simp only [List.getElem_toArray, List.getElem_cons_zero, List.getElem_cons_succ, Act.put, List.setIfInBounds_toArray, List.set_cons_zero, List.set_cons_succ]
          refine wpAnyH_take (i := 8) (v := .bool false) rfl (by kernel_rfl) (by kernel_rfl) (by kernel_rfl) (fun _ _ _ h => h) (Or.inl ⟨by rfl, fun w hSw => by have c0 := heq w; go_simp⟩) h0 ?_
          try simp only [List.getElem_toArray, List.getElem_cons_zero, List.getElem_cons_succ, Act.put, List.setIfInBounds_toArray, List.set_cons_zero, List.set_cons_succ]
          refine wpAnyH_done (by kernel_rfl) ?_ _
          have HKF : Hid (Kept [] w v0 ∧ A.take (k + 1) = B.take (k + 1)) := hide ⟨HP.out.1.trans h0 (by simp), by
            rw [List.take_add_one, List.take_add_one, HP.out.2, HX.out.1, HX.out.2, HE.out]⟩
          clear h0 heq hrg hrg2
          go_wp2
          go_roundw
          case rel => exact ⟨k + 1, by omega, by go_num, HKF⟩
          case measure => simp [intOf]; omega
        · have heq : ∀ W, (Op.equalIn 10000 36 (.agg (bys x).toArray) (.agg (bys y).toArray)).run Tryz.prog W = .ok false W := fun W => by rw [heqx W, decide_eq_false hxy]
          have HE := hide hxy
          clear heqx hxy
          go_upto_region 6 with (fail)
          refine wp_region_held_drew (S := fun w' => Kept [] wr w') (by kernel_rfl) ((Kept.refl [] wr).drew) (fun h0 => ?_)
          generalize World.drew wr = v0 at h0  ⊢
          refine wpAnyH_take (i := 0) (v := .slice (some ⟨g, off, none⟩) n c) rfl (by kernel_rfl) (by kernel_rfl) (by kernel_rfl) (fun _ _ _ h => h) (Or.inl ⟨by rfl, fun w hSw => by go_simp⟩) h0 ?_
          try simp only [List.getElem_toArray, List.getElem_cons_zero, List.getElem_cons_succ, Act.put, List.setIfInBounds_toArray, List.set_cons_zero, List.set_cons_succ]
          refine wpAnyH_take (i := 1) (v := .int .i64 k) rfl (by kernel_rfl) (by kernel_rfl) (by kernel_rfl) (fun _ _ _ h => h) (Or.inl ⟨by rfl, fun w hSw => by go_simp⟩) h0 ?_
          try simp only [List.getElem_toArray, List.getElem_cons_zero, List.getElem_cons_succ, Act.put, List.setIfInBounds_toArray, List.set_cons_zero, List.set_cons_succ]
          refine wpAnyH_take (i := 2) (v := .pointer (some ⟨g, off + k * 32, none⟩)) rfl (by kernel_rfl) (by kernel_rfl) (by kernel_rfl) (fun _ _ _ h => h) (Or.inl ⟨by rfl, fun w hSw => by go_simp⟩) h0 ?_
          try simp only [List.getElem_toArray, List.getElem_cons_zero, List.getElem_cons_succ, Act.put, List.setIfInBounds_toArray, List.set_cons_zero, List.set_cons_succ]
          refine wpAnyH_take (i := 3) (v := .agg (bys x).toArray) rfl (by kernel_rfl) (by kernel_rfl) (by kernel_rfl) (fun _ _ _ h => h) (yieldsIf_load_mid (by rfl) _ _ rfl g (off + k * 32) rfl (bys x) _ (fun W h => fun j u hu => Kept.cellOf h (hrg j u hu) (by simp)) Tryz.underlying36 rfl hxl) h0 ?_
          try simp only [List.getElem_toArray, List.getElem_cons_zero, List.getElem_cons_succ, Act.put, List.setIfInBounds_toArray, List.set_cons_zero, List.set_cons_succ]
          refine wpAnyH_take (i := 4) (v := .slice (some ⟨g2, off2, none⟩) n d) rfl (by kernel_rfl) (by kernel_rfl) (by kernel_rfl) (fun _ _ _ h => h) (Or.inl ⟨by rfl, fun w hSw => by go_simp⟩) h0 ?_
          try simp only [List.getElem_toArray, List.getElem_cons_zero, List.getElem_cons_succ, Act.put, List.setIfInBounds_toArray, List.set_cons_zero, List.set_cons_succ]
          refine wpAnyH_take (i := 5) (v := .int .i64 k) rfl (by kernel_rfl) (by kernel_rfl) (by kernel_rfl) (fun _ _ _ h => h) (Or.inl ⟨by rfl, fun w hSw => by go_simp⟩) h0 ?_
          try simp only [List.getElem_toArray, List.getElem_cons_zero, List.getElem_cons_succ, Act.put, List.setIfInBounds_toArray, List.set_cons_zero, List.set_cons_succ]
          refine wpAnyH_take (i := 6) (v := .pointer (some ⟨g2, off2 + k * 32, none⟩)) rfl (by kernel_rfl) (by kernel_rfl) (by kernel_rfl) (fun _ _ _ h => h) (Or.inl ⟨by rfl, fun w hSw => by go_simp⟩) h0 ?_
          try simp only [List.getElem_toArray, List.getElem_cons_zero, List.getElem_cons_succ, Act.put, List.setIfInBounds_toArray, List.set_cons_zero, List.set_cons_succ]
          refine wpAnyH_take (i := 7) (v := .agg (bys y).toArray) rfl (by kernel_rfl) (by kernel_rfl) (by kernel_rfl) (fun _ _ _ h => h) (yieldsIf_load_mid (by rfl) _ _ rfl g2 (off2 + k * 32) rfl (bys y) _ (fun W h => fun j u hu => Kept.cellOf h (hrg2 j u hu) (by simp)) Tryz.underlying36 rfl hyl) h0 ?_
          try simp only [List.getElem_toArray, List.getElem_cons_zero, List.getElem_cons_succ, Act.put, List.setIfInBounds_toArray, List.set_cons_zero, List.set_cons_succ]
          refine wpAnyH_take (i := 8) (v := .bool true) rfl (by kernel_rfl) (by kernel_rfl) (by kernel_rfl) (fun _ _ _ h => h) (Or.inl ⟨by rfl, fun w hSw => by have c0 := heq w; go_simp⟩) h0 ?_
          try simp only [List.getElem_toArray, List.getElem_cons_zero, List.getElem_cons_succ, Act.put, List.setIfInBounds_toArray, List.set_cons_zero, List.set_cons_succ]
          refine wpAnyH_done (by kernel_rfl) ?_ _
          have HKF := hide (HP.out.1.trans h0 (by simp))
          have HF : Hid (decide (A = B) = false) := hide (decide_eq_false (fun e => by
            have h1 := HX.out
            rw [e, h1.2] at h1
            exact HE.out (Option.some.inj h1.1).symm))
          clear h0 heq hrg hrg2
          go_wp2
          go_ret
          exact ⟨by rw [HF.out]; rfl, HKF.out⟩
      · obtain rfl : k = n := by omega
        have HF : Hid (decide (A = B) = true) := hide (decide_eq_true (by
          have h1 := HP.out.2
          rw [List.take_of_length_le (by have := HN.out.1; omega), List.take_of_length_le (by have := HN.out.2; omega)] at h1
          exact h1))
        have HKF := hide HP.out.1
        clear HP
        go_wp2
        go_ret
        exact ⟨by rw [HF.out]; rfl, HKF.out⟩
  · have HF : Hid (decide (A = B) = false) := hide (decide_eq_false (fun e => hnm (by rw [← hA, ← hB, e])))
    have h1 : ((n : Int) != (m : Int)) = true := by simp; omega
    clear iA iB hA hB
    go_enter Tryz.func18, Tryz.ntmps18
    go_wp2
    go_ret
    exact ⟨by rw [HF.out]; rfl, Kept.refl _ _⟩

theorem Tryz.eqFE9 (v u : Value) (w : World) : (binOp .eql 30 (.iface 86 v) (.iface 38 u)).run Tryz.prog w = .ok (.bool false) w := run_eql_iface_types (P := Tryz.prog) 86 38 v u Tryz.underlying30 (by decide) w
theorem Tryz.eqEE9 (n m : Int) (w : World) : (binOp .eql 30 (.iface 38 (.int .i64 n)) (.iface 38 (.int .i64 m))).run Tryz.prog w = .ok (.bool (n == m)) w := by kernel_rfl
def cmpImpl9 : Array Value → Sem Value := Extern.ReflectliteType.method fun t => do Extern.Rtype.noPackHeld "Comparable" t; pure (.bool (← typeInfo t).comparable)
theorem Tryz.cmpI9 (w : World) : (cmpImpl9 #[.agg #[.pointer (some ⟨4, 38, none⟩)]]).run Tryz.prog w = .ok (.bool true) w := by kernel_rfl

set_option maxHeartbeats 4000000 in
set_option maxRecDepth 100000 in
/-- errors.Is of such an error and a number. -/
theorem isErrno_ok (k : Nat) (v : Value) (c m : Int) (w : World) (h : Chn w k v (errnoV c)) :
    Calls Tryz.prog 27 #[v, .iface 38 (.int .i64 m)] w fun e w' => e = .returned (.bool (c == m)) ∧ w' = w := by
  have x7 := @run_callFunc_extern Tryz.prog 41 _ (Extern.ReflectliteType.typeOf) Tryz.func41 (by kernel_rfl) (by kernel_rfl) (by kernel_rfl) (by kernel_rfl)
  have x11 := @run_callFunc_extern Tryz.prog 125 _ (cmpImpl9) Tryz.func125 (by kernel_rfl) (by kernel_rfl) (by kernel_rfl) (by kernel_rfl)
  have z0 := Tryz.mComp
  have z1 := Tryz.tOE
  have z2 := Tryz.cmpI9
  have z3 := Tryz.eqFE9
  have z4 := Tryz.noIsF
  have z5 := Tryz.unF
  have z6 := Tryz.mUn
  have z8 := Tryz.noIsE
  have z9 := Tryz.noUnE
  have z10 := Tryz.noUsE
  obtain ⟨r, hr⟩ : ∃ r, (c == m) = r := ⟨_, rfl⟩
  have z7 : (binOp .eql 30 (.iface 38 (.int .i64 c)) (.iface 38 (.int .i64 m))).run Tryz.prog w = .ok (.bool r) w := by rw [Tryz.eqEE9, hr]
  have HH := hide h
  have hsh := h.shape
  have HR := hide hr
  rw [hr]
  clear h hr
  have hin : Calls Tryz.prog 42 #[v, .iface 38 (.int .i64 m), .bool true] w fun e w' => e = .returned (.bool r) ∧ w' = w := by
    clear hsh
    go_enter Tryz.func42, Tryz.ntmps42
    go_wp2
    go_loopw [0] (fun x wr => ∃ (j : Nat) (u : Value), x = u ∧ wr = w ∧ Hid (Chn w j u (errnoV c))) (fun x wr => cdep w x (errnoV c))
    case atStart => exact ⟨k, v, rfl, rfl, HH⟩
    case round =>
      obtain ⟨j, u, hxu, hwr, HC⟩ := hrel
      obtain rfl := hxu.symm
      obtain rfl := hwr.symm
      clear HH
      cases j with
      | zero =>
        obtain rfl : u = errnoV c := HC.out
        unfold errnoV
        clear HC
        cases r with
        | true =>
          go_wp2
          go_ret
          exact ⟨rfl, rfl⟩
        | false =>
          go_wp2
          go_ret
          exact ⟨rfl, rfl⟩
      | succ j =>
        obtain ⟨eb, u', rfl, hc, hr⟩ := HC.out
        have hun := unwrap_ok eb u' w hc
        have HM : Hid (cdep w u' (errnoV c) < cdep w (faultV eb) (errnoV c)) := hide (by rw [cdep_eq (noF_errno c) hr, cdep_eq (noF_errno c) HC.out]; omega)
        have HR2 := hide hr
        clear HC hr hc
        have hsh : (∃ n, u' = .iface 38 (.int .i64 n)) ∨ ∃ e2, u' = .iface 86 (.pointer (some ⟨e2, 0, none⟩)) := by
          cases j with
          | zero => exact .inl ⟨c, HR2.out⟩
          | succ j => obtain ⟨e2, _, e, _⟩ := HR2.out; exact .inr ⟨e2, e⟩
        unfold faultV
        rcases hsh with ⟨n, rfl⟩ | ⟨e2, rfl⟩
        · go_wp2_with (go_at_call 118; refine hun.mono ?_; rintro e w' ⟨rfl, hww⟩; obtain rfl := hww.symm)
          go_roundw
          case rel => exact ⟨j, _, rfl, trivial, HR2⟩
          case measure => exact HM.out
        · go_wp2_with (go_at_call 118; refine hun.mono ?_; rintro e w' ⟨rfl, hww⟩; obtain rfl := hww.symm)
          go_roundw
          case rel => exact ⟨j, _, rfl, trivial, HR2⟩
          case measure => exact HM.out
  rcases hsh with ⟨n, rfl⟩ | ⟨e2, rfl⟩
  · go_enter Tryz.func27, Tryz.ntmps27
    go_wp2_with (go_at_call 42; refine hin.mono ?_; rintro e w' ⟨rfl, hww⟩; obtain rfl := hww.symm; clear hin)
    go_ret
    exact ⟨rfl, rfl⟩
  · go_enter Tryz.func27, Tryz.ntmps27
    go_wp2_with (go_at_call 42; refine hin.mono ?_; rintro e w' ⟨rfl, hww⟩; obtain rfl := hww.symm; clear hin)
    go_ret
    exact ⟨rfl, rfl⟩
end

section
open Go.RowKit Go.Lib Go.Sort
set_option linter.unusedVariables false
set_option linter.unusedSimpArgs false

theorem FltAt.op {w : World} {eb : Nat} {op i : List UInt8} {u : Value} (h : FltAt w eb op i u) : w.cell? ⟨eb, 0, none⟩ = some (.string ⟨op.toArray⟩) := by rw [cell_of_row _ _ _ _ _ _ h]; rfl
theorem FltAt.name {w : World} {eb : Nat} {op i : List UInt8} {u : Value} (h : FltAt w eb op i u) : w.cell? ⟨eb, 1, none⟩ = some (.string ⟨#[]⟩) := by rw [cell_of_row _ _ _ _ _ _ h]; rfl
theorem FltAt.id {w : World} {eb : Nat} {op i : List UInt8} {u : Value} (h : FltAt w eb op i u) : w.rangeAt eb 2 (bys i) := fun j v hv => by
  rw [cell_of_row _ _ _ _ _ _ h, List.getElem?_toArray]
  unfold fltC
  rw [show 2 + j = (j + 1) + 1 by omega, List.getElem?_cons_succ, List.getElem?_cons_succ, List.getElem?_append_left (List.getElem?_eq_some_iff.1 hv).1]
  exact hv
theorem FltAt.lt {w : World} {eb : Nat} {op i : List UInt8} {u : Value} (h : FltAt w eb op i u) : eb < w.heap.size := (Array.getElem?_eq_some_iff.1 h).1

theorem asF9 (eb B : Nat) (w : World) (hg : GlE w) (hc : w.cell? ⟨B, 0, none⟩ = some (.pointer none)) (hf : w.frozen? ⟨B, 0, none⟩ = false) :
    Calls Tryz.prog 26 #[.iface 86 (.pointer (some ⟨eb, 0, none⟩)), .iface 87 (.pointer (some ⟨B, 0, none⟩))] w fun ev w' => ev = .returned (.bool true) ∧ w'.cell? ⟨B, 0, none⟩ = some (.pointer (some ⟨eb, 0, none⟩)) ∧ Kept [B] w w' := by
  have hlt : B < w.heap.size := World.block_lt_of_cell? _ _ hc
  refine (as_fault0 ⟨eb, 0, none⟩ ⟨B, 0, none⟩ (.pointer none) w hg hc hf).mono ?_
  rintro ev w' ⟨rfl, rfl⟩
  refine ⟨rfl, ?_, ?_⟩
  · refine World.cell?_setCell_same _ _ _ (u := .pointer none) ?_
    rw [World.cell?_alloc_lt _ _ _ (by simp; omega), World.cell?_alloc_lt _ _ _ (by simp; omega), World.cell?_alloc_lt _ _ _ (by simp; omega), World.cell?_alloc_lt _ _ _ hlt]
    exact hc
  · exact ((((((Kept.refl [B] w).alloc _).alloc _).alloc _).alloc _)).setCell (fun _ => by simp) _

set_option maxHeartbeats 4000000 in
set_option maxRecDepth 100000 in
/-- The Fault of that call, said of that id, with that number. -/
theorem refused9_ok (eb : Nat) (op i : List UInt8) (cd : Int) (w : World) (hgl : GlE w) (h : FltAt w eb op i (.iface 38 (.int .i64 cd))) (hi : i.length = 32) (h1 : cd ≠ 1) :
    Calls Tryz.prog 13 #[.iface 86 (.pointer (some ⟨eb, 0, none⟩)), .string ⟨op.toArray⟩, .int .i64 cd, .agg (bys i).toArray] w fun e w' => e = .returned (.bool true) ∧ Kept [] w w' := by
  obtain ⟨B1, hB1⟩ : ∃ r, r = w.heap.size := ⟨_, rfl⟩
  obtain ⟨B2, hB2⟩ : ∃ r, r = w.heap.size + 1 := ⟨_, rfl⟩
  have g1 := heap_alloc2_old w (.cells (bys i).toArray 36) (.cells #[.pointer none] 86)
  have g2 := heap_alloc2_new w (.cells (bys i).toArray 36) (.cells #[.pointer none] 86)
  have hk0 : Kept [] w ((w.alloc (.cells (bys i).toArray 36)).alloc (.cells #[.pointer none] 86)) := ((Kept.refl [] w).alloc _).alloc _
  rw [← hB1] at g1
  rw [← hB2] at g2
  have hlt := h.lt
  have HW := hide (And.intro hk0 (And.intro (h.kept hk0) (And.intro g1 (And.intro g2 (hk0.cellOf hgl (by simp))))))
  have HE : Hid (eb ≠ B1 ∧ eb ≠ B2 ∧ B1 ≠ B2 ∧ B2 ≠ 0) := hide (by
    have : 0 < w.heap.size := World.block_lt_of_cell? _ _ hgl
    omega)
  have HB : Hid (w.heap.size ≤ B2) := hide (by omega)
  have hil := idl i hi
  have hcc : (cd == 1) = false := by simpa using h1
  have heqx : ∀ W, (Op.equalIn 10000 36 (.agg (bys i).toArray) (.agg (bys i).toArray)).run Tryz.prog W = .ok true W := fun W => by rw [Tryz.eqlID i i hi hi W, decide_eq_true rfl]
  have heq := heqx
  clear h hk0 g1 g2 hlt h1 heqx hgl
  go_enter Tryz.func13, Tryz.ntmps13
  go_upto_region 2 with (fail)
  rw [← hB2, ← hB1]
  clear hB2 hB1
  generalize (w.alloc _).alloc _ = w2 at HW ⊢
  have f0 := HW.out.2.1.op
  have f1 := HW.out.2.1.name
  have f2 := HW.out.2.1.id
  have hri : w2.rangeAt B1 0 (bys i) := row_rangeK HW.out.2.2.1
  have n1 : eb ≠ B1 := HE.out.1
  have n2 : eb ≠ B2 := HE.out.2.1
  have n3 : B1 ≠ B2 := HE.out.2.2.1
  have n4 : 0 ≠ B2 := fun e => HE.out.2.2.2 e.symm
  have hd2 : (World.drew w2).cell? ⟨B2, 0, none⟩ = some (.pointer none) := by
    show w2.cell? ⟨B2, 0, none⟩ = _
    rw [cell_of_row _ _ _ _ _ _ HW.out.2.2.2.1]; rfl
  have hd3 : (World.drew w2).frozen? ⟨B2, 0, none⟩ = false := by
    show w2.frozen? ⟨B2, 0, none⟩ = _
    exact frozen_of_row _ _ _ _ _ HW.out.2.2.2.1
  have hd4 : GlE (World.drew w2) := HW.out.2.2.2.2
  refine wp_region_held_drew (S := fun w' => Kept [B2] w2 w') (by kernel_rfl) ((Kept.refl [B2] w2).drew) (fun h0 => ?_)
  generalize World.drew w2 = v0 at h0 hd2 hd3 hd4 ⊢
  have hAs : Calls Tryz.prog 26 #[.iface 86 (.pointer (some ⟨eb, 0, none⟩)), .iface 87 (.pointer (some ⟨B2, 0, none⟩))] v0 fun ev w' => ev = .returned (.bool true) ∧ w'.cell? ⟨B2, 0, none⟩ = some (.pointer (some ⟨eb, 0, none⟩)) ∧ Kept [B2] v0 w' := asF9 eb B2 v0 hd4 hd2 hd3
  clear hd2 hd3
  refine wpAnyH_take (i := 0) (v := .iface 86 (.pointer (some ⟨eb, 0, none⟩))) rfl (by kernel_rfl) (by kernel_rfl) (by kernel_rfl) (fun _ _ _ h => h) (Or.inl ⟨by rfl, fun w hSw => by go_simp⟩) h0 ?_
  try simp only [List.getElem_toArray, List.getElem_cons_zero, List.getElem_cons_succ, Act.put, List.setIfInBounds_toArray, List.set_cons_zero, List.set_cons_succ]
  refine wpAnyH_take (i := 1) (v := .bool false) rfl (by kernel_rfl) (by kernel_rfl) (by kernel_rfl) (fun _ _ _ h => h) (Or.inl ⟨by rfl, fun w hSw => by go_simp⟩) h0 ?_
  try simp only [List.getElem_toArray, List.getElem_cons_zero, List.getElem_cons_succ, Act.put, List.setIfInBounds_toArray, List.set_cons_zero, List.set_cons_succ]
  refine wpAnyH_take (i := 2) (v := .bool false) rfl (by kernel_rfl) (by kernel_rfl) (by kernel_rfl) (fun _ _ _ h => h) (Or.inl ⟨by rfl, fun w hSw => by go_simp⟩) h0 ?_
  try simp only [List.getElem_toArray, List.getElem_cons_zero, List.getElem_cons_succ, Act.put, List.setIfInBounds_toArray, List.set_cons_zero, List.set_cons_succ]
  refine wpAnyH_take (i := 3) (v := .iface 86 (.pointer (some ⟨eb, 0, none⟩))) rfl (by kernel_rfl) (by kernel_rfl) (by kernel_rfl) (fun _ _ _ h => h) (Or.inl ⟨by rfl, fun w hSw => by go_simp⟩) h0 ?_
  try simp only [List.getElem_toArray, List.getElem_cons_zero, List.getElem_cons_succ, Act.put, List.setIfInBounds_toArray, List.set_cons_zero, List.set_cons_succ]
  refine wpAnyH_take (i := 4) (v := .iface 87 (.pointer (some ⟨B2, 0, none⟩))) rfl (by kernel_rfl) (by kernel_rfl) (by kernel_rfl) (fun _ _ _ h => h) (Or.inl ⟨by rfl, fun w hSw => by go_simp⟩) h0 ?_
  try simp only [List.getElem_toArray, List.getElem_cons_zero, List.getElem_cons_succ, Act.put, List.setIfInBounds_toArray, List.set_cons_zero, List.set_cons_succ]
  refine wpAnyH_ready (rs := [5]) (by kernel_rfl) (by simp) (AllReadyH.cons (i := 5) rfl (fun K hK => ?_) AllReadyH.nil)
  rw [if_pos (by rfl)]
  go_simp
  refine (hAs).mono ?_
  rintro e v1 ⟨rfl, hc2, hk2⟩
  have hd5 := hk2.cellOf hd4 (by simpa using n4)
  clear hAs
  refine hK.out _ _ (h0.trans hk2 (by simp)) (fun h1 => ?_)
  clear hK K
  try simp only [List.getElem_toArray, List.getElem_cons_zero, List.getElem_cons_succ, Act.put, List.setIfInBounds_toArray, List.set_cons_zero, List.set_cons_succ]
  refine wpAnyH_take (i := 6) (v := .bool false) rfl (by kernel_rfl) (by kernel_rfl) (by kernel_rfl) (fun _ _ _ h => h) (Or.inl ⟨by rfl, fun w hSw => by go_simp⟩) h1 ?_
  try simp only [List.getElem_toArray, List.getElem_cons_zero, List.getElem_cons_succ, Act.put, List.setIfInBounds_toArray, List.set_cons_zero, List.set_cons_succ]
  refine wpAnyH_take (i := 7) (v := .bool false) rfl (by kernel_rfl) (by kernel_rfl) (by kernel_rfl) (fun _ _ _ h => h) (Or.inl ⟨by rfl, fun w hSw => by go_simp⟩) h1 ?_
  try simp only [List.getElem_toArray, List.getElem_cons_zero, List.getElem_cons_succ, Act.put, List.setIfInBounds_toArray, List.set_cons_zero, List.set_cons_succ]
  refine wpAnyH_take (i := 8) (v := .bool false) rfl (by kernel_rfl) (by kernel_rfl) (by kernel_rfl) (fun _ _ _ h => h) (Or.inl ⟨by rfl, fun w hSw => by go_simp⟩) h1 ?_
  try simp only [List.getElem_toArray, List.getElem_cons_zero, List.getElem_cons_succ, Act.put, List.setIfInBounds_toArray, List.set_cons_zero, List.set_cons_succ]
  refine wpAnyH_ready (rs := [9]) (by kernel_rfl) (by simp) (AllReadyH.cons (i := 9) rfl (fun K hK => ?_) AllReadyH.nil)
  rw [if_pos (by rfl)]
  go_simp
  refine hK.out _ _ (h1) (fun h2 => ?_)
  clear hK K
  try simp only [List.getElem_toArray, List.getElem_cons_zero, List.getElem_cons_succ, Act.put, List.setIfInBounds_toArray, List.set_cons_zero, List.set_cons_succ]
  refine wpAnyH_take (i := 10) (v := .bool false) rfl (by kernel_rfl) (by kernel_rfl) (by kernel_rfl) (fun _ _ _ h => h) (Or.inl ⟨by rfl, fun w hSw => by go_simp⟩) h2 ?_
  try simp only [List.getElem_toArray, List.getElem_cons_zero, List.getElem_cons_succ, Act.put, List.setIfInBounds_toArray, List.set_cons_zero, List.set_cons_succ]
  refine wpAnyH_take (i := 11) (v := .bool false) rfl (by kernel_rfl) (by kernel_rfl) (by kernel_rfl) (fun _ _ _ h => h) (Or.inl ⟨by rfl, fun w hSw => by go_simp⟩) h2 ?_
  try simp only [List.getElem_toArray, List.getElem_cons_zero, List.getElem_cons_succ, Act.put, List.setIfInBounds_toArray, List.set_cons_zero, List.set_cons_succ]
  refine wpAnyH_take (i := 12) (v := .bool false) rfl (by kernel_rfl) (by kernel_rfl) (by kernel_rfl) (fun _ _ _ h => h) (Or.inl ⟨by rfl, fun w hSw => by go_simp⟩) h2 ?_
  try simp only [List.getElem_toArray, List.getElem_cons_zero, List.getElem_cons_succ, Act.put, List.setIfInBounds_toArray, List.set_cons_zero, List.set_cons_succ]
  refine wpAnyH_take (i := 17) (v := .string ⟨op.toArray⟩) rfl (by kernel_rfl) (by kernel_rfl) (by kernel_rfl) (fun _ _ _ h => h) (Or.inl ⟨by rfl, fun w hSw => by go_simp⟩) h2 ?_
  try simp only [List.getElem_toArray, List.getElem_cons_zero, List.getElem_cons_succ, Act.put, List.setIfInBounds_toArray, List.set_cons_zero, List.set_cons_succ]
  refine wpAnyH_ready (rs := [13]) (by kernel_rfl) (by simp) (AllReadyH.cons (i := 13) rfl (fun K hK => ?_) AllReadyH.nil)
  rw [if_pos (by rfl)]
  go_simp
  refine hK.out _ _ (h2) (fun h3 => ?_)
  clear hK K
  try simp only [List.getElem_toArray, List.getElem_cons_zero, List.getElem_cons_succ, Act.put, List.setIfInBounds_toArray, List.set_cons_zero, List.set_cons_succ]
  refine wpAnyH_take (i := 14) (v := .pointer (some ⟨eb, 0, none⟩)) rfl (by kernel_rfl) (by kernel_rfl) (by kernel_rfl) (fun _ _ _ h => h) (Or.inl ⟨by rfl, fun w hSw => by go_simp⟩) h3 ?_
  try simp only [List.getElem_toArray, List.getElem_cons_zero, List.getElem_cons_succ, Act.put, List.setIfInBounds_toArray, List.set_cons_zero, List.set_cons_succ]
  refine wpAnyH_take (i := 15) (v := .pointer (some ⟨eb, 0, none⟩)) rfl (by kernel_rfl) (by kernel_rfl) (by kernel_rfl) (fun _ _ _ h => h) (Or.inl ⟨by rfl, fun w hSw => by go_simp⟩) h3 ?_
  try simp only [List.getElem_toArray, List.getElem_cons_zero, List.getElem_cons_succ, Act.put, List.setIfInBounds_toArray, List.set_cons_zero, List.set_cons_succ]
  refine wpAnyH_take (i := 16) (v := .string ⟨op.toArray⟩) rfl (by kernel_rfl) (by kernel_rfl) (by kernel_rfl) (fun _ _ _ h => h) (Or.inl ⟨by rfl, fun w hSw => by have c0 := Kept.cellOf hSw f0 (by simp; omega); go_simp⟩) h3 ?_
  try simp only [List.getElem_toArray, List.getElem_cons_zero, List.getElem_cons_succ, Act.put, List.setIfInBounds_toArray, List.set_cons_zero, List.set_cons_succ]
  refine wpAnyH_take (i := 18) (v := .bool false) rfl (by kernel_rfl) (by kernel_rfl) (by kernel_rfl) (fun _ _ _ h => h) (Or.inl ⟨by rfl, fun w hSw => by go_simp⟩) h3 ?_
  try simp only [List.getElem_toArray, List.getElem_cons_zero, List.getElem_cons_succ, Act.put, List.setIfInBounds_toArray, List.set_cons_zero, List.set_cons_succ]
  refine wpAnyH_take (i := 19) (v := .bool false) rfl (by kernel_rfl) (by kernel_rfl) (by kernel_rfl) (fun _ _ _ h => h) (Or.inl ⟨by rfl, fun w hSw => by go_simp⟩) h3 ?_
  try simp only [List.getElem_toArray, List.getElem_cons_zero, List.getElem_cons_succ, Act.put, List.setIfInBounds_toArray, List.set_cons_zero, List.set_cons_succ]
  refine wpAnyH_take (i := 20) (v := .bool false) rfl (by kernel_rfl) (by kernel_rfl) (by kernel_rfl) (fun _ _ _ h => h) (Or.inl ⟨by rfl, fun w hSw => by go_simp⟩) h3 ?_
  try simp only [List.getElem_toArray, List.getElem_cons_zero, List.getElem_cons_succ, Act.put, List.setIfInBounds_toArray, List.set_cons_zero, List.set_cons_succ]
  refine wpAnyH_ready (rs := [21]) (by kernel_rfl) (by simp) (AllReadyH.cons (i := 21) rfl (fun K hK => ?_) AllReadyH.nil)
  rw [if_pos (by rfl)]
  go_simp
  refine hK.out _ _ (h3) (fun h4 => ?_)
  clear hK K
  try simp only [List.getElem_toArray, List.getElem_cons_zero, List.getElem_cons_succ, Act.put, List.setIfInBounds_toArray, List.set_cons_zero, List.set_cons_succ]
  refine wpAnyH_take (i := 22) (v := .pointer (some ⟨eb, 0, none⟩)) rfl (by kernel_rfl) (by kernel_rfl) (by kernel_rfl) (fun _ _ _ h => h) (Or.inl ⟨by rfl, fun w hSw => by go_simp⟩) h4 ?_
  try simp only [List.getElem_toArray, List.getElem_cons_zero, List.getElem_cons_succ, Act.put, List.setIfInBounds_toArray, List.set_cons_zero, List.set_cons_succ]
  refine wpAnyH_take (i := 23) (v := .pointer (some ⟨eb, 1, none⟩)) rfl (by kernel_rfl) (by kernel_rfl) (by kernel_rfl) (fun _ _ _ h => h) (Or.inl ⟨by rfl, fun w hSw => by go_simp⟩) h4 ?_
  try simp only [List.getElem_toArray, List.getElem_cons_zero, List.getElem_cons_succ, Act.put, List.setIfInBounds_toArray, List.set_cons_zero, List.set_cons_succ]
  refine wpAnyH_take (i := 24) (v := .string ⟨#[]⟩) rfl (by kernel_rfl) (by kernel_rfl) (by kernel_rfl) (fun _ _ _ h => h) (Or.inl ⟨by rfl, fun w hSw => by have c0 := Kept.cellOf hSw f1 (by simp; omega); go_simp⟩) h4 ?_
  try simp only [List.getElem_toArray, List.getElem_cons_zero, List.getElem_cons_succ, Act.put, List.setIfInBounds_toArray, List.set_cons_zero, List.set_cons_succ]
  refine wpAnyH_take (i := 25) (v := .bool false) rfl (by kernel_rfl) (by kernel_rfl) (by kernel_rfl) (fun _ _ _ h => h) (Or.inl ⟨by rfl, fun w hSw => by go_simp⟩) h4 ?_
  try simp only [List.getElem_toArray, List.getElem_cons_zero, List.getElem_cons_succ, Act.put, List.setIfInBounds_toArray, List.set_cons_zero, List.set_cons_succ]
  refine wpAnyH_take (i := 26) (v := .bool false) rfl (by kernel_rfl) (by kernel_rfl) (by kernel_rfl) (fun _ _ _ h => h) (Or.inl ⟨by rfl, fun w hSw => by go_simp⟩) h4 ?_
  try simp only [List.getElem_toArray, List.getElem_cons_zero, List.getElem_cons_succ, Act.put, List.setIfInBounds_toArray, List.set_cons_zero, List.set_cons_succ]
  refine wpAnyH_take (i := 27) (v := .bool false) rfl (by kernel_rfl) (by kernel_rfl) (by kernel_rfl) (fun _ _ _ h => h) (Or.inl ⟨by rfl, fun w hSw => by go_simp⟩) h4 ?_
  try simp only [List.getElem_toArray, List.getElem_cons_zero, List.getElem_cons_succ, Act.put, List.setIfInBounds_toArray, List.set_cons_zero, List.set_cons_succ]
  refine wpAnyH_take (i := 32) (v := .agg (bys i).toArray) rfl (by kernel_rfl) (by kernel_rfl) (by kernel_rfl) (fun _ _ _ h => h) (yieldsIf_load_mid (by rfl) _ _ rfl B1 (0) rfl (bys i) _ (fun W h => fun j u hu => Kept.cellOf h (hri j u hu) (by simp; omega)) Tryz.underlying36 rfl hil) h4 ?_
  try simp only [List.getElem_toArray, List.getElem_cons_zero, List.getElem_cons_succ, Act.put, List.setIfInBounds_toArray, List.set_cons_zero, List.set_cons_succ]
  refine wpAnyH_ready (rs := [28]) (by kernel_rfl) (by simp) (AllReadyH.cons (i := 28) rfl (fun K hK => ?_) AllReadyH.nil)
  rw [if_pos (by rfl)]
  go_simp
  refine hK.out _ _ (h4) (fun h5 => ?_)
  clear hK K
  try simp only [List.getElem_toArray, List.getElem_cons_zero, List.getElem_cons_succ, Act.put, List.setIfInBounds_toArray, List.set_cons_zero, List.set_cons_succ]
  refine wpAnyH_take (i := 29) (v := .pointer (some ⟨eb, 0, none⟩)) rfl (by kernel_rfl) (by kernel_rfl) (by kernel_rfl) (fun _ _ _ h => h) (Or.inl ⟨by rfl, fun w hSw => by go_simp⟩) h5 ?_
  try simp only [List.getElem_toArray, List.getElem_cons_zero, List.getElem_cons_succ, Act.put, List.setIfInBounds_toArray, List.set_cons_zero, List.set_cons_succ]
  refine wpAnyH_take (i := 30) (v := .pointer (some ⟨eb, 2, none⟩)) rfl (by kernel_rfl) (by kernel_rfl) (by kernel_rfl) (fun _ _ _ h => h) (Or.inl ⟨by rfl, fun w hSw => by go_simp⟩) h5 ?_
  try simp only [List.getElem_toArray, List.getElem_cons_zero, List.getElem_cons_succ, Act.put, List.setIfInBounds_toArray, List.set_cons_zero, List.set_cons_succ]
  refine wpAnyH_take (i := 31) (v := .agg (bys i).toArray) rfl (by kernel_rfl) (by kernel_rfl) (by kernel_rfl) (fun _ _ _ h => h) (yieldsIf_load_mid (by rfl) _ _ rfl eb (2) rfl (bys i) _ (fun W h => fun j u hu => Kept.cellOf h (f2 j u hu) (by simp; omega)) Tryz.underlying36 rfl hil) h5 ?_
  try simp only [List.getElem_toArray, List.getElem_cons_zero, List.getElem_cons_succ, Act.put, List.setIfInBounds_toArray, List.set_cons_zero, List.set_cons_succ]
  refine wpAnyH_take (i := 33) (v := .bool false) rfl (by kernel_rfl) (by kernel_rfl) (by kernel_rfl) (fun _ _ _ h => h) (Or.inl ⟨by rfl, fun w hSw => by have c0 := heq w; go_simp⟩) h5 ?_
  try simp only [List.getElem_toArray, List.getElem_cons_zero, List.getElem_cons_succ, Act.put, List.setIfInBounds_toArray, List.set_cons_zero, List.set_cons_succ]
  refine wpAnyH_take (i := 34) (v := .bool false) rfl (by kernel_rfl) (by kernel_rfl) (by kernel_rfl) (fun _ _ _ h => h) (Or.inl ⟨by rfl, fun w hSw => by go_simp⟩) h5 ?_
  try simp only [List.getElem_toArray, List.getElem_cons_zero, List.getElem_cons_succ, Act.put, List.setIfInBounds_toArray, List.set_cons_zero, List.set_cons_succ]
  refine wpAnyH_done (by kernel_rfl) ?_ _
  have hF1 : FltAt v1 eb op i (.iface 38 (.int .i64 cd)) := by
    unfold FltAt
    rw [h5.block eb HW.out.2.1.lt (by simpa using n2)]
    exact HW.out.2.1
  have hch : Chn v1 1 (faultV eb) (errnoV cd) := ⟨eb, _, rfl, hF1.err hi, rfl⟩
  have his := isErrno_ok 1 _ cd cd v1 hch
  have hcd := codeErrno_ok 1 _ cd v1 hd5 hch
  rw [show (cd == cd) = true by simp] at his
  unfold faultV at his hcd
  have HKF : Hid (Kept [] w v1) := hide (HW.out.1.trans h5 (fun q hq hlt => by simp at hq; have := HB.out; omega))
  clear hF1 hch hd4 hd5 h0 h1 h2 h3 h4 h5 f0 f1 f2 hri heq hc2 hk2
  go_wp2_with (first
    | (go_at_call 27; refine his.mono ?_; rintro e w' ⟨rfl, hww⟩; obtain rfl := hww.symm; clear his)
    | (go_at_call 12; refine hcd.mono ?_; rintro e w3 ⟨rfl, hk3⟩; have HK3 := hide (HKF.out.trans hk3 (by simp)); clear hcd hk3))
  go_ret
  exact ⟨rfl, HK3.out⟩
end

end Go.Proofs.YtngaimahhgmciabGreatDoor
