/-
  Entries by value: whether two are one. Contract: freightlaw7.alike.
-/
import Derived.Test.YtjogfpogdjhglaaDoorNm
import Derived.Laws.StructEq
import Derived.ChangeKeysEq
namespace Go.Proofs.YtjogfpogdjhglaaDoor
open Go.RowKit
set_option linter.unusedVariables false
set_option linter.unusedSimpArgs false

theorem Tryd.aggByte (W : World) : (isAgg 5).run Tryd.prog W = .ok false W := by kernel_rfl
theorem Tryd.aggStr (W : World) : (isAgg 9).run Tryd.prog W = .ok false W := by kernel_rfl
theorem Tryd.aggInt (W : World) : (isAgg 3).run Tryd.prog W = .ok false W := by kernel_rfl
theorem Tryd.aggID (W : World) : (isAgg 40).run Tryd.prog W = .ok true W := by kernel_rfl
theorem Tryd.sizeID (W : World) : (sizeOf 40).run Tryd.prog W = .ok 32 W := by kernel_rfl
theorem Tryd.cellsByte : Tryd.prog.cellsOf 5 = 1 := by kernel_rfl
theorem Tryd.partByte (L : List UInt8) (i : Nat) (hi : i < L.length) (W : World) : (part 5 (bys L).toArray i).run Tryd.prog W = .ok (.int .u8 (L.getD i 0).toNat) W := by
  simp only [part, Sem.run_bind, Tryd.aggByte, Result.andThen_ok, Bool.false_eq_true, if_false, List.getElem?_toArray, bys_at hi, Sem.run_pure]
theorem eqItems_bytes (d : Nat) (A B : List UInt8) (hA : A.length = 32) (hB : B.length = 32) (W : World) : ∀ (is : List Nat), (∀ i ∈ is, i < 32) →
    (Op.eqItems (d + 1) 5 1 (bys A).toArray (bys B).toArray is).run Tryd.prog W = .ok (is.all fun i => A.getD i 0 == B.getD i 0) W
  | [], _ => by simp [Op.eqItems]
  | i :: is, h => by
    have hi := h i (by simp)
    have ih := eqItems_bytes d A B hA hB W is (fun j hj => h j (by simp [hj]))
    have e : (((A.getD i 0).toNat : Int) == ((B.getD i 0).toNat : Int)) = (A.getD i 0 == B.getD i 0) := by
      rw [Bool.eq_iff_iff]
      simp only [beq_iff_eq]
      constructor
      · intro h
        exact UInt8.toNat_inj.1 (by omega)
      · intro h
        rw [h]
    simp only [Op.eqItems, Sem.run_bind, Nat.mul_one, Tryd.partByte A i (by omega), Tryd.partByte B i (by omega), Result.andThen_ok, run_equalIn_int _ d 5 .u8 .u8 _ _ Tryd.underlying5, e]
    cases hab : (A.getD i 0 == B.getD i 0)
    · simp only [Bool.not_false, if_true, Sem.run_pure, List.all_cons, hab, Bool.false_and]
    · simp only [Bool.not_true, Bool.false_eq_true, if_false, List.all_cons, hab, Bool.true_and]
      exact ih
theorem all_eq {A B : List UInt8} (hA : A.length = 32) (hB : B.length = 32) : ((List.range 32).all fun i => A.getD i 0 == B.getD i 0) = decide (A = B) := by
  rw [Bool.eq_iff_iff]
  simp only [List.all_eq_true, List.mem_range, beq_iff_eq, decide_eq_true_eq]
  constructor
  · intro h
    apply List.ext_getElem (by omega)
    intro i h1 h2
    have := h i (by omega)
    simpa [List.getElem?_eq_getElem h1, List.getElem?_eq_getElem h2] using this
  · intro h i _
    rw [h]
theorem Tryd.equalID (d : Nat) (A B : List UInt8) (hA : A.length = 32) (hB : B.length = 32) (W : World) :
    (Op.equalIn (d + 2) 40 (.agg (bys A).toArray) (.agg (bys B).toArray)).run Tryd.prog W = .ok (decide (A = B)) W := by
  obtain ⟨i0, hi, _⟩ := info_parts Tryd.infoByte
  rw [run_equalIn_array (P := Tryd.prog) W (d + 1) (bys A).toArray (bys B).toArray Tryd.underlying40 hi, Tryd.cellsByte, eqItems_bytes d A B hA hB W _ (fun i hi => List.mem_range.1 hi), all_eq hA hB]
theorem Tryd.partStr (e : Ent) (W : World) : (part 9 e.cells.toArray 0).run Tryd.prog W = .ok (.string ⟨e.name.toArray⟩) W := by
  simp only [part, Sem.run_bind, Tryd.aggStr, Result.andThen_ok, Bool.false_eq_true, if_false, Ent.cells, List.getElem?_toArray, List.getElem?_cons_zero, Sem.run_pure]
theorem Tryd.partInt (e : Ent) (W : World) : (part 3 e.cells.toArray 1).run Tryd.prog W = .ok (.int .i64 e.kind) W := by
  simp only [part, Sem.run_bind, Tryd.aggInt, Result.andThen_ok, Bool.false_eq_true, if_false, Ent.cells, List.getElem?_toArray, List.getElem?_cons_succ, List.getElem?_cons_zero, Sem.run_pure]
theorem Tryd.partID (e : Ent) (he : EntOk e) (W : World) : (part 40 e.cells.toArray 2).run Tryd.prog W = .ok (.agg (bys e.id).toArray) W := by
  have hx : e.cells.toArray.extract 2 (2 + 32) = (bys e.id).toArray := by
    apply Array.ext'
    simp [Ent.cells, bys_length, he.idl]
    exact List.take_of_length_le (by rw [bys_length, he.idl]; omega)
  simp only [part, Sem.run_bind, Tryd.aggID, Result.andThen_ok, if_true, Tryd.sizeID, Sem.run_pure]
  first | rw [hx] | (simp [he.len, hx])
theorem ent_ext {A B : Ent} : A = B ↔ A.name = B.name ∧ A.kind = B.kind ∧ A.id = B.id := by
  constructor
  · rintro rfl; exact ⟨rfl, rfl, rfl⟩
  · intro ⟨h1, h2, h3⟩
    cases A; cases B
    simp only at h1 h2 h3
    rw [h1, h2, h3]
instance : DecidableEq Ent := fun A B => decidable_of_iff _ ent_ext.symm
theorem Tryd.underEntry : Tryd.prog.underlying 42 = some (.struct (Tryd.prog.fieldsOf 42)) := by kernel_rfl
theorem Tryd.eqlEnt (A B : Ent) (hA : EntOk A) (hB : EntOk B) (W : World) : (Op.equalIn 10000 42 (.agg A.cells.toArray) (.agg B.cells.toArray)).run Tryd.prog W = .ok (decide (A = B)) W := by
  rw [run_equalIn_struct (P := Tryd.prog) W 9999 42 _ _ Tryd.underEntry (by kernel_rfl)]
  simp (config := { decide := true }) only [Program.fieldsOf, Tryd.underlying42, Op.eqFields, Sem.run_bind, Sem.run_ite, ne_eq, not_false_eq_true, if_true, Tryd.partStr, Tryd.partInt, Tryd.partID A hA, Tryd.partID B hB, Result.andThen_ok, run_equalIn_string W 9998 9 _ _ Tryd.underlying9, run_equalIn_int W 9998 3 .i64 .i64 _ _ Tryd.underlying3, Tryd.equalID 9997 A.id B.id hA.idl hB.idl W]
  have e1 : ((ByteArray.mk A.name.toArray).toList == (ByteArray.mk B.name.toArray).toList) = decide (A.name = B.name) := by
    rw [Lib.toList_data, Lib.toList_data]
    rw [Bool.eq_iff_iff]; simp
  have e2 : (A.kind == B.kind) = decide (A.kind = B.kind) := by rw [Bool.eq_iff_iff]; simp
  rw [e1, e2]
  have e3 : decide (A = B) = (decide (A.name = B.name) && (decide (A.kind = B.kind) && decide (A.id = B.id))) := by
    rw [Bool.eq_iff_iff]; simp [ent_ext]
  rw [e3]
  cases decide (A.name = B.name) <;> cases decide (A.kind = B.kind) <;> cases decide (A.id = B.id) <;> simp

theorem take_ent (L : List Ent) (k : Nat) (h : k < L.length) : L.take (k + 1) = L.take k ++ [L.getD k ent0] := by
  rw [List.take_succ_eq_append_getElem h]
  simp [List.getElem?_eq_getElem h]
set_option maxHeartbeats 1600000 in
set_option maxRecDepth 100000 in
theorem alike_some (b1 o1 c1 b2 o2 c2 n : Nat) (A B : List Ent) (w : World) (hA : A.length = n) (hB : B.length = n) (hm : n ≤ 4611686018427387904) (h1 : Ents w (some ⟨b1, o1, none⟩) A) (h2 : Ents w (some ⟨b2, o2, none⟩) B) :
    Calls Tryd.prog 10 #[.slice (some ⟨b1, o1, none⟩) n c1, .slice (some ⟨b2, o2, none⟩) n c2] w fun e w' => e = .returned (.bool (decide (A = B))) ∧ Kept [] w w' := by
  have HA : Hid (A.length = n) := hA
  have HB : Hid (B.length = n) := hB
  have H1 := hide h1
  have H2 := hide h2
  clear hA hB h1 h2
  go_enter Tryd.func10, Tryd.ntmps10
  go_wp2
  go_loopw [5] (fun x wr => ∃ k : Nat, k ≤ n ∧ x = .int .i64 k ∧ Hid (A.take k = B.take k) ∧ Hid (Kept [] w wr)) (fun x wr => n - (intOf x).toNat)
  case atStart => exact ⟨0, Nat.zero_le _, rfl, by show _ = _; simp, Kept.refl _ _⟩
  case round =>
    obtain ⟨k, hk, rfl, HE, HK⟩ := hrel
    by_cases hlt : k < n
    · obtain ⟨_, _, hx, hr1, hok1⟩ := H1.out k (by rw [HA.out]; exact hlt)
      cases hx
      obtain ⟨_, _, hx, hr2, hok2⟩ := H2.out k (by rw [HB.out]; exact hlt)
      cases hx
      have tA := hide (take_ent A k (by rw [HA.out]; exact hlt))
      have tB := hide (take_ent B k (by rw [HB.out]; exact hlt))
      have hdif : Hid (A.getD k ent0 ≠ B.getD k ent0 → decide (A = B) = false) := fun hne => by
        rw [decide_eq_false_iff_not]; rintro rfl; exact hne rfl
      generalize A.getD k ent0 = e1 at *
      generalize B.getD k ent0 = e2 at *
      have i1 : (Tryd.prog.info? 42).map (·.size) = some e1.cells.length := by rw [hok1.len]; exact Tryd.infoEntry
      have i2 : (Tryd.prog.info? 42).map (·.size) = some e2.cells.length := by rw [hok2.len]; exact Tryd.infoEntry
      have heq := Tryd.eqlEnt e1 e2 hok1 hok2
      obtain ⟨D, hD⟩ : ∃ D, decide (e1 = e2) = D := ⟨_, rfl⟩
      simp only [hD] at heq
      have HD := hide hD
      clear hD
      go_upto_region 6 with (fail)
      refine wp_region_held_drew (S := fun w' => Kept [] w w') (by kernel_rfl) (HK.out.drew) (fun h0 => ?_)
      generalize World.drew wr = v0 at h0 ⊢
      refine wpAnyH_take (i := 0) (v := .slice (some ⟨b1, o1, none⟩) n c1) rfl (by kernel_rfl) (by kernel_rfl) (by kernel_rfl) (fun _ _ _ h => h) (Or.inl ⟨by rfl, fun w hSw => by go_simp⟩) h0 ?_
      try simp only [List.getElem_toArray, List.getElem_cons_zero, List.getElem_cons_succ, Act.put, List.setIfInBounds_toArray, List.set_cons_zero, List.set_cons_succ]
      refine wpAnyH_take (i := 1) (v := .int .i64 k) rfl (by kernel_rfl) (by kernel_rfl) (by kernel_rfl) (fun _ _ _ h => h) (Or.inl ⟨by rfl, fun w hSw => by go_simp⟩) h0 ?_
      try simp only [List.getElem_toArray, List.getElem_cons_zero, List.getElem_cons_succ, Act.put, List.setIfInBounds_toArray, List.set_cons_zero, List.set_cons_succ]
      refine wpAnyH_take (i := 2) (v := .pointer (some ⟨b1, o1 + k * 34, none⟩)) rfl (by kernel_rfl) (by kernel_rfl) (by kernel_rfl) (fun _ _ _ h => h) (Or.inl ⟨by rfl, fun w hSw => by go_simp⟩) h0 ?_
      try simp only [List.getElem_toArray, List.getElem_cons_zero, List.getElem_cons_succ, Act.put, List.setIfInBounds_toArray, List.set_cons_zero, List.set_cons_succ]
      refine wpAnyH_take (i := 3) rfl (by kernel_rfl) (by kernel_rfl) (by kernel_rfl) (fun _ _ _ h => h) (yieldsIf_load_mid (by rfl) _ _ rfl _ _ rfl _ _ (fun w h j v hv => Kept.cellOf h (hr1 j v hv) (by simp)) Tryd.underlying42 rfl i1) h0 ?_
      try simp only [List.getElem_toArray, List.getElem_cons_zero, List.getElem_cons_succ, Act.put, List.setIfInBounds_toArray, List.set_cons_zero, List.set_cons_succ]
      refine wpAnyH_take (i := 4) (v := .slice (some ⟨b2, o2, none⟩) n c2) rfl (by kernel_rfl) (by kernel_rfl) (by kernel_rfl) (fun _ _ _ h => h) (Or.inl ⟨by rfl, fun w hSw => by go_simp⟩) h0 ?_
      try simp only [List.getElem_toArray, List.getElem_cons_zero, List.getElem_cons_succ, Act.put, List.setIfInBounds_toArray, List.set_cons_zero, List.set_cons_succ]
      refine wpAnyH_take (i := 5) (v := .int .i64 k) rfl (by kernel_rfl) (by kernel_rfl) (by kernel_rfl) (fun _ _ _ h => h) (Or.inl ⟨by rfl, fun w hSw => by go_simp⟩) h0 ?_
      try simp only [List.getElem_toArray, List.getElem_cons_zero, List.getElem_cons_succ, Act.put, List.setIfInBounds_toArray, List.set_cons_zero, List.set_cons_succ]
      refine wpAnyH_take (i := 6) (v := .pointer (some ⟨b2, o2 + k * 34, none⟩)) rfl (by kernel_rfl) (by kernel_rfl) (by kernel_rfl) (fun _ _ _ h => h) (Or.inl ⟨by rfl, fun w hSw => by go_simp⟩) h0 ?_
      try simp only [List.getElem_toArray, List.getElem_cons_zero, List.getElem_cons_succ, Act.put, List.setIfInBounds_toArray, List.set_cons_zero, List.set_cons_succ]
      refine wpAnyH_take (i := 7) rfl (by kernel_rfl) (by kernel_rfl) (by kernel_rfl) (fun _ _ _ h => h) (yieldsIf_load_mid (by rfl) _ _ rfl _ _ rfl _ _ (fun w h j v hv => Kept.cellOf h (hr2 j v hv) (by simp)) Tryd.underlying42 rfl i2) h0 ?_
      try simp only [List.getElem_toArray, List.getElem_cons_zero, List.getElem_cons_succ, Act.put, List.setIfInBounds_toArray, List.set_cons_zero, List.set_cons_succ]
      refine wpAnyH_take (i := 8) (v := .bool (!D)) rfl (by kernel_rfl) (by kernel_rfl) (by kernel_rfl) (fun _ _ _ h => h) (Or.inl ⟨by rfl, fun w hSw => by have c := heq w; go_simp⟩) h0 ?_
      try simp only [List.getElem_toArray, List.getElem_cons_zero, List.getElem_cons_succ, Act.put, List.setIfInBounds_toArray, List.set_cons_zero, List.set_cons_succ]
      refine wpAnyH_done (by kernel_rfl) ?_ _
      clear heq i1 i2 hr1 hr2 hok1 hok2
      cases D with
      | false =>
        go_wp2
        go_ret
        exact ⟨by rw [hdif.out (by simpa using HD.out)]; rfl, h0⟩
      | true =>
        have e12 : Hid (e1 = e2) := by show _ = _; exact of_decide_eq_true HD.out
        go_wp2
        go_roundw
        case rel => exact ⟨k + 1, by omega, by go_num, by show _ = _; rw [tA.out, tB.out, HE.out, e12.out], h0⟩
        case measure => simp [intOf]; omega
    · have hAB : Hid (A = B) := by
        have := HE.out
        rw [List.take_of_length_le (by rw [HA.out]; omega), List.take_of_length_le (by rw [HB.out]; omega)] at this
        exact this
      go_wp2
      go_ret
      exact ⟨by rw [decide_eq_true hAB.out]; rfl, HK.out⟩
set_option maxRecDepth 100000 in
theorem alike_len (a1 a2 : Option Addr) (n1 c1 n2 c2 : Nat) (w : World) (hn : n1 ≠ n2) :
    Calls Tryd.prog 10 #[.slice a1 n1 c1, .slice a2 n2 c2] w fun e w' => e = .returned (.bool false) ∧ w' = w := by
  have h : ((n1 : Int) != (n2 : Int)) = true := by simp; omega
  go_enter Tryd.func10, Tryd.ntmps10
  go_wp2
  go_ret
  exact ⟨rfl, rfl⟩
set_option maxRecDepth 100000 in
theorem alike_none (a1 a2 : Option Addr) (c1 c2 : Nat) (w : World) :
    Calls Tryd.prog 10 #[.slice a1 0 c1, .slice a2 0 c2] w fun e w' => e = .returned (.bool true) ∧ w' = w := by
  go_enter Tryd.func10, Tryd.ntmps10
  go_wp2
  go_loopw [5] (fun x wr => wr = w ∧ x = .int .i64 0) (fun x wr => 0)
  case atStart => exact ⟨rfl, rfl⟩
  case round =>
    obtain ⟨rfl, rfl⟩ := hrel
    go_wp2
    go_ret
    exact ⟨rfl, rfl⟩
/-- freightlaw7.alike. -/
theorem alike_any (a1 a2 : Option Addr) (n1 c1 n2 c2 : Nat) (A B : List Ent) (w : World) (hA : A.length = n1) (hB : B.length = n2) (hm : n1 ≤ 4611686018427387904) (h1 : Ents w a1 A) (h2 : Ents w a2 B) :
    Calls Tryd.prog 10 #[.slice a1 n1 c1, .slice a2 n2 c2] w fun e w' => e = .returned (.bool (decide (A = B))) ∧ Kept [] w w' := by
  by_cases hn : n1 = n2
  · subst hn
    by_cases h0 : A = []
    · subst h0
      obtain rfl : n1 = 0 := by simpa using hA.symm
      have hb : B = [] := List.eq_nil_of_length_eq_zero hB
      subst hb
      refine (alike_none a1 a2 c1 c2 w).mono ?_
      rintro e w' ⟨he, rfl⟩
      exact ⟨he, Kept.refl _ _⟩
    · have h0' : B ≠ [] := by rintro rfl; simp at hB; rw [← hB] at hA; exact h0 (List.eq_nil_of_length_eq_zero hA)
      obtain ⟨b1, o1, rfl, _⟩ := h1.open h0
      obtain ⟨b2, o2, rfl, _⟩ := h2.open h0'
      exact alike_some b1 o1 c1 b2 o2 c2 n1 A B w hA hB hm h1 h2
  · refine (alike_len a1 a2 n1 c1 n2 c2 w hn).mono ?_
    rintro e w' ⟨he, rfl⟩
    refine ⟨?_, Kept.refl _ _⟩
    rw [he]
    have : decide (A = B) = false := by
      rw [decide_eq_false_iff_not]; rintro rfl; exact hn (hA.symm.trans hB)
    rw [this]
end Go.Proofs.YtjogfpogdjhglaaDoor
