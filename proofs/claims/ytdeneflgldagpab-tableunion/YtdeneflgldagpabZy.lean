/-
  Contracts: freightlaw8.like, freightref8.Find. (Written by tools/zy.py.)
-/
import Derived.Test.YtdeneflgldagpabZw2
namespace Go.Proofs.Ytdeneflgldagpab
open Go.RowKit Go.Sort
set_option linter.unusedVariables false
set_option linter.unusedSimpArgs false

theorem take_res (L : List Res) (k : Nat) (h : k < L.length) : L.take (k + 1) = L.take k ++ [L.getD k res0] := by
  rw [List.take_succ_eq_append_getElem h]
  simp [List.getElem?_eq_getElem h]

set_option maxHeartbeats 1600000 in
set_option maxRecDepth 100000 in
theorem like_some (b1 o1 c1 b2 o2 c2 n : Nat) (A B : List Res) (w : World) (hA : A.length = n) (hB : B.length = n) (hm : n ≤ 4611686018427387904) (h1 : Ress w (some ⟨b1, o1, none⟩) A) (h2 : Ress w (some ⟨b2, o2, none⟩) B) :
    Calls Try.prog 15 #[.slice (some ⟨b1, o1, none⟩) n c1, .slice (some ⟨b2, o2, none⟩) n c2] w fun e w' => e = .returned (.bool (decide (A = B))) ∧ Kept [] w w' := by
  have HA : Hid (A.length = n) := hA
  have HB : Hid (B.length = n) := hB
  have H1 := hide h1
  have H2 := hide h2
  clear hA hB h1 h2
  go_enter Try.func15, Try.ntmps15
  go_wp2
  go_loopw [5] (fun x wr => ∃ k : Nat, k ≤ n ∧ x = .int .i64 k ∧ Hid (A.take k = B.take k) ∧ Hid (Kept [] w wr)) (fun x wr => n - (intOf x).toNat)
  case atStart => exact ⟨0, Nat.zero_le _, rfl, by show _ = _; simp, Kept.refl _ _⟩
  case round =>
    obtain ⟨k, hk, rfl, HE, HK⟩ := hrel
    by_cases hlt : k < n
    · obtain ⟨_, _, hx, hr1⟩ := (H1.out.kept HK.out (by simp)) k (by rw [HA.out]; exact hlt)
      cases hx
      obtain ⟨_, _, hx, hr2⟩ := (H2.out.kept HK.out (by simp)) k (by rw [HB.out]; exact hlt)
      cases hx
      have tA := hide (take_res A k (by rw [HA.out]; exact hlt))
      have tB := hide (take_res B k (by rw [HB.out]; exact hlt))
      have hdif : Hid (A.getD k res0 ≠ B.getD k res0 → decide (A = B) = false) := fun hne => by
        rw [decide_eq_false_iff_not]; rintro rfl; exact hne rfl
      generalize A.getD k res0 = e1 at *
      generalize B.getD k res0 = e2 at *
      have i1 : (Try.prog.info? 36).map (·.size) = some e1.cells.length := by rw [e1.len]; exact Try.infoResS
      have i2 : (Try.prog.info? 36).map (·.size) = some e2.cells.length := by rw [e2.len]; exact Try.infoResS
      have heq := Try.eqlRes e1 e2
      obtain ⟨D, hD⟩ : ∃ D, decide (e1 = e2) = D := ⟨_, rfl⟩
      simp only [hD] at heq
      have HD := hide hD
      clear hD
      go_upto_region 6 with (fail)
      refine wp_region_held_drew (S := fun w' => Kept [] wr w') (by kernel_rfl) ((Kept.refl [] wr).drew) (fun h0 => ?_)
      generalize World.drew wr = v0 at h0 ⊢
      refine wpAnyH_take (i := 0) (v := .slice (some ⟨b1, o1, none⟩) n c1) rfl (by kernel_rfl) (by kernel_rfl) (by kernel_rfl) (fun _ _ _ h => h) (Or.inl ⟨by rfl, fun w hSw => by go_simp⟩) h0 ?_
      try simp only [List.getElem_toArray, List.getElem_cons_zero, List.getElem_cons_succ, Act.put, List.setIfInBounds_toArray, List.set_cons_zero, List.set_cons_succ]
      refine wpAnyH_take (i := 1) (v := .int .i64 k) rfl (by kernel_rfl) (by kernel_rfl) (by kernel_rfl) (fun _ _ _ h => h) (Or.inl ⟨by rfl, fun w hSw => by go_simp⟩) h0 ?_
      try simp only [List.getElem_toArray, List.getElem_cons_zero, List.getElem_cons_succ, Act.put, List.setIfInBounds_toArray, List.set_cons_zero, List.set_cons_succ]
      refine wpAnyH_take (i := 2) (v := .pointer (some ⟨b1, o1 + k * 65, none⟩)) rfl (by kernel_rfl) (by kernel_rfl) (by kernel_rfl) (fun _ _ _ h => h) (Or.inl ⟨by rfl, fun w hSw => by go_simp⟩) h0 ?_
      try simp only [List.getElem_toArray, List.getElem_cons_zero, List.getElem_cons_succ, Act.put, List.setIfInBounds_toArray, List.set_cons_zero, List.set_cons_succ]
      refine wpAnyH_take (i := 3) rfl (by kernel_rfl) (by kernel_rfl) (by kernel_rfl) (fun _ _ _ h => h) (yieldsIf_load_mid (by rfl) _ _ rfl _ _ rfl _ _ (fun w h j v hv => Kept.cellOf h (hr1 j v hv) (by simp)) Try.underlying36 rfl i1) h0 ?_
      try simp only [List.getElem_toArray, List.getElem_cons_zero, List.getElem_cons_succ, Act.put, List.setIfInBounds_toArray, List.set_cons_zero, List.set_cons_succ]
      refine wpAnyH_take (i := 4) (v := .slice (some ⟨b2, o2, none⟩) n c2) rfl (by kernel_rfl) (by kernel_rfl) (by kernel_rfl) (fun _ _ _ h => h) (Or.inl ⟨by rfl, fun w hSw => by go_simp⟩) h0 ?_
      try simp only [List.getElem_toArray, List.getElem_cons_zero, List.getElem_cons_succ, Act.put, List.setIfInBounds_toArray, List.set_cons_zero, List.set_cons_succ]
      refine wpAnyH_take (i := 5) (v := .int .i64 k) rfl (by kernel_rfl) (by kernel_rfl) (by kernel_rfl) (fun _ _ _ h => h) (Or.inl ⟨by rfl, fun w hSw => by go_simp⟩) h0 ?_
      try simp only [List.getElem_toArray, List.getElem_cons_zero, List.getElem_cons_succ, Act.put, List.setIfInBounds_toArray, List.set_cons_zero, List.set_cons_succ]
      refine wpAnyH_take (i := 6) (v := .pointer (some ⟨b2, o2 + k * 65, none⟩)) rfl (by kernel_rfl) (by kernel_rfl) (by kernel_rfl) (fun _ _ _ h => h) (Or.inl ⟨by rfl, fun w hSw => by go_simp⟩) h0 ?_
      try simp only [List.getElem_toArray, List.getElem_cons_zero, List.getElem_cons_succ, Act.put, List.setIfInBounds_toArray, List.set_cons_zero, List.set_cons_succ]
      refine wpAnyH_take (i := 7) rfl (by kernel_rfl) (by kernel_rfl) (by kernel_rfl) (fun _ _ _ h => h) (yieldsIf_load_mid (by rfl) _ _ rfl _ _ rfl _ _ (fun w h j v hv => Kept.cellOf h (hr2 j v hv) (by simp)) Try.underlying36 rfl i2) h0 ?_
      try simp only [List.getElem_toArray, List.getElem_cons_zero, List.getElem_cons_succ, Act.put, List.setIfInBounds_toArray, List.set_cons_zero, List.set_cons_succ]
      refine wpAnyH_take (i := 8) (v := .bool (!D)) rfl (by kernel_rfl) (by kernel_rfl) (by kernel_rfl) (fun _ _ _ h => h) (Or.inl ⟨by rfl, fun w hSw => by have c := heq w; go_simp⟩) h0 ?_
      try simp only [List.getElem_toArray, List.getElem_cons_zero, List.getElem_cons_succ, Act.put, List.setIfInBounds_toArray, List.set_cons_zero, List.set_cons_succ]
      refine wpAnyH_done (by kernel_rfl) ?_ _
      clear heq i1 i2 hr1 hr2
      cases D with
      | false =>
        go_wp2
        go_ret
        exact ⟨by rw [hdif.out (by simpa using HD.out)]; rfl, HK.out.trans h0 (by simp)⟩
      | true =>
        have e12 : Hid (e1 = e2) := by show _ = _; exact of_decide_eq_true HD.out
        go_wp2
        go_roundw
        case rel => exact ⟨k + 1, by omega, by go_num, by show _ = _; rw [tA.out, tB.out, HE.out, e12.out], HK.out.trans h0 (by simp)⟩
        case measure => simp [intOf]; omega
    · have hAB : Hid (A = B) := by
        have := HE.out
        rw [List.take_of_length_le (by rw [HA.out]; omega), List.take_of_length_le (by rw [HB.out]; omega)] at this
        exact this
      go_wp2
      go_ret
      exact ⟨by rw [decide_eq_true hAB.out]; rfl, HK.out⟩

set_option maxRecDepth 100000 in
theorem like_len (a1 a2 : Option Addr) (n1 c1 n2 c2 : Nat) (w : World) (hn : n1 ≠ n2) :
    Calls Try.prog 15 #[.slice a1 n1 c1, .slice a2 n2 c2] w fun e w' => e = .returned (.bool false) ∧ w' = w := by
  have h : ((n1 : Int) != (n2 : Int)) = true := by simp; omega
  go_enter Try.func15, Try.ntmps15
  go_wp2
  go_ret
  exact ⟨rfl, rfl⟩

set_option maxRecDepth 100000 in
theorem like_none (a1 a2 : Option Addr) (c1 c2 : Nat) (w : World) :
    Calls Try.prog 15 #[.slice a1 0 c1, .slice a2 0 c2] w fun e w' => e = .returned (.bool true) ∧ w' = w := by
  go_enter Try.func15, Try.ntmps15
  go_wp2
  go_loopw [5] (fun x wr => x = .int .i64 0 ∧ wr = w) (fun x wr => 0)
  case atStart => exact ⟨rfl, rfl⟩
  case round =>
    obtain ⟨rfl, rfl⟩ := hrel
    go_wp2
    go_ret
    exact ⟨rfl, rfl⟩
theorem like_ok (a1 a2 : Option Addr) (n1 c1 n2 c2 : Nat) (L M : List Res) (w : World) (h1 : L.length = n1) (h2 : M.length = n2) (hL : Ress w a1 L) (hM : Ress w a2 M) (hm1 : n1 ≤ 4611686018427387904) :
    Calls Try.prog 15 #[.slice a1 n1 c1, .slice a2 n2 c2] w fun e w' => e = .returned (.bool (decide (L = M))) ∧ Kept [] w w' := by
  by_cases hn : n1 = n2
  · by_cases h0 : L = []
    · subst h0
      obtain rfl : n1 = 0 := h1.symm
      subst hn
      obtain rfl : M = [] := List.eq_nil_of_length_eq_zero h2
      refine (like_none a1 a2 c1 c2 w).mono ?_
      rintro e w' ⟨rfl, rfl⟩
      exact ⟨by simp, Kept.refl _ _⟩
    · have h0' : M ≠ [] := by
        rintro rfl
        exact h0 (List.eq_nil_of_length_eq_zero (by rw [h1, hn, ← h2]; rfl))
      obtain ⟨b1, o1, rfl, _, _⟩ := hL.open h0
      obtain ⟨b2, o2, rfl, _, _⟩ := hM.open h0'
      subst hn
      exact like_some b1 o1 c1 b2 o2 c2 n1 L M w h1 h2 hm1 hL hM
  · refine (like_len a1 a2 n1 c1 n2 c2 w hn).mono ?_
    rintro e w' ⟨rfl, rfl⟩
    exact ⟨by rw [decide_eq_false]; rintro rfl; omega, Kept.refl _ _⟩