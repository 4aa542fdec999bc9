/-
  Contract: freightref8.Valid. (Written by tools/t8b.py.)
-/
import Derived.Test.YtdeneflgldagpaaT8a
namespace Go.Proofs.Ytdeneflgldagpaa
open Go.RowKit Go.Sort
set_option linter.unusedVariables false
set_option linter.unusedSimpArgs false

namespace Tb
/-- As far as k the list is in order. -/
def upto (L : List Res) (k : Nat) : Prop := (∀ i, i < k → noCode (L.getD i res0) = false) ∧ ∀ i, i + 1 < k → cf (L.getD i res0) (L.getD (i + 1) res0) < 0
theorem valid_iff (L : List Res) : valid L = true ↔ L.length ≤ 32 ∧ upto L L.length := by
  simp only [valid, Bool.and_eq_true, decide_eq_true_eq, Bool.not_eq_true', List.any_eq_false, rise_iff, upto]
  constructor
  · rintro ⟨⟨h1, h2⟩, h3⟩
    exact ⟨h1, fun i hi => by have := h2 _ (getD_mem hi); simpa using this, h3⟩
  · rintro ⟨h1, h2, h3⟩
    refine ⟨⟨h1, fun e he => ?_⟩, h3⟩
    obtain ⟨i, hi, rfl⟩ := List.getElem_of_mem he
    have := h2 i hi
    rw [show L.getD i res0 = L[i] by simp [List.getD, List.getElem?_eq_getElem hi]] at this
    simpa using this
theorem valid_long {L : List Res} (h : 32 < L.length) : valid L = false := by
  cases hv : valid L with
  | false => rfl
  | true => have := ((valid_iff L).1 hv).1; omega
theorem valid_code_bad {L : List Res} {k : Nat} (hk : k < L.length) (h : noCode (L.getD k res0) = true) : valid L = false := by
  cases hv : valid L with
  | false => rfl
  | true => have := ((valid_iff L).1 hv).2.1 k hk; rw [h] at this; cases this
theorem valid_order_bad {L : List Res} {k : Nat} (hk : k + 1 < L.length) (h : 0 ≤ cf (L.getD k res0) (L.getD (k + 1) res0)) : valid L = false := by
  cases hv : valid L with
  | false => rfl
  | true => have := ((valid_iff L).1 hv).2.2 k hk; omega
end Tb

set_option maxHeartbeats 3200000 in
set_option maxRecDepth 100000 in
theorem refvalid_some (b off n cap : Nat) (L : List Res) (w : World) (hn : L.length = n) (hL : Ress w (some ⟨b, off, none⟩) L) (hm : n ≤ 4611686018427387904) :
    Calls Try.prog 14 #[.slice (some ⟨b, off, none⟩) n cap] w fun e w' => e = .returned (.bool (Tb.valid L)) ∧ Kept [] w w' := by
  have HN := hide hn
  have HL := hide hL
  clear hn hL
  by_cases hb : 32 < n
  · have hv : Hid (Tb.valid L = false) := Tb.valid_long (by rw [HN.out]; exact hb)
    have hbz : (32 : Int) < (n : Int) := by omega
    go_enter Try.func14, Try.ntmps14
    go_wp2
    go_ret
    exact ⟨by rw [hv.out]; rfl, Kept.refl _ _⟩
  have hbz : ¬ (32 : Int) < (n : Int) := by omega
  go_enter Try.func14, Try.ntmps14
  go_wp2
  go_loopw [3] (fun x wr => ∃ k : Nat, k ≤ n ∧ x = .int .i64 k ∧ Hid (Tb.upto L k) ∧ Hid (Kept [] w wr)) (fun x wr => n - (intOf x).toNat)
  case atStart => exact ⟨0, Nat.zero_le _, rfl, ⟨by simp, by simp⟩, Kept.refl _ _⟩
  case round =>
    obtain ⟨k, hk, rfl, HU, HK⟩ := hrel
    by_cases hlt : k < n
    · have hkl : k < L.length := by rw [HN.out]; exact hlt
      obtain ⟨_, _, hx, hrk⟩ := (HL.out.kept HK.out (by simp)) k hkl
      cases hx
      have HBC := hide (@Tb.valid_code_bad L k hkl)
      obtain ⟨c, hc⟩ : ∃ c, (L.getD k res0).code = c := ⟨_, rfl⟩
      have cc := hrk 64 _ (Res.cod _)
      rw [hc] at cc
      have hnc : Hid (Tb.noCode (L.getD k res0) = (decide (c < 0) || decide (255 < c))) := by show _ = _; rw [← hc]; rfl
      clear hc
      by_cases h1 : c < 0
      · have hv : Hid (Tb.valid L = false) := HBC.out (by rw [hnc.out]; simp [h1])
        go_wp2
        go_ret
        exact ⟨by rw [hv.out]; rfl, HK.out⟩
      by_cases h2 : 255 < c
      · have hv : Hid (Tb.valid L = false) := HBC.out (by rw [hnc.out]; simp [h2])
        go_wp2
        go_ret
        exact ⟨by rw [hv.out]; rfl, HK.out⟩
      have HNC : Hid (Tb.noCode (L.getD k res0) = false) := by show _ = _; rw [hnc.out]; simp [h1, h2]
      clear HBC hnc
      go_upto_region 8 with (fail)
      clear cc h1 h2
      have HRK := hide hrk
      clear hrk
      by_cases h0 : k = 0
      · subst h0
        have HU1 : Hid (Tb.upto L 1) := ⟨fun i hi => by obtain rfl : i = 0 := by omega
                                                        exact HNC.out, fun i hi => by omega⟩
        refine wp_region_held_drew (S := fun w' => Kept [] wr w') (by kernel_rfl) ((Kept.refl [] wr).drew) (fun h0 => ?_)
        generalize World.drew wr = v0 at h0 ⊢
        refine wpAnyH_take (i := 0) (v := .int .i64 0) rfl (by kernel_rfl) (by kernel_rfl) (by kernel_rfl) (fun _ _ _ h => h) (Or.inl ⟨by rfl, fun w hSw => by go_simp⟩) h0 ?_
        try simp only [List.getElem_toArray, List.getElem_cons_zero, List.getElem_cons_succ, Act.put, List.setIfInBounds_toArray, List.set_cons_zero, List.set_cons_succ]
        refine wpAnyH_take (i := 1) (v := .bool false) rfl (by kernel_rfl) (by kernel_rfl) (by kernel_rfl) (fun _ _ _ h => h) (Or.inl ⟨by rfl, fun w hSw => by go_simp⟩) h0 ?_
        try simp only [List.getElem_toArray, List.getElem_cons_zero, List.getElem_cons_succ, Act.put, List.setIfInBounds_toArray, List.set_cons_zero, List.set_cons_succ]
        refine wpAnyH_take (i := 2) (v := .bool false) rfl (by kernel_rfl) (by kernel_rfl) (by kernel_rfl) (fun _ _ _ h => h) (Or.inl ⟨by rfl, fun w hSw => by go_simp⟩) h0 ?_
        try simp only [List.getElem_toArray, List.getElem_cons_zero, List.getElem_cons_succ, Act.put, List.setIfInBounds_toArray, List.set_cons_zero, List.set_cons_succ]
        refine wpAnyH_take (i := 3) (v := undef) rfl (by kernel_rfl) (by kernel_rfl) (by kernel_rfl) (fun _ _ _ h => h) (Or.inr ⟨by rfl, rfl⟩) h0 ?_
        try simp only [List.getElem_toArray, List.getElem_cons_zero, List.getElem_cons_succ, Act.put, List.setIfInBounds_toArray, List.set_cons_zero, List.set_cons_succ]
        refine wpAnyH_take (i := 4) (v := undef) rfl (by kernel_rfl) (by kernel_rfl) (by kernel_rfl) (fun _ _ _ h => h) (Or.inr ⟨by rfl, rfl⟩) h0 ?_
        try simp only [List.getElem_toArray, List.getElem_cons_zero, List.getElem_cons_succ, Act.put, List.setIfInBounds_toArray, List.set_cons_zero, List.set_cons_succ]
        refine wpAnyH_take (i := 5) (v := undef) rfl (by kernel_rfl) (by kernel_rfl) (by kernel_rfl) (fun _ _ _ h => h) (Or.inr ⟨by rfl, rfl⟩) h0 ?_
        try simp only [List.getElem_toArray, List.getElem_cons_zero, List.getElem_cons_succ, Act.put, List.setIfInBounds_toArray, List.set_cons_zero, List.set_cons_succ]
        refine wpAnyH_take (i := 6) (v := undef) rfl (by kernel_rfl) (by kernel_rfl) (by kernel_rfl) (fun _ _ _ h => h) (Or.inr ⟨by rfl, rfl⟩) h0 ?_
        try simp only [List.getElem_toArray, List.getElem_cons_zero, List.getElem_cons_succ, Act.put, List.setIfInBounds_toArray, List.set_cons_zero, List.set_cons_succ]
        refine wpAnyH_take (i := 7) (v := undef) rfl (by kernel_rfl) (by kernel_rfl) (by kernel_rfl) (fun _ _ _ h => h) (Or.inr ⟨by rfl, rfl⟩) h0 ?_
        try simp only [List.getElem_toArray, List.getElem_cons_zero, List.getElem_cons_succ, Act.put, List.setIfInBounds_toArray, List.set_cons_zero, List.set_cons_succ]
        refine wpAnyH_take (i := 8) (v := undef) rfl (by kernel_rfl) (by kernel_rfl) (by kernel_rfl) (fun _ _ _ h => h) (Or.inr ⟨by rfl, rfl⟩) h0 ?_
        try simp only [List.getElem_toArray, List.getElem_cons_zero, List.getElem_cons_succ, Act.put, List.setIfInBounds_toArray, List.set_cons_zero, List.set_cons_succ]
        refine wpAnyH_take (i := 9) (v := undef) rfl (by kernel_rfl) (by kernel_rfl) (by kernel_rfl) (fun _ _ _ h => h) (Or.inr ⟨by rfl, rfl⟩) h0 ?_
        try simp only [List.getElem_toArray, List.getElem_cons_zero, List.getElem_cons_succ, Act.put, List.setIfInBounds_toArray, List.set_cons_zero, List.set_cons_succ]
        refine wpAnyH_take (i := 10) (v := undef) rfl (by kernel_rfl) (by kernel_rfl) (by kernel_rfl) (fun _ _ _ h => h) (Or.inr ⟨by rfl, rfl⟩) h0 ?_
        try simp only [List.getElem_toArray, List.getElem_cons_zero, List.getElem_cons_succ, Act.put, List.setIfInBounds_toArray, List.set_cons_zero, List.set_cons_succ]
        refine wpAnyH_take (i := 11) (v := undef) rfl (by kernel_rfl) (by kernel_rfl) (by kernel_rfl) (fun _ _ _ h => h) (Or.inr ⟨by rfl, rfl⟩) h0 ?_
        try simp only [List.getElem_toArray, List.getElem_cons_zero, List.getElem_cons_succ, Act.put, List.setIfInBounds_toArray, List.set_cons_zero, List.set_cons_succ]
        refine wpAnyH_take (i := 12) (v := undef) rfl (by kernel_rfl) (by kernel_rfl) (by kernel_rfl) (fun _ _ _ h => h) (Or.inr ⟨by rfl, rfl⟩) h0 ?_
        try simp only [List.getElem_toArray, List.getElem_cons_zero, List.getElem_cons_succ, Act.put, List.setIfInBounds_toArray, List.set_cons_zero, List.set_cons_succ]
        refine wpAnyH_take (i := 13) (v := undef) rfl (by kernel_rfl) (by kernel_rfl) (by kernel_rfl) (fun _ _ _ h => h) (Or.inr ⟨by rfl, rfl⟩) h0 ?_
        try simp only [List.getElem_toArray, List.getElem_cons_zero, List.getElem_cons_succ, Act.put, List.setIfInBounds_toArray, List.set_cons_zero, List.set_cons_succ]
        refine wpAnyH_take (i := 14) (v := undef) rfl (by kernel_rfl) (by kernel_rfl) (by kernel_rfl) (fun _ _ _ h => h) (Or.inr ⟨by rfl, rfl⟩) h0 ?_
        try simp only [List.getElem_toArray, List.getElem_cons_zero, List.getElem_cons_succ, Act.put, List.setIfInBounds_toArray, List.set_cons_zero, List.set_cons_succ]
        refine wpAnyH_take (i := 15) (v := undef) rfl (by kernel_rfl) (by kernel_rfl) (by kernel_rfl) (fun _ _ _ h => h) (Or.inr ⟨by rfl, rfl⟩) h0 ?_
        try simp only [List.getElem_toArray, List.getElem_cons_zero, List.getElem_cons_succ, Act.put, List.setIfInBounds_toArray, List.set_cons_zero, List.set_cons_succ]
        refine wpAnyH_take (i := 16) (v := .bool false) rfl (by kernel_rfl) (by kernel_rfl) (by kernel_rfl) (fun _ _ _ h => h) (Or.inl ⟨by rfl, fun w hSw => by go_simp⟩) h0 ?_
        try simp only [List.getElem_toArray, List.getElem_cons_zero, List.getElem_cons_succ, Act.put, List.setIfInBounds_toArray, List.set_cons_zero, List.set_cons_succ]
        refine wpAnyH_done (by kernel_rfl) ?_ _
        go_wp2
        go_roundw
        case rel => exact ⟨1, by omega, rfl, HU1.out, HK.out.trans h0 (by simp)⟩
        case measure => simp [intOf]; omega
      · obtain ⟨m, hmk⟩ : ∃ m, k = m + 1 := ⟨k - 1, by omega⟩
        obtain ⟨_, _, hx, hrm⟩ := (HL.out.kept HK.out (by simp)) m (by rw [HN.out]; omega)
        cases hx
        obtain ⟨A, hAe⟩ : ∃ A, (L.getD m res0).action = A := ⟨_, rfl⟩
        obtain ⟨B, hBe⟩ : ∃ B, (L.getD k res0).action = B := ⟨_, rfl⟩
        have hA : A.length = 32 := by rw [← hAe]; exact (L.getD m res0).ha
        have hB : B.length = 32 := by rw [← hBe]; exact (L.getD k res0).ha
        have iA : (Try.prog.info? 37).map (·.size) = some (bys A).length := by rw [bys_length, hA]; kernel_rfl
        have iB : (Try.prog.info? 37).map (·.size) = some (bys B).length := by rw [bys_length, hB]; kernel_rfl
        have hra : wr.rangeAt b (off + m * 65) (bys A) := fun j v hv => hrm j v (by unfold Res.cells; rw [hAe, List.getElem?_append_left (List.getElem?_eq_some_iff.1 hv).1]; exact hv)
        have hrb : wr.rangeAt b (off + k * 65) (bys B) := fun j v hv => HRK.out j v (by unfold Res.cells; rw [hBe, List.getElem?_append_left (List.getElem?_eq_some_iff.1 hv).1]; exact hv)
        have HCF : Hid (Tb.cf (L.getD m res0) (L.getD (m + 1) res0) = Lib.compareBytes A B) := by show Lib.compareBytes _ _ = _; rw [← hmk, hAe, hBe]
        have HBO : Hid (0 ≤ Lib.compareBytes A B → Tb.valid L = false) := fun h => Tb.valid_order_bad (k := m) (by omega) (by rw [HCF.out]; exact h)
        have HU1 : Hid (Lib.compareBytes A B < 0 → Tb.upto L (k + 1)) := fun h => ⟨fun i hi => by
            by_cases hik : i < k
            · exact HU.out.1 i hik
            · obtain rfl : i = k := by omega
              exact HNC.out, fun i hi => by
            by_cases hik : i + 1 < k
            · exact HU.out.2 i hik
            · obtain rfl : i = m := by omega
              rw [HCF.out]; exact h⟩
        have em : (k : Int) - 1 = (m : Int) := by omega
        have wm : IntKind.i64.wrap (m : Int) = (m : Int) := by rw [IntKind.wrap_i64]; omega
        have hmn : m < n := by omega
        have kpos : (0 : Int) < (k : Int) := by omega
        have kposN : 0 < k := by omega
        obtain ⟨cv, hcv⟩ : ∃ cv, Lib.compareBytes A B = cv := ⟨_, rfl⟩
        have oc := fun W => order_ok A B W hA hB
        rw [hcv] at HBO HU1
        simp only [hcv] at oc
        obtain ⟨D, hD⟩ : ∃ D, decide ((0 : Int) ≤ cv) = D := ⟨_, rfl⟩
        have HMK := hide hmk
        have HD := hide hD
        clear hrm hAe hBe HCF hmk hcv
        refine wp_region_held_drew (S := fun w' => Kept [] wr w') (by kernel_rfl) ((Kept.refl [] wr).drew) (fun h0 => ?_)
        generalize World.drew wr = v0 at h0 ⊢
        refine wpAnyH_take (i := 0) (v := .int .i64 k) rfl (by kernel_rfl) (by kernel_rfl) (by kernel_rfl) (fun _ _ _ h => h) (Or.inl ⟨by rfl, fun w hSw => by go_simp⟩) h0 ?_
        try simp only [List.getElem_toArray, List.getElem_cons_zero, List.getElem_cons_succ, Act.put, List.setIfInBounds_toArray, List.set_cons_zero, List.set_cons_succ]
        refine wpAnyH_take (i := 1) (v := .bool true) rfl (by kernel_rfl) (by kernel_rfl) (by kernel_rfl) (fun _ _ _ h => h) (Or.inl ⟨by rfl, fun w hSw => by have c1 := kpos; have c2 := kposN; go_simp⟩) h0 ?_
        try simp only [List.getElem_toArray, List.getElem_cons_zero, List.getElem_cons_succ, Act.put, List.setIfInBounds_toArray, List.set_cons_zero, List.set_cons_succ]
        refine wpAnyH_take (i := 2) (v := .bool true) rfl (by kernel_rfl) (by kernel_rfl) (by kernel_rfl) (fun _ _ _ h => h) (Or.inl ⟨by rfl, fun w hSw => by go_simp⟩) h0 ?_
        try simp only [List.getElem_toArray, List.getElem_cons_zero, List.getElem_cons_succ, Act.put, List.setIfInBounds_toArray, List.set_cons_zero, List.set_cons_succ]
        refine wpAnyH_take (i := 3) (v := .slice (some ⟨b, off, none⟩) n cap) rfl (by kernel_rfl) (by kernel_rfl) (by kernel_rfl) (fun _ _ _ h => h) (Or.inl ⟨by rfl, fun w hSw => by go_simp⟩) h0 ?_
        try simp only [List.getElem_toArray, List.getElem_cons_zero, List.getElem_cons_succ, Act.put, List.setIfInBounds_toArray, List.set_cons_zero, List.set_cons_succ]
        refine wpAnyH_take (i := 4) (v := .int .i64 k) rfl (by kernel_rfl) (by kernel_rfl) (by kernel_rfl) (fun _ _ _ h => h) (Or.inl ⟨by rfl, fun w hSw => by go_simp⟩) h0 ?_
        try simp only [List.getElem_toArray, List.getElem_cons_zero, List.getElem_cons_succ, Act.put, List.setIfInBounds_toArray, List.set_cons_zero, List.set_cons_succ]
        refine wpAnyH_take (i := 5) (v := .int .i64 m) rfl (by kernel_rfl) (by kernel_rfl) (by kernel_rfl) (fun _ _ _ h => h) (Or.inl ⟨by rfl, fun w hSw => by have c1 := em; have c2 := wm; go_simp⟩) h0 ?_
        try simp only [List.getElem_toArray, List.getElem_cons_zero, List.getElem_cons_succ, Act.put, List.setIfInBounds_toArray, List.set_cons_zero, List.set_cons_succ]
        refine wpAnyH_take (i := 6) (v := .pointer (some ⟨b, off + m * 65, none⟩)) rfl (by kernel_rfl) (by kernel_rfl) (by kernel_rfl) (fun _ _ _ h => h) (Or.inl ⟨by rfl, fun w hSw => by go_simp⟩) h0 ?_
        try simp only [List.getElem_toArray, List.getElem_cons_zero, List.getElem_cons_succ, Act.put, List.setIfInBounds_toArray, List.set_cons_zero, List.set_cons_succ]
        refine wpAnyH_take (i := 7) (v := .pointer (some ⟨b, off + m * 65, none⟩)) rfl (by kernel_rfl) (by kernel_rfl) (by kernel_rfl) (fun _ _ _ h => h) (Or.inl ⟨by rfl, fun w hSw => by go_simp⟩) h0 ?_
        try simp only [List.getElem_toArray, List.getElem_cons_zero, List.getElem_cons_succ, Act.put, List.setIfInBounds_toArray, List.set_cons_zero, List.set_cons_succ]
        refine wpAnyH_take (i := 8) rfl (by kernel_rfl) (by kernel_rfl) (by kernel_rfl) (fun _ _ _ h => h) (yieldsIf_load_mid (by rfl) _ _ rfl _ _ rfl _ _ (fun w h j v hv => Kept.cellOf h (hra j v hv) (by simp)) Try.underlying37 rfl iA) h0 ?_
        try simp only [List.getElem_toArray, List.getElem_cons_zero, List.getElem_cons_succ, Act.put, List.setIfInBounds_toArray, List.set_cons_zero, List.set_cons_succ]
        refine wpAnyH_take (i := 9) (v := .slice (some ⟨b, off, none⟩) n cap) rfl (by kernel_rfl) (by kernel_rfl) (by kernel_rfl) (fun _ _ _ h => h) (Or.inl ⟨by rfl, fun w hSw => by go_simp⟩) h0 ?_
        try simp only [List.getElem_toArray, List.getElem_cons_zero, List.getElem_cons_succ, Act.put, List.setIfInBounds_toArray, List.set_cons_zero, List.set_cons_succ]
        refine wpAnyH_take (i := 10) (v := .int .i64 k) rfl (by kernel_rfl) (by kernel_rfl) (by kernel_rfl) (fun _ _ _ h => h) (Or.inl ⟨by rfl, fun w hSw => by go_simp⟩) h0 ?_
        try simp only [List.getElem_toArray, List.getElem_cons_zero, List.getElem_cons_succ, Act.put, List.setIfInBounds_toArray, List.set_cons_zero, List.set_cons_succ]
        refine wpAnyH_take (i := 11) (v := .pointer (some ⟨b, off + k * 65, none⟩)) rfl (by kernel_rfl) (by kernel_rfl) (by kernel_rfl) (fun _ _ _ h => h) (Or.inl ⟨by rfl, fun w hSw => by go_simp⟩) h0 ?_
        try simp only [List.getElem_toArray, List.getElem_cons_zero, List.getElem_cons_succ, Act.put, List.setIfInBounds_toArray, List.set_cons_zero, List.set_cons_succ]
        refine wpAnyH_take (i := 12) (v := .pointer (some ⟨b, off + k * 65, none⟩)) rfl (by kernel_rfl) (by kernel_rfl) (by kernel_rfl) (fun _ _ _ h => h) (Or.inl ⟨by rfl, fun w hSw => by go_simp⟩) h0 ?_
        try simp only [List.getElem_toArray, List.getElem_cons_zero, List.getElem_cons_succ, Act.put, List.setIfInBounds_toArray, List.set_cons_zero, List.set_cons_succ]
        refine wpAnyH_take (i := 13) rfl (by kernel_rfl) (by kernel_rfl) (by kernel_rfl) (fun _ _ _ h => h) (yieldsIf_load_mid (by rfl) _ _ rfl _ _ rfl _ _ (fun w h j v hv => Kept.cellOf h (hrb j v hv) (by simp)) Try.underlying37 rfl iB) h0 ?_
        try simp only [List.getElem_toArray, List.getElem_cons_zero, List.getElem_cons_succ, Act.put, List.setIfInBounds_toArray, List.set_cons_zero, List.set_cons_succ]
        refine wpAnyH_ready (rs := [14]) (by kernel_rfl) (by simp) (AllReadyH.cons (i := 14) rfl (fun K hK => ?_) AllReadyH.nil)
        rw [if_pos (by rfl)]
        go_simp
        refine (oc _).mono ?_
        rintro e v1 ⟨rfl, hq⟩
        refine hK.out _ _ (h0.trans hq (by simp)) (fun h1 => ?_)
        clear hK K hq h0
        try simp only [List.getElem_toArray, List.getElem_cons_zero, List.getElem_cons_succ, Act.put, List.setIfInBounds_toArray, List.set_cons_zero, List.set_cons_succ]
        refine wpAnyH_take (i := 15) (v := .bool D) rfl (by kernel_rfl) (by kernel_rfl) (by kernel_rfl) (fun _ _ _ h => h) (Or.inl ⟨by rfl, fun w hSw => by have c := hD; go_simp⟩) h1 ?_
        try simp only [List.getElem_toArray, List.getElem_cons_zero, List.getElem_cons_succ, Act.put, List.setIfInBounds_toArray, List.set_cons_zero, List.set_cons_succ]
        refine wpAnyH_take (i := 16) (v := .bool D) rfl (by kernel_rfl) (by kernel_rfl) (by kernel_rfl) (fun _ _ _ h => h) (Or.inl ⟨by rfl, fun w hSw => by go_simp⟩) h1 ?_
        try simp only [List.getElem_toArray, List.getElem_cons_zero, List.getElem_cons_succ, Act.put, List.setIfInBounds_toArray, List.set_cons_zero, List.set_cons_succ]
        refine wpAnyH_done (by kernel_rfl) ?_ _
        clear em wm hra hrb iA iB oc hD
        cases D with
        | true =>
          have hv : Hid (Tb.valid L = false) := HBO.out (of_decide_eq_true HD.out)
          go_wp2
          go_ret
          exact ⟨by rw [hv.out]; rfl, HK.out.trans h1 (by simp)⟩
        | false =>
          have HU2 : Hid (Tb.upto L (k + 1)) := HU1.out (by have := of_decide_eq_false HD.out; omega)
          go_wp2
          go_roundw
          case rel => exact ⟨k + 1, by omega, by go_num, HU2.out, HK.out.trans h1 (by simp)⟩
          case measure => simp [intOf]; omega
    · have hv : Hid (Tb.valid L = true) := (Tb.valid_iff L).2 ⟨by rw [HN.out]; omega, by rw [HN.out]; obtain rfl : k = n := (by omega); exact HU.out⟩
      go_wp2
      go_ret
      exact ⟨by rw [hv.out]; rfl, HK.out⟩

set_option maxRecDepth 100000 in
theorem refvalid_none (ao : Option Addr) (cap : Nat) (w : World) :
    Calls Try.prog 14 #[.slice ao 0 cap] w fun e w' => e = .returned (.bool true) ∧ w' = w := by
  go_enter Try.func14, Try.ntmps14
  go_wp2
  go_loopw [3] (fun x wr => x = .int .i64 0 ∧ wr = w) (fun x wr => 0)
  case atStart => exact ⟨rfl, rfl⟩
  case round =>
    obtain ⟨rfl, rfl⟩ := hrel
    go_wp2
    go_ret
    exact ⟨rfl, rfl⟩
theorem refvalid_ok (ao : Option Addr) (n cap : Nat) (L : List Res) (w : World) (hn : L.length = n) (hL : Ress w ao L) (hm : n ≤ 4611686018427387904) :
    Calls Try.prog 14 #[.slice ao n cap] w fun e w' => e = .returned (.bool (Tb.valid L)) ∧ Kept [] w w' := by
  by_cases h0 : L = []
  · subst h0
    obtain rfl : n = 0 := hn.symm
    refine (refvalid_none ao cap w).mono ?_
    rintro e w' ⟨rfl, rfl⟩
    exact ⟨rfl, Kept.refl _ _⟩
  · obtain ⟨b, off, rfl, _, _⟩ := hL.open h0
    exact refvalid_some b off n cap L w hn hL hm
end Go.Proofs.Ytdeneflgldagpaa
