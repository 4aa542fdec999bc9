/-
  Contract: slices.CompactFunc at results, with inOrder's closure. (Written by tools/zd.py.)
-/
import Derived.Test.YtmhnjhnnaciokaaZc
import Derived.Deep.Cut
import Derived.Deep.CutRange
import Derived.Deep.RegionHeld3
import Derived.Laws.Rows
import Derived.Lib.SliceRun
namespace Go.Proofs.Ytmhnjhnnaciokaa
open Go.RowKit Go.Sort
set_option linter.unusedVariables false
set_option linter.unusedSimpArgs false

theorem twice_kept (x y : Res) (w : World) : Calls Try.prog 49 #[.agg x.cells.toArray, .agg y.cells.toArray] w fun e w' => e = .returned (.bool (decide (x.action = y.action))) ∧ Kept [] w w' :=
  (twice_ok x y w).mono fun _ _ ⟨he, hw⟩ => ⟨he, by rw [hw]; exact ((Kept.refl [] w).alloc _).alloc _⟩
theorem Try.infoResS : (Try.prog.info? 26).map (·.size) = some 65 := by kernel_rfl
theorem there_kept {l : List Nat} {w w' : World} {b o n : Nat} (h : w.there b o n) (hk : Kept l w w') (hb : b ∉ l) : w'.there b o n := by
  intro j hj
  have h1 := h j hj
  have hs := h1.1
  rw [Option.isSome_iff_exists] at hs
  obtain ⟨v, hv⟩ := hs
  have hlt := World.block_lt_of_cell? _ _ hv
  exact ⟨by rw [hk.cellOf hv hb]; rfl, by rw [hk.frozen hlt hb]; exact h1.2⟩
theorem there_mid {w : World} {b n : Nat} (h : w.there b 0 (n * 65)) (k m : Nat) (hk : k + m ≤ n) : w.there b (k * 65) (m * 65) := fun j hj => by
  have h1 : (k + m) * 65 ≤ n * 65 := Nat.mul_le_mul_right _ hk
  have := h (k * 65 + j) (by rw [Nat.add_mul] at h1; omega)
  rwa [Nat.zero_add] at this
theorem Ress.put {w : World} {g : Nat} {L : List Res} (h : Ress w (some ⟨g, 0, none⟩) L) {k : Nat} (hk : k < L.length) {e : Res} (ht : w.there g (k * 65) 65) : Ress (w.setCells g (k * 65) e.cells) (some ⟨g, 0, none⟩) (L.set k e) := by
  intro i hi
  obtain ⟨b', o', e', hc⟩ := h i (by simpa using hi)
  cases e'
  refine ⟨g, 0, rfl, ?_⟩
  by_cases hik : i = k
  · subst hik
    have : (L.set i e).getD i res0 = e := by simp [List.getD, hk]
    rw [this, Nat.zero_add]
    exact World.rangeAt_setCells_same _ _ _ _ (by rw [e.len]; exact ht)
  · have : (L.set k e).getD i res0 = L.getD i res0 := by simp [List.getD, List.getElem?_set, Ne.symm hik]
    rw [this]
    refine World.rangeAt_setCells_apart hc _ _ _ (.inr ?_)
    rw [e.len, Res.len]
    have : i < k ∨ k < i := by omega
    omega
theorem kept_setCells {l : List Nat} {a : World} {g : Nat} (hg : g < a.heap.size → g ∈ l) : ∀ (vs : List Value) (o : Nat) (w : World), Kept l a w → Kept l a (w.setCells g o vs)
  | [], _, _, h => h
  | v :: r, o, w, h => by
    rw [World.setCells]
    exact kept_setCells hg r (o + 1) _ (h.setCell hg v)
/-- clear of results, whatever they were. -/
theorem run_clearR (w : World) (ty : TypeId) (b o n c : Nat) (hn : 0 < n) (ht : w.there b o (n * 65)) :
    ∃ vs : List Value, (Builtin.clear_ #[22] ty #[.slice (some ⟨b, o, none⟩) n c]).run Try.prog w = .ok (.tuple #[]) (w.setCells b o vs) := by
  refine ⟨(Builtin.zeroCells zeroR n).toList, ?_⟩
  have hz : (Builtin.zeroCells zeroR n).toList.length = n * 65 := by simp [Builtin.zeroCells]; show n * 65 = n * 65; rfl
  have hst := run_storeCells_cells (P := Try.prog) b o (Builtin.zeroCells zeroR n).toList 0 w (by rw [hz]; intro j hj; simpa using (ht j hj).1) (by rw [hz]; intro j hj; simpa using (ht j hj).2) (by
    intro v hv
    simp only [Builtin.zeroCells, Array.toList_map, List.mem_map] at hv
    obtain ⟨j, _, rfl⟩ := hv
    have hlt : j % zeroR.size < zeroR.size := Nat.mod_lt _ (by decide)
    rw [getElem!_pos zeroR _ hlt]
    exact res_one res0 _ (by show _ ∈ res0.cells; simp [zeroR]))
  simp only [Nat.add_zero] at hst
  obtain ⟨m, rfl⟩ : ∃ m, n = m + 1 := ⟨n - 1, by omega⟩
  simp only [Builtin.clear_, Sem.run_bind, run_underlying Try.underlying22, Result.andThen_ok, Try.zeroRes, Value.cells, hst, Sem.run_pure, List.getElem?_toArray, List.getElem?_cons_zero]

theorem Try.cutLo (W : World) (b n cap k : Nat) (h1 : k ≤ n) (h2 : k < cap) :
    (Instr.slice 22 (.slice (some ⟨b, 0, none⟩) n cap) (some (.int .i64 k)) none none).run Try.prog W = .ok (.slice (some ⟨b, k * 65, none⟩) (n - k) (cap - k)) W := by
  have hz : (sizeOf (Try.prog.elem 22)).run Try.prog W = .ok 65 W := by kernel_rfl
  have h := run_slice_l (P := Try.prog) W 22 (some ⟨b, 0, none⟩) n cap (by kernel_rfl) .i64 k (by omega) (by omega)
  rw [h, hz]
  have hc : cap - k ≠ 0 := by omega
  simp only [sliced, Addr.add, Result.andThen_ok]
  simp only [Int.toNat_natCast, hc, if_false]
  by_cases hk0 : k = 0
  · subst hk0; simp
  · rw [if_neg (by omega)]; simp; omega
theorem Try.cutHi (W : World) (ao : Option Addr) (L cap m : Nat) (hm : m ≤ cap) :
    (Instr.slice 22 (.slice ao L cap) none (some (.int .i64 m)) none).run Try.prog W = .ok (.slice ao m cap) W := by
  have hz : (sizeOf (Try.prog.elem 22)).run Try.prog W = .ok 65 W := by kernel_rfl
  have h := run_slice_h (P := Try.prog) W 22 ao L cap (by kernel_rfl) .i64 m (by omega) (by omega)
  rw [h, hz]
  cases ao <;> simp [sliced, Addr.add]

namespace Tb
def apart (L : List Res) : Prop := ∀ i, i + 1 < L.length → (L.getD i res0).action ≠ (L.getD (i + 1) res0).action
end Tb

set_option maxHeartbeats 4000000 in
set_option maxRecDepth 100000 in
theorem compact_ok (b cap n : Nat) (L : List Res) (w : World) (hn : L.length = n) (hL : Ress w (some ⟨b, 0, none⟩) L) (ht : w.there b 0 (n * 65)) (hm : n ≤ 4611686018427387904) (hc : n ≤ cap) (hc2 : cap ≤ 9223372036854775807) :
    Calls Try.prog 48 #[.slice (some ⟨b, 0, none⟩) n cap, .func (.func 49) #[] #[]] w fun e w' => Kept [b] w w' ∧ (Tb.apart L → e = .returned (.slice (some ⟨b, 0, none⟩) n cap)) ∧ (Tb.apart L → Kept [] w w') ∧ (¬ Tb.apart L → ∃ m c, e = .returned (.slice (some ⟨b, 0, none⟩) m c) ∧ m < n) := by
  have HN : Hid (L.length = n) := hn
  have HL := hide hL
  have HT := hide ht
  clear hn hL ht
  by_cases h2 : n < 2
  · have hap : Hid (Tb.apart L) := fun i hi => by have := HN.out; omega
    go_enter Try.func48, Try.ntmps48
    go_wp2
    go_ret
    exact ⟨Kept.refl _ _, fun _ => rfl, fun _ => Kept.refl _ _, fun h => absurd hap.out h⟩
  have h2' : ¬ ((n : Int) < 2) := by omega
  go_enter Try.func48, Try.ntmps48
  go_wp2
  go_loopw [5] (fun x wr => ∃ k : Nat, 1 ≤ k ∧ k ≤ n ∧ x = .int .i64 k ∧ Hid (∀ i, i + 1 < k → (L.getD i res0).action ≠ (L.getD (i + 1) res0).action) ∧ Hid (Kept [] w wr)) (fun x wr => n - (intOf x).toNat)
  case atStart => exact ⟨1, Nat.le_refl _, by omega, rfl, fun i hi => by omega, Kept.refl _ _⟩
  case round =>
    obtain ⟨k, hk1, hk, rfl, HA, HK⟩ := hrel
    by_cases hlt : k < n
    · obtain ⟨m, hkm⟩ : ∃ m, m = k - 1 := ⟨_, rfl⟩
      have hmn : m < n := by omega
      have wm : IntKind.i64.wrap (m : Int) = (m : Int) := by rw [IntKind.wrap_i64]; omega
      have e1k : ((k : Int) - 1) = (m : Int) := by omega
      have HKM : Hid (k = m + 1) := by show _ = _; omega
      clear hkm
      have HLr := hide (HL.out.kept HK.out (by simp))
      obtain ⟨_, _, hx, hr1⟩ := HLr.out k (by rw [HN.out]; exact hlt)
      cases hx
      obtain ⟨_, _, hx, hr2⟩ := HLr.out m (by rw [HN.out]; omega)
      cases hx
      have hd : Hid (∀ D, decide ((L.getD k res0).action = (L.getD m res0).action) = D → (D = true → ¬ Tb.apart L) ∧ (D = false → (L.getD m res0).action ≠ (L.getD k res0).action)) := by
        intro D hD
        constructor
        · rintro rfl ha
          have := ha m (by rw [HN.out]; omega)
          rw [← HKM.out] at this
          exact this (of_decide_eq_true hD).symm
        · rintro rfl
          exact fun e => (of_decide_eq_false hD) e.symm
      generalize hE1 : L.getD k res0 = e1 at hr1 hd
      generalize hE2 : L.getD m res0 = e2 at hr2 hd
      have HE1 := hide hE1
      have HE2 := hide hE2
      clear hE1 hE2
      have hcall := twice_kept e1 e2
      obtain ⟨D, hD⟩ : ∃ D, decide (e1.action = e2.action) = D := ⟨_, rfl⟩
      rw [hD] at hcall
      have HD := hide (hd.out D hD)
      clear hd hD
      have i1 : (Try.prog.info? 26).map (·.size) = some e1.cells.length := by rw [e1.len]; exact Try.infoResS
      have i2 : (Try.prog.info? 26).map (·.size) = some e2.cells.length := by rw [e2.len]; exact Try.infoResS
      simp only [Nat.zero_add] at hr1 hr2
      go_upto_region 6 with (fail)
      refine wp_region_held_drew (S := fun w' => Kept [] wr w') (by kernel_rfl) ((Kept.refl [] wr).drew) (fun h0 => ?_)
      generalize World.drew wr = v0 at h0 ⊢
      refine wpAnyH_take (i := 0) (v := .func (.func 49) #[] #[]) rfl (by kernel_rfl) (by kernel_rfl) (by kernel_rfl) (fun _ _ _ h => h) (Or.inl ⟨by rfl, fun w hSw => by go_simp⟩) h0 ?_
      try simp only [List.getElem_toArray, List.getElem_cons_zero, List.getElem_cons_succ, Act.put, List.setIfInBounds_toArray, List.set_cons_zero, List.set_cons_succ]
      refine wpAnyH_take (i := 1) (v := .slice (some ⟨b, 0, none⟩) n cap) rfl (by kernel_rfl) (by kernel_rfl) (by kernel_rfl) (fun _ _ _ h => h) (Or.inl ⟨by rfl, fun w hSw => by go_simp⟩) h0 ?_
      try simp only [List.getElem_toArray, List.getElem_cons_zero, List.getElem_cons_succ, Act.put, List.setIfInBounds_toArray, List.set_cons_zero, List.set_cons_succ]
      refine wpAnyH_take (i := 2) (v := .int .i64 k) rfl (by kernel_rfl) (by kernel_rfl) (by kernel_rfl) (fun _ _ _ h => h) (Or.inl ⟨by rfl, fun w hSw => by go_simp⟩) h0 ?_
      try simp only [List.getElem_toArray, List.getElem_cons_zero, List.getElem_cons_succ, Act.put, List.setIfInBounds_toArray, List.set_cons_zero, List.set_cons_succ]
      refine wpAnyH_take (i := 3) (v := .pointer (some ⟨b, k * 65, none⟩)) rfl (by kernel_rfl) (by kernel_rfl) (by kernel_rfl) (fun _ _ _ h => h) (Or.inl ⟨by rfl, fun w hSw => by go_simp⟩) h0 ?_
      try simp only [List.getElem_toArray, List.getElem_cons_zero, List.getElem_cons_succ, Act.put, List.setIfInBounds_toArray, List.set_cons_zero, List.set_cons_succ]
      refine wpAnyH_take (i := 4) rfl (by kernel_rfl) (by kernel_rfl) (by kernel_rfl) (fun _ _ _ h => h) (yieldsIf_load_mid (by rfl) _ _ rfl _ _ rfl _ _ (fun w h j v hv => Kept.cellOf h (hr1 j v hv) (by simp)) Try.underlying26 rfl i1) h0 ?_
      try simp only [List.getElem_toArray, List.getElem_cons_zero, List.getElem_cons_succ, Act.put, List.setIfInBounds_toArray, List.set_cons_zero, List.set_cons_succ]
      refine wpAnyH_take (i := 5) (v := .slice (some ⟨b, 0, none⟩) n cap) rfl (by kernel_rfl) (by kernel_rfl) (by kernel_rfl) (fun _ _ _ h => h) (Or.inl ⟨by rfl, fun w hSw => by go_simp⟩) h0 ?_
      try simp only [List.getElem_toArray, List.getElem_cons_zero, List.getElem_cons_succ, Act.put, List.setIfInBounds_toArray, List.set_cons_zero, List.set_cons_succ]
      refine wpAnyH_take (i := 6) (v := .int .i64 k) rfl (by kernel_rfl) (by kernel_rfl) (by kernel_rfl) (fun _ _ _ h => h) (Or.inl ⟨by rfl, fun w hSw => by go_simp⟩) h0 ?_
      try simp only [List.getElem_toArray, List.getElem_cons_zero, List.getElem_cons_succ, Act.put, List.setIfInBounds_toArray, List.set_cons_zero, List.set_cons_succ]
      refine wpAnyH_take (i := 7) (v := .int .i64 m) rfl (by kernel_rfl) (by kernel_rfl) (by kernel_rfl) (fun _ _ _ h => h) (Or.inl ⟨by rfl, fun w hSw => by go_simp⟩) h0 ?_
      try simp only [List.getElem_toArray, List.getElem_cons_zero, List.getElem_cons_succ, Act.put, List.setIfInBounds_toArray, List.set_cons_zero, List.set_cons_succ]
      refine wpAnyH_take (i := 8) (v := .pointer (some ⟨b, m * 65, none⟩)) rfl (by kernel_rfl) (by kernel_rfl) (by kernel_rfl) (fun _ _ _ h => h) (Or.inl ⟨by rfl, fun w hSw => by go_simp⟩) h0 ?_
      try simp only [List.getElem_toArray, List.getElem_cons_zero, List.getElem_cons_succ, Act.put, List.setIfInBounds_toArray, List.set_cons_zero, List.set_cons_succ]
      refine wpAnyH_take (i := 9) rfl (by kernel_rfl) (by kernel_rfl) (by kernel_rfl) (fun _ _ _ h => h) (yieldsIf_load_mid (by rfl) _ _ rfl _ _ rfl _ _ (fun w h j v hv => Kept.cellOf h (hr2 j v hv) (by simp)) Try.underlying26 rfl i2) h0 ?_
      try simp only [List.getElem_toArray, List.getElem_cons_zero, List.getElem_cons_succ, Act.put, List.setIfInBounds_toArray, List.set_cons_zero, List.set_cons_succ]
      refine wpAnyH_ready (rs := [10]) (by kernel_rfl) (by simp) (AllReadyH.cons (i := 10) rfl (fun K hK => ?_) AllReadyH.nil)
      rw [if_pos (by rfl)]
      go_simp
      refine (hcall v0).mono ?_
      rintro e v1 ⟨rfl, hq⟩
      refine hK.out _ _ (h0.trans hq (by simp)) (fun h1 => ?_)
      clear hK K hq h0
      try simp only [List.getElem_toArray, List.getElem_cons_zero, List.getElem_cons_succ, Act.put, List.setIfInBounds_toArray, List.set_cons_zero, List.set_cons_succ]
      refine wpAnyH_done (by kernel_rfl) ?_ _
      clear hcall i1 i2 hr1 hr2 wm
      cases D with
      | false =>
        go_wp2
        go_roundw
        case rel =>
          refine ⟨k + 1, by omega, by omega, by go_num, fun i hi => ?_, HK.out.trans h1 (by simp)⟩
          by_cases hik : i + 1 < k
          · exact HA.out i hik
          · have : i = m := by have := HKM.out; omega
            subst this
            have := HD.out.2 rfl
            rw [← HKM.out, HE1.out, HE2.out]
            exact this
        case measure => simp [intOf]; omega
      | true =>
        have HNA : Hid (¬ Tb.apart L) := HD.out.1 rfl
        have HK1 : Hid (Kept [b] w v1) := (HK.out.trans h1 (by simp)).mono (by simp)
        have HL1 : Hid (Ress v1 (some ⟨b, 0, none⟩) L) := HLr.out.kept h1 (by simp)
        have HT1 : Hid (v1.there b 0 (n * 65)) := there_kept (there_kept HT.out HK.out (by simp)) h1 (by simp)
        clear HD HKM e1k HLr HA HK HL HT h1 HE1 HE2 hmn
        obtain ⟨N, hN⟩ : ∃ N, n - k = N := ⟨_, rfl⟩
        obtain ⟨C, hC⟩ : ∃ C, cap - k = C := ⟨_, rfl⟩
        have hcut := Try.cutLo v1 b n cap k (by omega) (by omega)
        rw [hN, hC] at hcut
        have HNN : Hid (n = k + N ∧ 0 < N) := ⟨by omega, by omega⟩
        have hNm : N ≤ 4611686018427387904 := by omega
        clear hN hC
        go_wp2
        clear hcut
        go_loopw [5, 7] (fun x y wr => ∃ (k' k2 : Nat), x = .int .i64 k' ∧ y = .int .i64 k2 ∧ k2 ≤ N ∧ Hid (k ≤ k' ∧ k' + 1 ≤ k + k2 ∧ 1 ≤ k2) ∧ Hid (∃ M : List Res, M.length = n ∧ Ress wr (some ⟨b, 0, none⟩) M) ∧ Hid (wr.there b 0 (n * 65)) ∧ Hid (Kept [b] w wr)) (fun x y wr => N - (intOf y).toNat)
        case atStart => exact ⟨k, 1, rfl, rfl, by have := HNN.out; omega, ⟨Nat.le_refl _, by omega, by omega⟩, ⟨L, HN.out, HL1.out⟩, HT1.out, HK1.out⟩
        case round =>
          clear HL1 HT1 HK1
          obtain ⟨k', k2, rfl, rfl, hk2, HB, HM, HT, HK⟩ := hrel
          by_cases hl2 : k2 < N
          · obtain ⟨M, hMl, hM⟩ := HM.out
            obtain ⟨m, hm2⟩ : ∃ m, m = k2 - 1 := ⟨_, rfl⟩
            have hmN : m < N := by omega
            have wm : IntKind.i64.wrap (m : Int) = (m : Int) := by rw [IntKind.wrap_i64]; have := HNN.out; omega
            have e1k : ((k2 : Int) - 1) = (m : Int) := by have := HB.out; omega
            clear hm2
            obtain ⟨_, _, hx, hr1⟩ := hM (k + k2) (by have := HNN.out; omega)
            cases hx
            obtain ⟨_, _, hx, hr2⟩ := hM (k + m) (by have := HNN.out; omega)
            cases hx
            have hkn : k' < n := by have := HNN.out; have := HB.out; omega
            have HMP : Hid (∀ v, Kept [] wr v → ∀ e : Res, ∃ M : List Res, M.length = n ∧ Ress (v.setCells b (k' * 65) e.cells) (some ⟨b, 0, none⟩) M) := by
              intro v hv e
              refine ⟨M.set k' e, by simp [hMl], Ress.put (hM.kept hv (by simp)) (by omega) (there_mid (there_kept HT.out hv (by simp)) k' 1 (by omega))⟩
            generalize M.getD (k + k2) res0 = e1 at hr1
            generalize M.getD (k + m) res0 = e2 at hr2
            rw [show 0 + (k + k2) * 65 = k * 65 + k2 * 65 by omega] at hr1
            rw [show 0 + (k + m) * 65 = k * 65 + m * 65 by omega] at hr2
            clear hM hMl
            have hcall := twice_kept e1 e2
            obtain ⟨D, hD⟩ : ∃ D, decide (e1.action = e2.action) = D := ⟨_, rfl⟩
            rw [hD] at hcall
            clear hD
            have i1 : (Try.prog.info? 26).map (·.size) = some e1.cells.length := by rw [e1.len]; exact Try.infoResS
            have i2 : (Try.prog.info? 26).map (·.size) = some e2.cells.length := by rw [e2.len]; exact Try.infoResS
            go_upto_region 11 with (fail)
            refine wp_region_held_drew (S := fun w' => Kept [] wr w') (by kernel_rfl) ((Kept.refl [] wr).drew) (fun h0 => ?_)
            generalize World.drew wr = v0 at h0 ⊢
            refine wpAnyH_take (i := 0) (v := .func (.func 49) #[] #[]) rfl (by kernel_rfl) (by kernel_rfl) (by kernel_rfl) (fun _ _ _ h => h) (Or.inl ⟨by rfl, fun w hSw => by go_simp⟩) h0 ?_
            try simp only [List.getElem_toArray, List.getElem_cons_zero, List.getElem_cons_succ, Act.put, List.setIfInBounds_toArray, List.set_cons_zero, List.set_cons_succ]
            refine wpAnyH_take (i := 1) (v := .slice (some ⟨b, k * 65, none⟩) N C) rfl (by kernel_rfl) (by kernel_rfl) (by kernel_rfl) (fun _ _ _ h => h) (Or.inl ⟨by rfl, fun w hSw => by go_simp⟩) h0 ?_
            try simp only [List.getElem_toArray, List.getElem_cons_zero, List.getElem_cons_succ, Act.put, List.setIfInBounds_toArray, List.set_cons_zero, List.set_cons_succ]
            refine wpAnyH_take (i := 2) (v := .int .i64 k2) rfl (by kernel_rfl) (by kernel_rfl) (by kernel_rfl) (fun _ _ _ h => h) (Or.inl ⟨by rfl, fun w hSw => by go_simp⟩) h0 ?_
            try simp only [List.getElem_toArray, List.getElem_cons_zero, List.getElem_cons_succ, Act.put, List.setIfInBounds_toArray, List.set_cons_zero, List.set_cons_succ]
            refine wpAnyH_take (i := 3) (v := .pointer (some ⟨b, k * 65 + k2 * 65, none⟩)) rfl (by kernel_rfl) (by kernel_rfl) (by kernel_rfl) (fun _ _ _ h => h) (Or.inl ⟨by rfl, fun w hSw => by go_simp⟩) h0 ?_
            try simp only [List.getElem_toArray, List.getElem_cons_zero, List.getElem_cons_succ, Act.put, List.setIfInBounds_toArray, List.set_cons_zero, List.set_cons_succ]
            refine wpAnyH_take (i := 4) rfl (by kernel_rfl) (by kernel_rfl) (by kernel_rfl) (fun _ _ _ h => h) (yieldsIf_load_mid (by rfl) _ _ rfl _ _ rfl _ _ (fun w h j v hv => Kept.cellOf h (hr1 j v hv) (by simp)) Try.underlying26 rfl i1) h0 ?_
            try simp only [List.getElem_toArray, List.getElem_cons_zero, List.getElem_cons_succ, Act.put, List.setIfInBounds_toArray, List.set_cons_zero, List.set_cons_succ]
            refine wpAnyH_take (i := 5) (v := .slice (some ⟨b, k * 65, none⟩) N C) rfl (by kernel_rfl) (by kernel_rfl) (by kernel_rfl) (fun _ _ _ h => h) (Or.inl ⟨by rfl, fun w hSw => by go_simp⟩) h0 ?_
            try simp only [List.getElem_toArray, List.getElem_cons_zero, List.getElem_cons_succ, Act.put, List.setIfInBounds_toArray, List.set_cons_zero, List.set_cons_succ]
            refine wpAnyH_take (i := 6) (v := .int .i64 k2) rfl (by kernel_rfl) (by kernel_rfl) (by kernel_rfl) (fun _ _ _ h => h) (Or.inl ⟨by rfl, fun w hSw => by go_simp⟩) h0 ?_
            try simp only [List.getElem_toArray, List.getElem_cons_zero, List.getElem_cons_succ, Act.put, List.setIfInBounds_toArray, List.set_cons_zero, List.set_cons_succ]
            refine wpAnyH_take (i := 7) (v := .int .i64 m) rfl (by kernel_rfl) (by kernel_rfl) (by kernel_rfl) (fun _ _ _ h => h) (Or.inl ⟨by rfl, fun w hSw => by go_simp⟩) h0 ?_
            try simp only [List.getElem_toArray, List.getElem_cons_zero, List.getElem_cons_succ, Act.put, List.setIfInBounds_toArray, List.set_cons_zero, List.set_cons_succ]
            refine wpAnyH_take (i := 8) (v := .pointer (some ⟨b, k * 65 + m * 65, none⟩)) rfl (by kernel_rfl) (by kernel_rfl) (by kernel_rfl) (fun _ _ _ h => h) (Or.inl ⟨by rfl, fun w hSw => by go_simp⟩) h0 ?_
            try simp only [List.getElem_toArray, List.getElem_cons_zero, List.getElem_cons_succ, Act.put, List.setIfInBounds_toArray, List.set_cons_zero, List.set_cons_succ]
            refine wpAnyH_take (i := 9) rfl (by kernel_rfl) (by kernel_rfl) (by kernel_rfl) (fun _ _ _ h => h) (yieldsIf_load_mid (by rfl) _ _ rfl _ _ rfl _ _ (fun w h j v hv => Kept.cellOf h (hr2 j v hv) (by simp)) Try.underlying26 rfl i2) h0 ?_
            try simp only [List.getElem_toArray, List.getElem_cons_zero, List.getElem_cons_succ, Act.put, List.setIfInBounds_toArray, List.set_cons_zero, List.set_cons_succ]
            refine wpAnyH_ready (rs := [10]) (by kernel_rfl) (by simp) (AllReadyH.cons (i := 10) rfl (fun K hK => ?_) AllReadyH.nil)
            rw [if_pos (by rfl)]
            go_simp
            refine (hcall v0).mono ?_
            rintro e v1 ⟨rfl, hq⟩
            refine hK.out _ _ (h0.trans hq (by simp)) (fun h1 => ?_)
            clear hK K hq h0
            try simp only [List.getElem_toArray, List.getElem_cons_zero, List.getElem_cons_succ, Act.put, List.setIfInBounds_toArray, List.set_cons_zero, List.set_cons_succ]
            refine wpAnyH_take (i := 11) (v := .bool (!D)) rfl (by kernel_rfl) (by kernel_rfl) (by kernel_rfl) (fun _ _ _ h => h) (Or.inl ⟨by rfl, fun w hSw => by go_simp⟩) h1 ?_
            try simp only [List.getElem_toArray, List.getElem_cons_zero, List.getElem_cons_succ, Act.put, List.setIfInBounds_toArray, List.set_cons_zero, List.set_cons_succ]
            refine wpAnyH_done (by kernel_rfl) ?_ _
            clear hcall i2 hr2 wm e1k hmN
            have H1 := hide h1
            clear h1
            cases D with
            | true =>
              go_wp2
              go_roundw
              case rel =>
                obtain ⟨M, hMl, hM⟩ := HM.out
                exact ⟨k', k2 + 1, rfl, by go_num, by omega, (by have hb := HB.out; exact ⟨by omega, by omega, by omega⟩), ⟨M, hMl, hM.kept H1.out (by simp)⟩, there_kept HT.out H1.out (by simp), HK.out.trans H1.out (by simp)⟩
              case measure => simp [intOf]; omega
            | false =>
              have hrv : v1.rangeAt b (k * 65 + k2 * 65) e1.cells := fun j v hv => H1.out.cellOf (hr1 j v hv) (by simp)
              have ia : (Try.prog.info? 26).map (·.size) = some e1.cells.toArray.size := by rw [res_size]; exact Try.infoResS
              have tt : v1.there b (k' * 65) e1.cells.toArray.size := by
                rw [res_size]
                exact there_mid (there_kept HT.out H1.out (by simp)) k' 1 (by omega)
              clear hr1
              go_wp2_with (first | refine wpList_load_mid rfl 26 (.tmp 54) rfl b (k * 65 + k2 * 65) rfl e1.cells _ hrv Try.underlying26 rfl i1 ?_ | refine wpList_store_mid rfl 26 (.tmp 56) (.tmp 55) rfl b (k' * 65) e1.cells.toArray rfl rfl tt ia (res_all e1) ?_)
              go_roundw
              case rel =>
                exact ⟨k' + 1, k2 + 1, by go_num, by go_num, by omega, (by have hb := HB.out; exact ⟨by omega, by omega, by omega⟩), HMP.out v1 H1.out e1, World.there_setCells (there_kept HT.out H1.out (by simp)) _ _ _, kept_setCells (by simp) _ _ _ (HK.out.trans H1.out (by simp))⟩
              case measure => simp [intOf]; omega
          · have hk2N : Hid (k' < n ∧ k ≤ k') := by have := HB.out; have := HNN.out; exact ⟨by omega, by omega⟩
            have hcut := Try.cutLo wr b n cap k' (by have := hk2N.out; omega) (by have := hk2N.out; omega)
            obtain ⟨N2, hN2⟩ : ∃ N2, n - k' = N2 := ⟨_, rfl⟩
            obtain ⟨C2, hC2⟩ : ∃ C2, cap - k' = C2 := ⟨_, rfl⟩
            rw [hN2, hC2] at hcut
            obtain ⟨vs, hcl⟩ := run_clearR wr 0 b (k' * 65) N2 C2 (by have := hk2N.out; omega) (there_mid HT.out k' N2 (by have := hk2N.out; omega))
            have HW : Hid (Kept [b] w (wr.setCells b (k' * 65) vs)) := kept_setCells (by simp) _ _ _ HK.out
            have hcut2 := Try.cutHi (wr.setCells b (k' * 65) vs) (some ⟨b, 0, none⟩) n cap k' (by have := hk2N.out; omega)
            clear hN2 hC2
            generalize wr.setCells b (k' * 65) vs = wz at hcl HW hcut2
            go_wp2
            go_ret
            exact ⟨HW.out, fun h => absurd h HNA.out, fun h => absurd h HNA.out, fun _ => ⟨k', cap, rfl, hk2N.out.1⟩⟩
    · have hap : Hid (Tb.apart L) := fun i hi => HA.out i (by have := HN.out; omega)
      go_wp2
      go_ret
      exact ⟨HK.out.mono (by simp), fun _ => rfl, fun _ => HK.out, fun h => absurd hap.out h⟩
end Go.Proofs.Ytmhnjhnnaciokaa
