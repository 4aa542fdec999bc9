/-
  The walk: freightlaw11.BlockOwn. (Written by tools/cl.py.)
-/
import Derived.Test.YtdnbpklnkmgmkaaDd
import Derived.Test.YtdnbpklnkmgmkaaBw
import Derived.Test.YtdnbpklnkmgmkaaBj
import Derived.Deep.CutRange
import Derived.Deep.CutBlock
namespace Go.Proofs.Ytdnbpklnkmgmkaa
open Go.RowKit
set_option linter.unusedVariables false
set_option linter.unusedSimpArgs false

theorem Try.zeroBook11 (W : World) : (zeroValue 60).run Try.prog W = .ok (.agg #[.slice none 0 0, .slice none 0 0]) W := by kernel_rfl
theorem Try.cutMid3 (W : World) (g L cap l q : Nat) (h2 : l + q ≤ cap) (h3 : 0 < q) :
    (Instr.slice 23 (.slice (some ⟨g, 0, none⟩) L cap) (some (.int .i64 l)) (some (.int .i64 ((l : Int) + (q : Int)))) none).run Try.prog W = .ok (.slice (some ⟨g, l, none⟩) q (cap - l)) W := by
  have h := Try.cutMid W g L cap l (l + q) (by omega) h2 (by omega)
  rw [show ((l + q : Nat) : Int) = (l : Int) + (q : Int) by push_cast; rfl, Nat.add_sub_cancel_left] at h
  exact h
theorem rw_cellS {B : Nat} {w : World} {r : Rw} (hr : r.At 23 1 B w) {i : Nat} {v : Value} (hi : i < r.n) (hv : r.vs[i]? = some v) : ∃ g, r.o = some ⟨g, 0, none⟩ ∧ w.cell? ⟨g, i, none⟩ = some v := by
  obtain ⟨g, hg, _, _, _⟩ := hr.there (by omega)
  have h2 : w.ownsRow B 23 1 r.val r.n r.vs := hr
  have hval : r.val = .slice (some ⟨g, 0, none⟩) r.n r.c := by unfold Rw.val; rw [hg]
  rw [hval] at h2
  exact ⟨g, hg, by rw [h2.cellAt i (by rw [Nat.mul_one]; exact hi)]; exact hv⟩
theorem Try.infoAsk11 : (Try.prog.info? 25).map (·.size) = some 2 := by kernel_rfl
theorem ask_all11 (x : Option Addr) (y z : Nat) (a : Int) : (#[.slice x y z, .int .i64 a] : Array Value).all (·.oneCell') = true := by kernel_rfl
theorem St.begin2 {w wr : World} (hk : Kept [] w wr) (M : Nat) : St w (wr.alloc (.cells #[.slice none 0 0, .slice none 0 0] 60)) wr.heap.size M 0 sd0 := by
  have h := hk.alloc (.cells #[.slice none 0 0, .slice none 0 0] 60)
  refine ⟨h.below (Nat.le_refl _) (by simp), ⟨heap_new _ _, hk.size⟩, ⟨Pf.nil _ _, rw0_at _ _ _ _, rfl, rfl, fun k hk => absurd hk (by simp [sd0]), fun k j hk => absurd hk (by simp [sd0])⟩, ⟨Pf.nil _ _, rw0_at _ _ _ _, rfl, rfl, fun k hk => absurd hk (by simp [sd0]), fun k j hk => absurd hk (by simp [sd0])⟩, ⟨fun k hk => absurd hk (by simp [sd0]), fun k hk => absurd hk (by simp [sd0])⟩, ⟨fun k hk => absurd hk (by simp [sd0]), fun k hk => absurd hk (by simp [sd0])⟩, fun i hi => absurd hi (by simp [sd0]), fun i hi => absurd hi (by simp [sd0]), rw0_at _ _ _ _, rfl, rfl, rw0_at _ _ _ _, rfl, rfl, Off.none _, ⟨fun i hi => absurd hi (by simp [sd0]), fun i hi => absurd hi (by simp [sd0]), fun i _ hi => absurd hi (by simp [sd0]), fun i _ hi => absurd hi (by simp [sd0]), fun i _ hi => absurd hi (by simp [sd0]), fun i _ hi => absurd hi (by simp [sd0]), fun i j hi => absurd hi (by simp [sd0]), Nat.le_refl _⟩⟩

set_option maxHeartbeats 16000000 in
set_option maxRecDepth 100000 in
theorem bown_some (b off n cap : Nat) (L : List Qm) (w : World) (hn : L.length = n) (hm : n ≤ 9223372036854775807) (hc : ∀ i, i < L.length → (∀ j v, (L.getD i qm0).cells[j]? = some v → w.cell? ⟨b, off + i * 2 + j, none⟩ = some v) ∧ QmIn w (L.getD i qm0)) (hbw : b < w.heap.size) :
    Calls Try.prog 7 #[.slice (some ⟨b, off, none⟩) n cap] w fun e w' => e = .returned (.bool true) ∧ Below w.heap.size w w' := by
  have HN := hide hn
  have HC := hide hc
  have HBW := hide hbw
  have hzv := Try.zeroBook11
  clear hn hc hbw
  go_enter Try.func7, Try.ntmps7
  go_wp2
  go_loopw [3, 4] (fun x y wr => ∃ k v : Nat, k ≤ n ∧ y = .int .i64 k ∧ x = .int .i64 v ∧ v ≤ 70000 ∧ k ≤ v ∧ Hid (∀ i, i < k → (L.getD i qm0).dn ≤ 65536 ∧ 16 ≤ (L.getD i qm0).size ∧ (L.getD i qm0).size ≤ 4096) ∧ Hid (Kept [] w wr)) (fun x y wr => n - (intOf y).toNat)
  case atStart => exact ⟨0, 0, Nat.zero_le _, rfl, rfl, by omega, by omega, fun i hi => by omega, Kept.refl _ _⟩
  case round =>
    obtain ⟨k, v, hk, rfl, rfl, hv, hkv, HV, HK⟩ := hrel
    by_cases hlt : k < n
    · have hcl := HC.out k (by rw [HN.out]; exact hlt)
      have d0 := HK.out.cellOf (hcl.1 0 _ rfl) (by simp)
      have d1 := HK.out.cellOf (hcl.1 1 _ rfl) (by simp)
      rw [Nat.add_zero] at d0
      have hdm := hcl.2.inb.max
      have hdc := hcl.2.inb.le
      obtain ⟨dn, hdn⟩ : ∃ dn, (L.getD k qm0).dn = dn := ⟨_, rfl⟩
      obtain ⟨sz, hsz⟩ : ∃ sz, (L.getD k qm0).size = sz := ⟨_, rfl⟩
      have HDN : Hid ((L.getD k qm0).dn = dn ∧ (L.getD k qm0).size = sz) := ⟨hdn, hsz⟩
      rw [hdn] at d0 hdc
      rw [hsz] at d1
      generalize (L.getD k qm0).da = da at d0
      generalize (L.getD k qm0).dc = dc at d0 hdm hdc
      clear hcl hdn hsz
      have hltI : (k : Int) < (n : Int) := by omega
      have hb2 : IntKind.i64.wrap (IntKind.i64.wrap ((v : Int) + (dn : Int)) + 1) = (v : Int) + (dn : Int) + 1 := by rw [IntKind.wrap_i64, IntKind.wrap_i64]; omega
      by_cases hbig : 70000 < v + dn + 1
      · as_aux_lemma =>
        have q1 : (70000 : Int) < (v : Int) + (dn : Int) + 1 := by omega
        go_upto_region 6 with (fail)
        refine wp_region_held_drew (S := fun w' => Kept [] wr w') (by kernel_rfl) ((Kept.refl [] wr).drew) (fun h0 => ?_)
        generalize World.drew wr = v0 at h0 ⊢
        refine wpAnyH_take (i := 0) (v := .int .i64 ((v : Int) + (dn : Int) + 1)) rfl (by kernel_rfl) (by kernel_rfl) (by kernel_rfl) (fun _ _ _ h => h) (Or.inl ⟨by rfl, fun w hSw => by go_simp⟩) h0 ?_
        try simp only [List.getElem_toArray, List.getElem_cons_zero, List.getElem_cons_succ, Act.put, List.setIfInBounds_toArray, List.set_cons_zero, List.set_cons_succ]
        refine wpAnyH_take (i := 1) (v := .bool true) rfl (by kernel_rfl) (by kernel_rfl) (by kernel_rfl) (fun _ _ _ h => h) (Or.inl ⟨by rfl, fun w hSw => by have c0 := q1; go_simp⟩) h0 ?_
        try simp only [List.getElem_toArray, List.getElem_cons_zero, List.getElem_cons_succ, Act.put, List.setIfInBounds_toArray, List.set_cons_zero, List.set_cons_succ]
        refine wpAnyH_take (i := 2) (v := .bool true) rfl (by kernel_rfl) (by kernel_rfl) (by kernel_rfl) (fun _ _ _ h => h) (Or.inl ⟨by rfl, fun w hSw => by go_simp⟩) h0 ?_
        try simp only [List.getElem_toArray, List.getElem_cons_zero, List.getElem_cons_succ, Act.put, List.setIfInBounds_toArray, List.set_cons_zero, List.set_cons_succ]
        refine wpAnyH_take (i := 3) (v := undef) rfl (by kernel_rfl) (by kernel_rfl) (by kernel_rfl) (fun _ _ _ h => h) (Or.inr ⟨by rfl, rfl⟩) h0 ?_
        try simp only [List.getElem_toArray, List.getElem_cons_zero, List.getElem_cons_succ, Act.put, List.setIfInBounds_toArray, List.set_cons_zero, List.set_cons_succ]
        refine wpAnyH_take (i := 4) (v := undef) rfl (by kernel_rfl) (by kernel_rfl) (by kernel_rfl) (fun _ _ _ h => h) (Or.inr ⟨by rfl, rfl⟩) h0 ?_
        try simp only [List.getElem_toArray, List.getElem_cons_zero, List.getElem_cons_succ, Act.put, List.setIfInBounds_toArray, List.set_cons_zero, List.set_cons_succ]
        refine wpAnyH_take (i := 5) (v := undef) rfl (by kernel_rfl) (by kernel_rfl) (by kernel_rfl) (fun _ _ _ h => h) (Or.inr ⟨by rfl, rfl⟩) h0 ?_
        try simp only [List.getElem_toArray, List.getElem_cons_zero, List.getElem_cons_succ, Act.put, List.setIfInBounds_toArray, List.set_cons_zero, List.set_cons_succ]
        refine wpAnyH_take (i := 6) (v := undef) rfl (by kernel_rfl) (by kernel_rfl) (by kernel_rfl) (fun _ _ _ h => h) (Or.inr ⟨by rfl, rfl⟩) h0 ?_
        try simp only [List.getElem_toArray, List.getElem_cons_zero, List.getElem_cons_succ, Act.put, List.setIfInBounds_toArray, List.set_cons_zero, List.set_cons_succ]
        refine wpAnyH_take (i := 7) (v := undef) rfl (by kernel_rfl) (by kernel_rfl) (by kernel_rfl) (fun _ _ _ h => h) (Or.inr ⟨by rfl, rfl⟩) h0 ?_
        try simp only [List.getElem_toArray, List.getElem_cons_zero, List.getElem_cons_succ, Act.put, List.setIfInBounds_toArray, List.set_cons_zero, List.set_cons_succ]
        refine wpAnyH_take (i := 8) (v := undef) rfl (by kernel_rfl) (by kernel_rfl) (by kernel_rfl) (fun _ _ _ h => h) (Or.inr ⟨by rfl, rfl⟩) h0 ?_
        try simp only [List.getElem_toArray, List.getElem_cons_zero, List.getElem_cons_succ, Act.put, List.setIfInBounds_toArray, List.set_cons_zero, List.set_cons_succ]
        refine wpAnyH_take (i := 9) (v := undef) rfl (by kernel_rfl) (by kernel_rfl) (by kernel_rfl) (fun _ _ _ h => h) (Or.inr ⟨by rfl, rfl⟩) h0 ?_
        try simp only [List.getElem_toArray, List.getElem_cons_zero, List.getElem_cons_succ, Act.put, List.setIfInBounds_toArray, List.set_cons_zero, List.set_cons_succ]
        refine wpAnyH_take (i := 10) (v := undef) rfl (by kernel_rfl) (by kernel_rfl) (by kernel_rfl) (fun _ _ _ h => h) (Or.inr ⟨by rfl, rfl⟩) h0 ?_
        try simp only [List.getElem_toArray, List.getElem_cons_zero, List.getElem_cons_succ, Act.put, List.setIfInBounds_toArray, List.set_cons_zero, List.set_cons_succ]
        refine wpAnyH_take (i := 11) (v := undef) rfl (by kernel_rfl) (by kernel_rfl) (by kernel_rfl) (fun _ _ _ h => h) (Or.inr ⟨by rfl, rfl⟩) h0 ?_
        try simp only [List.getElem_toArray, List.getElem_cons_zero, List.getElem_cons_succ, Act.put, List.setIfInBounds_toArray, List.set_cons_zero, List.set_cons_succ]
        refine wpAnyH_take (i := 12) (v := undef) rfl (by kernel_rfl) (by kernel_rfl) (by kernel_rfl) (fun _ _ _ h => h) (Or.inr ⟨by rfl, rfl⟩) h0 ?_
        try simp only [List.getElem_toArray, List.getElem_cons_zero, List.getElem_cons_succ, Act.put, List.setIfInBounds_toArray, List.set_cons_zero, List.set_cons_succ]
        refine wpAnyH_take (i := 13) (v := undef) rfl (by kernel_rfl) (by kernel_rfl) (by kernel_rfl) (fun _ _ _ h => h) (Or.inr ⟨by rfl, rfl⟩) h0 ?_
        try simp only [List.getElem_toArray, List.getElem_cons_zero, List.getElem_cons_succ, Act.put, List.setIfInBounds_toArray, List.set_cons_zero, List.set_cons_succ]
        refine wpAnyH_take (i := 14) (v := undef) rfl (by kernel_rfl) (by kernel_rfl) (by kernel_rfl) (fun _ _ _ h => h) (Or.inr ⟨by rfl, rfl⟩) h0 ?_
        try simp only [List.getElem_toArray, List.getElem_cons_zero, List.getElem_cons_succ, Act.put, List.setIfInBounds_toArray, List.set_cons_zero, List.set_cons_succ]
        refine wpAnyH_take (i := 15) (v := .bool true) rfl (by kernel_rfl) (by kernel_rfl) (by kernel_rfl) (fun _ _ _ h => h) (Or.inl ⟨by rfl, fun w hSw => by go_simp⟩) h0 ?_
        try simp only [List.getElem_toArray, List.getElem_cons_zero, List.getElem_cons_succ, Act.put, List.setIfInBounds_toArray, List.set_cons_zero, List.set_cons_succ]
        refine wpAnyH_done (by kernel_rfl) ?_ _
        have HK2 := hide (HK.out.trans h0 (by simp))
        go_wp2
        go_ret
        exact ⟨rfl, HK2.out.below (Nat.le_refl _) (by simp)⟩
      · have q1 : ¬ (70000 : Int) < (v : Int) + (dn : Int) + 1 := by omega
        have q1d : decide ((70000 : Int) < (v : Int) + (dn : Int) + 1) = false := by simp; omega
        by_cases hft : dn ≤ 65536 ∧ 16 ≤ sz ∧ sz ≤ 4096
        · as_aux_lemma =>
          have HF : Hid (∀ W, Calls Try.prog 21 #[.slice da dn dc, .int .i64 sz] W fun e w' => e = .returned (.bool true) ∧ Kept [] W w') := fun W => (fits_yes da dn dc sz W hft.1 hft.2.1 hft.2.2).mono (by rintro e w' ⟨rfl, rfl⟩; exact ⟨rfl, Kept.refl _ _⟩)
          have HV2 : Hid (∀ i, i < k + 1 → (L.getD i qm0).dn ≤ 65536 ∧ 16 ≤ (L.getD i qm0).size ∧ (L.getD i qm0).size ≤ 4096) := fun i hi => by
            by_cases h : i < k
            · exact HV.out i h
            · obtain rfl : i = k := by omega
              rw [HDN.out.1, HDN.out.2]; exact hft
          clear hft
          go_upto_region 6 with (fail)
          refine wp_region_held_drew (S := fun w' => Kept [] wr w') (by kernel_rfl) ((Kept.refl [] wr).drew) (fun h0 => ?_)
          generalize World.drew wr = v0 at h0 ⊢
          refine wpAnyH_take (i := 0) (v := .int .i64 ((v : Int) + (dn : Int) + 1)) rfl (by kernel_rfl) (by kernel_rfl) (by kernel_rfl) (fun _ _ _ h => h) (Or.inl ⟨by rfl, fun w hSw => by go_simp⟩) h0 ?_
          try simp only [List.getElem_toArray, List.getElem_cons_zero, List.getElem_cons_succ, Act.put, List.setIfInBounds_toArray, List.set_cons_zero, List.set_cons_succ]
          refine wpAnyH_take (i := 1) (v := .bool false) rfl (by kernel_rfl) (by kernel_rfl) (by kernel_rfl) (fun _ _ _ h => h) (Or.inl ⟨by rfl, fun w hSw => by have c0 := q1; go_simp⟩) h0 ?_
          try simp only [List.getElem_toArray, List.getElem_cons_zero, List.getElem_cons_succ, Act.put, List.setIfInBounds_toArray, List.set_cons_zero, List.set_cons_succ]
          refine wpAnyH_take (i := 2) (v := .bool false) rfl (by kernel_rfl) (by kernel_rfl) (by kernel_rfl) (fun _ _ _ h => h) (Or.inl ⟨by rfl, fun w hSw => by go_simp⟩) h0 ?_
          try simp only [List.getElem_toArray, List.getElem_cons_zero, List.getElem_cons_succ, Act.put, List.setIfInBounds_toArray, List.set_cons_zero, List.set_cons_succ]
          refine wpAnyH_take (i := 3) (v := .slice (some ⟨b, off, none⟩) n cap) rfl (by kernel_rfl) (by kernel_rfl) (by kernel_rfl) (fun _ _ _ h => h) (Or.inl ⟨by rfl, fun w hSw => by go_simp⟩) h0 ?_
          try simp only [List.getElem_toArray, List.getElem_cons_zero, List.getElem_cons_succ, Act.put, List.setIfInBounds_toArray, List.set_cons_zero, List.set_cons_succ]
          refine wpAnyH_take (i := 4) (v := .int .i64 k) rfl (by kernel_rfl) (by kernel_rfl) (by kernel_rfl) (fun _ _ _ h => h) (Or.inl ⟨by rfl, fun w hSw => by go_simp⟩) h0 ?_
          try simp only [List.getElem_toArray, List.getElem_cons_zero, List.getElem_cons_succ, Act.put, List.setIfInBounds_toArray, List.set_cons_zero, List.set_cons_succ]
          refine wpAnyH_take (i := 5) (v := .pointer (some ⟨b, off + k * 2, none⟩)) rfl (by kernel_rfl) (by kernel_rfl) (by kernel_rfl) (fun _ _ _ h => h) (Or.inl ⟨by rfl, fun w hSw => by have c0 := hltI; go_simp⟩) h0 ?_
          try simp only [List.getElem_toArray, List.getElem_cons_zero, List.getElem_cons_succ, Act.put, List.setIfInBounds_toArray, List.set_cons_zero, List.set_cons_succ]
          refine wpAnyH_take (i := 6) (v := .pointer (some ⟨b, off + k * 2, none⟩)) rfl (by kernel_rfl) (by kernel_rfl) (by kernel_rfl) (fun _ _ _ h => h) (Or.inl ⟨by rfl, fun w hSw => by go_simp⟩) h0 ?_
          try simp only [List.getElem_toArray, List.getElem_cons_zero, List.getElem_cons_succ, Act.put, List.setIfInBounds_toArray, List.set_cons_zero, List.set_cons_succ]
          refine wpAnyH_take (i := 7) (v := .slice da dn dc) rfl (by kernel_rfl) (by kernel_rfl) (by kernel_rfl) (fun _ _ _ h => h) (Or.inl ⟨by rfl, fun w hSw => by have c0 := Kept.cellOf hSw d0 (by simp); go_simp⟩) h0 ?_
          try simp only [List.getElem_toArray, List.getElem_cons_zero, List.getElem_cons_succ, Act.put, List.setIfInBounds_toArray, List.set_cons_zero, List.set_cons_succ]
          refine wpAnyH_take (i := 8) (v := .slice (some ⟨b, off, none⟩) n cap) rfl (by kernel_rfl) (by kernel_rfl) (by kernel_rfl) (fun _ _ _ h => h) (Or.inl ⟨by rfl, fun w hSw => by go_simp⟩) h0 ?_
          try simp only [List.getElem_toArray, List.getElem_cons_zero, List.getElem_cons_succ, Act.put, List.setIfInBounds_toArray, List.set_cons_zero, List.set_cons_succ]
          refine wpAnyH_take (i := 9) (v := .int .i64 k) rfl (by kernel_rfl) (by kernel_rfl) (by kernel_rfl) (fun _ _ _ h => h) (Or.inl ⟨by rfl, fun w hSw => by go_simp⟩) h0 ?_
          try simp only [List.getElem_toArray, List.getElem_cons_zero, List.getElem_cons_succ, Act.put, List.setIfInBounds_toArray, List.set_cons_zero, List.set_cons_succ]
          refine wpAnyH_take (i := 10) (v := .pointer (some ⟨b, off + k * 2, none⟩)) rfl (by kernel_rfl) (by kernel_rfl) (by kernel_rfl) (fun _ _ _ h => h) (Or.inl ⟨by rfl, fun w hSw => by have c0 := hltI; go_simp⟩) h0 ?_
          try simp only [List.getElem_toArray, List.getElem_cons_zero, List.getElem_cons_succ, Act.put, List.setIfInBounds_toArray, List.set_cons_zero, List.set_cons_succ]
          refine wpAnyH_take (i := 11) (v := .pointer (some ⟨b, off + k * 2 + 1, none⟩)) rfl (by kernel_rfl) (by kernel_rfl) (by kernel_rfl) (fun _ _ _ h => h) (Or.inl ⟨by rfl, fun w hSw => by go_simp⟩) h0 ?_
          try simp only [List.getElem_toArray, List.getElem_cons_zero, List.getElem_cons_succ, Act.put, List.setIfInBounds_toArray, List.set_cons_zero, List.set_cons_succ]
          refine wpAnyH_take (i := 12) (v := .int .i64 sz) rfl (by kernel_rfl) (by kernel_rfl) (by kernel_rfl) (fun _ _ _ h => h) (Or.inl ⟨by rfl, fun w hSw => by have c0 := Kept.cellOf hSw d1 (by simp); go_simp⟩) h0 ?_
          try simp only [List.getElem_toArray, List.getElem_cons_zero, List.getElem_cons_succ, Act.put, List.setIfInBounds_toArray, List.set_cons_zero, List.set_cons_succ]
          refine wpAnyH_ready (rs := [13]) (by kernel_rfl) (by simp) (AllReadyH.cons (i := 13) rfl (fun K hK => ?_) AllReadyH.nil)
          rw [if_pos (by rfl)]
          go_simp
          refine (HF.out _).mono ?_
          rintro e v1 ⟨rfl, hq⟩
          refine hK.out _ _ (h0.trans hq (by simp)) (fun h1 => ?_)
          clear hK K hq h0
          try simp only [List.getElem_toArray, List.getElem_cons_zero, List.getElem_cons_succ, Act.put, List.setIfInBounds_toArray, List.set_cons_zero, List.set_cons_succ]
          refine wpAnyH_take (i := 14) (v := .bool false) rfl (by kernel_rfl) (by kernel_rfl) (by kernel_rfl) (fun _ _ _ h => h) (Or.inl ⟨by rfl, fun w hSw => by go_simp⟩) h1 ?_
          try simp only [List.getElem_toArray, List.getElem_cons_zero, List.getElem_cons_succ, Act.put, List.setIfInBounds_toArray, List.set_cons_zero, List.set_cons_succ]
          refine wpAnyH_take (i := 15) (v := .bool false) rfl (by kernel_rfl) (by kernel_rfl) (by kernel_rfl) (fun _ _ _ h => h) (Or.inl ⟨by rfl, fun w hSw => by go_simp⟩) h1 ?_
          try simp only [List.getElem_toArray, List.getElem_cons_zero, List.getElem_cons_succ, Act.put, List.setIfInBounds_toArray, List.set_cons_zero, List.set_cons_succ]
          refine wpAnyH_done (by kernel_rfl) ?_ _
          have HK2 := hide (HK.out.trans h1 (by simp))
          clear h1 d0 d1 HF
          go_wp2
          go_roundw
          case rel => exact ⟨k + 1, v + dn + 1, by omega, by go_num, by go_num, by omega, by omega, HV2, HK2⟩
          case measure => simp [intOf]; omega
        · as_aux_lemma =>
          have HF : Hid (∀ W, Calls Try.prog 21 #[.slice da dn dc, .int .i64 sz] W fun e w' => e = .returned (.bool false) ∧ Kept [] W w') := fun W => (fits_no da dn dc sz W hft).mono (by rintro e w' ⟨rfl, rfl⟩; exact ⟨rfl, Kept.refl _ _⟩)
          clear hft
          go_upto_region 6 with (fail)
          refine wp_region_held_drew (S := fun w' => Kept [] wr w') (by kernel_rfl) ((Kept.refl [] wr).drew) (fun h0 => ?_)
          generalize World.drew wr = v0 at h0 ⊢
          refine wpAnyH_take (i := 0) (v := .int .i64 ((v : Int) + (dn : Int) + 1)) rfl (by kernel_rfl) (by kernel_rfl) (by kernel_rfl) (fun _ _ _ h => h) (Or.inl ⟨by rfl, fun w hSw => by go_simp⟩) h0 ?_
          try simp only [List.getElem_toArray, List.getElem_cons_zero, List.getElem_cons_succ, Act.put, List.setIfInBounds_toArray, List.set_cons_zero, List.set_cons_succ]
          refine wpAnyH_take (i := 1) (v := .bool false) rfl (by kernel_rfl) (by kernel_rfl) (by kernel_rfl) (fun _ _ _ h => h) (Or.inl ⟨by rfl, fun w hSw => by have c0 := q1; go_simp⟩) h0 ?_
          try simp only [List.getElem_toArray, List.getElem_cons_zero, List.getElem_cons_succ, Act.put, List.setIfInBounds_toArray, List.set_cons_zero, List.set_cons_succ]
          refine wpAnyH_take (i := 2) (v := .bool false) rfl (by kernel_rfl) (by kernel_rfl) (by kernel_rfl) (fun _ _ _ h => h) (Or.inl ⟨by rfl, fun w hSw => by go_simp⟩) h0 ?_
          try simp only [List.getElem_toArray, List.getElem_cons_zero, List.getElem_cons_succ, Act.put, List.setIfInBounds_toArray, List.set_cons_zero, List.set_cons_succ]
          refine wpAnyH_take (i := 3) (v := .slice (some ⟨b, off, none⟩) n cap) rfl (by kernel_rfl) (by kernel_rfl) (by kernel_rfl) (fun _ _ _ h => h) (Or.inl ⟨by rfl, fun w hSw => by go_simp⟩) h0 ?_
          try simp only [List.getElem_toArray, List.getElem_cons_zero, List.getElem_cons_succ, Act.put, List.setIfInBounds_toArray, List.set_cons_zero, List.set_cons_succ]
          refine wpAnyH_take (i := 4) (v := .int .i64 k) rfl (by kernel_rfl) (by kernel_rfl) (by kernel_rfl) (fun _ _ _ h => h) (Or.inl ⟨by rfl, fun w hSw => by go_simp⟩) h0 ?_
          try simp only [List.getElem_toArray, List.getElem_cons_zero, List.getElem_cons_succ, Act.put, List.setIfInBounds_toArray, List.set_cons_zero, List.set_cons_succ]
          refine wpAnyH_take (i := 5) (v := .pointer (some ⟨b, off + k * 2, none⟩)) rfl (by kernel_rfl) (by kernel_rfl) (by kernel_rfl) (fun _ _ _ h => h) (Or.inl ⟨by rfl, fun w hSw => by have c0 := hltI; go_simp⟩) h0 ?_
          try simp only [List.getElem_toArray, List.getElem_cons_zero, List.getElem_cons_succ, Act.put, List.setIfInBounds_toArray, List.set_cons_zero, List.set_cons_succ]
          refine wpAnyH_take (i := 6) (v := .pointer (some ⟨b, off + k * 2, none⟩)) rfl (by kernel_rfl) (by kernel_rfl) (by kernel_rfl) (fun _ _ _ h => h) (Or.inl ⟨by rfl, fun w hSw => by go_simp⟩) h0 ?_
          try simp only [List.getElem_toArray, List.getElem_cons_zero, List.getElem_cons_succ, Act.put, List.setIfInBounds_toArray, List.set_cons_zero, List.set_cons_succ]
          refine wpAnyH_take (i := 7) (v := .slice da dn dc) rfl (by kernel_rfl) (by kernel_rfl) (by kernel_rfl) (fun _ _ _ h => h) (Or.inl ⟨by rfl, fun w hSw => by have c0 := Kept.cellOf hSw d0 (by simp); go_simp⟩) h0 ?_
          try simp only [List.getElem_toArray, List.getElem_cons_zero, List.getElem_cons_succ, Act.put, List.setIfInBounds_toArray, List.set_cons_zero, List.set_cons_succ]
          refine wpAnyH_take (i := 8) (v := .slice (some ⟨b, off, none⟩) n cap) rfl (by kernel_rfl) (by kernel_rfl) (by kernel_rfl) (fun _ _ _ h => h) (Or.inl ⟨by rfl, fun w hSw => by go_simp⟩) h0 ?_
          try simp only [List.getElem_toArray, List.getElem_cons_zero, List.getElem_cons_succ, Act.put, List.setIfInBounds_toArray, List.set_cons_zero, List.set_cons_succ]
          refine wpAnyH_take (i := 9) (v := .int .i64 k) rfl (by kernel_rfl) (by kernel_rfl) (by kernel_rfl) (fun _ _ _ h => h) (Or.inl ⟨by rfl, fun w hSw => by go_simp⟩) h0 ?_
          try simp only [List.getElem_toArray, List.getElem_cons_zero, List.getElem_cons_succ, Act.put, List.setIfInBounds_toArray, List.set_cons_zero, List.set_cons_succ]
          refine wpAnyH_take (i := 10) (v := .pointer (some ⟨b, off + k * 2, none⟩)) rfl (by kernel_rfl) (by kernel_rfl) (by kernel_rfl) (fun _ _ _ h => h) (Or.inl ⟨by rfl, fun w hSw => by have c0 := hltI; go_simp⟩) h0 ?_
          try simp only [List.getElem_toArray, List.getElem_cons_zero, List.getElem_cons_succ, Act.put, List.setIfInBounds_toArray, List.set_cons_zero, List.set_cons_succ]
          refine wpAnyH_take (i := 11) (v := .pointer (some ⟨b, off + k * 2 + 1, none⟩)) rfl (by kernel_rfl) (by kernel_rfl) (by kernel_rfl) (fun _ _ _ h => h) (Or.inl ⟨by rfl, fun w hSw => by go_simp⟩) h0 ?_
          try simp only [List.getElem_toArray, List.getElem_cons_zero, List.getElem_cons_succ, Act.put, List.setIfInBounds_toArray, List.set_cons_zero, List.set_cons_succ]
          refine wpAnyH_take (i := 12) (v := .int .i64 sz) rfl (by kernel_rfl) (by kernel_rfl) (by kernel_rfl) (fun _ _ _ h => h) (Or.inl ⟨by rfl, fun w hSw => by have c0 := Kept.cellOf hSw d1 (by simp); go_simp⟩) h0 ?_
          try simp only [List.getElem_toArray, List.getElem_cons_zero, List.getElem_cons_succ, Act.put, List.setIfInBounds_toArray, List.set_cons_zero, List.set_cons_succ]
          refine wpAnyH_ready (rs := [13]) (by kernel_rfl) (by simp) (AllReadyH.cons (i := 13) rfl (fun K hK => ?_) AllReadyH.nil)
          rw [if_pos (by rfl)]
          go_simp
          refine (HF.out _).mono ?_
          rintro e v1 ⟨rfl, hq⟩
          refine hK.out _ _ (h0.trans hq (by simp)) (fun h1 => ?_)
          clear hK K hq h0
          try simp only [List.getElem_toArray, List.getElem_cons_zero, List.getElem_cons_succ, Act.put, List.setIfInBounds_toArray, List.set_cons_zero, List.set_cons_succ]
          refine wpAnyH_take (i := 14) (v := .bool true) rfl (by kernel_rfl) (by kernel_rfl) (by kernel_rfl) (fun _ _ _ h => h) (Or.inl ⟨by rfl, fun w hSw => by go_simp⟩) h1 ?_
          try simp only [List.getElem_toArray, List.getElem_cons_zero, List.getElem_cons_succ, Act.put, List.setIfInBounds_toArray, List.set_cons_zero, List.set_cons_succ]
          refine wpAnyH_take (i := 15) (v := .bool true) rfl (by kernel_rfl) (by kernel_rfl) (by kernel_rfl) (fun _ _ _ h => h) (Or.inl ⟨by rfl, fun w hSw => by go_simp⟩) h1 ?_
          try simp only [List.getElem_toArray, List.getElem_cons_zero, List.getElem_cons_succ, Act.put, List.setIfInBounds_toArray, List.set_cons_zero, List.set_cons_succ]
          refine wpAnyH_done (by kernel_rfl) ?_ _
          have HK2 := hide (HK.out.trans h1 (by simp))
          clear h1 d0 d1 HF
          go_wp2
          go_ret
          exact ⟨rfl, HK2.out.below (Nat.le_refl _) (by simp)⟩
    · obtain rfl : k = n := by omega
      have hkn : k ≤ 70000 := by omega
      have HI := hide (St.begin2 HK.out 70000)
      go_wp2
      generalize wr.alloc (.cells #[.slice none 0 0, .slice none 0 0] 60) = w1 at HI ⊢
      generalize wr.heap.size = K at HI ⊢
      clear hzv hv hkv HK
      go_loopw [8, 6, 7] (fun x y z wr => ∃ (j : Nat) (q : Sd), j ≤ 2 * k ∧ x = .int .i64 j ∧ y = q.LR.val ∧ z = q.WR.val ∧ Hid (St w wr K 70000 0 q ∧ q.NL = q.NW ∧ q.NL ≤ 9 * j ∧ q.E ≤ 9 * j ∧ q.E2 ≤ j)) (fun x y z wr => 2 * k - (intOf x).toNat)
      case atStart => exact ⟨0, sd0, Nat.zero_le _, rfl, rfl, rfl, HI.out, rfl, Nat.le_refl _, Nat.le_refl _, Nat.le_refl _⟩
      case round =>
        clear HI
        obtain ⟨j, q, hj, rfl, rfl, rfl, HR⟩ := hrel
        by_cases hjl : j < 2 * k
        · as_aux_lemma =>
          have HTN := hide (fun W => turn_ok j k W (by omega) hjl)
          have hj2 : (j : Int) < 2 * (k : Int) := by omega
          have w2k : IntKind.i64.wrap (2 * (k : Int)) = 2 * (k : Int) := by rw [IntKind.wrap_i64]; omega
          go_wp2_with (fail)
          refine (HTN.out _).mono ?_
          rintro e w' ⟨⟨t, ht, rfl⟩, hw⟩
          obtain rfl := hw.symm
          clear hj2 w2k HTN
          have hcl := HC.out t (by rw [HN.out]; exact ht)
          have hrg0 := hcl.1
          have HIN : Hid (InB w (L.getD t qm0).da (L.getD t qm0).dn (L.getD t qm0).dc (L.getD t qm0).ds) := hcl.2.inb
          have hvt := HV.out t ht
          unfold Qm.cells at hrg0
          generalize (L.getD t qm0).da = da at hrg0 HIN
          generalize (L.getD t qm0).dn = dn at hrg0 HIN hvt
          generalize (L.getD t qm0).dc = dc at hrg0 HIN
          generalize (L.getD t qm0).ds = ds at HIN
          generalize (L.getD t qm0).size = sz at hrg0 hvt
          clear hcl
          obtain ⟨s, rfl⟩ : ∃ s : Nat, sz = s := ⟨sz.toNat, by omega⟩
          obtain ⟨hd6, hs1, hs2⟩ := hvt
          have hrg1 : wr.rangeAt b (off + t * 2) [.slice da dn dc, .int .i64 (s : Nat)] := fun j v hv => by rw [HR.out.1.bel.cell (p := ⟨b, off + t * 2 + j, none⟩) HBW.out]; exact hrg0 j v hv
          clear hrg0
          have htk : (t : Int) < (k : Int) := by omega
          go_upto_region 15 with (first
            | refine wpList_load_mid rfl 25 (.tmp 72) rfl b (off + t * 2) rfl [.slice da dn dc, .int .i64 (s : Nat)] _ hrg1 Try.underlying25 rfl Try.infoAsk11 ?_
            | refine wpList_store_rowTo rfl 25 (.tmp 9) (.tmp 73) rfl rfl wr.heap.size #[.slice da dn dc, .int .i64 (s : Nat)] rfl rfl 25 #[.slice none 0 0, .int .i64 0] (heap_new _ _) Try.infoAsk11 rfl (ask_all11 _ _ _ _) ?_)
          have hk14 : Kept [] wr ((wr.alloc (.cells #[.slice none 0 0, .int .i64 0] 25)).setRow wr.heap.size #[.slice da dn dc, .int .i64 (s : Nat)]) := kept_setRow ((Kept.refl [] wr).alloc _) (by intro h; omega) _
          have hrX : ((wr.alloc (.cells #[.slice none 0 0, .int .i64 0] 25)).setRow wr.heap.size #[.slice da dn dc, .int .i64 (s : Nat)]).heap[wr.heap.size]? = some (.cells #[.slice da dn dc, .int .i64 (s : Nat)] 25 (0, 0)) := setRow_heap _ _ _ _ _ _ (heap_new _ _)
          generalize (wr.alloc (.cells #[.slice none 0 0, .int .i64 0] 25)).setRow wr.heap.size #[.slice da dn dc, .int .i64 (s : Nat)] = W14 at hk14 hrX ⊢
          have HGX : Hid (w.heap.size ≤ wr.heap.size) := HR.out.1.bel.size
          generalize wr.heap.size = gX at hrX HGX ⊢
          have HX14 := hide (ask_row hrX HGX.out)
          have HT14 := hide (HR.out.1.kept hk14)
          have HQ := hide HR.out.2
          have HR0 := HR
          have e0 : W14.cell? ⟨gX, 0, none⟩ = some (.slice da dn dc) := by rw [cell_of_row _ _ _ _ _ _ hrX]; rfl
          have e1 : W14.cell? ⟨gX, 1, none⟩ = some (.int .i64 (s : Nat)) := by rw [cell_of_row _ _ _ _ _ _ hrX]; rfl
          have HS14 : Hid (Sl W14 da ds) := HIN.out.sl.kept (Kept.of_below HT14.out.bel) (by simp)
          obtain ⟨c, hcc⟩ : ∃ c, dn + 70 = c := ⟨_, rfl⟩
          have wc70 : IntKind.i64.wrap ((dn : Int) + 70) = (c : Int) := by rw [IntKind.wrap_i64]; omega
          have hc70 : c ≤ 70000 := by omega
          clear hk14 hrX hrg1 hcc HR
          refine wp_region_held_drew (S := fun w' => Kept [] W14 w') (by kernel_rfl) ((Kept.refl [] W14).drew) (fun h0 => ?_)
          generalize World.drew W14 = v0 at h0 ⊢
          refine wpAnyH_take (i := 0) (v := .pointer (some ⟨gX, 0, none⟩)) rfl (by kernel_rfl) (by kernel_rfl) (by kernel_rfl) (fun _ _ _ h => h) (Or.inl ⟨by rfl, fun w hSw => by go_simp⟩) h0 ?_
          try simp only [List.getElem_toArray, List.getElem_cons_zero, List.getElem_cons_succ, Act.put, List.setIfInBounds_toArray, List.set_cons_zero, List.set_cons_succ]
          refine wpAnyH_take (i := 1) (v := .slice da dn dc) rfl (by kernel_rfl) (by kernel_rfl) (by kernel_rfl) (fun _ _ _ h => h) (Or.inl ⟨by rfl, fun w hSw => by have c0 := Kept.cellOf hSw e0 (by simp); go_simp⟩) h0 ?_
          try simp only [List.getElem_toArray, List.getElem_cons_zero, List.getElem_cons_succ, Act.put, List.setIfInBounds_toArray, List.set_cons_zero, List.set_cons_succ]
          refine wpAnyH_take (i := 2) (v := .int .i64 dn) rfl (by kernel_rfl) (by kernel_rfl) (by kernel_rfl) (fun _ _ _ h => h) (Or.inl ⟨by rfl, fun w hSw => by go_simp⟩) h0 ?_
          try simp only [List.getElem_toArray, List.getElem_cons_zero, List.getElem_cons_succ, Act.put, List.setIfInBounds_toArray, List.set_cons_zero, List.set_cons_succ]
          refine wpAnyH_take (i := 3) (v := .int .i64 (c : Nat)) rfl (by kernel_rfl) (by kernel_rfl) (by kernel_rfl) (fun _ _ _ h => h) (Or.inl ⟨by rfl, fun w hSw => by have c0 := wc70; go_simp⟩) h0 ?_
          try simp only [List.getElem_toArray, List.getElem_cons_zero, List.getElem_cons_succ, Act.put, List.setIfInBounds_toArray, List.set_cons_zero, List.set_cons_succ]
          refine wpAnyH_take (i := 5) (v := .pointer (some ⟨gX, 0, none⟩)) rfl (by kernel_rfl) (by kernel_rfl) (by kernel_rfl) (fun _ _ _ h => h) (Or.inl ⟨by rfl, fun w hSw => by go_simp⟩) h0 ?_
          try simp only [List.getElem_toArray, List.getElem_cons_zero, List.getElem_cons_succ, Act.put, List.setIfInBounds_toArray, List.set_cons_zero, List.set_cons_succ]
          refine wpAnyH_take (i := 6) (v := .slice da dn dc) rfl (by kernel_rfl) (by kernel_rfl) (by kernel_rfl) (fun _ _ _ h => h) (Or.inl ⟨by rfl, fun w hSw => by have c0 := Kept.cellOf hSw e0 (by simp); go_simp⟩) h0 ?_
          try simp only [List.getElem_toArray, List.getElem_cons_zero, List.getElem_cons_succ, Act.put, List.setIfInBounds_toArray, List.set_cons_zero, List.set_cons_succ]
          have hrm := run_makeRoom v0 c (by omega)
          obtain ⟨v15, w15, hrun, ho15, hk15⟩ := run_roomApp v0 c (by omega) ds da dn dc HIN.out.len (HS14.out.kept h0 (by simp)) HIN.out.nil (by omega)
          refine wpAnyH_ready (rs := [4]) (by kernel_rfl) (by simp) (AllReadyH.cons (i := 4) rfl (fun K hK => ?_) AllReadyH.nil)
          rw [if_pos (by rfl)]
          go_simp
          refine hK.out _ _ (h0.alloc _) (fun h1 => ?_)
          clear hK K
          try simp only [List.getElem_toArray, List.getElem_cons_zero, List.getElem_cons_succ, Act.put, List.setIfInBounds_toArray, List.set_cons_zero, List.set_cons_succ]
          refine wpAnyH_ready (rs := [7]) (by kernel_rfl) (by simp) (AllReadyH.cons (i := 7) rfl (fun K hK => ?_) AllReadyH.nil)
          rw [if_pos (by rfl)]
          refine wp_append_run (.tmp 78) (.tmp 80) 23 rfl (.slice (some ⟨v0.heap.size, 0, none⟩) 0 c) (.slice da dn dc) rfl rfl v15 w15 hrun ?_
          have h2 : Kept [] W14 w15 := h0.trans hk15 (by simp)
          refine hK.out _ _ h2 (fun h3 => ?_)
          clear hK K h1 h2 hrun hrm
          try simp only [List.getElem_toArray, List.getElem_cons_zero, List.getElem_cons_succ, Act.put, List.setIfInBounds_toArray, List.set_cons_zero, List.set_cons_succ]
          refine wpAnyH_take (i := 8) (v := v15) rfl (by kernel_rfl) (by kernel_rfl) (by kernel_rfl) (fun _ _ _ h => h) (Or.inl ⟨by rfl, fun w hSw => by go_simp⟩) h3 ?_
          try simp only [List.getElem_toArray, List.getElem_cons_zero, List.getElem_cons_succ, Act.put, List.setIfInBounds_toArray, List.set_cons_zero, List.set_cons_succ]
          refine wpAnyH_done (by kernel_rfl) ?_ _
          obtain ⟨ro, rc, ev, _⟩ := ho15.shape
          rw [HIN.out.len] at ev
          subst ev
          have hrA : (Rw.mk ro rc dn (bys ds)).At 5 1 v0.heap.size w15 := by have h9 := ho15; unfold OwnB at h9; rw [HIN.out.len] at h9; exact h9
          have HT15 := hide ((HT14.out.kept h0).call hk15 hrA (by show dn ≤ 70000; omega))
          have HSR := hide (rw_sl hrA rfl)
          have HLT := hide (And.intro HT14.out.a1.lt (And.intro HT14.out.ix.lem HT14.out.ix.le))
          have d0 := h3.cellOf e0 (by simp)
          have d1 := h3.cellOf e1 (by simp)
          have HX15 : Hid (Sl w15 da ds) := HIN.out.sl.kept (Kept.of_below HT15.out.bel) (by simp)
          have HX15r := hide (HX14.out.keep (kept_grown (row := none) h3 (by simp)) (Off.none _))
          clear ho15 hk15 h0 h3 hrA HT14 HS14 e0 e1 wc70 HX14
          -- Pack, twice
          obtain ⟨cN, hcN⟩ : ∃ cN, Blk.cnt dn s = cN := ⟨_, rfl⟩
          obtain ⟨T, hT⟩ : ∃ T, (Blk.outs ds s cN).length = T := ⟨_, rfl⟩
          have HTL := hide hT
          have hT6 : T ≤ 65536 := by have h9 := Blk.outs_len ds s cN; rw [hT, HIN.out.len] at h9; omega
          have hc7 : cN ≤ 70000 := by
            have h9 : cN ≤ dn + s - 1 := by rw [← hcN]; exact Nat.div_le_self _ _
            omega
          have HP1 : Hid (∀ W, Kept [] w15 W → Calls Try.prog 10 #[.slice ro dn rc, .int .i64 (s : Nat)] W fun e w' => ∃ bo bc ko kc, e = .returned (.tuple #[.slice bo T bc, .slice ko cN kc, .int .i64 0]) ∧ (Rw.mk bo bc T (bys (Blk.outs ds s cN))).At 5 1 W.heap.size w' ∧ (Rw.mk ko kc cN (brows (Blk.blks ds s cN))).At 45 4 W.heap.size w' ∧ Below W.heap.size W w') := fun W hW => by
            have h9 := bpack_in ro dn rc s ds W HIN.out.len HSR.out.2.2.1 (HSR.out.1.kept hW (by simp)) (by omega) (by omega) hd6
            rw [hcN] at h9
            unfold PkAns at h9
            simp only [hT, Blk.blks_len] at h9
            refine h9.mono ?_
            rintro e w' ⟨bo, bc, ko, kc, he, o1, o2, o3⟩
            refine ⟨bo, bc, ko, kc, he, ?_, ?_, o3⟩
            · unfold OwnB at o1; rw [hT] at o1; exact o1
            · unfold OwnK at o2; rw [Blk.blks_len] at o2; exact o2
          have HCL : Hid (∀ x, x < cN ↔ x * s < dn) := fun x => by rw [← hcN]; exact Blk.cnt_lt (by omega)
          clear hcN hT
          go_upto_region 17 with (go_at_call 10; refine (HP1.out _ (Kept.refl _ _)).mono ?_; rintro e w16 ⟨ba, ca, ka, la, rfl, oa, ok, hb16⟩; have HOA := hide oa; have HOK := hide ok; have HB16 := hide hb16; clear oa ok hb16)
          have e1 := (Kept.of_below HB16.out).cellOf d1 (by simp)
          clear d1
          go_upto_region 18 with (go_at_call 10; refine (HP1.out _ (Kept.of_below HB16.out)).mono ?_; rintro e w17 ⟨bb, cb, kb, lb, rfl, oa, ok, hb17⟩; have HOA2 := hide oa; have HOK2 := hide ok; have HB17 := hide hb17; clear oa ok hb17 HP1)
          have HT16 := hide (HT15.out.call2 (Kept.of_below HB16.out) HOA.out HOK.out (by show T ≤ 70000; omega) hc7)
          have HT17 := hide (HT16.out.call2 (Kept.of_below HB17.out) HOA2.out HOK2.out (by show T ≤ 70000; omega) hc7)
          have HK17 := hide ((Kept.of_below HB16.out).trans (Kept.of_below HB17.out) (by simp))
          have HSA := hide ((rw_sl HOA.out rfl).1.kept (Kept.of_below HB17.out) (by simp))
          have HSB := hide (rw_sl HOA2.out rfl)
          have HKA := hide ((rw_blks HOK.out rfl).1.kept (Kept.of_below HB17.out) (by simp))
          have HKB := hide (rw_blks HOK2.out rfl).1
          replace d0 := HK17.out.cellOf d0 (by simp)
          have HBY1 := hide (bytes_yes ba bb T ca cb (Blk.outs ds s cN) w17 HTL.out (by omega) HSA.out HSB.out.1)
          have HRO : Hid (∀ W, Kept [] w17 W → Calls Try.prog 15 #[.slice ka cN la, .slice kb cN lb] W fun e w' => e = .returned (.bool true) ∧ Kept [] W w') := fun W hW => rows_yes ka kb cN la lb (Blk.blks ds s cN) W (Blk.blks_len _ _ _) (by omega) (HKA.out.kept hW (by simp)) (HKB.out.kept hW (by simp))
          have HBY2 : Hid (∀ W, Kept [] w17 W → Calls Try.prog 14 #[.slice ro dn rc, .slice da dn dc] W fun e w' => e = .returned (.bool true) ∧ Kept [] W w') := fun W hW => bytes_yes ro da dn rc dc ds W HIN.out.len (by omega) ((HSR.out.1.kept HK17.out (by simp)).kept hW (by simp)) ((HX15.out.kept HK17.out (by simp)).kept hW (by simp))
          go_upto_region 20 with (first
            | (have HA := HBY1; go_at_call 14; refine HBY1.out.mono ?_; rintro e w18 ⟨rfl, hk18⟩; have HK18 := hide hk18; clear hk18 HBY1 HA)
            | (go_at_call 15; refine (HRO.out _ HK18.out).mono ?_; rintro e w19 ⟨rfl, hk19⟩; have HK19 := hide (HK18.out.trans hk19 (by simp)); have f0 := HK19.out.cellOf d0 (by simp); clear hk19 HRO)
            | (have HA := HBY2; go_at_call 14; refine (HBY2.out _ HK19.out).mono ?_; rintro e w20 ⟨rfl, hk20⟩; have HK20 := hide (HK19.out.trans hk20 (by simp)); clear hk20 HBY2 HA))
          have HT20 : Hid (St w w20 K 70000 0 (q.two ⟨ro, rc, dn, bys ds⟩ ⟨ba, ca, T, bys (Blk.outs ds s cN)⟩ ⟨ka, la, cN, brows (Blk.blks ds s cN)⟩ ⟨bb, cb, T, bys (Blk.outs ds s cN)⟩ ⟨kb, lb, cN, brows (Blk.blks ds s cN)⟩)) := HT17.out.kept HK20.out
          have HMS := hide (Mid.start HR0.out.1 HR0.out.2.1 ⟨ro, rc, dn, bys ds⟩ ⟨ba, ca, T, bys (Blk.outs ds s cN)⟩ ⟨ka, la, cN, brows (Blk.blks ds s cN)⟩ ⟨bb, cb, T, bys (Blk.outs ds s cN)⟩ ⟨kb, lb, cN, brows (Blk.blks ds s cN)⟩)
          have HQ2 := hide (two_facts q ⟨ro, rc, dn, bys ds⟩ ⟨ba, ca, T, bys (Blk.outs ds s cN)⟩ ⟨ka, la, cN, brows (Blk.blks ds s cN)⟩ ⟨bb, cb, T, bys (Blk.outs ds s cN)⟩ ⟨kb, lb, cN, brows (Blk.blks ds s cN)⟩)
          have HQE : Hid (((q.two ⟨ro, rc, dn, bys ds⟩ ⟨ba, ca, T, bys (Blk.outs ds s cN)⟩ ⟨ka, la, cN, brows (Blk.blks ds s cN)⟩ ⟨bb, cb, T, bys (Blk.outs ds s cN)⟩ ⟨kb, lb, cN, brows (Blk.blks ds s cN)⟩).LR = q.LR ∧ (q.two ⟨ro, rc, dn, bys ds⟩ ⟨ba, ca, T, bys (Blk.outs ds s cN)⟩ ⟨ka, la, cN, brows (Blk.blks ds s cN)⟩ ⟨bb, cb, T, bys (Blk.outs ds s cN)⟩ ⟨kb, lb, cN, brows (Blk.blks ds s cN)⟩).WR = q.WR) ∧ (q.two ⟨ro, rc, dn, bys ds⟩ ⟨ba, ca, T, bys (Blk.outs ds s cN)⟩ ⟨ka, la, cN, brows (Blk.blks ds s cN)⟩ ⟨bb, cb, T, bys (Blk.outs ds s cN)⟩ ⟨kb, lb, cN, brows (Blk.blks ds s cN)⟩).NL = q.NL ∧ (q.two ⟨ro, rc, dn, bys ds⟩ ⟨ba, ca, T, bys (Blk.outs ds s cN)⟩ ⟨ka, la, cN, brows (Blk.blks ds s cN)⟩ ⟨bb, cb, T, bys (Blk.outs ds s cN)⟩ ⟨kb, lb, cN, brows (Blk.blks ds s cN)⟩).NW = q.NW ∧ (∀ k, k < (q.two ⟨ro, rc, dn, bys ds⟩ ⟨ba, ca, T, bys (Blk.outs ds s cN)⟩ ⟨ka, la, cN, brows (Blk.blks ds s cN)⟩ ⟨bb, cb, T, bys (Blk.outs ds s cN)⟩ ⟨kb, lb, cN, brows (Blk.blks ds s cN)⟩).E → (q.two ⟨ro, rc, dn, bys ds⟩ ⟨ba, ca, T, bys (Blk.outs ds s cN)⟩ ⟨ka, la, cN, brows (Blk.blks ds s cN)⟩ ⟨bb, cb, T, bys (Blk.outs ds s cN)⟩ ⟨kb, lb, cN, brows (Blk.blks ds s cN)⟩).en k < q.m) ∧ (∀ i, i < (q.two ⟨ro, rc, dn, bys ds⟩ ⟨ba, ca, T, bys (Blk.outs ds s cN)⟩ ⟨ka, la, cN, brows (Blk.blks ds s cN)⟩ ⟨bb, cb, T, bys (Blk.outs ds s cN)⟩ ⟨kb, lb, cN, brows (Blk.blks ds s cN)⟩).NL → (q.two ⟨ro, rc, dn, bys ds⟩ ⟨ba, ca, T, bys (Blk.outs ds s cN)⟩ ⟨ka, la, cN, brows (Blk.blks ds s cN)⟩ ⟨bb, cb, T, bys (Blk.outs ds s cN)⟩ ⟨kb, lb, cN, brows (Blk.blks ds s cN)⟩).le i < q.m)) := ⟨⟨rfl, rfl⟩, rfl, rfl, HR0.out.1.a1.lt, HR0.out.1.ix.lem⟩
          generalize q.two ⟨ro, rc, dn, bys ds⟩ ⟨ba, ca, T, bys (Blk.outs ds s cN)⟩ ⟨ka, la, cN, brows (Blk.blks ds s cN)⟩ ⟨bb, cb, T, bys (Blk.outs ds s cN)⟩ ⟨kb, lb, cN, brows (Blk.blks ds s cN)⟩ = q3 at HT20 HMS HQ2 HQE
          clear HT15 HT16 HT17 HKB HKA
          -- left, want
          have hj9 : 9 * j ≤ 1300000 := by omega
          obtain ⟨RL, w21, hrL, hT21, cL⟩ := HT20.out.runL (j := q.m + 2) (by rw [HQ2.out.1]; omega) (by rw [HQ2.out.2.2.2.1, HQ2.out.2.2.2.2.2.1]) ⟨Blk.outs ds s cN, by rw [HQ2.out.2.2.2.1]⟩ (fun k hk => by have := HQE.out.2.2.2.1 k hk; omega) (fun i hi => by have := HQE.out.2.2.2.2 i hi; omega) (by rw [HQE.out.2.1]; have := HR0.out.2.2.1; omega)
          have hvb : (q3.h (q.m + 2)).val = .slice bb T cb := by rw [HQ2.out.2.2.2.1]; rfl
          rw [hvb, HQE.out.1.1] at hrL
          have HT21 := hide hT21
          have hbA := hT21.a1.fam.fam.own (q.m + 2) (by show q.m + 2 < q3.m; rw [HQ2.out.1]; omega)
          have hbS := rw_sl hbA (ys := Blk.outs ds s cN) (by show (q3.h (q.m + 2)).vs = _; rw [HQ2.out.2.2.2.1])
          have hbo : ((q3.pushL (q.m + 2) RL).h (q.m + 2)).o = bb := by show (q3.h (q.m + 2)).o = bb; rw [HQ2.out.2.2.2.1]
          rw [hbo] at hbS
          obtain ⟨v22, w22, hr22, ho22, hk22⟩ := run_freshB w21 (Blk.outs ds s cN) bb T cb HTL.out hbS.1 HSB.out.2.2.2 (by omega)
          obtain ⟨co, cc, ev, _⟩ := ho22.shape
          rw [HTL.out] at ev
          subst ev
          have hcA : (Rw.mk co cc T (bys (Blk.outs ds s cN))).At 5 1 w21.heap.size w22 := by have h9 := ho22; unfold OwnB at h9; rw [HTL.out] at h9; exact h9
          have hT22 := HT21.out.call hk22 hcA (by show T ≤ 70000; omega)
          obtain ⟨RW, w23, hrW, hT23, cW⟩ := hT22.runW (j := q3.m) (by show q3.m < q3.m + 1; omega) (by
            have e1 : ((q3.pushL (q.m + 2) RL).addB ⟨co, cc, T, bys (Blk.outs ds s cN)⟩).h q3.m = ⟨co, cc, T, bys (Blk.outs ds s cN)⟩ := upr_same _ _ _
            have e2 : ((q3.pushL (q.m + 2) RL).addB ⟨co, cc, T, bys (Blk.outs ds s cN)⟩).le ((q3.pushL (q.m + 2) RL).addB ⟨co, cc, T, bys (Blk.outs ds s cN)⟩).NW = q.m + 2 := by
              show updN q3.le q3.NL (q.m + 2) q3.NW = _
              rw [HQE.out.2.1, HQE.out.2.2.1, ← HR0.out.2.1, updN_same]
            have e3 : ((q3.pushL (q.m + 2) RL).addB ⟨co, cc, T, bys (Blk.outs ds s cN)⟩).h (q.m + 2) = q3.h (q.m + 2) := upr_other _ _ _ _ (by show q.m + 2 ≠ q3.m; rw [HQ2.out.1]; omega)
            rw [e1, e2, e3, HQ2.out.2.2.2.1]
            exact ⟨rfl, rfl⟩) (fun k hk => by have := HQE.out.2.2.2.1 k hk; show q3.en k ≠ q3.m; rw [HQ2.out.1]; omega) (by show q3.NW < q3.NL + 1; rw [HQE.out.2.1, HQE.out.2.2.1, HR0.out.2.1]; omega) (by show q3.NL + 1 ≤ _; rw [HQE.out.2.1]; have := HR0.out.2.2.1; omega)
          have hvc : (((q3.pushL (q.m + 2) RL).addB ⟨co, cc, T, bys (Blk.outs ds s cN)⟩).h q3.m).val = .slice co T cc := by
            have e1 : ((q3.pushL (q.m + 2) RL).addB ⟨co, cc, T, bys (Blk.outs ds s cN)⟩).h q3.m = ⟨co, cc, T, bys (Blk.outs ds s cN)⟩ := upr_same _ _ _
            rw [e1]
            rfl
          have hwq : ((q3.pushL (q.m + 2) RL).addB ⟨co, cc, T, bys (Blk.outs ds s cN)⟩).WR = q.WR := HQE.out.1.2
          rw [hvc, hwq] at hrW
          have HT23 : Hid (St w w23 K 70000 0 (q3.aside (q.m + 2) RL ⟨co, cc, T, bys (Blk.outs ds s cN)⟩ RW)) := hT23
          have HM0 := hide (HMS.out RL ⟨co, cc, T, bys (Blk.outs ds s cN)⟩ RW)
          have HKK : Hid (Kept [] w20 w20) := Kept.refl _ _
          have HX23 := hide (cW.rows _ _ _ (by decide) ((cL.rows _ _ _ (by decide) ((HX15r.out.keep (kept_grown (row := none) HK17.out (by simp)) (Off.none _)).keep (kept_grown (row := none) HK20.out (by simp)) (Off.none _))).keep (kept_grown (row := none) hk22 (by simp)) (Off.none _)))
          clear hT21 hbA hbS hbo ho22 hcA hT22 hT23 hvc hwq hvb hk22 HT21
          go_upto_region 22 with (first
            | refine wpList_app_run rfl (.tmp 123) (.tmp 125) 61 rfl q.LR.val (.slice (some ⟨w20.heap.size, 0, none⟩) 1 1) rfl rfl RL.val w21 hrL ?_
            | refine wpList_app_run rfl (.tmp 128) (.tmp 129) 23 rfl (.slice (some ⟨w21.heap.size, 0, none⟩) 0 0) (.slice bb T cb) rfl rfl (.slice co T cc) w22 hr22 ?_
            | refine wpList_app_run rfl (.tmp 127) (.tmp 131) 61 rfl q.WR.val (.slice (some ⟨w22.heap.size, 0, none⟩) 1 1) rfl rfl RW.val w23 hrW ?_)
          clear hrL hr22 hrW cL cW HK18 HK19 f0 d0 HSA HSB HK17 HK20 HB16 HB17 HOA HOK HOA2 HOK2 HT20 HMS HQ2 HQE HKK
          have HXD : Hid (Sl w da ds) := HIN.out.sl
          go_upto_block 4 with (fail)
          go_cut [6, 7, 17, 18, 19, 20, 21, 22, 23, 24] from 60 to 252 (fun y z _ _ _ _ _ _ _ _ wx => ∃ (jj : Nat) (qq : Sd), jj ≤ 8 ∧ y = qq.LR.val ∧ z = qq.WR.val ∧ Hid (St w wx K 70000 0 qq ∧ Mid q qq ⟨ro, rc, dn, bys ds⟩ ⟨ba, ca, T, bys (Blk.outs ds s cN)⟩ ⟨ka, la, cN, brows (Blk.blks ds s cN)⟩ jj) ∧ Hid ((Rw.mk (some ⟨gX, 0, none⟩) 1 1 [.slice da dn dc, .int .i64 (s : Nat)]).At 25 2 w.heap.size wx))
          case first =>
            go_upto_region 23 with (fail)
            go_loopw [17, 6, 7] (fun x y z wr => ∃ (jj : Nat) (qq : Sd), jj ≤ 8 ∧ jj ≤ cN ∧ x = .int .i64 jj ∧ y = qq.LR.val ∧ z = qq.WR.val ∧ Hid (St w wr K 70000 0 qq ∧ Mid q qq ⟨ro, rc, dn, bys ds⟩ ⟨ba, ca, T, bys (Blk.outs ds s cN)⟩ ⟨ka, la, cN, brows (Blk.blks ds s cN)⟩ jj) ∧ Hid ((Rw.mk (some ⟨gX, 0, none⟩) 1 1 [.slice da dn dc, .int .i64 (s : Nat)]).At 25 2 w.heap.size wr)) (fun x y z wr => 8 - (intOf x).toNat)
            case atStart => exact ⟨0, _, Nat.zero_le _, Nat.zero_le _, rfl, rfl, rfl, ⟨HT23.out, HM0.out⟩, HX23⟩
            case round =>
              clear HT23 HM0 HX23
              obtain ⟨jj, qq, hjj, hjc, rfl, rfl, rfl, HSM, HXR⟩ := hrel
              have HSA := hide (rw_sl (show (Rw.mk ba ca T (bys (Blk.outs ds s cN))).At 5 1 w.heap.size wr from by have h9 := HSM.out.1.a1.fam.fam.own (q.m + 1) (by have := HSM.out.2.mm; omega); rw [HSM.out.2.ha] at h9; exact h9) rfl)
              by_cases hlt : jj < cN
              · by_cases hl8 : jj < 8
                · as_aux_lemma =>
                  have hqc : (jj : Int) < (cN : Int) := by omega
                  have hqcd : decide ((jj : Int) < (cN : Int)) = true := by simp; omega
                  have hqcn : decide (jj < cN) = true := by simp; omega
                  have hq8 : (jj : Int) < 8 := by omega
                  have hq8d : decide ((jj : Int) < 8) = true := by simp; omega
                  have hsA : (Rw.mk ka la cN (brows (Blk.blks ds s cN))).At 45 4 w.heap.size wr := by have h9 := HSM.out.1.a2.fam.fam.own q.m2 HSM.out.2.m2; rw [HSM.out.2.ha2] at h9; exact h9
                  have haA : (Rw.mk ba ca T (bys (Blk.outs ds s cN))).At 5 1 w.heap.size wr := by have h9 := HSM.out.1.a1.fam.fam.own (q.m + 1) (by have := HSM.out.2.mm; omega); rw [HSM.out.2.ha] at h9; exact h9
                  have hks := (HCL.out jj).1 hlt
                  have hpl := Blk.pc_len ds s jj
                  have hpne : Blk.pc ds s jj ≠ [] := by intro h; rw [h] at hpl; have := HIN.out.len; simp at hpl; omega
                  have hsp := Blk.sh_pos _ hpne
                  have hsl := Blk.sh_len (Blk.pc ds s jj)
                  have hom := Blk.outs_mono ds s (k := jj + 1) (m := cN) (by omega)
                  rw [Blk.outs_succ, List.length_append, HTL.out] at hom
                  have hopn := Blk.opn_pc (Blk.pc ds s jj) hpne (by have := HIN.out.len; omega) ((Blk.outs ds s jj).length : Nat)
                  obtain ⟨P, hP⟩ : ∃ P, Blk.pc ds s jj = P := ⟨_, rfl⟩
                  obtain ⟨ys, hys⟩ : ∃ ys, Blk.sh P = ys := ⟨_, rfl⟩
                  obtain ⟨o, ho⟩ : ∃ o, (Blk.outs ds s jj).length = o := ⟨_, rfl⟩
                  obtain ⟨m, hm⟩ : ∃ m, ys.length = m := ⟨_, rfl⟩
                  obtain ⟨qn, hq⟩ : ∃ qn, P.length = qn := ⟨_, rfl⟩
                  obtain ⟨u, hu⟩ : ∃ u, Pure.sum ys = u := ⟨_, rfl⟩
                  have HCELL : Hid ((Blk.bk ds s jj).cells = [.int .i64 (o : Nat), .int .i64 (m : Nat), .int .i64 (qn : Nat), .int .i64 (u : Nat)]) := by
                    show [Value.int .i64 ((Blk.outs ds s jj).length : Nat), .int .i64 ((Blk.sh (Blk.pc ds s jj)).length : Nat), .int .i64 ((Blk.pc ds s jj).length : Nat), .int .i64 (Pure.sum (Blk.sh (Blk.pc ds s jj)) : Nat)] = _
                    rw [hP, hys, hm, hq, hu, ho]
                  have HCUT : Hid (((Blk.outs ds s cN).drop o).take m = ys) := by
                    have h9 := Blk.outs_cut ds s hlt
                    rw [hP, hys, hm, ho] at h9
                    exact h9
                  rw [hP, hys, hm, hq, hu, ho] at hopn
                  have HOPN := hide hopn
                  rw [hP, hys, hm, ho] at hom
                  rw [hP, hys, hm] at hsp
                  rw [hP, hys, hm, hq] at hsl
                  rw [hP, hq, HIN.out.len] at hpl
                  have hq4 : qn ≤ 4096 := by omega
                  have HYM := hide hm
                  have HPQ := hide hq
                  obtain ⟨gO, hgO, _, _, hTca⟩ := haA.there (by show 0 < T; omega)
                  have hgO' : ba = some ⟨gO, 0, none⟩ := hgO
                  obtain ⟨gK, hgK, _, _, _⟩ := hsA.there (by show 0 < cN; omega)
                  have hgK' : ka = some ⟨gK, 0, none⟩ := hgK
                  subst hgO' hgK'
                  have hrg : wr.rangeAt gK (jj * 4) [.int .i64 (o : Nat), .int .i64 (m : Nat), .int .i64 (qn : Nat), .int .i64 (u : Nat)] := by
                    obtain ⟨b', off', e, hc'⟩ := (rw_blks hsA rfl).1 jj (by rw [Blk.blks_len]; exact hlt)
                    cases e
                    rw [Blk.blks_at _ _ _ _ hlt, Nat.zero_add, HCELL.out] at hc'
                    exact hc'
                  have HSO : Hid (Sl wr (some ⟨gO, o, none⟩) ys) := by
                    have h9 := HSA.out.1.cut o m (by rw [HTL.out]; exact hom)
                    rw [HCUT.out, Nat.zero_add] at h9
                    exact h9
                  have hcut := fun W => Try.cutMid3 W gO T ca o m (by have : T ≤ ca := hTca; omega) (by omega)
                  have k0 := hrg 0 _ rfl
                  rw [Nat.add_zero] at k0
                  have k1 := hrg 1 _ rfl
                  have qo : ¬ ((o : Int) < 0) := by omega
                  have wom : IntKind.i64.wrap ((o : Int) + (m : Int)) = (o : Int) + (m : Int) := by rw [IntKind.wrap_i64]; omega
                  have qom : ¬ ((o : Int) + (m : Int) < (o : Int)) := by omega
                  have qt : ¬ ((T : Int) < (o : Int) + (m : Int)) := by omega
                  have qtd : decide ((T : Int) < (o : Int) + (m : Int)) = false := by simp; omega
                  have HTCA : Hid (T ≤ ca) := hTca
                  clear hks hpl hpne hP hys ho hm hq hu hopn HCELL hsA haA hgO hgK hTca
                  go_upto_region 29 with (fail)
                  have HRGH := hide hrg
                  have wmm : IntKind.i64.wrap ((o : Int) + (m : Int) - (o : Int)) = (m : Int) := by rw [IntKind.wrap_i64]; omega
                  obtain ⟨c, hcc⟩ : ∃ c, m + 70 = c := ⟨_, rfl⟩
                  have wc70 : IntKind.i64.wrap ((m : Int) + 70) = (c : Int) := by rw [IntKind.wrap_i64]; omega
                  have hc70 : c ≤ 70000 := by omega
                  have HCUTH := hide hcut
                  clear k0 k1 qo wom qom qt qtd hcc hrg
                  refine wp_region_held_drew (S := fun w' => Kept [] wr w') (by kernel_rfl) ((Kept.refl [] wr).drew) (fun h0 => ?_)
                  generalize World.drew wr = v0 at h0 ⊢
                  refine wpAnyH_take (i := 0) (v := .int .i64 ((o : Int) + (m : Int))) rfl (by kernel_rfl) (by kernel_rfl) (by kernel_rfl) (fun _ _ _ h => h) (Or.inl ⟨by rfl, fun w hSw => by go_simp⟩) h0 ?_
                  try simp only [List.getElem_toArray, List.getElem_cons_zero, List.getElem_cons_succ, Act.put, List.setIfInBounds_toArray, List.set_cons_zero, List.set_cons_succ]
                  refine wpAnyH_take (i := 1) (v := .int .i64 o) rfl (by kernel_rfl) (by kernel_rfl) (by kernel_rfl) (fun _ _ _ h => h) (Or.inl ⟨by rfl, fun w hSw => by go_simp⟩) h0 ?_
                  try simp only [List.getElem_toArray, List.getElem_cons_zero, List.getElem_cons_succ, Act.put, List.setIfInBounds_toArray, List.set_cons_zero, List.set_cons_succ]
                  refine wpAnyH_take (i := 2) (v := .int .i64 (m : Nat)) rfl (by kernel_rfl) (by kernel_rfl) (by kernel_rfl) (fun _ _ _ h => h) (Or.inl ⟨by rfl, fun w hSw => by have c0 := wmm; go_simp⟩) h0 ?_
                  try simp only [List.getElem_toArray, List.getElem_cons_zero, List.getElem_cons_succ, Act.put, List.setIfInBounds_toArray, List.set_cons_zero, List.set_cons_succ]
                  refine wpAnyH_take (i := 3) (v := .int .i64 (c : Nat)) rfl (by kernel_rfl) (by kernel_rfl) (by kernel_rfl) (fun _ _ _ h => h) (Or.inl ⟨by rfl, fun w hSw => by have c0 := wc70; go_simp⟩) h0 ?_
                  try simp only [List.getElem_toArray, List.getElem_cons_zero, List.getElem_cons_succ, Act.put, List.setIfInBounds_toArray, List.set_cons_zero, List.set_cons_succ]
                  refine wpAnyH_take (i := 5) (v := .slice (some ⟨gO, 0, none⟩) T ca) rfl (by kernel_rfl) (by kernel_rfl) (by kernel_rfl) (fun _ _ _ h => h) (Or.inl ⟨by rfl, fun w hSw => by go_simp⟩) h0 ?_
                  try simp only [List.getElem_toArray, List.getElem_cons_zero, List.getElem_cons_succ, Act.put, List.setIfInBounds_toArray, List.set_cons_zero, List.set_cons_succ]
                  refine wpAnyH_take (i := 6) (v := .int .i64 o) rfl (by kernel_rfl) (by kernel_rfl) (by kernel_rfl) (fun _ _ _ h => h) (Or.inl ⟨by rfl, fun w hSw => by go_simp⟩) h0 ?_
                  try simp only [List.getElem_toArray, List.getElem_cons_zero, List.getElem_cons_succ, Act.put, List.setIfInBounds_toArray, List.set_cons_zero, List.set_cons_succ]
                  refine wpAnyH_take (i := 7) (v := .int .i64 ((o : Int) + (m : Int))) rfl (by kernel_rfl) (by kernel_rfl) (by kernel_rfl) (fun _ _ _ h => h) (Or.inl ⟨by rfl, fun w hSw => by go_simp⟩) h0 ?_
                  try simp only [List.getElem_toArray, List.getElem_cons_zero, List.getElem_cons_succ, Act.put, List.setIfInBounds_toArray, List.set_cons_zero, List.set_cons_succ]
                  refine wpAnyH_take (i := 8) (v := .slice (some ⟨gO, o, none⟩) m (ca - o)) rfl (by kernel_rfl) (by kernel_rfl) (by kernel_rfl) (fun _ _ _ h => h) (Or.inl ⟨by rfl, fun w hSw => by have c0 := hcut w; go_simp⟩) h0 ?_
                  try simp only [List.getElem_toArray, List.getElem_cons_zero, List.getElem_cons_succ, Act.put, List.setIfInBounds_toArray, List.set_cons_zero, List.set_cons_succ]
                  have hrm := run_makeRoom v0 c (by omega)
                  obtain ⟨v29, w29, hrun, ho29, hk29⟩ := run_roomApp v0 c (by omega) ys (some ⟨gO, o, none⟩) m (ca - o) HYM.out (HSO.out.kept h0 (by simp)) (fun h => by cases h) (by omega)
                  refine wpAnyH_ready (rs := [4]) (by kernel_rfl) (by simp) (AllReadyH.cons (i := 4) rfl (fun K hK => ?_) AllReadyH.nil)
                  rw [if_pos (by rfl)]
                  go_simp
                  refine hK.out _ _ (h0.alloc _) (fun h1 => ?_)
                  clear hK K
                  try simp only [List.getElem_toArray, List.getElem_cons_zero, List.getElem_cons_succ, Act.put, List.setIfInBounds_toArray, List.set_cons_zero, List.set_cons_succ]
                  refine wpAnyH_ready (rs := [9]) (by kernel_rfl) (by simp) (AllReadyH.cons (i := 9) rfl (fun K hK => ?_) AllReadyH.nil)
                  rw [if_pos (by rfl)]
                  refine wp_append_run (.tmp 172) (.tmp 176) 23 rfl (.slice (some ⟨v0.heap.size, 0, none⟩) 0 c) (.slice (some ⟨gO, o, none⟩) m (ca - o)) rfl rfl v29 w29 hrun ?_
                  have h2 : Kept [] wr w29 := h0.trans hk29 (by simp)
                  refine hK.out _ _ h2 (fun h3 => ?_)
                  clear hK K h1 h2 hrun hrm
                  try simp only [List.getElem_toArray, List.getElem_cons_zero, List.getElem_cons_succ, Act.put, List.setIfInBounds_toArray, List.set_cons_zero, List.set_cons_succ]
                  refine wpAnyH_take (i := 10) (v := v29) rfl (by kernel_rfl) (by kernel_rfl) (by kernel_rfl) (fun _ _ _ h => h) (Or.inl ⟨by rfl, fun w hSw => by go_simp⟩) h3 ?_
                  try simp only [List.getElem_toArray, List.getElem_cons_zero, List.getElem_cons_succ, Act.put, List.setIfInBounds_toArray, List.set_cons_zero, List.set_cons_succ]
                  refine wpAnyH_done (by kernel_rfl) ?_ _
                  obtain ⟨po, pc, ev, _⟩ := ho29.shape
                  rw [HYM.out] at ev
                  subst ev
                  have hpA : (Rw.mk po pc m (bys ys)).At 5 1 v0.heap.size w29 := by have h9 := ho29; unfold OwnB at h9; rw [HYM.out] at h9; exact h9
                  have HT29 := hide ((HSM.out.1.kept h0).call hk29 hpA (by show m ≤ 70000; omega))
                  have HSP := hide (rw_sl hpA rfl)
                  have HX29 := hide (HXR.out.keep (kept_grown (row := none) h3 (by simp)) (Off.none _))
                  have hrg29 : w29.rangeAt gK (jj * 4) [.int .i64 (o : Nat), .int .i64 (m : Nat), .int .i64 (qn : Nat), .int .i64 (u : Nat)] := fun x v hv => h3.cellOf (HRGH.out x v hv) (by simp)
                  have HK29 := hide h3
                  clear ho29 hk29 h0 h3 hpA wmm wc70
                  have HO1 : Hid (∀ W, Kept [] w29 W → Calls Try.prog 18 #[.slice po m pc, .agg #[.int .i64 (o : Nat), .int .i64 (m : Nat), .int .i64 (qn : Nat), .int .i64 (u : Nat)]] W fun e w' => ∃ bx xc, e = .returned (.tuple #[.slice bx qn xc, .int .i64 0]) ∧ (Rw.mk bx xc qn (bys P)).At 5 1 W.heap.size w' ∧ Below W.heap.size W w') := fun W hW => by
                    have h9 := open_any po m pc ⟨(o : Nat), (m : Nat), (qn : Nat), (u : Nat)⟩ ys W HYM.out HSP.out.2.2.1 (HSP.out.1.kept hW (by simp))
                    rw [HOPN.out] at h9
                    refine h9.mono ?_
                    rintro e w' ⟨bx, xc, he, o1, o2⟩
                    simp only [HPQ.out] at he o1
                    exact ⟨bx, xc, he, o1, o2⟩
                  go_upto_region 31 with (first
                    | refine wpList_load_mid rfl 45 (.tmp 182) rfl gK (jj * 4) rfl [.int .i64 (o : Nat), .int .i64 (m : Nat), .int .i64 (qn : Nat), .int .i64 (u : Nat)] _ hrg29 Try.underlying45 rfl Try.infoBlk4 ?_
                    | (go_at_call 18; refine (HO1.out _ (Kept.refl _ _)).mono ?_; rintro e w30 ⟨co, cx, rfl, oc, hb30⟩; have HOC := hide oc; have HB30 := hide hb30; clear oc hb30))
                  have hrg30 : w30.rangeAt gK (jj * 4) [.int .i64 (o : Nat), .int .i64 (m : Nat), .int .i64 (qn : Nat), .int .i64 (u : Nat)] := fun x v hv => (Kept.of_below HB30.out).cellOf (hrg29 x v hv) (by simp)
                  clear hrg29
                  go_upto_region 32 with (first
                    | refine wpList_load_mid rfl 45 (.tmp 191) rfl gK (jj * 4) rfl [.int .i64 (o : Nat), .int .i64 (m : Nat), .int .i64 (qn : Nat), .int .i64 (u : Nat)] _ hrg30 Try.underlying45 rfl Try.infoBlk4 ?_
                    | (go_at_call 18; refine (HO1.out _ (Kept.of_below HB30.out)).mono ?_; rintro e w31 ⟨eo, ex, rfl, oc, hb31⟩; have HOD := hide oc; have HB31 := hide hb31; clear oc hb31 HO1))
                  clear hrg30
                  have HT30 := hide (HT29.out.call (Kept.of_below HB30.out) HOC.out (by show qn ≤ 70000; omega))
                  have HT31 : Hid (St w w31 K 70000 0 (qq.three ⟨po, pc, m, bys ys⟩ ⟨co, cx, qn, bys P⟩ ⟨eo, ex, qn, bys P⟩)) := HT30.out.call (Kept.of_below HB31.out) HOD.out (by show qn ≤ 70000; omega)
                  have HK31 := hide ((Kept.of_below HB30.out).trans (Kept.of_below HB31.out) (by simp))
                  have HBY1 := hide (bytes_yes co eo qn cx ex P w31 HPQ.out (by omega) ((rw_sl HOC.out rfl).1.kept (Kept.of_below HB31.out) (by simp)) (rw_sl HOD.out rfl).1)
                  have HBY2 : Hid (∀ W, Kept [] w31 W → Calls Try.prog 14 #[.slice po m pc, .slice (some ⟨gO, o, none⟩) m (ca - o)] W fun e w' => e = .returned (.bool true) ∧ Kept [] W w') := fun W hW => bytes_yes po (some ⟨gO, o, none⟩) m pc (ca - o) ys W HYM.out (by omega) ((HSP.out.1.kept HK31.out (by simp)).kept hW (by simp)) (((HSO.out.kept HK29.out (by simp)).kept HK31.out (by simp)).kept hW (by simp))
                  have HED := hide (rw_sl HOD.out rfl)
                  go_upto_region 34 with (first
                    | (have HA := HBY1; go_at_call 14; refine HBY1.out.mono ?_; rintro e w32 ⟨rfl, hk32⟩; have HK32 := hide hk32; clear hk32 HBY1 HA)
                    | (have HA := HBY2; go_at_call 14; refine (HBY2.out _ HK32.out).mono ?_; rintro e w33 ⟨rfl, hk33⟩; have HK33 := hide (HK32.out.trans hk33 (by simp)); clear hk33 HBY2 HA))
                  have HT33 := hide (HT31.out.kept HK33.out)
                  have HX33 := hide ((HX29.out.keep (kept_grown (row := none) HK31.out (by simp)) (Off.none _)).keep (kept_grown (row := none) HK33.out (by simp)) (Off.none _))
                  have HQ3 := hide (three_facts qq ⟨po, pc, m, bys ys⟩ ⟨co, cx, qn, bys P⟩ ⟨eo, ex, qn, bys P⟩)
                  have HMD := hide (fun RL cp RW R => Mid.step (w := w) (wr := w33) (K := K) (M := 70000) HSM.out.2 ⟨po, pc, m, bys ys⟩ ⟨co, cx, qn, bys P⟩ ⟨eo, ex, qn, bys P⟩ RL cp RW R)
                  have HQE : Hid (((qq.three ⟨po, pc, m, bys ys⟩ ⟨co, cx, qn, bys P⟩ ⟨eo, ex, qn, bys P⟩).LR = qq.LR ∧ (qq.three ⟨po, pc, m, bys ys⟩ ⟨co, cx, qn, bys P⟩ ⟨eo, ex, qn, bys P⟩).WR = qq.WR) ∧ (qq.three ⟨po, pc, m, bys ys⟩ ⟨co, cx, qn, bys P⟩ ⟨eo, ex, qn, bys P⟩).NL = qq.NL ∧ (qq.three ⟨po, pc, m, bys ys⟩ ⟨co, cx, qn, bys P⟩ ⟨eo, ex, qn, bys P⟩).NW = qq.NW ∧ (∀ k, k < (qq.three ⟨po, pc, m, bys ys⟩ ⟨co, cx, qn, bys P⟩ ⟨eo, ex, qn, bys P⟩).E → (qq.three ⟨po, pc, m, bys ys⟩ ⟨co, cx, qn, bys P⟩ ⟨eo, ex, qn, bys P⟩).en k < qq.m) ∧ (∀ i, i < (qq.three ⟨po, pc, m, bys ys⟩ ⟨co, cx, qn, bys P⟩ ⟨eo, ex, qn, bys P⟩).NL → (qq.three ⟨po, pc, m, bys ys⟩ ⟨co, cx, qn, bys P⟩ ⟨eo, ex, qn, bys P⟩).le i < qq.m) ∧ (∀ i, i < (qq.three ⟨po, pc, m, bys ys⟩ ⟨co, cx, qn, bys P⟩ ⟨eo, ex, qn, bys P⟩).NW → (qq.three ⟨po, pc, m, bys ys⟩ ⟨co, cx, qn, bys P⟩ ⟨eo, ex, qn, bys P⟩).wa i < qq.m) ∧ (qq.three ⟨po, pc, m, bys ys⟩ ⟨co, cx, qn, bys P⟩ ⟨eo, ex, qn, bys P⟩).E = qq.E) := ⟨⟨rfl, rfl⟩, rfl, rfl, HSM.out.1.a1.lt, HSM.out.1.ix.lem, HSM.out.1.ix.wam, rfl⟩
                  generalize qq.three ⟨po, pc, m, bys ys⟩ ⟨co, cx, qn, bys P⟩ ⟨eo, ex, qn, bys P⟩ = q3 at HT33 HMD HQ3 HQE
                  have HNB : Hid (qq.NL ≤ 2000000 ∧ qq.E ≤ 2000000 ∧ qq.NL = qq.NW) := ⟨by have := HSM.out.2.b; have := HR0.out.2.2.1; omega, by have := HSM.out.2.bE; have := HR0.out.2.2.2.1; omega, HSM.out.2.nn⟩
                  have HMM := hide HSM.out.2.mm
                  clear HT29 HT30 HT31
                  obtain ⟨RL, w34, hrL, hT34, cL⟩ := HT33.out.runL (j := qq.m + 2) (by rw [HQ3.out.1]; omega) (by rw [HQ3.out.2.2.2.2.1, HQ3.out.2.2.2.2.2]) ⟨P, by rw [HQ3.out.2.2.2.2.1]⟩ (fun k hk => by have := HQE.out.2.2.2.1 k hk; omega) (fun i hi => by have := HQE.out.2.2.2.2.1 i hi; omega) (by rw [HQE.out.2.1]; have := HNB.out.1; omega)
                  have hvb : (q3.h (qq.m + 2)).val = .slice eo qn ex := by rw [HQ3.out.2.2.2.2.1]; rfl
                  rw [hvb, HQE.out.1.1] at hrL
                  have hbA := hT34.a1.fam.fam.own (qq.m + 2) (by show qq.m + 2 < q3.m; rw [HQ3.out.1]; omega)
                  have hbS := rw_sl hbA (ys := P) (by show (q3.h (qq.m + 2)).vs = _; rw [HQ3.out.2.2.2.2.1])
                  have hbo : ((q3.pushL (qq.m + 2) RL).h (qq.m + 2)).o = eo := by show (q3.h (qq.m + 2)).o = eo; rw [HQ3.out.2.2.2.2.1]
                  rw [hbo] at hbS
                  obtain ⟨v35, w35, hr35, ho35, hk35⟩ := run_freshB w34 P eo qn ex HPQ.out hbS.1 HED.out.2.2.2 (by omega)
                  obtain ⟨fo, fc, ev, _⟩ := ho35.shape
                  rw [HPQ.out] at ev
                  subst ev
                  have hcA : (Rw.mk fo fc qn (bys P)).At 5 1 w34.heap.size w35 := by have h9 := ho35; unfold OwnB at h9; rw [HPQ.out] at h9; exact h9
                  have hT35 := hT34.call hk35 hcA (by show qn ≤ 70000; omega)
                  have e1 : ((q3.pushL (qq.m + 2) RL).addB ⟨fo, fc, qn, bys P⟩).h q3.m = ⟨fo, fc, qn, bys P⟩ := upr_same _ _ _
                  obtain ⟨RW, w36, hrW, hT36, cW⟩ := hT35.runW (j := q3.m) (by show q3.m < q3.m + 1; omega) (by
                    have e2 : ((q3.pushL (qq.m + 2) RL).addB ⟨fo, fc, qn, bys P⟩).le ((q3.pushL (qq.m + 2) RL).addB ⟨fo, fc, qn, bys P⟩).NW = qq.m + 2 := by
                      show updN q3.le q3.NL (qq.m + 2) q3.NW = _
                      rw [HQE.out.2.1, HQE.out.2.2.1, ← HNB.out.2.2, updN_same]
                    have e3 : ((q3.pushL (qq.m + 2) RL).addB ⟨fo, fc, qn, bys P⟩).h (qq.m + 2) = q3.h (qq.m + 2) := upr_other _ _ _ _ (by show qq.m + 2 ≠ q3.m; rw [HQ3.out.1]; omega)
                    rw [e1, e2, e3, HQ3.out.2.2.2.2.1]
                    exact ⟨rfl, rfl⟩) (fun k hk => by have := HQE.out.2.2.2.1 k hk; show q3.en k ≠ q3.m; rw [HQ3.out.1]; omega) (by show q3.NW < q3.NL + 1; rw [HQE.out.2.1, HQE.out.2.2.1, HNB.out.2.2]; omega) (by show q3.NL + 1 ≤ _; rw [HQE.out.2.1]; have := HNB.out.1; omega)
                  have hvc : (((q3.pushL (qq.m + 2) RL).addB ⟨fo, fc, qn, bys P⟩).h q3.m).val = .slice fo qn fc := by rw [e1]; rfl
                  have hwq : ((q3.pushL (qq.m + 2) RL).addB ⟨fo, fc, qn, bys P⟩).WR = qq.WR := HQE.out.1.2
                  rw [hvc, hwq] at hrW
                  have HT36 : Hid (St w w36 K 70000 0 (q3.aside (qq.m + 2) RL ⟨fo, fc, qn, bys P⟩ RW)) := hT36
                  have HX36 := hide (cW.rows _ _ _ (by decide) ((cL.rows _ _ _ (by decide) HX33.out).keep (kept_grown (row := none) hk35 (by simp)) (Off.none _)))
                  have hcv : ((q3.aside (qq.m + 2) RL ⟨fo, fc, qn, bys P⟩ RW).h (qq.m + 1)).val = .slice co qn cx := by
                    show (upr q3.h q3.m _ (qq.m + 1)).val = _
                    rw [upr_other _ _ _ _ (by rw [HQ3.out.1]; omega), HQ3.out.2.2.1]
                    rfl
                  have htk := take_ok HT36.out.bok HT36.out.a1 (i := qq.m + 1) (by show qq.m + 1 < q3.m + 1; rw [HQ3.out.1]; omega) (by
                    show upr q3.lf q3.m _ (qq.m + 1) = upr q3.h q3.m _ (qq.m + 1)
                    rw [upr_other _ _ _ _ (by rw [HQ3.out.1]; omega), upr_other _ _ _ _ (by rw [HQ3.out.1]; omega), HQ3.out.2.2.1, HQ3.out.2.2.2.1]) (fun k hk => by have := HQE.out.2.2.2.1 k hk; show q3.en k ≠ qq.m + 1; omega) (by show q3.E ≤ _; rw [HQE.out.2.2.2.2.2.2]; have := HNB.out.2.1; omega) (by
                    show (upr q3.h q3.m _ (qq.m + 1)).n ≤ _
                    rw [upr_other _ _ _ _ (by rw [HQ3.out.1]; omega), HQ3.out.2.2.1]
                    show qn ≤ _
                    omega) HT36.out.bel.size
                  rw [hcv] at htk
                  have HTK := hide htk
                  clear hT34 hbA hbS hbo ho35 hcA hT35 hT36 hvc hwq hvb hk35 e1 cL cW hcv htk
                  go_upto_region 37 with (first
                    | refine wpList_app_run rfl (.tmp 217) (.tmp 219) 61 rfl qq.LR.val (.slice (some ⟨w33.heap.size, 0, none⟩) 1 1) rfl rfl RL.val w34 hrL ?_
                    | refine wpList_app_run rfl (.tmp 222) (.tmp 223) 23 rfl (.slice (some ⟨w34.heap.size, 0, none⟩) 0 0) (.slice eo qn ex) rfl rfl (.slice fo qn fc) w35 hr35 ?_
                    | refine wpList_app_run rfl (.tmp 221) (.tmp 225) 61 rfl qq.WR.val (.slice (some ⟨w35.heap.size, 0, none⟩) 1 1) rfl rfl RW.val w36 hrW ?_
                    | (go_at_call 22; refine HTK.out.mono ?_; rintro e w37 ⟨rfl, R', hbk, hhf, hcg⟩; have HE7 := hide (And.intro hbk (And.intro hhf hcg)); clear hbk hhf hcg HTK))
                  clear hrL hr35 hrW
                  have hT37 := HT36.out.take (i := qq.m + 1) (by show qq.m + 1 < q3.m + 1; rw [HQ3.out.1]; omega) (by
                    show upr q3.lf q3.m _ (qq.m + 1) = upr q3.h q3.m _ (qq.m + 1)
                    rw [upr_other _ _ _ _ (by rw [HQ3.out.1]; omega), upr_other _ _ _ _ (by rw [HQ3.out.1]; omega), HQ3.out.2.2.1, HQ3.out.2.2.2.1]) (fun k hk => by have := HQE.out.2.2.2.1 k hk; show q3.en k ≠ qq.m + 1; omega) (lo2 := 0) (Nat.le_refl _) (fun x _ hx => by
                    show updN q3.le q3.NL (qq.m + 2) x ≠ qq.m + 1
                    have hx2 : x < q3.NL + 1 := hx
                    by_cases e : x = q3.NL
                    · subst e; rw [updN_same]; omega
                    · rw [updN_other _ _ _ _ e]; have := HQE.out.2.2.2.2.1 x (by omega); omega) (fun x _ hx => by
                    show updN q3.wa q3.NW q3.m x ≠ qq.m + 1
                    have hx2 : x < q3.NW + 1 := hx
                    by_cases e : x = q3.NW
                    · subst e; rw [updN_same, HQ3.out.1]; omega
                    · rw [updN_other _ _ _ _ e]; have := HQE.out.2.2.2.2.2.1 x (by omega); omega) HE7.out.1 HE7.out.2.1 HE7.out.2.2
                  have hM7 := HMD.out RL ⟨fo, fc, qn, bys P⟩ RW R'
                  have HX37 := hide (HE7.out.2.2.rows _ _ _ (by decide) HX36.out)
                  have hp7 := hT37.a1.fam.fam.own qq.m (by show qq.m < q3.m + 1; rw [HQ3.out.1]; omega)
                  have hpe : ((q3.aside (qq.m + 2) RL ⟨fo, fc, qn, bys P⟩ RW).take (qq.m + 1) R').h qq.m = ⟨po, pc, m, bys ys⟩ := by
                    show upr (upr q3.h q3.m _) (qq.m + 1) _ qq.m = _
                    rw [upr_other _ _ _ _ (by omega), upr_other _ _ _ _ (by rw [HQ3.out.1]; omega), HQ3.out.2.1]
                  rw [hpe] at hp7
                  have ha7 := hT37.a1.fam.fam.own (q.m + 1) (by have := HMM.out; show q.m + 1 < q3.m + 1; rw [HQ3.out.1]; omega)
                  rw [hM7.ha] at ha7
                  have hs7 := (rw_sl ha7 (ys := Blk.outs ds s cN) rfl).1.cut o m (by rw [HTL.out]; exact hom)
                  rw [HCUT.out, Nat.zero_add] at hs7
                  have HBY3 := hide (bytes_yes po (some ⟨gO, o, none⟩) m pc (ca - o) ys w37 HYM.out (by omega) (rw_sl hp7 (ys := ys) rfl).1 hs7)
                  have HT37 := hide hT37
                  have HM7 := hide hM7
                  clear hT37 hM7 hp7 hpe ha7 hs7 HE7 HX36 HT36 HMD HQ3 HQE HT33 HX33
                  go_wp2_with (go_at_call 14; refine HBY3.out.mono ?_; rintro e w38 ⟨rfl, hk38⟩; have HT38 := hide (HT37.out.kept hk38); have HX38 := hide (HX37.out.keep (kept_grown (row := none) hk38 (by simp)) (Off.none _)); clear hk38 HBY3)
                  go_roundw
                  case rel => exact ⟨jj + 1, _, by omega, by omega, by go_num, rfl, rfl, ⟨HT38.out, HM7.out⟩, HX38⟩
                  case measure => simp [intOf]; omega
                · as_aux_lemma =>
                  have hqc : (jj : Int) < (cN : Int) := by omega
                  have hqcd : decide ((jj : Int) < (cN : Int)) = true := by simp; omega
                  have hq8 : ¬ (jj : Int) < 8 := by omega
                  have hq8d : decide ((jj : Int) < 8) = false := by simp; omega
                  have hq8n : decide (jj < 8) = false := by simp; omega
                  go_wp2
                  go_meet
                  case rel => exact ⟨jj, qq, hjj, rfl, rfl, HSM, HXR⟩
              · as_aux_lemma =>
                have hqc : ¬ (jj : Int) < (cN : Int) := by omega
                have hqcd : decide ((jj : Int) < (cN : Int)) = false := by simp; omega
                have hqcn : decide (jj < cN) = false := by simp; omega
                go_wp2
                go_meet
                case rel => exact ⟨jj, qq, hjj, rfl, rfl, HSM, HXR⟩
          case rest =>
            obtain ⟨jj, qq, hjj, rfl, rfl, HSM, HXR⟩ := hcut
            clear HT23 HM0 HX23
            have HQN : Hid (qq.NL = qq.NW ∧ qq.NL ≤ 9 * (j + 1) ∧ qq.E + 1 ≤ 9 * (j + 1) ∧ qq.E2 + 1 ≤ j + 1 ∧ qq.E ≤ 2000000 ∧ qq.E2 ≤ 2000000) := ⟨HSM.out.2.nn, by have := HSM.out.2.b; have := HR0.out.2.2.1; omega, by have := HSM.out.2.bE; have := HR0.out.2.2.2.1; omega, by have := HSM.out.2.bE2; have := HR0.out.2.2.2.2; omega, by have := HSM.out.2.bE; have := HR0.out.2.2.2.1; omega, by have := HSM.out.2.bE2; have := HR0.out.2.2.2.2; omega⟩
            have htk := take_ok HSM.out.1.bok HSM.out.1.a1 (i := q.m + 1) (by have := HSM.out.2.mm; omega) (by rw [HSM.out.2.la, HSM.out.2.ha]) (fun k hk => (HSM.out.2.ea k hk).2) (by have := HQN.out.2.2.2.2.1; omega) (by rw [HSM.out.2.ha]; show T ≤ _; omega) HSM.out.1.bel.size
            have hva : (qq.h (q.m + 1)).val = .slice ba T ca := by rw [HSM.out.2.ha]; rfl
            rw [hva] at htk
            have HTK := hide htk
            clear htk hva
            go_upto_region 40 with (go_at_call 22; refine HTK.out.mono ?_; rintro e w39 ⟨rfl, Ra, hbk, hhf, hcg⟩; have HE9 := hide (And.intro hbk (And.intro hhf hcg)); clear hbk hhf hcg HTK)
            have HT39 := hide (HSM.out.1.take (i := q.m + 1) (by have := HSM.out.2.mm; omega) (by rw [HSM.out.2.la, HSM.out.2.ha]) (fun k hk => (HSM.out.2.ea k hk).2) (lo2 := 0) (Nat.le_refl _) (fun x _ hx => (HSM.out.2.el x hx).2) (fun x _ hx => (HSM.out.2.ew x hx).2) HE9.out.1 HE9.out.2.1 HE9.out.2.2)
            have HX39 := hide (HE9.out.2.2.rows _ _ _ (by decide) HXR.out)
            have hls := list_ok HT39.out.bok HT39.out.a2 (i := q.m2) HSM.out.2.m2 (by show qq.lf2 q.m2 = qq.h2 q.m2; rw [HSM.out.2.la2, HSM.out.2.ha2]) (fun k hk => HSM.out.2.e2 k hk) (by have := HQN.out.2.2.2.2.2; show qq.E2 ≤ _; omega) (by show (qq.h2 q.m2).n ≤ _; rw [HSM.out.2.ha2]; show cN ≤ _; omega) HT39.out.bel.size
            have hvk : ((qq.take (q.m + 1) Ra).h2 q.m2).val = .slice ka cN la := by show (qq.h2 q.m2).val = _; rw [HSM.out.2.ha2]; rfl
            rw [hvk] at hls
            have HLS := hide hls
            clear hls hvk
            go_upto_region 41 with (go_at_call 23; refine HLS.out.mono ?_; rintro e w40 ⟨rfl, Rb, hbk, hhf, hcg⟩; have HE0 := hide (And.intro hbk (And.intro hhf hcg)); clear hbk hhf hcg HLS)
            have HT40 := hide (HT39.out.list (i := q.m2) HSM.out.2.m2 (by show qq.lf2 q.m2 = qq.h2 q.m2; rw [HSM.out.2.la2, HSM.out.2.ha2]) (fun k hk => HSM.out.2.e2 k hk) HE0.out.1 HE0.out.2.1 HE0.out.2.2)
            have HX40 := hide (HE0.out.2.2.rows _ _ _ (by decide) HX39.out)
            have x0 := (ask_cells HX40.out).1
            have hrA := HT40.out.a1.fam.fam.own q.m (by have := HSM.out.2.mm; show q.m < qq.m; omega)
            have hre : ((qq.take (q.m + 1) Ra).list q.m2 Rb).h q.m = ⟨ro, rc, dn, bys ds⟩ := by
              show upr qq.h (q.m + 1) _ q.m = _
              rw [upr_other _ _ _ _ (by omega), HSM.out.2.h0]
            rw [hre] at hrA
            have HBY4 := hide (bytes_yes ro da dn rc dc ds w40 HIN.out.len (by omega) (rw_sl hrA (ys := ds) rfl).1 (HIN.out.sl.kept (Kept.of_below HT40.out.bel) (by simp)))
            have HST : Hid (∀ W, Kept [] w40 W → Calls Try.prog 24 #[.pointer (some ⟨K, 0, none⟩)] W fun e w' => e = .returned (.bool true) ∧ Kept [] W w') := fun W hW => still_ok (HT40.out.kept hW).bok (HT40.out.kept hW).a1 (HT40.out.kept hW).a2 HT40.out.c1 HT40.out.c2 (by have := HQN.out.2.2.2.2.1; show qq.E + 1 ≤ _; omega) (by have := HQN.out.2.2.2.2.2; show qq.E2 + 1 ≤ _; omega) (fun x hx => by have := HT40.out.b1 x hx; omega) (fun x hx => by have := HT40.out.b2 x hx; omega)
            clear hrA hre HE9 HE0 HT39 HX39
            go_wp2_with (first
              | (go_at_call 14; refine HBY4.out.mono ?_; rintro e w41 ⟨rfl, hk41⟩; have HK41 := hide hk41; clear hk41 HBY4)
              | (go_at_call 24; refine (HST.out _ HK41.out).mono ?_; rintro e w42 ⟨rfl, hk42⟩; have HT42 := hide ((HT40.out.kept HK41.out).kept hk42); clear hk42 HST))
            go_roundw
            case rel => exact ⟨j + 1, (qq.take (q.m + 1) Ra).list q.m2 Rb, by omega, by go_num, rfl, rfl, HT42.out, HQN.out.1, HQN.out.2.1, HQN.out.2.2.1, HQN.out.2.2.2.1⟩
            case measure => simp [intOf]; omega
        · as_aux_lemma =>
          obtain rfl : j = 2 * k := by omega
          have hj3 : ¬ ((2 * k : Nat) : Int) < 2 * (k : Int) := by omega
          have hj3d : decide (((2 * k : Nat) : Int) < 2 * (k : Int)) = false := by simp
          have w2k : IntKind.i64.wrap (2 * (k : Int)) = 2 * (k : Int) := by rw [IntKind.wrap_i64]; omega
          obtain ⟨NN, hNN⟩ : ∃ NN, q.NL = NN := ⟨_, rfl⟩
          obtain ⟨lo, hlo⟩ : ∃ lo, q.LR.o = lo := ⟨_, rfl⟩
          obtain ⟨lc, hlc⟩ : ∃ lc, q.LR.c = lc := ⟨_, rfl⟩
          obtain ⟨wo', hwo⟩ : ∃ wo', q.WR.o = wo' := ⟨_, rfl⟩
          obtain ⟨wc', hwc⟩ : ∃ wc', q.WR.c = wc' := ⟨_, rfl⟩
          have hlv : q.LR.val = .slice lo NN lc := by unfold Rw.val; rw [hlo, hlc, HR.out.1.ln, hNN]
          have hwv : q.WR.val = .slice wo' NN wc' := by unfold Rw.val; rw [hwo, hwc, HR.out.1.rn, ← HR.out.2.1, hNN]
          rw [hlv, hwv]
          have hNb : NN ≤ 1300000 := by rw [← hNN]; have := HR.out.2.2.1; omega
          have HGR := hide (grow_ok HR.out.1.bok HR.out.1.a1 HR.out.1.a2 HR.out.1.c1 HR.out.1.c2 (by have := HR.out.2.2.2.1; omega) (by have := HR.out.2.2.2.2; omega) (M := 70000) (by omega) HR.out.1.b1 HR.out.1.b2 HR.out.1.bel.size)
          go_upto_region 44 with (go_at_call 25; refine HGR.out.mono ?_; rintro e w43 ⟨rfl, hg⟩; have HG := hide hg; clear hg HGR)
          obtain ⟨q1, hT1, f1, f2, f3, f4, f5, f6, f7, f8, f9, f10, f11⟩ := HR.out.1.grow HG.out
          have HT1 := hide hT1
          have HF1 : Hid (q1.NL = NN ∧ q1.NW = NN ∧ q1.E ≤ 9 * (2 * k) ∧ q1.E2 ≤ 2 * k ∧ q1.LR.o = lo ∧ q1.LR.val = .slice lo NN lc ∧ q1.WR.o = wo' ∧ q1.WR.val = .slice wo' NN wc') := ⟨by rw [f2, hNN], by rw [f3, ← HR.out.2.1, hNN], by rw [f4]; exact HR.out.2.2.2.1, by rw [f5]; exact HR.out.2.2.2.2, by rw [f6, hlo], by rw [f6, hlv], by rw [f7, hwo], by rw [f7, hwv]⟩
          clear hT1 f1 f2 f3 f4 f5 f6 f7 f8 f9 f10 f11 hlo hlc hwo hwc hlv hwv hNN HR HG hj3 hj3d w2k HV
          go_wp2
          go_loopw [25] (fun y wr => ∃ x : Nat, x ≤ NN ∧ y = .int .i64 x ∧ Hid (Kept [] w43 wr)) (fun y wr => NN - (intOf y).toNat)
          case atStart => exact ⟨0, Nat.zero_le _, rfl, Kept.refl _ _⟩
          case round =>
            obtain ⟨x, hx, rfl, HKx⟩ := hrel
            by_cases hlt : x < NN
            · as_aux_lemma =>
              have hxI : (x : Int) < (NN : Int) := by omega
              have hT := HT1.out.kept HKx.out
              obtain ⟨gl, hgl, l1⟩ := rw_cellS hT.l (by rw [hT.ln, HF1.out.1]; exact hlt) (by rw [hT.lv]; exact lvals_at _ _ _ x (by rw [HF1.out.1]; exact hlt))
              obtain ⟨gw, hgw, l2⟩ := rw_cellS hT.r (by rw [hT.rn, HF1.out.2.1]; exact hlt) (by rw [hT.rv]; exact lvals_at _ _ _ x (by rw [HF1.out.2.1]; exact hlt))
              rw [HF1.out.2.2.2.2.1] at hgl
              rw [HF1.out.2.2.2.2.2.2.1] at hgw
              subst hgl hgw
              obtain ⟨_, ys, hys⟩ := hT.ix.raw x (Nat.zero_le _) (by rw [HF1.out.1]; exact hlt)
              obtain ⟨hs1, hs2⟩ := hT.ix.same x (Nat.zero_le _) (by rw [HF1.out.2.1]; exact hlt)
              have A1 := rw_sl (hT.a1.fam.fam.own _ (hT.ix.lem x (by rw [HF1.out.1]; exact hlt))) hys
              have A2 := rw_sl (hT.a1.fam.fam.own _ (hT.ix.wam x (by rw [HF1.out.2.1]; exact hlt))) (hs1.trans hys)
              have hbd : (q1.h (q1.le x)).n ≤ 80000 := Nat.le_trans (hT.a1.fam.len _ (hT.ix.lem x (by rw [HF1.out.1]; exact hlt))) (by have := hT.b1 _ (hT.ix.lem x (by rw [HF1.out.1]; exact hlt)); omega)
              rw [hs2] at A2
              have v1 : (q1.h (q1.le x)).val = .slice (q1.h (q1.le x)).o (q1.h (q1.le x)).n (q1.h (q1.le x)).c := rfl
              have v2 : (q1.h (q1.wa x)).val = .slice (q1.h (q1.wa x)).o (q1.h (q1.le x)).n (q1.h (q1.wa x)).c := by rw [← hs2]; rfl
              rw [v1] at l1
              rw [v2] at l2
              generalize (q1.h (q1.le x)).o = ao at l1 A1
              generalize (q1.h (q1.le x)).n = n at l1 l2 A1 A2 hbd
              generalize (q1.h (q1.le x)).c = ac at l1 A1
              generalize (q1.h (q1.wa x)).o = wo at l2 A2
              generalize (q1.h (q1.wa x)).c = wac at l2 A2
              have HBY : Hid (∀ W, Kept [] wr W → Calls Try.prog 14 #[.slice ao n ac, .slice wo n wac] W fun e w' => e = .returned (.bool true) ∧ Kept [] W w') := fun W hW => bytes_yes ao wo n ac wac ys W A1.2.1 (by omega) (A1.1.kept hW (by simp)) (A2.1.kept hW (by simp))
              clear hT hys hs1 hs2 A1 A2 v1 v2
              go_upto_region 47 with (fail)
              refine wp_region_held_drew (S := fun w' => Kept [] wr w') (by kernel_rfl) ((Kept.refl [] wr).drew) (fun h0 => ?_)
              generalize World.drew wr = v0 at h0 ⊢
              refine wpAnyH_take (i := 0) (v := .slice (some ⟨gl, 0, none⟩) NN lc) rfl (by kernel_rfl) (by kernel_rfl) (by kernel_rfl) (fun _ _ _ h => h) (Or.inl ⟨by rfl, fun w hSw => by go_simp⟩) h0 ?_
              try simp only [List.getElem_toArray, List.getElem_cons_zero, List.getElem_cons_succ, Act.put, List.setIfInBounds_toArray, List.set_cons_zero, List.set_cons_succ]
              refine wpAnyH_take (i := 1) (v := .int .i64 x) rfl (by kernel_rfl) (by kernel_rfl) (by kernel_rfl) (fun _ _ _ h => h) (Or.inl ⟨by rfl, fun w hSw => by go_simp⟩) h0 ?_
              try simp only [List.getElem_toArray, List.getElem_cons_zero, List.getElem_cons_succ, Act.put, List.setIfInBounds_toArray, List.set_cons_zero, List.set_cons_succ]
              refine wpAnyH_take (i := 2) (v := .pointer (some ⟨gl, x, none⟩)) rfl (by kernel_rfl) (by kernel_rfl) (by kernel_rfl) (fun _ _ _ h => h) (Or.inl ⟨by rfl, fun w hSw => by have c0 := hxI; go_simp⟩) h0 ?_
              try simp only [List.getElem_toArray, List.getElem_cons_zero, List.getElem_cons_succ, Act.put, List.setIfInBounds_toArray, List.set_cons_zero, List.set_cons_succ]
              refine wpAnyH_take (i := 3) (v := .slice ao n ac) rfl (by kernel_rfl) (by kernel_rfl) (by kernel_rfl) (fun _ _ _ h => h) (Or.inl ⟨by rfl, fun w hSw => by have c0 := Kept.cellOf hSw l1 (by simp); go_simp⟩) h0 ?_
              try simp only [List.getElem_toArray, List.getElem_cons_zero, List.getElem_cons_succ, Act.put, List.setIfInBounds_toArray, List.set_cons_zero, List.set_cons_succ]
              refine wpAnyH_take (i := 4) (v := .slice (some ⟨gw, 0, none⟩) NN wc') rfl (by kernel_rfl) (by kernel_rfl) (by kernel_rfl) (fun _ _ _ h => h) (Or.inl ⟨by rfl, fun w hSw => by go_simp⟩) h0 ?_
              try simp only [List.getElem_toArray, List.getElem_cons_zero, List.getElem_cons_succ, Act.put, List.setIfInBounds_toArray, List.set_cons_zero, List.set_cons_succ]
              refine wpAnyH_take (i := 5) (v := .int .i64 x) rfl (by kernel_rfl) (by kernel_rfl) (by kernel_rfl) (fun _ _ _ h => h) (Or.inl ⟨by rfl, fun w hSw => by go_simp⟩) h0 ?_
              try simp only [List.getElem_toArray, List.getElem_cons_zero, List.getElem_cons_succ, Act.put, List.setIfInBounds_toArray, List.set_cons_zero, List.set_cons_succ]
              refine wpAnyH_take (i := 6) (v := .pointer (some ⟨gw, x, none⟩)) rfl (by kernel_rfl) (by kernel_rfl) (by kernel_rfl) (fun _ _ _ h => h) (Or.inl ⟨by rfl, fun w hSw => by have c0 := hxI; go_simp⟩) h0 ?_
              try simp only [List.getElem_toArray, List.getElem_cons_zero, List.getElem_cons_succ, Act.put, List.setIfInBounds_toArray, List.set_cons_zero, List.set_cons_succ]
              refine wpAnyH_take (i := 7) (v := .slice wo n wac) rfl (by kernel_rfl) (by kernel_rfl) (by kernel_rfl) (fun _ _ _ h => h) (Or.inl ⟨by rfl, fun w hSw => by have c0 := Kept.cellOf hSw l2 (by simp); go_simp⟩) h0 ?_
              try simp only [List.getElem_toArray, List.getElem_cons_zero, List.getElem_cons_succ, Act.put, List.setIfInBounds_toArray, List.set_cons_zero, List.set_cons_succ]
              refine wpAnyH_ready (rs := [8]) (by kernel_rfl) (by simp) (AllReadyH.cons (i := 8) rfl (fun K hK => ?_) AllReadyH.nil)
              rw [if_pos (by rfl)]
              go_simp
              refine (HBY.out _ h0).mono ?_
              rintro e v1 ⟨rfl, hq⟩
              refine hK.out _ _ (h0.trans hq (by simp)) (fun h1 => ?_)
              clear hK K hq h0
              try simp only [List.getElem_toArray, List.getElem_cons_zero, List.getElem_cons_succ, Act.put, List.setIfInBounds_toArray, List.set_cons_zero, List.set_cons_succ]
              refine wpAnyH_take (i := 9) (v := .bool false) rfl (by kernel_rfl) (by kernel_rfl) (by kernel_rfl) (fun _ _ _ h => h) (Or.inl ⟨by rfl, fun w hSw => by go_simp⟩) h1 ?_
              try simp only [List.getElem_toArray, List.getElem_cons_zero, List.getElem_cons_succ, Act.put, List.setIfInBounds_toArray, List.set_cons_zero, List.set_cons_succ]
              refine wpAnyH_done (by kernel_rfl) ?_ _
              have HK2 := hide (HKx.out.trans h1 (by simp))
              clear h1 l1 l2 HBY
              go_wp2
              go_roundw
              case rel => exact ⟨x + 1, by omega, by go_num, HK2⟩
              case measure => simp [intOf]; omega
            · as_aux_lemma =>
              have hxI : ¬ (x : Int) < (NN : Int) := by omega
              have HS5 : Hid (∃ q', St w wr K 70064 0 q' ∧ q'.NL = NN ∧ q'.NW = 0 ∧ q'.LR.o = lo ∧ q'.LR.val = .slice lo NN lc ∧ q'.E ≤ 9 * (2 * k) + 0 ∧ q'.E2 ≤ 2 * k) := by
                have hT := HT1.out.kept HKx.out
                exact ⟨{ q1 with NW := 0, WR := rw0 }, ⟨hT.bel, hT.bok, hT.a1, hT.a2, hT.c1, hT.c2, hT.b1, hT.b2, hT.l, hT.ln, hT.lv, rw0_at _ _ _ _, rfl, rfl, Off.none _, ⟨hT.ix.lem, fun i hi => absurd hi (Nat.not_lt_zero _), hT.ix.raw, fun i _ hi => absurd hi (Nat.not_lt_zero _), hT.ix.ne, fun i _ hi => absurd hi (Nat.not_lt_zero _), hT.ix.ll, Nat.zero_le _⟩⟩, HF1.out.1, rfl, HF1.out.2.2.2.2.1, HF1.out.2.2.2.2.2.1, HF1.out.2.2.1, HF1.out.2.2.2.1⟩
              clear HT1 HF1 HKx
              go_upto_region 50 with (fail)
              go_loopw [26] (fun y wr => ∃ x : Nat, x ≤ NN ∧ y = .int .i64 x ∧ Hid (∃ q', St w wr K 70064 x q' ∧ q'.NL = NN ∧ q'.NW = 0 ∧ q'.LR.o = lo ∧ q'.LR.val = .slice lo NN lc ∧ q'.E ≤ 9 * (2 * k) + x ∧ q'.E2 ≤ 2 * k)) (fun y wr => NN - (intOf y).toNat)
              case atStart => exact ⟨0, Nat.zero_le _, rfl, HS5⟩
              case round =>
                clear HS5
                obtain ⟨x, hx, rfl, HS⟩ := hrel
                obtain ⟨q', hT, g1, g2, g3, g4, g5, g6⟩ := HS.out
                by_cases hlt : x < NN
                · as_aux_lemma =>
                  have hxI : (x : Int) < (NN : Int) := by omega
                  obtain ⟨gl, hgl, l1⟩ := rw_cellS hT.l (by rw [hT.ln, g1]; exact hlt) (by rw [hT.lv]; exact lvals_at _ _ _ x (by rw [g1]; exact hlt))
                  rw [g3] at hgl
                  subst hgl
                  obtain ⟨hraw, _⟩ := hT.ix.raw x (Nat.le_refl _) (by rw [g1]; exact hlt)
                  have hmm := hT.ix.lem x (by rw [g1]; exact hlt)
                  have hne := hT.ix.ne x (Nat.le_refl _) (by rw [g1]; exact hlt)
                  have htk := take_ok hT.bok hT.a1 (i := q'.le x) hmm hraw hne (by omega) (Nat.le_trans (hT.a1.fam.len _ hmm) (by have := hT.b1 _ hmm; omega)) hT.bel.size
                  have HTK := hide htk
                  have HFT := hide (fun (wr' : World) (R : Rw) hb hh c => hT.take (wr' := wr') (R := R) hmm hraw hne (lo2 := x + 1) (by omega) (fun y hy1 hy2 => hT.ix.ll y x hy2 (by rw [g1]; exact hlt) (by omega)) (fun y hy1 hy2 => absurd hy2 (by rw [g2]; omega)) hb hh c)
                  have HGS := hide (And.intro g1 (And.intro g2 (And.intro g3 (And.intro g4 (And.intro g5 g6)))))
                  generalize (q'.h (q'.le x)).val = V at l1 HTK
                  clear hT htk hraw hmm hne HS
                  go_wp2_with (go_at_call 22; refine HTK.out.mono ?_; rintro e w52 ⟨rfl, R', hbk, hhf, hcg⟩; have HE := hide (And.intro hbk (And.intro hhf hcg)); clear hbk hhf hcg HTK)
                  go_roundw
                  case rel => exact ⟨x + 1, by omega, by go_num, ⟨_, HFT.out _ _ HE.out.1 HE.out.2.1 HE.out.2.2, HGS.out.1, HGS.out.2.1, HGS.out.2.2.1, HGS.out.2.2.2.1, by have := HGS.out.2.2.2.2.1; show q'.E + 1 ≤ _; omega, HGS.out.2.2.2.2.2⟩⟩
                  case measure => simp [intOf]; omega
                · as_aux_lemma =>
                  have hxI : ¬ (x : Int) < (NN : Int) := by omega
                  have HGR := hide (grow_ok hT.bok hT.a1 hT.a2 hT.c1 hT.c2 (by omega) (by omega) (M := 70064) (by omega) hT.b1 hT.b2 hT.bel.size)
                  have HT := hide hT
                  have HGS := hide (And.intro g5 g6)
                  clear hT HS g1 g2 g3 g4 g5 g6
                  go_upto_region 54 with (go_at_call 25; refine HGR.out.mono ?_; rintro e w53 ⟨rfl, hg⟩; have HG := hide hg; clear hg HGR)
                  obtain ⟨q2, hT2, f1, f2, f3, f4, f5, f6, f7, f8, f9, f10, f11⟩ := HT.out.grow HG.out
                  have HST := hide (still_ok hT2.bok hT2.a1 hT2.a2 hT2.c1 hT2.c2 (by rw [f4]; have := HGS.out.1; omega) (by rw [f5]; have := HGS.out.2; omega) (fun x hx => by have := hT2.b1 x hx; omega) (fun x hx => by have := hT2.b2 x hx; omega))
                  have HBL := hide hT2.bel
                  have HKN := hide known_ok
                  clear hT2 f1 f2 f3 f4 f5 f6 f7 f8 f9 f10 f11 HT HG
                  go_wp2_with (first
                    | (go_at_call 24; refine HST.out.mono ?_; rintro e w54 ⟨rfl, hk54⟩; have HK54 := hide hk54; clear hk54 HST)
                    | (go_at_call 16; refine (HKN.out _).mono ?_; rintro e w55 ⟨rfl, hk55⟩; have HK55 := hide hk55; clear hk55 HKN))
                  go_ret
                  exact ⟨rfl, HBL.out.trans ((HK54.out.trans HK55.out (by simp)).below HBL.out.size (by simp))⟩

end Go.Proofs.Ytdnbpklnkmgmkaa
