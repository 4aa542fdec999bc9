/-
  The walk: freightlaw3.RollSums.
-/
import Derived.Test.YtjfekdcghgpchaaEk2
import Derived.Test.YtjfekdcghgpchaaEa2
import Derived.Deep.Cut
import Derived.Deep.RegionHeld3
namespace Go.Proofs.Ytjfekdcghgpchaa
open Go.RowKit
set_option linter.unusedVariables false
set_option linter.unusedSimpArgs false

set_option maxHeartbeats 4000000 in
set_option maxRecDepth 100000 in
theorem sums_some (b off n cap : Nat) (L : List Bx) (w : World) (hn : L.length = n) (hm : n ≤ 9223372036854775807) (hc : ∀ i, i < L.length → w.cell? ⟨b, off + i, none⟩ = some (.slice (L.getD i bx0).da (L.getD i bx0).dn (L.getD i bx0).dc) ∧ InB w (L.getD i bx0).da (L.getD i bx0).dn (L.getD i bx0).dc (L.getD i bx0).ds) :
    Calls Try.prog 3 #[.slice (some ⟨b, off, none⟩) n cap] w fun e w' => e = .returned (.bool true) ∧ Below w.heap.size w w' := by
  by_cases h200 : 200 < n
  · clear hc
    go_enter Try.func3, Try.ntmps3
    go_wp2
    go_ret
    exact ⟨rfl, Below.refl _ _⟩
  have hzv := Try.zeroDesk
  have HN : Hid (L.length = n) := hn
  have HC : Hid (∀ i, i < L.length → w.cell? ⟨b, off + i, none⟩ = some (.slice (L.getD i bx0).da (L.getD i bx0).dn (L.getD i bx0).dc) ∧ InB w (L.getD i bx0).da (L.getD i bx0).dn (L.getD i bx0).dc (L.getD i bx0).ds) := hc
  clear hn hc
  go_enter Try.func3, Try.ntmps3
  go_wp2
  go_loop [3, 4] (fun x y => ∃ k v : Nat, k ≤ n ∧ y = .int .i64 k ∧ x = .int .i64 v ∧ v ≤ 100000 ∧ Hid (∀ i, i < k → (L.getD i bx0).dn ≤ 100000)) (fun x y => n - (intOf y).toNat)
  case atStart => exact ⟨0, 0, Nat.zero_le _, rfl, rfl, by omega, fun i hi => by omega⟩
  case round =>
    obtain ⟨k, v, hk, rfl, rfl, hv, HV⟩ := hrel
    by_cases hlt : k < n
    · have hcl := HC.out k (by rw [HN.out]; exact hlt)
      have hc3 := hcl.1
      have hdm := hcl.2.max
      have hdc := hcl.2.le
      obtain ⟨dn, hdn⟩ : ∃ dn, (L.getD k bx0).dn = dn := ⟨_, rfl⟩
      have HDN : Hid ((L.getD k bx0).dn = dn) := hdn
      rw [hdn] at hc3 hdc
      generalize (L.getD k bx0).da = da at hc3
      generalize (L.getD k bx0).dc = dc at hc3 hdm hdc
      clear hcl hdn
      by_cases hbig : 100000 < v + dn
      · go_wp2
        go_ret
        exact ⟨rfl, Below.refl _ _⟩
      · have HV2 : Hid (∀ i, i < k + 1 → (L.getD i bx0).dn ≤ 100000) := fun i hi => by
          by_cases h : i < k
          · exact HV.out i h
          · obtain rfl : i = k := by omega
            rw [HDN.out]; omega
        go_wp2
        go_round
        case rel => exact ⟨k + 1, v + dn, by omega, by go_num, by go_num, by omega, HV2⟩
        case measure => simp [intOf]; omega
    · obtain rfl : k = n := by omega
      have HI : Hid (Ds w (w.alloc (.cells #[.slice none 0 0] 26)) w.heap.size none []) := ds_new w
      go_wp2
      obtain ⟨D, hD⟩ : ∃ D, D = w.heap.size := ⟨_, rfl⟩
      rw [← hD] at HI ⊢
      clear hzv hD
      go_loopw [6] (fun x wr => ∃ (j : Nat) (bo : Option Nat) (R : List UInt8), j ≤ 2 * k ∧ x = .int .i64 j ∧ Hid (Ds w wr D bo R)) (fun x wr => 2 * k - (intOf x).toNat)
      case atStart => exact ⟨0, none, [], Nat.zero_le _, rfl, HI⟩
      case round =>
        clear HI
        obtain ⟨j, bo, R, hj, rfl, HR⟩ := hrel
        by_cases hjk : j < 2 * k
        · by_cases hjj : j < k
          · go_upto_region 17 with (fail)
            have hcl := HC.out j (by rw [HN.out]; omega)
            have HC3 : Hid (wr.cell? ⟨b, off + j, none⟩ = some (.slice (L.getD j bx0).da (L.getD j bx0).dn (L.getD j bx0).dc)) := HR.out.kept.cellOf hcl.1 (by simp)
            have HIN : Hid (InB w (L.getD j bx0).da (L.getD j bx0).dn (L.getD j bx0).dc (L.getD j bx0).ds) := hcl.2
            have hd2 := HV.out j (by omega)
            have HBN : Hid (b ∉ dkfp D bo) := by
              have h1 := HR.out.geD
              have h2 := HR.out.geg
              have h3 := World.block_lt_of_cell? _ _ hcl.1
              have h3' : b < w.heap.size := h3
              show b ∉ dkfp D bo
              simp only [dkfp, List.mem_cons, Option.mem_toList, not_or]
              exact ⟨by omega, fun hm => by have := h2 _ hm; omega⟩
            generalize (L.getD j bx0).da = da at HC3 HIN
            generalize (L.getD j bx0).dn = dn at HC3 HIN hd2
            generalize (L.getD j bx0).dc = dc at HC3 HIN
            generalize (L.getD j bx0).ds = ds at HIN
            clear hcl
            refine wp_region_held_drew (S := fun w' => Kept (dkfp D bo) wr w') (by kernel_rfl) ((Kept.refl (dkfp D bo) wr).drew) (fun h0 => ?_)
            have hds : Ds w wr.drew D bo R := HR.out.later ((Kept.refl [] wr).drew) (by simp) (by simp) (by simp)
            generalize World.drew wr = v0 at h0 hds ⊢
            refine wpAnyH_take (i := 0) (v := .pointer (some ⟨D, 0, none⟩)) rfl (by kernel_rfl) (by kernel_rfl) (by kernel_rfl) (fun _ _ _ h => h) (Or.inl ⟨by rfl, fun w hSw => by go_simp⟩) h0 ?_
            try simp only [List.getElem_toArray, List.getElem_cons_zero, List.getElem_cons_succ, Act.put, List.setIfInBounds_toArray, List.set_cons_zero, List.set_cons_succ]
            refine wpAnyH_take (i := 1) (v := .slice (some ⟨b, off, none⟩) k cap) rfl (by kernel_rfl) (by kernel_rfl) (by kernel_rfl) (fun _ _ _ h => h) (Or.inl ⟨by rfl, fun w hSw => by go_simp⟩) h0 ?_
            try simp only [List.getElem_toArray, List.getElem_cons_zero, List.getElem_cons_succ, Act.put, List.setIfInBounds_toArray, List.set_cons_zero, List.set_cons_succ]
            refine wpAnyH_take (i := 2) (v := .int .i64 (j : Nat)) rfl (by kernel_rfl) (by kernel_rfl) (by kernel_rfl) (fun _ _ _ h => h) (Or.inl ⟨by rfl, fun w hSw => by go_simp⟩) h0 ?_
            try simp only [List.getElem_toArray, List.getElem_cons_zero, List.getElem_cons_succ, Act.put, List.setIfInBounds_toArray, List.set_cons_zero, List.set_cons_succ]
            refine wpAnyH_take (i := 3) (v := .pointer (some ⟨b, off + j, none⟩)) rfl (by kernel_rfl) (by kernel_rfl) (by kernel_rfl) (fun _ _ _ h => h) (Or.inl ⟨by rfl, fun w hSw => by go_simp⟩) h0 ?_
            try simp only [List.getElem_toArray, List.getElem_cons_zero, List.getElem_cons_succ, Act.put, List.setIfInBounds_toArray, List.set_cons_zero, List.set_cons_succ]
            refine wpAnyH_take (i := 4) (v := .slice da dn dc) rfl (by kernel_rfl) (by kernel_rfl) (by kernel_rfl) (fun _ _ _ h => h) (Or.inl ⟨by rfl, fun w hSw => by have c := Kept.cellOf hSw HC3.out HBN.out; go_simp⟩) h0 ?_
            try simp only [List.getElem_toArray, List.getElem_cons_zero, List.getElem_cons_succ, Act.put, List.setIfInBounds_toArray, List.set_cons_zero, List.set_cons_succ]
            refine wpAnyH_take (i := 7) (v := .slice (some ⟨b, off, none⟩) k cap) rfl (by kernel_rfl) (by kernel_rfl) (by kernel_rfl) (fun _ _ _ h => h) (Or.inl ⟨by rfl, fun w hSw => by go_simp⟩) h0 ?_
            try simp only [List.getElem_toArray, List.getElem_cons_zero, List.getElem_cons_succ, Act.put, List.setIfInBounds_toArray, List.set_cons_zero, List.set_cons_succ]
            refine wpAnyH_take (i := 8) (v := .int .i64 (j : Nat)) rfl (by kernel_rfl) (by kernel_rfl) (by kernel_rfl) (fun _ _ _ h => h) (Or.inl ⟨by rfl, fun w hSw => by go_simp⟩) h0 ?_
            try simp only [List.getElem_toArray, List.getElem_cons_zero, List.getElem_cons_succ, Act.put, List.setIfInBounds_toArray, List.set_cons_zero, List.set_cons_succ]
            refine wpAnyH_take (i := 9) (v := .pointer (some ⟨b, off + j, none⟩)) rfl (by kernel_rfl) (by kernel_rfl) (by kernel_rfl) (fun _ _ _ h => h) (Or.inl ⟨by rfl, fun w hSw => by go_simp⟩) h0 ?_
            try simp only [List.getElem_toArray, List.getElem_cons_zero, List.getElem_cons_succ, Act.put, List.setIfInBounds_toArray, List.set_cons_zero, List.set_cons_succ]
            refine wpAnyH_take (i := 10) (v := .slice da dn dc) rfl (by kernel_rfl) (by kernel_rfl) (by kernel_rfl) (fun _ _ _ h => h) (Or.inl ⟨by rfl, fun w hSw => by have c := Kept.cellOf hSw HC3.out HBN.out; go_simp⟩) h0 ?_
            try simp only [List.getElem_toArray, List.getElem_cons_zero, List.getElem_cons_succ, Act.put, List.setIfInBounds_toArray, List.set_cons_zero, List.set_cons_succ]
            refine wpAnyH_ready (rs := [5]) (by kernel_rfl) (by simp) (AllReadyH.cons (i := 5) rfl (fun K hK => ?_) AllReadyH.nil)
            rw [if_pos (by rfl)]
            go_simp
            refine (lay_ds hds da dn dc ds HIN.out.len HIN.out.sl (by omega)).mono ?_
            rintro e v1 ⟨g, m, rfl, hds1, hm5, hsl, hq, _⟩
            refine hK.out _ _ (h0.trans hq (fun i hi _ => hi)) (fun h1 => ?_)
            clear hK K hq h0 hds
            try simp only [List.getElem_toArray, List.getElem_cons_zero, List.getElem_cons_succ, Act.put, List.setIfInBounds_toArray, List.set_cons_zero, List.set_cons_succ]
            refine wpAnyH_ready (rs := [6]) (by kernel_rfl) (by simp) (AllReadyH.cons (i := 6) rfl (fun K hK => ?_) AllReadyH.nil)
            rw [if_pos (by rfl)]
            go_simp
            refine (rsum_n _ dn m ds _ HIN.out.len (by omega) hsl).mono ?_
            rintro e v2 ⟨rfl, hq⟩
            have hds2 := hds1.later hq (by simp) (by simp) (by simp)
            refine hK.out _ _ (h1.trans hq (by simp)) (fun h2 => ?_)
            clear hK K hq h1 hds1 hsl
            try simp only [List.getElem_toArray, List.getElem_cons_zero, List.getElem_cons_succ, Act.put, List.setIfInBounds_toArray, List.set_cons_zero, List.set_cons_succ]
            refine wpAnyH_ready (rs := [11]) (by kernel_rfl) (by simp) (AllReadyH.cons (i := 11) rfl (fun K hK => ?_) AllReadyH.nil)
            rw [if_pos (by rfl)]
            go_simp
            refine (refsum_n da dn dc ds _ HIN.out.len (by omega) (HIN.out.sl.kept hds2.kept (by simp))).mono ?_
            rintro e v3 ⟨rfl, hv3⟩
            obtain rfl := hv3.symm
            refine hK.out _ _ h2 (fun h3 => ?_)
            clear hK K h2
            try simp only [List.getElem_toArray, List.getElem_cons_zero, List.getElem_cons_succ, Act.put, List.setIfInBounds_toArray, List.set_cons_zero, List.set_cons_succ]
            refine wpAnyH_take (i := 12) (v := .bool false) rfl (by kernel_rfl) (by kernel_rfl) (by kernel_rfl) (fun _ _ _ h => h) (Or.inl ⟨by rfl, fun w hSw => by go_simp⟩) h3 ?_
            try simp only [List.getElem_toArray, List.getElem_cons_zero, List.getElem_cons_succ, Act.put, List.setIfInBounds_toArray, List.set_cons_zero, List.set_cons_succ]
            refine wpAnyH_take (i := 13) (v := .bool false) rfl (by kernel_rfl) (by kernel_rfl) (by kernel_rfl) (fun _ _ _ h => h) (Or.inl ⟨by rfl, fun w hSw => by go_simp⟩) h3 ?_
            try simp only [List.getElem_toArray, List.getElem_cons_zero, List.getElem_cons_succ, Act.put, List.setIfInBounds_toArray, List.set_cons_zero, List.set_cons_succ]
            refine wpAnyH_take (i := 14) (v := .pointer (some ⟨D, 0, none⟩)) rfl (by kernel_rfl) (by kernel_rfl) (by kernel_rfl) (fun _ _ _ h => h) (Or.inl ⟨by rfl, fun w hSw => by go_simp⟩) h3 ?_
            try simp only [List.getElem_toArray, List.getElem_cons_zero, List.getElem_cons_succ, Act.put, List.setIfInBounds_toArray, List.set_cons_zero, List.set_cons_succ]
            refine wpAnyH_take (i := 15) (v := .slice (some ⟨b, off, none⟩) k cap) rfl (by kernel_rfl) (by kernel_rfl) (by kernel_rfl) (fun _ _ _ h => h) (Or.inl ⟨by rfl, fun w hSw => by go_simp⟩) h3 ?_
            try simp only [List.getElem_toArray, List.getElem_cons_zero, List.getElem_cons_succ, Act.put, List.setIfInBounds_toArray, List.set_cons_zero, List.set_cons_succ]
            refine wpAnyH_take (i := 16) (v := .int .i64 (j : Nat)) rfl (by kernel_rfl) (by kernel_rfl) (by kernel_rfl) (fun _ _ _ h => h) (Or.inl ⟨by rfl, fun w hSw => by go_simp⟩) h3 ?_
            try simp only [List.getElem_toArray, List.getElem_cons_zero, List.getElem_cons_succ, Act.put, List.setIfInBounds_toArray, List.set_cons_zero, List.set_cons_succ]
            refine wpAnyH_take (i := 17) (v := .pointer (some ⟨b, off + j, none⟩)) rfl (by kernel_rfl) (by kernel_rfl) (by kernel_rfl) (fun _ _ _ h => h) (Or.inl ⟨by rfl, fun w hSw => by go_simp⟩) h3 ?_
            try simp only [List.getElem_toArray, List.getElem_cons_zero, List.getElem_cons_succ, Act.put, List.setIfInBounds_toArray, List.set_cons_zero, List.set_cons_succ]
            refine wpAnyH_take (i := 18) (v := .slice da dn dc) rfl (by kernel_rfl) (by kernel_rfl) (by kernel_rfl) (fun _ _ _ h => h) (Or.inl ⟨by rfl, fun w hSw => by have c := Kept.cellOf hSw HC3.out HBN.out; go_simp⟩) h3 ?_
            try simp only [List.getElem_toArray, List.getElem_cons_zero, List.getElem_cons_succ, Act.put, List.setIfInBounds_toArray, List.set_cons_zero, List.set_cons_succ]
            refine wpAnyH_ready (rs := [19]) (by kernel_rfl) (by simp) (AllReadyH.cons (i := 19) rfl (fun K hK => ?_) AllReadyH.nil)
            rw [if_pos (by rfl)]
            go_simp
            refine (lies_ds hds2 da dn dc HIN.out.len HIN.out.sl hm5).mono ?_
            rintro e v4 ⟨rfl, kk, rfl⟩
            have hds4 : Ds w (v2.drewN kk) D (some g) (laid ds m) := hds2.later ((Kept.refl [] v2).drewN kk) (by simp) (by simp) (by simp)
            refine hK.out _ _ (h3.trans ((Kept.refl [] v2).drewN kk) (by simp)) (fun h4 => ?_)
            clear hK K h3 hds2
            try simp only [List.getElem_toArray, List.getElem_cons_zero, List.getElem_cons_succ, Act.put, List.setIfInBounds_toArray, List.set_cons_zero, List.set_cons_succ]
            generalize World.drewN v2 kk = v5 at h4 hds4 ⊢
            refine wpAnyH_take (i := 20) (v := .bool false) rfl (by kernel_rfl) (by kernel_rfl) (by kernel_rfl) (fun _ _ _ h => h) (Or.inl ⟨by rfl, fun w hSw => by go_simp⟩) h4 ?_
            try simp only [List.getElem_toArray, List.getElem_cons_zero, List.getElem_cons_succ, Act.put, List.setIfInBounds_toArray, List.set_cons_zero, List.set_cons_succ]
            refine wpAnyH_take (i := 21) (v := .bool false) rfl (by kernel_rfl) (by kernel_rfl) (by kernel_rfl) (fun _ _ _ h => h) (Or.inl ⟨by rfl, fun w hSw => by go_simp⟩) h4 ?_
            try simp only [List.getElem_toArray, List.getElem_cons_zero, List.getElem_cons_succ, Act.put, List.setIfInBounds_toArray, List.set_cons_zero, List.set_cons_succ]
            refine wpAnyH_done (by kernel_rfl) ?_ _
            go_wp2_with (fail)
            go_roundw
            case rel => exact ⟨j + 1, some g, laid ds m, by omega, by go_num, hds4⟩
            case measure => simp [intOf]; omega
          · go_upto_region 17 with (fail)
            obtain ⟨t, ht⟩ : ∃ t, t = 2 * k - 1 - j := ⟨_, rfl⟩
            have hte : (2 * (k : Int) - 1 - (j : Int)) = (t : Int) := by omega
            have htk : t < k := by omega
            rw [hte]
            clear hte ht
            have hcl := HC.out t (by rw [HN.out]; omega)
            have HC3 : Hid (wr.cell? ⟨b, off + t, none⟩ = some (.slice (L.getD t bx0).da (L.getD t bx0).dn (L.getD t bx0).dc)) := HR.out.kept.cellOf hcl.1 (by simp)
            have HIN : Hid (InB w (L.getD t bx0).da (L.getD t bx0).dn (L.getD t bx0).dc (L.getD t bx0).ds) := hcl.2
            have hd2 := HV.out t (by omega)
            have HBN : Hid (b ∉ dkfp D bo) := by
              have h1 := HR.out.geD
              have h2 := HR.out.geg
              have h3 := World.block_lt_of_cell? _ _ hcl.1
              have h3' : b < w.heap.size := h3
              show b ∉ dkfp D bo
              simp only [dkfp, List.mem_cons, Option.mem_toList, not_or]
              exact ⟨by omega, fun hm => by have := h2 _ hm; omega⟩
            generalize (L.getD t bx0).da = da at HC3 HIN
            generalize (L.getD t bx0).dn = dn at HC3 HIN hd2
            generalize (L.getD t bx0).dc = dc at HC3 HIN
            generalize (L.getD t bx0).ds = ds at HIN
            clear hcl
            refine wp_region_held_drew (S := fun w' => Kept (dkfp D bo) wr w') (by kernel_rfl) ((Kept.refl (dkfp D bo) wr).drew) (fun h0 => ?_)
            have hds : Ds w wr.drew D bo R := HR.out.later ((Kept.refl [] wr).drew) (by simp) (by simp) (by simp)
            generalize World.drew wr = v0 at h0 hds ⊢
            refine wpAnyH_take (i := 0) (v := .pointer (some ⟨D, 0, none⟩)) rfl (by kernel_rfl) (by kernel_rfl) (by kernel_rfl) (fun _ _ _ h => h) (Or.inl ⟨by rfl, fun w hSw => by go_simp⟩) h0 ?_
            try simp only [List.getElem_toArray, List.getElem_cons_zero, List.getElem_cons_succ, Act.put, List.setIfInBounds_toArray, List.set_cons_zero, List.set_cons_succ]
            refine wpAnyH_take (i := 1) (v := .slice (some ⟨b, off, none⟩) k cap) rfl (by kernel_rfl) (by kernel_rfl) (by kernel_rfl) (fun _ _ _ h => h) (Or.inl ⟨by rfl, fun w hSw => by go_simp⟩) h0 ?_
            try simp only [List.getElem_toArray, List.getElem_cons_zero, List.getElem_cons_succ, Act.put, List.setIfInBounds_toArray, List.set_cons_zero, List.set_cons_succ]
            refine wpAnyH_take (i := 2) (v := .int .i64 (t : Nat)) rfl (by kernel_rfl) (by kernel_rfl) (by kernel_rfl) (fun _ _ _ h => h) (Or.inl ⟨by rfl, fun w hSw => by go_simp⟩) h0 ?_
            try simp only [List.getElem_toArray, List.getElem_cons_zero, List.getElem_cons_succ, Act.put, List.setIfInBounds_toArray, List.set_cons_zero, List.set_cons_succ]
            refine wpAnyH_take (i := 3) (v := .pointer (some ⟨b, off + t, none⟩)) rfl (by kernel_rfl) (by kernel_rfl) (by kernel_rfl) (fun _ _ _ h => h) (Or.inl ⟨by rfl, fun w hSw => by go_simp⟩) h0 ?_
            try simp only [List.getElem_toArray, List.getElem_cons_zero, List.getElem_cons_succ, Act.put, List.setIfInBounds_toArray, List.set_cons_zero, List.set_cons_succ]
            refine wpAnyH_take (i := 4) (v := .slice da dn dc) rfl (by kernel_rfl) (by kernel_rfl) (by kernel_rfl) (fun _ _ _ h => h) (Or.inl ⟨by rfl, fun w hSw => by have c := Kept.cellOf hSw HC3.out HBN.out; go_simp⟩) h0 ?_
            try simp only [List.getElem_toArray, List.getElem_cons_zero, List.getElem_cons_succ, Act.put, List.setIfInBounds_toArray, List.set_cons_zero, List.set_cons_succ]
            refine wpAnyH_take (i := 7) (v := .slice (some ⟨b, off, none⟩) k cap) rfl (by kernel_rfl) (by kernel_rfl) (by kernel_rfl) (fun _ _ _ h => h) (Or.inl ⟨by rfl, fun w hSw => by go_simp⟩) h0 ?_
            try simp only [List.getElem_toArray, List.getElem_cons_zero, List.getElem_cons_succ, Act.put, List.setIfInBounds_toArray, List.set_cons_zero, List.set_cons_succ]
            refine wpAnyH_take (i := 8) (v := .int .i64 (t : Nat)) rfl (by kernel_rfl) (by kernel_rfl) (by kernel_rfl) (fun _ _ _ h => h) (Or.inl ⟨by rfl, fun w hSw => by go_simp⟩) h0 ?_
            try simp only [List.getElem_toArray, List.getElem_cons_zero, List.getElem_cons_succ, Act.put, List.setIfInBounds_toArray, List.set_cons_zero, List.set_cons_succ]
            refine wpAnyH_take (i := 9) (v := .pointer (some ⟨b, off + t, none⟩)) rfl (by kernel_rfl) (by kernel_rfl) (by kernel_rfl) (fun _ _ _ h => h) (Or.inl ⟨by rfl, fun w hSw => by go_simp⟩) h0 ?_
            try simp only [List.getElem_toArray, List.getElem_cons_zero, List.getElem_cons_succ, Act.put, List.setIfInBounds_toArray, List.set_cons_zero, List.set_cons_succ]
            refine wpAnyH_take (i := 10) (v := .slice da dn dc) rfl (by kernel_rfl) (by kernel_rfl) (by kernel_rfl) (fun _ _ _ h => h) (Or.inl ⟨by rfl, fun w hSw => by have c := Kept.cellOf hSw HC3.out HBN.out; go_simp⟩) h0 ?_
            try simp only [List.getElem_toArray, List.getElem_cons_zero, List.getElem_cons_succ, Act.put, List.setIfInBounds_toArray, List.set_cons_zero, List.set_cons_succ]
            refine wpAnyH_ready (rs := [5]) (by kernel_rfl) (by simp) (AllReadyH.cons (i := 5) rfl (fun K hK => ?_) AllReadyH.nil)
            rw [if_pos (by rfl)]
            go_simp
            refine (lay_ds hds da dn dc ds HIN.out.len HIN.out.sl (by omega)).mono ?_
            rintro e v1 ⟨g, m, rfl, hds1, hm5, hsl, hq, _⟩
            refine hK.out _ _ (h0.trans hq (fun i hi _ => hi)) (fun h1 => ?_)
            clear hK K hq h0 hds
            try simp only [List.getElem_toArray, List.getElem_cons_zero, List.getElem_cons_succ, Act.put, List.setIfInBounds_toArray, List.set_cons_zero, List.set_cons_succ]
            refine wpAnyH_ready (rs := [6]) (by kernel_rfl) (by simp) (AllReadyH.cons (i := 6) rfl (fun K hK => ?_) AllReadyH.nil)
            rw [if_pos (by rfl)]
            go_simp
            refine (rsum_n _ dn m ds _ HIN.out.len (by omega) hsl).mono ?_
            rintro e v2 ⟨rfl, hq⟩
            have hds2 := hds1.later hq (by simp) (by simp) (by simp)
            refine hK.out _ _ (h1.trans hq (by simp)) (fun h2 => ?_)
            clear hK K hq h1 hds1 hsl
            try simp only [List.getElem_toArray, List.getElem_cons_zero, List.getElem_cons_succ, Act.put, List.setIfInBounds_toArray, List.set_cons_zero, List.set_cons_succ]
            refine wpAnyH_ready (rs := [11]) (by kernel_rfl) (by simp) (AllReadyH.cons (i := 11) rfl (fun K hK => ?_) AllReadyH.nil)
            rw [if_pos (by rfl)]
            go_simp
            refine (refsum_n da dn dc ds _ HIN.out.len (by omega) (HIN.out.sl.kept hds2.kept (by simp))).mono ?_
            rintro e v3 ⟨rfl, hv3⟩
            obtain rfl := hv3.symm
            refine hK.out _ _ h2 (fun h3 => ?_)
            clear hK K h2
            try simp only [List.getElem_toArray, List.getElem_cons_zero, List.getElem_cons_succ, Act.put, List.setIfInBounds_toArray, List.set_cons_zero, List.set_cons_succ]
            refine wpAnyH_take (i := 12) (v := .bool false) rfl (by kernel_rfl) (by kernel_rfl) (by kernel_rfl) (fun _ _ _ h => h) (Or.inl ⟨by rfl, fun w hSw => by go_simp⟩) h3 ?_
            try simp only [List.getElem_toArray, List.getElem_cons_zero, List.getElem_cons_succ, Act.put, List.setIfInBounds_toArray, List.set_cons_zero, List.set_cons_succ]
            refine wpAnyH_take (i := 13) (v := .bool false) rfl (by kernel_rfl) (by kernel_rfl) (by kernel_rfl) (fun _ _ _ h => h) (Or.inl ⟨by rfl, fun w hSw => by go_simp⟩) h3 ?_
            try simp only [List.getElem_toArray, List.getElem_cons_zero, List.getElem_cons_succ, Act.put, List.setIfInBounds_toArray, List.set_cons_zero, List.set_cons_succ]
            refine wpAnyH_take (i := 14) (v := .pointer (some ⟨D, 0, none⟩)) rfl (by kernel_rfl) (by kernel_rfl) (by kernel_rfl) (fun _ _ _ h => h) (Or.inl ⟨by rfl, fun w hSw => by go_simp⟩) h3 ?_
            try simp only [List.getElem_toArray, List.getElem_cons_zero, List.getElem_cons_succ, Act.put, List.setIfInBounds_toArray, List.set_cons_zero, List.set_cons_succ]
            refine wpAnyH_take (i := 15) (v := .slice (some ⟨b, off, none⟩) k cap) rfl (by kernel_rfl) (by kernel_rfl) (by kernel_rfl) (fun _ _ _ h => h) (Or.inl ⟨by rfl, fun w hSw => by go_simp⟩) h3 ?_
            try simp only [List.getElem_toArray, List.getElem_cons_zero, List.getElem_cons_succ, Act.put, List.setIfInBounds_toArray, List.set_cons_zero, List.set_cons_succ]
            refine wpAnyH_take (i := 16) (v := .int .i64 (t : Nat)) rfl (by kernel_rfl) (by kernel_rfl) (by kernel_rfl) (fun _ _ _ h => h) (Or.inl ⟨by rfl, fun w hSw => by go_simp⟩) h3 ?_
            try simp only [List.getElem_toArray, List.getElem_cons_zero, List.getElem_cons_succ, Act.put, List.setIfInBounds_toArray, List.set_cons_zero, List.set_cons_succ]
            refine wpAnyH_take (i := 17) (v := .pointer (some ⟨b, off + t, none⟩)) rfl (by kernel_rfl) (by kernel_rfl) (by kernel_rfl) (fun _ _ _ h => h) (Or.inl ⟨by rfl, fun w hSw => by go_simp⟩) h3 ?_
            try simp only [List.getElem_toArray, List.getElem_cons_zero, List.getElem_cons_succ, Act.put, List.setIfInBounds_toArray, List.set_cons_zero, List.set_cons_succ]
            refine wpAnyH_take (i := 18) (v := .slice da dn dc) rfl (by kernel_rfl) (by kernel_rfl) (by kernel_rfl) (fun _ _ _ h => h) (Or.inl ⟨by rfl, fun w hSw => by have c := Kept.cellOf hSw HC3.out HBN.out; go_simp⟩) h3 ?_
            try simp only [List.getElem_toArray, List.getElem_cons_zero, List.getElem_cons_succ, Act.put, List.setIfInBounds_toArray, List.set_cons_zero, List.set_cons_succ]
            refine wpAnyH_ready (rs := [19]) (by kernel_rfl) (by simp) (AllReadyH.cons (i := 19) rfl (fun K hK => ?_) AllReadyH.nil)
            rw [if_pos (by rfl)]
            go_simp
            refine (lies_ds hds2 da dn dc HIN.out.len HIN.out.sl hm5).mono ?_
            rintro e v4 ⟨rfl, kk, rfl⟩
            have hds4 : Ds w (v2.drewN kk) D (some g) (laid ds m) := hds2.later ((Kept.refl [] v2).drewN kk) (by simp) (by simp) (by simp)
            refine hK.out _ _ (h3.trans ((Kept.refl [] v2).drewN kk) (by simp)) (fun h4 => ?_)
            clear hK K h3 hds2
            try simp only [List.getElem_toArray, List.getElem_cons_zero, List.getElem_cons_succ, Act.put, List.setIfInBounds_toArray, List.set_cons_zero, List.set_cons_succ]
            generalize World.drewN v2 kk = v5 at h4 hds4 ⊢
            refine wpAnyH_take (i := 20) (v := .bool false) rfl (by kernel_rfl) (by kernel_rfl) (by kernel_rfl) (fun _ _ _ h => h) (Or.inl ⟨by rfl, fun w hSw => by go_simp⟩) h4 ?_
            try simp only [List.getElem_toArray, List.getElem_cons_zero, List.getElem_cons_succ, Act.put, List.setIfInBounds_toArray, List.set_cons_zero, List.set_cons_succ]
            refine wpAnyH_take (i := 21) (v := .bool false) rfl (by kernel_rfl) (by kernel_rfl) (by kernel_rfl) (fun _ _ _ h => h) (Or.inl ⟨by rfl, fun w hSw => by go_simp⟩) h4 ?_
            try simp only [List.getElem_toArray, List.getElem_cons_zero, List.getElem_cons_succ, Act.put, List.setIfInBounds_toArray, List.set_cons_zero, List.set_cons_succ]
            refine wpAnyH_done (by kernel_rfl) ?_ _
            go_wp2_with (fail)
            go_roundw
            case rel => exact ⟨j + 1, some g, laid ds m, by omega, by go_num, hds4⟩
            case measure => simp [intOf]; omega
        · have hB := HR.out.kept
          clear HR
          go_wp2_with (go_at_call 13; refine (known_any _).mono ?_; rintro e wk ⟨rfl, hkk⟩)
          go_ret
          exact ⟨rfl, (hB.trans hkk (by simp)).below (Nat.le_refl _) (by simp)⟩


set_option maxHeartbeats 2000000 in
set_option maxRecDepth 100000 in
theorem sums_none (ao : Option Addr) (cap : Nat) (w : World) :
    Calls Try.prog 3 #[.slice ao 0 cap] w fun e w' => e = .returned (.bool true) ∧ Below w.heap.size w w' := by
  have hzv := Try.zeroDesk
  go_enter Try.func3, Try.ntmps3
  go_wp2
  go_loop [3, 4] (fun x y => y = .int .i64 0 ∧ x = .int .i64 0) (fun x y => 0)
  case atStart => exact ⟨rfl, rfl⟩
  case round =>
    obtain ⟨rfl, rfl⟩ := hrel
    have hB : Kept [] w (w.alloc (.cells #[.slice none 0 0] 26)) := (Kept.refl _ _).alloc _
    go_wp2
    generalize w.alloc _ = w1 at hB ⊢
    go_loop [6] (fun x => x = .int .i64 0) (fun x => 0)
    case atStart => rfl
    case round =>
      subst hrel
      go_wp2_with (go_at_call 13; refine (known_any _).mono ?_; rintro e wk ⟨rfl, hkk⟩)
      go_ret
      exact ⟨rfl, (hB.trans hkk (by simp)).below (Nat.le_refl _) (by simp)⟩

/-- RollSums: whatever the input: true; nothing that was there turns. -/
theorem sums_walk (ao : Option Addr) (n cap : Nat) (L : List Bx) (w : World) (hn : L.length = n) (hm : n ≤ 9223372036854775807) (h : RowsAt w ao L) :
    Calls Try.prog 3 #[.slice ao n cap] w fun e w' => e = .returned (.bool true) ∧ Below w.heap.size w w' := by
  by_cases h0 : L = []
  · subst h0
    obtain rfl : n = 0 := by simpa using hn.symm
    exact sums_none ao cap w
  · obtain ⟨b, off, e, hc0, _⟩ := h 0 (List.length_pos_iff.2 h0)
    subst e
    refine sums_some b off n cap L w hn hm (fun i hi => ?_)
    obtain ⟨b', off', e', hc'⟩ := h i hi
    cases e'
    exact hc'

end Go.Proofs.Ytjfekdcghgpchaa
