/-
  DiskFront: the walk.
-/
import Derived.Test.YtcmiehfahdbffacFb2
import Derived.Deep.CutRange
import Derived.Deep.RegionWith
import Derived.Test.YtcmiehfahdbffacOl
namespace Go.Proofs.Ytcmiehfahdbffac
open Go.RowKit Dsk
set_option linter.unusedVariables false
set_option linter.unusedSimpArgs false

theorem files_small2 {S : Ds} {N : Nat} (hb : S.Bd N) (hw : S.Wf) : S.files.length ≤ N ∧ ∀ f ∈ S.files, f.2.length ≤ N := by
  refine ⟨by simpa [Ds.files] using hb.shown hw, fun f hf => ?_⟩
  obtain ⟨x, hx, rfl⟩ := List.mem_map.1 hf
  exact hb.len hw (hw.slt (n := x.1) hx)
theorem rnd_tmod (p : Int) (n : Nat) : (if p.tmod ((n : Int) + 1) < 0 then p.tmod ((n : Int) + 1) + (n : Int) + 1 else p.tmod ((n : Int) + 1)) = (rnd p n : Int) := by
  have h := rnd_go p n
  have h1 : -((n : Int) + 1) < p.tmod ((n : Int) + 1) := Int.lt_tmod_of_pos p (by omega)
  have h2 : p.tmod ((n : Int) + 1) < (n : Int) + 1 := Int.tmod_lt_of_pos p (by omega)
  generalize p.tmod ((n : Int) + 1) = a at *
  by_cases hn : a < 0
  · rw [if_pos hn]
    rw [← h, Int.tmod_eq_of_lt (by omega) (by omega)]
    omega
  · rw [if_neg hn]
    rw [← h, Int.tmod_eq_emod_of_nonneg (by omega), Int.add_emod_right, Int.emod_eq_of_lt (by omega) (by omega)]

set_option maxHeartbeats 8000000 in
set_option maxRecDepth 100000 in
theorem front_walk (ao : Option Addr) (n cap : Nat) (bo : Option Addr) (m mcap : Nat) (pick : Int) (L : List By) (V : List Mov) (w : World) (hl : L.length = n) (hs : Tls w ao L) (hn : n ≤ 9223372036854775807) (hv : V.length = m) (hvs : Movs w bo V) (hm : m ≤ 9223372036854775807) (hpk : (Lit.int .i64 pick).wf = true) :
    Calls Try.prog 4 #[.slice ao n cap, .slice bo m mcap, .int .i64 pick] w fun e w' => e = .returned (.bool true) ∧ Below w.heap.size w w' := by
  by_cases h40 : 40 < n
  · go_enter Try.func4, Try.ntmps4
    go_wp2
    go_ret
    exact ⟨rfl, Below.refl _ _⟩
  by_cases h60 : 60 < m
  · have hn40 : ¬ 40 < n := h40
    go_enter Try.func4, Try.ntmps4
    go_wp2
    go_ret
    exact ⟨rfl, Below.refl _ _⟩
  have hnw : ∀ v : World, Calls Try.prog 7 #[.int .i64 1000] v fun e w' => ∃ p, e = .returned (.tuple #[.pointer (some ⟨p, 0, none⟩), .int .i64 0]) ∧ At v w' p (Ds.fresh 1000) 0 := fun v => (new_at 1000 v (by decide)).mono (by
    rintro e w' ⟨u, rfl, _, h1, _⟩
    have hrE : roomE 1000 = 0 := by decide
    rw [hrE] at h1 ⊢
    obtain ⟨p, rfl, hat⟩ := h1 rfl
    exact ⟨p, rfl, hat⟩)
  have HS : Hid (Tls w ao L) := hide hs
  have HL : Hid (L.length = n) := hide hl
  have HV : Hid (Movs w bo V) := hide hvs
  have HVL : Hid (V.length = m) := hide hv
  clear hs hl hvs hv
  have hn1 := hnw w
  go_enter Try.func4, Try.ntmps4
  go_upto_region 8 with (first
    | (go_at_call 7; refine hn1.mono ?_; rintro e w1 ⟨p, rfl, ha1⟩; have hn2 := hnw w1; have HA1 := hide ha1; clear hn1 ha1)
    | (go_at_call 7; refine hn2.mono ?_; rintro e w2 ⟨q, rfl, ha2⟩; have H2 := hide (Frs.begin HA1.out ha2); clear hn2 ha2 HA1))
  clear hnw
  go_loopw [11] (fun i wr => ∃ k : Nat, k ≤ n ∧ i = .int .i64 k ∧ Hid (∃ S T, Pr S T k ∧ Frs w wr p q S T (5 * k) (5 * k) (.slice none 0 0) [])) (fun i wr => n - (intOf i).toNat)
  case atStart => exact ⟨0, Nat.zero_le _, rfl, hide ⟨_, _, Pr.start, H2.out⟩⟩
  case round =>
    clear H2
    obtain ⟨k, hk, rfl, HR⟩ := hrel
    obtain ⟨S, T, hP, hF⟩ := HR.out
    clear HR
    by_cases hlt : k < n
    · obtain ⟨b, off, rfl, hc, hcl⟩ := HS.out k (by rw [HL.out]; exact hlt)
      generalize L.getD k [] = x at hc hcl
      have hc0 := hF.old.cellOf hc (by simp)
      have hcr := fr_create1 hF (by omega) x hcl
      have HK : Hid (∀ v, Kept [] w v → v.cell? ⟨b, off + k, none⟩ = some (encStr x)) := hide (fun v hv => hv.cellOf hc (by simp))
      have hws := hF.tw.wf1
      have hwt := hF.tw.wf2
      have hkb : k < 256 := by omega
      obtain ⟨c, hcn⟩ : ∃ c : UInt8, (c.toNat : Int) = (k : Int) := ⟨UInt8.ofNat k, by simp [UInt8.toNat_ofNat']; omega⟩
      by_cases h0 : (S.create x).1 = 0
      · have HPN := hide (hP.lay hws hwt (by omega) x c h0)
        rw [h0] at hcr
        clear hP hws hwt h0 hc
        as_aux_lemma =>
          go_upto_region 11 with (go_at_call 8; refine hcr.mono ?_; rintro e w3 ⟨rfl, hF3⟩; clear hcr hc0; have hc0 := HK.out _ hF3.old; have hap := fr_append1 hF3 (by omega) x hcl c; rw [hcn] at hap; clear hF hF3)
          go_wp2_with (first
            | (go_at_call 9; refine hap.mono ?_; rintro e w4 ⟨⟨E4, rfl⟩, hF4⟩; clear hap hc0; have hc0 := HK.out _ hF4.old; have hsy := fr_sync1 hF4 (by omega) x hcl; clear hF4)
            | (go_at_call 10; refine hsy.mono ?_; rintro e w5 ⟨⟨E5, rfl⟩, hF5⟩; clear hsy hc0; have hc0 := HK.out _ hF5.old; have hcr2 := fr_create2 hF5 (by omega) x hcl; clear hF5)
            | (go_at_call 8; refine hcr2.mono ?_; rintro e w6 ⟨rfl, hF6⟩; clear hcr2 hc0; have hc0 := HK.out _ hF6.old; have hap2 := fr_append2 hF6 (by omega) x hcl c; rw [hcn] at hap2; clear hF6)
            | (go_at_call 9; refine hap2.mono ?_; rintro e w7 ⟨⟨E7, rfl⟩, hF7⟩; clear hap2 hc0; have H7 := hide hF7; clear hF7))
          refine ⟨⟨k + 1, by omega, by go_num, hide ⟨_, _, HPN.out, H7.out.mono (by omega) (by omega)⟩⟩, by simp [intOf]; omega⟩
      · have HPN := hide (hP.skip (by omega) x h0)
        clear hP hws hwt hc
        as_aux_lemma =>
          go_wp2_with (go_at_call 8; refine hcr.mono ?_; rintro e w3 ⟨rfl, hF3⟩; clear hcr hc0; have H3 := hide hF3; clear hF3 hF)
          refine ⟨⟨k + 1, by omega, by go_num, hide ⟨_, _, HPN.out, H3.out.mono (by omega) (by omega)⟩⟩, by simp [intOf]; omega⟩
    · have hkn : k ≤ 40 := by omega
      have hws := hF.tw.wf1
      have hsn := fr_names1 hF (by omega)
      rw [hP.names] at hsn
      have HM : Hid (Mo ({ S.tick with safe := S.shown, row := [] } : Ds) S.shown S.th S.nx [] ∧ ∀ d, (d : Nat) < S.nx → (T.th d).shown = (S.th d).shown ∧ (S.th d).row = [] ∧ (S.th d).safe = (S.th d).shown) := hide ⟨⟨⟨hP.cs.tick.on, hP.cs.off, hP.cs.to⟩, rfl, rfl, rfl, rfl, trivial⟩, fun d hd => ⟨(hP.th d hd).1, (hP.th d hd).2.1, (hP.th d hd).2.2.1⟩⟩
      have HT : Hid (T.shown = S.shown ∧ Dsk.Calm T) := hide ⟨hP.shown, hP.ct⟩
      clear hP hF hws
      go_upto_region 19 with (go_at_call 11; refine hsn.mono ?_; rintro e w3 ⟨rfl, hF3⟩; have H3 := hide hF3; clear hF3 hsn)
      go_loopw [13, 12] (fun i dv wr => ∃ j : Nat, j ≤ m ∧ i = .int .i64 j ∧ ∃ (vo : Option Addr) (dl vk : Nat), dv = .slice vo dl vk ∧ dl ≤ j ∧ Hid (∃ S1 D, Mo S1 S.shown S.th S.nx D ∧ D.length = dl ∧ Frs w wr p q S1 T (300 + 2 * j) 300 dv D)) (fun i _ wr => m - (intOf i).toNat)
      case atStart => exact ⟨0, Nat.zero_le _, rfl, none, 0, 0, rfl, Nat.zero_le _, hide ⟨_, [], HM.out.1, rfl, H3.out.mono (by omega) (by omega)⟩⟩
      case round =>
        clear H3
        obtain ⟨j, hj, rfl, vo, dl, vk, rfl, hdl, HR⟩ := hrel
        obtain ⟨S1, D, hMo, hDl, hF⟩ := HR.out
        clear HR
        by_cases hlt2 : j < m
        · obtain ⟨b, off, rfl, hcc, hcl⟩ := HV.out j (by rw [HVL.out]; exact hlt2)
          generalize V.getD j ([], []) = x at hcc hcl
          obtain ⟨x1, x2⟩ := x
          simp only at hcc hcl
          have hc0 := hF.old.cellOf hcc.1 (by simp)
          have hc1 := hF.old.cellOf hcc.2 (by simp)
          have HK : Hid (∀ v, Kept [] w v → v.cell? ⟨b, off + j * 2, none⟩ = some (encStr x1) ∧ v.cell? ⟨b, off + j * 2 + 1, none⟩ = some (encStr x2)) := hide (fun v hv => ⟨hv.cellOf hcc.1 (by simp), hv.cellOf hcc.2 (by simp)⟩)
          have hws := hF.tw.wf1
          have hjl : (j : Int) < (m : Int) := by omega
          have hj0 : (0 : Int) ≤ (j : Int) := by omega
          have hF0 := hF.kept (Kept.refl [] wr).drew
          go_upto_region 21 with (fail)
          by_cases hz : (moveD S1 (x1, x2)).1 = 0
          · by_cases hne : x1 = x2
            · have hq : (x1 == x2) = true := by simpa using hne
              have HM1 := hide (hMo.skip (x1, x2) (.inr hne))
              have HZ := hide hz
              clear hMo hne hz
              as_aux_lemma =>
                have hmv : ∀ v, Frs w v p q S1 T (300 + 2 * j) 300 (.slice vo dl vk) D → Calls Try.prog 22 #[.pointer (some ⟨p, 0, none⟩), .agg #[encStr x1, encStr x2]] v fun e w' => e = .returned (.int .i64 0) ∧ Frs w w' p q (moveD S1 (x1, x2)).2 T (300 + 2 * j + 2) 300 (.slice vo dl vk) D := fun v hv => by have := fr_move1 hv (by omega) (x1, x2) hcl.1 hcl.2; rw [HZ.out] at this; exact this
                refine wp_region_held_drew (S := fun v => Kept [] w v) (by kernel_rfl) (hF.old.drew) (fun h0 => ?_)
                generalize World.drew wr = v0 at h0 hF0 ⊢
                refine wpAnyH_take (i := 0) (v := (.pointer (some ⟨p, 0, none⟩))) rfl (by kernel_rfl) (by kernel_rfl) (by kernel_rfl) (fun _ _ _ h => h) (Or.inl ⟨by rfl, fun w hSw => by go_simp⟩) h0 ?_
                try simp only [List.getElem_toArray, List.getElem_cons_zero, List.getElem_cons_succ, Act.put, List.setIfInBounds_toArray, List.set_cons_zero, List.set_cons_succ]
                refine wpAnyH_take (i := 1) (v := (.slice (some ⟨b, off, none⟩) m mcap)) rfl (by kernel_rfl) (by kernel_rfl) (by kernel_rfl) (fun _ _ _ h => h) (Or.inl ⟨by rfl, fun w hSw => by go_simp⟩) h0 ?_
                try simp only [List.getElem_toArray, List.getElem_cons_zero, List.getElem_cons_succ, Act.put, List.setIfInBounds_toArray, List.set_cons_zero, List.set_cons_succ]
                refine wpAnyH_take (i := 2) (v := (.int .i64 (j : Int))) rfl (by kernel_rfl) (by kernel_rfl) (by kernel_rfl) (fun _ _ _ h => h) (Or.inl ⟨by rfl, fun w hSw => by go_simp⟩) h0 ?_
                try simp only [List.getElem_toArray, List.getElem_cons_zero, List.getElem_cons_succ, Act.put, List.setIfInBounds_toArray, List.set_cons_zero, List.set_cons_succ]
                refine wpAnyH_take (i := 3) (v := (.pointer (some ⟨b, off + j * 2, none⟩))) rfl (by kernel_rfl) (by kernel_rfl) (by kernel_rfl) (fun _ _ _ h => h) (Or.inl ⟨by rfl, fun w hSw => by go_simp⟩) h0 ?_
                try simp only [List.getElem_toArray, List.getElem_cons_zero, List.getElem_cons_succ, Act.put, List.setIfInBounds_toArray, List.set_cons_zero, List.set_cons_succ]
                refine wpAnyH_take (i := 4) (v := (.agg #[encStr x1, encStr x2])) rfl (by kernel_rfl) (by kernel_rfl) (by kernel_rfl) (fun _ _ _ h => h) (Or.inl ⟨by rfl, fun w hSw => by have c := Kept.cellOf hSw hcc.1 (by simp); have d := Kept.cellOf hSw hcc.2 (by simp); go_simp⟩) h0 ?_
                try simp only [List.getElem_toArray, List.getElem_cons_zero, List.getElem_cons_succ, Act.put, List.setIfInBounds_toArray, List.set_cons_zero, List.set_cons_succ]
                refine wpAnyH_ready (rs := [5]) (by kernel_rfl) (by simp) (AllReadyH.cons (i := 5) rfl (fun K hK => ?_) AllReadyH.nil)
                rw [if_pos (by rfl)]
                go_simp
                refine (hmv _ hF0).mono ?_
                rintro e v1 ⟨rfl, hF1⟩
                refine hK.out _ _ hF1.old (fun h1 => ?_)
                clear hK K hF0 hmv h0
                try simp only [List.getElem_toArray, List.getElem_cons_zero, List.getElem_cons_succ, Act.put, List.setIfInBounds_toArray, List.set_cons_zero, List.set_cons_succ]
                have H1 := hide hF1
                clear hF1
                refine wpAnyH_take (i := 6) (v := (.bool true)) rfl (by kernel_rfl) (by kernel_rfl) (by kernel_rfl) (fun _ _ _ h => h) (Or.inl ⟨by rfl, fun w hSw => by go_simp⟩) h1 ?_
                try simp only [List.getElem_toArray, List.getElem_cons_zero, List.getElem_cons_succ, Act.put, List.setIfInBounds_toArray, List.set_cons_zero, List.set_cons_succ]
                refine wpAnyH_take (i := 7) (v := (.bool true)) rfl (by kernel_rfl) (by kernel_rfl) (by kernel_rfl) (fun _ _ _ h => h) (Or.inl ⟨by rfl, fun w hSw => by go_simp⟩) h1 ?_
                try simp only [List.getElem_toArray, List.getElem_cons_zero, List.getElem_cons_succ, Act.put, List.setIfInBounds_toArray, List.set_cons_zero, List.set_cons_succ]
                refine wpAnyH_take (i := 8) (v := (.slice (some ⟨b, off, none⟩) m mcap)) rfl (by kernel_rfl) (by kernel_rfl) (by kernel_rfl) (fun _ _ _ h => h) (Or.inl ⟨by rfl, fun w hSw => by go_simp⟩) h1 ?_
                try simp only [List.getElem_toArray, List.getElem_cons_zero, List.getElem_cons_succ, Act.put, List.setIfInBounds_toArray, List.set_cons_zero, List.set_cons_succ]
                refine wpAnyH_take (i := 9) (v := (.int .i64 (j : Int))) rfl (by kernel_rfl) (by kernel_rfl) (by kernel_rfl) (fun _ _ _ h => h) (Or.inl ⟨by rfl, fun w hSw => by go_simp⟩) h1 ?_
                try simp only [List.getElem_toArray, List.getElem_cons_zero, List.getElem_cons_succ, Act.put, List.setIfInBounds_toArray, List.set_cons_zero, List.set_cons_succ]
                refine wpAnyH_take (i := 10) (v := (.pointer (some ⟨b, off + j * 2, none⟩))) rfl (by kernel_rfl) (by kernel_rfl) (by kernel_rfl) (fun _ _ _ h => h) (Or.inl ⟨by rfl, fun w hSw => by go_simp⟩) h1 ?_
                try simp only [List.getElem_toArray, List.getElem_cons_zero, List.getElem_cons_succ, Act.put, List.setIfInBounds_toArray, List.set_cons_zero, List.set_cons_succ]
                refine wpAnyH_take (i := 11) (v := (.pointer (some ⟨b, off + j * 2, none⟩))) rfl (by kernel_rfl) (by kernel_rfl) (by kernel_rfl) (fun _ _ _ h => h) (Or.inl ⟨by rfl, fun w hSw => by go_simp⟩) h1 ?_
                try simp only [List.getElem_toArray, List.getElem_cons_zero, List.getElem_cons_succ, Act.put, List.setIfInBounds_toArray, List.set_cons_zero, List.set_cons_succ]
                refine wpAnyH_take (i := 12) (v := (encStr x1)) rfl (by kernel_rfl) (by kernel_rfl) (by kernel_rfl) (fun _ _ _ h => h) (Or.inl ⟨by rfl, fun w hSw => by have c := Kept.cellOf hSw hcc.1 (by simp); have d := Kept.cellOf hSw hcc.2 (by simp); go_simp⟩) h1 ?_
                try simp only [List.getElem_toArray, List.getElem_cons_zero, List.getElem_cons_succ, Act.put, List.setIfInBounds_toArray, List.set_cons_zero, List.set_cons_succ]
                refine wpAnyH_take (i := 13) (v := (.slice (some ⟨b, off, none⟩) m mcap)) rfl (by kernel_rfl) (by kernel_rfl) (by kernel_rfl) (fun _ _ _ h => h) (Or.inl ⟨by rfl, fun w hSw => by go_simp⟩) h1 ?_
                try simp only [List.getElem_toArray, List.getElem_cons_zero, List.getElem_cons_succ, Act.put, List.setIfInBounds_toArray, List.set_cons_zero, List.set_cons_succ]
                refine wpAnyH_take (i := 14) (v := (.int .i64 (j : Int))) rfl (by kernel_rfl) (by kernel_rfl) (by kernel_rfl) (fun _ _ _ h => h) (Or.inl ⟨by rfl, fun w hSw => by go_simp⟩) h1 ?_
                try simp only [List.getElem_toArray, List.getElem_cons_zero, List.getElem_cons_succ, Act.put, List.setIfInBounds_toArray, List.set_cons_zero, List.set_cons_succ]
                refine wpAnyH_take (i := 15) (v := (.pointer (some ⟨b, off + j * 2, none⟩))) rfl (by kernel_rfl) (by kernel_rfl) (by kernel_rfl) (fun _ _ _ h => h) (Or.inl ⟨by rfl, fun w hSw => by go_simp⟩) h1 ?_
                try simp only [List.getElem_toArray, List.getElem_cons_zero, List.getElem_cons_succ, Act.put, List.setIfInBounds_toArray, List.set_cons_zero, List.set_cons_succ]
                refine wpAnyH_take (i := 16) (v := (.pointer (some ⟨b, off + j * 2 + 1, none⟩))) rfl (by kernel_rfl) (by kernel_rfl) (by kernel_rfl) (fun _ _ _ h => h) (Or.inl ⟨by rfl, fun w hSw => by go_simp⟩) h1 ?_
                try simp only [List.getElem_toArray, List.getElem_cons_zero, List.getElem_cons_succ, Act.put, List.setIfInBounds_toArray, List.set_cons_zero, List.set_cons_succ]
                refine wpAnyH_take (i := 17) (v := (encStr x2)) rfl (by kernel_rfl) (by kernel_rfl) (by kernel_rfl) (fun _ _ _ h => h) (Or.inl ⟨by rfl, fun w hSw => by have c := Kept.cellOf hSw hcc.1 (by simp); have d := Kept.cellOf hSw hcc.2 (by simp); go_simp⟩) h1 ?_
                try simp only [List.getElem_toArray, List.getElem_cons_zero, List.getElem_cons_succ, Act.put, List.setIfInBounds_toArray, List.set_cons_zero, List.set_cons_succ]
                refine wpAnyH_take (i := 18) (v := (.bool false)) rfl (by kernel_rfl) (by kernel_rfl) (by kernel_rfl) (fun _ _ _ h => h) (Or.inl ⟨by rfl, fun w hSw => by go_simp⟩) h1 ?_
                try simp only [List.getElem_toArray, List.getElem_cons_zero, List.getElem_cons_succ, Act.put, List.setIfInBounds_toArray, List.set_cons_zero, List.set_cons_succ]
                refine wpAnyH_take (i := 19) (v := (.bool false)) rfl (by kernel_rfl) (by kernel_rfl) (by kernel_rfl) (fun _ _ _ h => h) (Or.inl ⟨by rfl, fun w hSw => by go_simp⟩) h1 ?_
                try simp only [List.getElem_toArray, List.getElem_cons_zero, List.getElem_cons_succ, Act.put, List.setIfInBounds_toArray, List.set_cons_zero, List.set_cons_succ]
                refine wpAnyH_done (by kernel_rfl) ?_ _
                go_wp2
                refine ⟨⟨j + 1, by omega, by go_num, vo, dl, vk, rfl, by omega, hide ⟨_, D, HM1.out, hDl, H1.out.mono (by omega) (by omega)⟩⟩, by simp [intOf]; omega⟩
            · have hq : (x1 == x2) = false := by simpa using hne
              have HM1 := hide (hMo.done hws (x1, x2) hz hne)
              have HZ := hide hz
              clear hMo hne hz
              as_aux_lemma =>
                have hmv : ∀ v, Frs w v p q S1 T (300 + 2 * j) 300 (.slice vo dl vk) D → Calls Try.prog 22 #[.pointer (some ⟨p, 0, none⟩), .agg #[encStr x1, encStr x2]] v fun e w' => e = .returned (.int .i64 0) ∧ Frs w w' p q (moveD S1 (x1, x2)).2 T (300 + 2 * j + 2) 300 (.slice vo dl vk) D := fun v hv => by have := fr_move1 hv (by omega) (x1, x2) hcl.1 hcl.2; rw [HZ.out] at this; exact this
                refine wp_region_held_drew (S := fun v => Kept [] w v) (by kernel_rfl) (hF.old.drew) (fun h0 => ?_)
                generalize World.drew wr = v0 at h0 hF0 ⊢
                refine wpAnyH_take (i := 0) (v := (.pointer (some ⟨p, 0, none⟩))) rfl (by kernel_rfl) (by kernel_rfl) (by kernel_rfl) (fun _ _ _ h => h) (Or.inl ⟨by rfl, fun w hSw => by go_simp⟩) h0 ?_
                try simp only [List.getElem_toArray, List.getElem_cons_zero, List.getElem_cons_succ, Act.put, List.setIfInBounds_toArray, List.set_cons_zero, List.set_cons_succ]
                refine wpAnyH_take (i := 1) (v := (.slice (some ⟨b, off, none⟩) m mcap)) rfl (by kernel_rfl) (by kernel_rfl) (by kernel_rfl) (fun _ _ _ h => h) (Or.inl ⟨by rfl, fun w hSw => by go_simp⟩) h0 ?_
                try simp only [List.getElem_toArray, List.getElem_cons_zero, List.getElem_cons_succ, Act.put, List.setIfInBounds_toArray, List.set_cons_zero, List.set_cons_succ]
                refine wpAnyH_take (i := 2) (v := (.int .i64 (j : Int))) rfl (by kernel_rfl) (by kernel_rfl) (by kernel_rfl) (fun _ _ _ h => h) (Or.inl ⟨by rfl, fun w hSw => by go_simp⟩) h0 ?_
                try simp only [List.getElem_toArray, List.getElem_cons_zero, List.getElem_cons_succ, Act.put, List.setIfInBounds_toArray, List.set_cons_zero, List.set_cons_succ]
                refine wpAnyH_take (i := 3) (v := (.pointer (some ⟨b, off + j * 2, none⟩))) rfl (by kernel_rfl) (by kernel_rfl) (by kernel_rfl) (fun _ _ _ h => h) (Or.inl ⟨by rfl, fun w hSw => by go_simp⟩) h0 ?_
                try simp only [List.getElem_toArray, List.getElem_cons_zero, List.getElem_cons_succ, Act.put, List.setIfInBounds_toArray, List.set_cons_zero, List.set_cons_succ]
                refine wpAnyH_take (i := 4) (v := (.agg #[encStr x1, encStr x2])) rfl (by kernel_rfl) (by kernel_rfl) (by kernel_rfl) (fun _ _ _ h => h) (Or.inl ⟨by rfl, fun w hSw => by have c := Kept.cellOf hSw hcc.1 (by simp); have d := Kept.cellOf hSw hcc.2 (by simp); go_simp⟩) h0 ?_
                try simp only [List.getElem_toArray, List.getElem_cons_zero, List.getElem_cons_succ, Act.put, List.setIfInBounds_toArray, List.set_cons_zero, List.set_cons_succ]
                refine wpAnyH_ready (rs := [5]) (by kernel_rfl) (by simp) (AllReadyH.cons (i := 5) rfl (fun K hK => ?_) AllReadyH.nil)
                rw [if_pos (by rfl)]
                go_simp
                refine (hmv _ hF0).mono ?_
                rintro e v1 ⟨rfl, hF1⟩
                refine hK.out _ _ hF1.old (fun h1 => ?_)
                clear hK K hF0 hmv h0
                try simp only [List.getElem_toArray, List.getElem_cons_zero, List.getElem_cons_succ, Act.put, List.setIfInBounds_toArray, List.set_cons_zero, List.set_cons_succ]
                have H1 := hide hF1
                clear hF1
                refine wpAnyH_take (i := 6) (v := (.bool true)) rfl (by kernel_rfl) (by kernel_rfl) (by kernel_rfl) (fun _ _ _ h => h) (Or.inl ⟨by rfl, fun w hSw => by go_simp⟩) h1 ?_
                try simp only [List.getElem_toArray, List.getElem_cons_zero, List.getElem_cons_succ, Act.put, List.setIfInBounds_toArray, List.set_cons_zero, List.set_cons_succ]
                refine wpAnyH_take (i := 7) (v := (.bool true)) rfl (by kernel_rfl) (by kernel_rfl) (by kernel_rfl) (fun _ _ _ h => h) (Or.inl ⟨by rfl, fun w hSw => by go_simp⟩) h1 ?_
                try simp only [List.getElem_toArray, List.getElem_cons_zero, List.getElem_cons_succ, Act.put, List.setIfInBounds_toArray, List.set_cons_zero, List.set_cons_succ]
                refine wpAnyH_take (i := 8) (v := (.slice (some ⟨b, off, none⟩) m mcap)) rfl (by kernel_rfl) (by kernel_rfl) (by kernel_rfl) (fun _ _ _ h => h) (Or.inl ⟨by rfl, fun w hSw => by go_simp⟩) h1 ?_
                try simp only [List.getElem_toArray, List.getElem_cons_zero, List.getElem_cons_succ, Act.put, List.setIfInBounds_toArray, List.set_cons_zero, List.set_cons_succ]
                refine wpAnyH_take (i := 9) (v := (.int .i64 (j : Int))) rfl (by kernel_rfl) (by kernel_rfl) (by kernel_rfl) (fun _ _ _ h => h) (Or.inl ⟨by rfl, fun w hSw => by go_simp⟩) h1 ?_
                try simp only [List.getElem_toArray, List.getElem_cons_zero, List.getElem_cons_succ, Act.put, List.setIfInBounds_toArray, List.set_cons_zero, List.set_cons_succ]
                refine wpAnyH_take (i := 10) (v := (.pointer (some ⟨b, off + j * 2, none⟩))) rfl (by kernel_rfl) (by kernel_rfl) (by kernel_rfl) (fun _ _ _ h => h) (Or.inl ⟨by rfl, fun w hSw => by go_simp⟩) h1 ?_
                try simp only [List.getElem_toArray, List.getElem_cons_zero, List.getElem_cons_succ, Act.put, List.setIfInBounds_toArray, List.set_cons_zero, List.set_cons_succ]
                refine wpAnyH_take (i := 11) (v := (.pointer (some ⟨b, off + j * 2, none⟩))) rfl (by kernel_rfl) (by kernel_rfl) (by kernel_rfl) (fun _ _ _ h => h) (Or.inl ⟨by rfl, fun w hSw => by go_simp⟩) h1 ?_
                try simp only [List.getElem_toArray, List.getElem_cons_zero, List.getElem_cons_succ, Act.put, List.setIfInBounds_toArray, List.set_cons_zero, List.set_cons_succ]
                refine wpAnyH_take (i := 12) (v := (encStr x1)) rfl (by kernel_rfl) (by kernel_rfl) (by kernel_rfl) (fun _ _ _ h => h) (Or.inl ⟨by rfl, fun w hSw => by have c := Kept.cellOf hSw hcc.1 (by simp); have d := Kept.cellOf hSw hcc.2 (by simp); go_simp⟩) h1 ?_
                try simp only [List.getElem_toArray, List.getElem_cons_zero, List.getElem_cons_succ, Act.put, List.setIfInBounds_toArray, List.set_cons_zero, List.set_cons_succ]
                refine wpAnyH_take (i := 13) (v := (.slice (some ⟨b, off, none⟩) m mcap)) rfl (by kernel_rfl) (by kernel_rfl) (by kernel_rfl) (fun _ _ _ h => h) (Or.inl ⟨by rfl, fun w hSw => by go_simp⟩) h1 ?_
                try simp only [List.getElem_toArray, List.getElem_cons_zero, List.getElem_cons_succ, Act.put, List.setIfInBounds_toArray, List.set_cons_zero, List.set_cons_succ]
                refine wpAnyH_take (i := 14) (v := (.int .i64 (j : Int))) rfl (by kernel_rfl) (by kernel_rfl) (by kernel_rfl) (fun _ _ _ h => h) (Or.inl ⟨by rfl, fun w hSw => by go_simp⟩) h1 ?_
                try simp only [List.getElem_toArray, List.getElem_cons_zero, List.getElem_cons_succ, Act.put, List.setIfInBounds_toArray, List.set_cons_zero, List.set_cons_succ]
                refine wpAnyH_take (i := 15) (v := (.pointer (some ⟨b, off + j * 2, none⟩))) rfl (by kernel_rfl) (by kernel_rfl) (by kernel_rfl) (fun _ _ _ h => h) (Or.inl ⟨by rfl, fun w hSw => by go_simp⟩) h1 ?_
                try simp only [List.getElem_toArray, List.getElem_cons_zero, List.getElem_cons_succ, Act.put, List.setIfInBounds_toArray, List.set_cons_zero, List.set_cons_succ]
                refine wpAnyH_take (i := 16) (v := (.pointer (some ⟨b, off + j * 2 + 1, none⟩))) rfl (by kernel_rfl) (by kernel_rfl) (by kernel_rfl) (fun _ _ _ h => h) (Or.inl ⟨by rfl, fun w hSw => by go_simp⟩) h1 ?_
                try simp only [List.getElem_toArray, List.getElem_cons_zero, List.getElem_cons_succ, Act.put, List.setIfInBounds_toArray, List.set_cons_zero, List.set_cons_succ]
                refine wpAnyH_take (i := 17) (v := (encStr x2)) rfl (by kernel_rfl) (by kernel_rfl) (by kernel_rfl) (fun _ _ _ h => h) (Or.inl ⟨by rfl, fun w hSw => by have c := Kept.cellOf hSw hcc.1 (by simp); have d := Kept.cellOf hSw hcc.2 (by simp); go_simp⟩) h1 ?_
                try simp only [List.getElem_toArray, List.getElem_cons_zero, List.getElem_cons_succ, Act.put, List.setIfInBounds_toArray, List.set_cons_zero, List.set_cons_succ]
                refine wpAnyH_take (i := 18) (v := (.bool true)) rfl (by kernel_rfl) (by kernel_rfl) (by kernel_rfl) (fun _ _ _ h => h) (Or.inl ⟨by rfl, fun w hSw => by go_simp⟩) h1 ?_
                try simp only [List.getElem_toArray, List.getElem_cons_zero, List.getElem_cons_succ, Act.put, List.setIfInBounds_toArray, List.set_cons_zero, List.set_cons_succ]
                refine wpAnyH_take (i := 19) (v := (.bool true)) rfl (by kernel_rfl) (by kernel_rfl) (by kernel_rfl) (fun _ _ _ h => h) (Or.inl ⟨by rfl, fun w hSw => by go_simp⟩) h1 ?_
                try simp only [List.getElem_toArray, List.getElem_cons_zero, List.getElem_cons_succ, Act.put, List.setIfInBounds_toArray, List.set_cons_zero, List.set_cons_succ]
                refine wpAnyH_done (by kernel_rfl) ?_ _
                obtain ⟨e0, e1⟩ : v1.cell? ⟨b, off + j * 2, none⟩ = some (encStr x1) ∧ v1.cell? ⟨b, off + j * 2 + 1, none⟩ = some (encStr x2) := HK.out _ H1.out.old
                obtain ⟨g, c, w5, hap, hF5⟩ := H1.out.push hDl (by omega) (x1, x2)
                have H5 := hide hF5
                clear hF5 H1
                simp only at hap
                go_wp2_with (at_builtin; refine wpList_app_run rfl _ _ 49 49 rfl _ _ rfl rfl _ _ hap ?_)
                refine ⟨⟨j + 1, by omega, by go_num, _, _, _, rfl, by omega, hide ⟨_, _, HM1.out, by simp [hDl], H5.out.mono (by omega) (by omega)⟩⟩, by simp [intOf]; omega⟩
          · have HM1 := hide (hMo.skip (x1, x2) (.inl hz))
            clear hMo
            as_aux_lemma =>
              have hmv : ∀ v, Frs w v p q S1 T (300 + 2 * j) 300 (.slice vo dl vk) D → Calls Try.prog 22 #[.pointer (some ⟨p, 0, none⟩), .agg #[encStr x1, encStr x2]] v fun e w' => e = .returned (.int .i64 (moveD S1 (x1, x2)).1) ∧ Frs w w' p q (moveD S1 (x1, x2)).2 T (300 + 2 * j + 2) 300 (.slice vo dl vk) D := fun v hv => fr_move1 hv (by omega) (x1, x2) hcl.1 hcl.2
              refine wp_region_held_drew (S := fun v => Kept [] w v) (by kernel_rfl) (hF.old.drew) (fun h0 => ?_)
              generalize World.drew wr = v0 at h0 hF0 ⊢
              refine wpAnyH_take (i := 0) (v := (.pointer (some ⟨p, 0, none⟩))) rfl (by kernel_rfl) (by kernel_rfl) (by kernel_rfl) (fun _ _ _ h => h) (Or.inl ⟨by rfl, fun w hSw => by go_simp⟩) h0 ?_
              try simp only [List.getElem_toArray, List.getElem_cons_zero, List.getElem_cons_succ, Act.put, List.setIfInBounds_toArray, List.set_cons_zero, List.set_cons_succ]
              refine wpAnyH_take (i := 1) (v := (.slice (some ⟨b, off, none⟩) m mcap)) rfl (by kernel_rfl) (by kernel_rfl) (by kernel_rfl) (fun _ _ _ h => h) (Or.inl ⟨by rfl, fun w hSw => by go_simp⟩) h0 ?_
              try simp only [List.getElem_toArray, List.getElem_cons_zero, List.getElem_cons_succ, Act.put, List.setIfInBounds_toArray, List.set_cons_zero, List.set_cons_succ]
              refine wpAnyH_take (i := 2) (v := (.int .i64 (j : Int))) rfl (by kernel_rfl) (by kernel_rfl) (by kernel_rfl) (fun _ _ _ h => h) (Or.inl ⟨by rfl, fun w hSw => by go_simp⟩) h0 ?_
              try simp only [List.getElem_toArray, List.getElem_cons_zero, List.getElem_cons_succ, Act.put, List.setIfInBounds_toArray, List.set_cons_zero, List.set_cons_succ]
              refine wpAnyH_take (i := 3) (v := (.pointer (some ⟨b, off + j * 2, none⟩))) rfl (by kernel_rfl) (by kernel_rfl) (by kernel_rfl) (fun _ _ _ h => h) (Or.inl ⟨by rfl, fun w hSw => by go_simp⟩) h0 ?_
              try simp only [List.getElem_toArray, List.getElem_cons_zero, List.getElem_cons_succ, Act.put, List.setIfInBounds_toArray, List.set_cons_zero, List.set_cons_succ]
              refine wpAnyH_take (i := 4) (v := (.agg #[encStr x1, encStr x2])) rfl (by kernel_rfl) (by kernel_rfl) (by kernel_rfl) (fun _ _ _ h => h) (Or.inl ⟨by rfl, fun w hSw => by have c := Kept.cellOf hSw hcc.1 (by simp); have d := Kept.cellOf hSw hcc.2 (by simp); go_simp⟩) h0 ?_
              try simp only [List.getElem_toArray, List.getElem_cons_zero, List.getElem_cons_succ, Act.put, List.setIfInBounds_toArray, List.set_cons_zero, List.set_cons_succ]
              refine wpAnyH_ready (rs := [5]) (by kernel_rfl) (by simp) (AllReadyH.cons (i := 5) rfl (fun K hK => ?_) AllReadyH.nil)
              rw [if_pos (by rfl)]
              go_simp
              refine (hmv _ hF0).mono ?_
              rintro e v1 ⟨rfl, hF1⟩
              refine hK.out _ _ hF1.old (fun h1 => ?_)
              clear hK K hF0 hmv h0
              try simp only [List.getElem_toArray, List.getElem_cons_zero, List.getElem_cons_succ, Act.put, List.setIfInBounds_toArray, List.set_cons_zero, List.set_cons_succ]
              have H1 := hide hF1
              clear hF1
              refine wpAnyH_take (i := 6) (v := (.bool false)) rfl (by kernel_rfl) (by kernel_rfl) (by kernel_rfl) (fun _ _ _ h => h) (Or.inl ⟨by rfl, fun w hSw => by go_simp⟩) h1 ?_
              try simp only [List.getElem_toArray, List.getElem_cons_zero, List.getElem_cons_succ, Act.put, List.setIfInBounds_toArray, List.set_cons_zero, List.set_cons_succ]
              refine wpAnyH_take (i := 7) (v := (.bool false)) rfl (by kernel_rfl) (by kernel_rfl) (by kernel_rfl) (fun _ _ _ h => h) (Or.inl ⟨by rfl, fun w hSw => by go_simp⟩) h1 ?_
              try simp only [List.getElem_toArray, List.getElem_cons_zero, List.getElem_cons_succ, Act.put, List.setIfInBounds_toArray, List.set_cons_zero, List.set_cons_succ]
              refine wpAnyH_take (i := 8) (v := undef) rfl (by kernel_rfl) (by kernel_rfl) (by kernel_rfl) (fun _ _ _ h => h) (Or.inr ⟨by rfl, rfl⟩) h1 ?_
              try simp only [List.getElem_toArray, List.getElem_cons_zero, List.getElem_cons_succ, Act.put, List.setIfInBounds_toArray, List.set_cons_zero, List.set_cons_succ]
              refine wpAnyH_take (i := 9) (v := undef) rfl (by kernel_rfl) (by kernel_rfl) (by kernel_rfl) (fun _ _ _ h => h) (Or.inr ⟨by rfl, rfl⟩) h1 ?_
              try simp only [List.getElem_toArray, List.getElem_cons_zero, List.getElem_cons_succ, Act.put, List.setIfInBounds_toArray, List.set_cons_zero, List.set_cons_succ]
              refine wpAnyH_take (i := 10) (v := undef) rfl (by kernel_rfl) (by kernel_rfl) (by kernel_rfl) (fun _ _ _ h => h) (Or.inr ⟨by rfl, rfl⟩) h1 ?_
              try simp only [List.getElem_toArray, List.getElem_cons_zero, List.getElem_cons_succ, Act.put, List.setIfInBounds_toArray, List.set_cons_zero, List.set_cons_succ]
              refine wpAnyH_take (i := 11) (v := undef) rfl (by kernel_rfl) (by kernel_rfl) (by kernel_rfl) (fun _ _ _ h => h) (Or.inr ⟨by rfl, rfl⟩) h1 ?_
              try simp only [List.getElem_toArray, List.getElem_cons_zero, List.getElem_cons_succ, Act.put, List.setIfInBounds_toArray, List.set_cons_zero, List.set_cons_succ]
              refine wpAnyH_take (i := 12) (v := undef) rfl (by kernel_rfl) (by kernel_rfl) (by kernel_rfl) (fun _ _ _ h => h) (Or.inr ⟨by rfl, rfl⟩) h1 ?_
              try simp only [List.getElem_toArray, List.getElem_cons_zero, List.getElem_cons_succ, Act.put, List.setIfInBounds_toArray, List.set_cons_zero, List.set_cons_succ]
              refine wpAnyH_take (i := 13) (v := undef) rfl (by kernel_rfl) (by kernel_rfl) (by kernel_rfl) (fun _ _ _ h => h) (Or.inr ⟨by rfl, rfl⟩) h1 ?_
              try simp only [List.getElem_toArray, List.getElem_cons_zero, List.getElem_cons_succ, Act.put, List.setIfInBounds_toArray, List.set_cons_zero, List.set_cons_succ]
              refine wpAnyH_take (i := 14) (v := undef) rfl (by kernel_rfl) (by kernel_rfl) (by kernel_rfl) (fun _ _ _ h => h) (Or.inr ⟨by rfl, rfl⟩) h1 ?_
              try simp only [List.getElem_toArray, List.getElem_cons_zero, List.getElem_cons_succ, Act.put, List.setIfInBounds_toArray, List.set_cons_zero, List.set_cons_succ]
              refine wpAnyH_take (i := 15) (v := undef) rfl (by kernel_rfl) (by kernel_rfl) (by kernel_rfl) (fun _ _ _ h => h) (Or.inr ⟨by rfl, rfl⟩) h1 ?_
              try simp only [List.getElem_toArray, List.getElem_cons_zero, List.getElem_cons_succ, Act.put, List.setIfInBounds_toArray, List.set_cons_zero, List.set_cons_succ]
              refine wpAnyH_take (i := 16) (v := undef) rfl (by kernel_rfl) (by kernel_rfl) (by kernel_rfl) (fun _ _ _ h => h) (Or.inr ⟨by rfl, rfl⟩) h1 ?_
              try simp only [List.getElem_toArray, List.getElem_cons_zero, List.getElem_cons_succ, Act.put, List.setIfInBounds_toArray, List.set_cons_zero, List.set_cons_succ]
              refine wpAnyH_take (i := 17) (v := undef) rfl (by kernel_rfl) (by kernel_rfl) (by kernel_rfl) (fun _ _ _ h => h) (Or.inr ⟨by rfl, rfl⟩) h1 ?_
              try simp only [List.getElem_toArray, List.getElem_cons_zero, List.getElem_cons_succ, Act.put, List.setIfInBounds_toArray, List.set_cons_zero, List.set_cons_succ]
              refine wpAnyH_take (i := 18) (v := undef) rfl (by kernel_rfl) (by kernel_rfl) (by kernel_rfl) (fun _ _ _ h => h) (Or.inr ⟨by rfl, rfl⟩) h1 ?_
              try simp only [List.getElem_toArray, List.getElem_cons_zero, List.getElem_cons_succ, Act.put, List.setIfInBounds_toArray, List.set_cons_zero, List.set_cons_succ]
              refine wpAnyH_take (i := 19) (v := (.bool false)) rfl (by kernel_rfl) (by kernel_rfl) (by kernel_rfl) (fun _ _ _ h => h) (Or.inl ⟨by rfl, fun w hSw => by go_simp⟩) h1 ?_
              try simp only [List.getElem_toArray, List.getElem_cons_zero, List.getElem_cons_succ, Act.put, List.setIfInBounds_toArray, List.set_cons_zero, List.set_cons_succ]
              refine wpAnyH_done (by kernel_rfl) ?_ _
              go_wp2
              refine ⟨⟨j + 1, by omega, by go_num, vo, dl, vk, rfl, by omega, hide ⟨_, D, HM1.out, hDl, H1.out.mono (by omega) (by omega)⟩⟩, by simp [intOf]; omega⟩
        · skip
          have hjm : j = m := by omega
          subst hjm
          have HDL := hide hDl
          have hws := hF.tw.wf1
          have hwt := hF.tw.wf2
          have hrt := hide (rnd_tmod pick dl)
          have hdl2 : dl ≤ 60 := by omega
          have hb1 : -((dl : Int) + 1) < pick.tmod ((dl : Int) + 1) := Int.lt_tmod_of_pos pick (by omega)
          have hb2 : pick.tmod ((dl : Int) + 1) < (dl : Int) + 1 := Int.tmod_lt_of_pos pick (by omega)
          have HF := hide hF
          have HMo := hide hMo
          have hnz : ¬ ((dl : Int) + 1 = 0) := by omega
          clear hF hMo hDl
          go_upto_if 131 with (fail)
          go_cut [14] from 125 to 160 (fun kv wx => kv = .int .i64 (rnd pick dl : Nat) ∧ wx = wr)
          case first =>
            by_cases hneg : pick.tmod ((dl : Int) + 1) < 0
            · have hq := hrt.out
              rw [if_pos hneg] at hq
              have hw1 : wrap64 (pick.tmod ((dl : Int) + 1) + (dl : Int)) = pick.tmod ((dl : Int) + 1) + (dl : Int) := by unfold wrap64; omega
              have hw2 : wrap64 (pick.tmod ((dl : Int) + 1) + (dl : Int) + 1) = pick.tmod ((dl : Int) + 1) + (dl : Int) + 1 := by unfold wrap64; omega
              have HQ := hide hq
              clear hq
              go_wp2
              go_meet
              case rel => exact ⟨by rw [← HQ.out], rfl⟩
            · have hq := hrt.out
              rw [if_neg hneg] at hq
              have HQ := hide hq
              clear hq
              go_wp2
              go_meet
              case rel => exact ⟨by rw [← HQ.out], rfl⟩
          case rest =>
            obtain ⟨rfl, hwc⟩ := hcut
            subst hwc
            have hkl := rnd_le pick dl
            generalize hKe : rnd pick dl = kk at *
            have HKE := hide hKe
            clear hKe hb1 hb2 hnz hrt
            go_upto_region 27 with (fail)
            go_loopw [15] (fun i wx => ∃ a : Nat, a ≤ kk ∧ i = .int .i64 a ∧ Hid (∃ T1, Fo T1 S.shown T.th D a ∧ Frs w wx p q S1 T1 (300 + 2 * j) (300 + 2 * a) (.slice vo dl vk) D)) (fun i wx => kk - (intOf i).toNat)
            case atStart => exact ⟨0, Nat.zero_le _, rfl, hide ⟨T, ⟨HT.out.2, by rw [HT.out.1]; rfl, rfl⟩, HF.out⟩⟩
            case round =>
              obtain ⟨a, ha, rfl, HR⟩ := hrel
              obtain ⟨T1, hFo, hF⟩ := HR.out
              clear HR HF
              by_cases hlt3 : a < kk
              · have haD : a < D.length := by rw [HDL.out]; omega
                have hget : D[a]? = some D[a] := List.getElem?_eq_getElem haD
                obtain ⟨g, rfl, e0, e1⟩ := hF.at hget
                obtain ⟨hz, hFo2⟩ := hFo.step HMo.out.can hget
                obtain ⟨_, hn1, hn2, _⟩ := HMo.out.can.at hget
                generalize D[a] = x at *
                obtain ⟨x1, x2⟩ := x
                have hl1 : x1.length ≤ 4611686018427387904 := by have := isNm_len hn1; simp only at this; omega
                have hl2 : x2.length ≤ 4611686018427387904 := by
                  rcases hn2 with h | h
                  · simp only at h; rw [h]; simp
                  · have := isNm_len h; simp only at this; omega
                have hmv := fr_move2 hF (by omega) (x1, x2) hl1 hl2
                rw [hz] at hmv
                have hal : (a : Int) < (dl : Int) := by omega
                simp only at e0 e1 hmv
                have HFo := hide hFo2
                clear hFo hz hFo2 hn1 hn2 hget haD hF
                as_aux_lemma =>
                  go_wp2_with (go_at_call 22; refine hmv.mono ?_; rintro e w4 ⟨rfl, hF4⟩; have H4 := hide hF4; clear hF4 hmv e0 e1)
                  refine ⟨⟨a + 1, by omega, by go_num, hide ⟨_, HFo.out, H4.out.mono (by omega) (by omega)⟩⟩, by simp [intOf]; omega⟩
              · have hak : a = kk := by omega
                subst hak
                have hfin : (S1.crash [pick]).files = T1.files := by
                  have h1 := HKE.out
                  rw [← HDL.out] at h1
                  rw [← h1] at hFo
                  exact front_end HMo.out hF.tw.wf1 pick hFo HM.out.2
                have hcr := fr_crash1 hF (by omega) pick hpk
                have HFI := hide hfin
                clear hfin hF hFo
                as_aux_lemma =>
                  go_wp2_with (first
                    | (go_at_call 18; refine hcr.mono ?_; rintro e w5 ⟨rfl, hF5⟩; have hf1 := fr_files1 hF5 (by omega); have H5 := hide hF5; clear hF5 hcr)
                    | (go_at_call 19; refine hf1.mono ?_; rintro e w6 ⟨vo6, vk6, rfl, hi6, hk6⟩; have hF6 := H5.out.kept hk6; have hf2 := fr_files2 hF6 (by omega); have I6 := hide hi6; have H6 := hide hF6; clear hf1 hi6 hk6 hF6 H5)
                    | (go_at_call 19; refine hf2.mono ?_; rintro e w7 ⟨vo7, vk7, rfl, hi7, hk7⟩; have hF7 := H6.out.kept hk7; rw [HFI.out] at I6; have hfs := files_small2 hF7.tw.bd2 hF7.tw.wf2; have hcf := files_yes vo6 vo7 T1.files.length vk6 vk7 T1.files w7 rfl (by omega) (fun f hf => by have := hfs.2 f hf; omega) (I6.out.kept hk7) hi7; rw [HFI.out]; have K7 := hide hF7.old; clear hf2 hi7 hk7 hF7 H6 hfs)
                    | (go_at_call 23; refine hcf.mono ?_; rintro e w8 ⟨rfl, j8, hw8⟩; have K8 : Hid (Kept [] w w8) := hide (K7.out.trans (by rw [hw8]; exact (Kept.refl [] w7).drewN _) (by simp)); clear hcf hw8 K7 j8)
                    | (go_at_call 21; refine (known_ok _).mono ?_; rintro e w9 ⟨rfl, hk9⟩; have K9 := hide hk9; clear hk9))
                  go_ret
                  exact ⟨rfl, (K8.out.trans K9.out (by simp)).below (Nat.le_refl _) (by simp)⟩
end Go.Proofs.Ytcmiehfahdbffac
