/-
  DiskSafe: the walk. (Written by tools/sb.py.)
-/
import Derived.Test.YtcmiehfahdbffabKh
import Derived.Test.YtcmiehfahdbffabSa
import Derived.Test.YtcmiehfahdbffabIg
import Derived.Test.YtcmiehfahdbffabJa
import Derived.Deep.CutRange
namespace Go.Proofs.Ytcmiehfahdbffab
open Go.RowKit Dsk
set_option linter.unusedVariables false
set_option linter.unusedSimpArgs false
section
variable {w0 w : World} {p : Nat} {S : Ds} {N : Nat}
theorem filesL_at (h : At w0 w p S N) (hN : N ≤ 268435456) {L : List (By × By)} (hL : S.files = L) : Calls Try.prog 8 #[.pointer (some ⟨p, 0, none⟩)] w fun e w' => ∃ vo vk, e = .returned (.slice vo L.length vk) ∧ Fis w' vo L ∧ Kept [] w w' := by
  refine (files_at h hN).mono ?_
  rintro e w' ⟨v, vs, rfl, h1, h2⟩
  subst hL
  obtain ⟨vo, vk, rfl, _⟩ := own_shape h1.row
  exact ⟨vo, vk, rfl, (Fis.of h1).1, h2⟩
theorem safeL_at (h : At w0 w p S N) (hN : N ≤ 268435456) {L : List (By × By)} (hL : S.safeFiles = L) : Calls Try.prog 9 #[.pointer (some ⟨p, 0, none⟩)] w fun e w' => ∃ vo vk, e = .returned (.slice vo L.length vk) ∧ Fis w' vo L ∧ Kept [] w w' := by
  obtain ⟨A, o, hP, ho, hw, hb⟩ := h
  refine (safe_ok hP hb hN).mono ?_
  rintro e w' ⟨v, vs, rfl, h1, h2⟩
  subst hL
  obtain ⟨vo, vk, rfl, _⟩ := own_shape h1.row
  exact ⟨vo, vk, rfl, (Fis.of h1).1, h2⟩
theorem twin_at (h : At w0 w p S N) (hN : N ≤ 268435456) : Calls Try.prog 19 #[.pointer (some ⟨p, 0, none⟩)] w fun e w' => ∃ q, e = .returned (.pointer (some ⟨q, 0, none⟩)) ∧ At w w' q S.compact N := by
  obtain ⟨A, o, hP, ho, hw, hb⟩ := h
  exact twin_ok hP hb hN
theorem crash0_at (h : At w0 w p S N) (hN : N ≤ 268435456) : Calls Try.prog 20 #[.pointer (some ⟨p, 0, none⟩), .slice none 0 0] w fun e w' => e = .returned (.tuple #[]) ∧ At w0 w' p (S.crash []) N :=
  crash_at h (Kept.refl [] w) hN (n := 0) (ps := []) rfl (fun i hi => absurd hi (by simp)) (fun i => by simp; decide) (by omega) (fun h => absurd rfl h)
end
theorem Ax.toAt {X : Nat → Prop} {w0 wa w : World} {p : Nat} {S : Ds} {N : Nat} (h : Ax X wa w p S N) (hX : ∀ b, b < w0.heap.size → X b) (hk : Kept [] w0 wa) : At w0 w p S N := by
  obtain ⟨A, o, h1, h2, h3, h4⟩ := h
  refine ⟨A, o, h1, fun b hb => ?_, ⟨h3.os.trans hk.os, h3.tape.trans hk.tape, h3.output.trans hk.output, Nat.le_trans hk.size h3.size, fun i hi _ => (h3.block i (Nat.lt_of_lt_of_le hi hk.size) (fun hn => hn (hX i hi))).trans (hk.block i hi (by simp))⟩, h4⟩
  apply Classical.byContradiction
  intro hn
  exact hb (h2 b (hX b (by omega))).1
theorem files_sml {S : Ds} {N : Nat} (hb : S.Bd N) (hw : S.Wf) (hN : N ≤ 268435456) : S.files.length ≤ 4611686018427387904 ∧ ∀ f ∈ S.files, f.2.length ≤ 4611686018427387904 := by
  refine ⟨by have := hb.shown hw; simp only [Ds.files, List.length_map]; omega, fun f hf => ?_⟩
  obtain ⟨x, hx, rfl⟩ := List.mem_map.1 hf
  have := hb.len hw (hw.slt (n := x.1) hx)
  show (S.th x.2).shown.length ≤ _
  omega
theorem safe_sml {S : Ds} {N : Nat} (hb : S.Bd N) (hw : S.Wf) (hN : N ≤ 268435456) : S.safeFiles.length ≤ 4611686018427387904 ∧ ∀ f ∈ S.safeFiles, f.2.length ≤ 4611686018427387904 := by
  refine ⟨by have := hb.nm; simp only [Ds.safeFiles, List.length_map]; omega, fun f hf => ?_⟩
  obtain ⟨x, hx, rfl⟩ := List.mem_map.1 hf
  have := hb.th x.2 (hw.lt _ (List.mem_append_left _ (List.mem_map.2 ⟨x, hx, rfl⟩)))
  show (S.th x.2).safe.length ≤ _
  omega
theorem seven_row (w : World) : Kept [] w (w.alloc (.cells #[.int .i64 7, .int .i64 7, .int .i64 7] 3)) ∧ Ints (w.alloc (.cells #[.int .i64 7, .int .i64 7, .int .i64 7] 3)) (some ⟨w.heap.size, 0, none⟩) [7, 7, 7] := by
  refine ⟨(Kept.refl [] w).alloc _, fun i hi => ?_⟩
  have hb := (MapKept.heap_alloc w (.cells #[.int .i64 7, .int .i64 7, .int .i64 7] 3)).1
  have hi3 : i < 3 := hi
  refine ⟨w.heap.size, 0, rfl, ?_⟩
  rw [Nat.zero_add, cell_of_row _ _ i _ _ _ hb]
  match i, hi3 with
  | 0, _ => rfl
  | 1, _ => rfl
  | 2, _ => rfl

set_option maxHeartbeats 8000000 in
set_option maxRecDepth 100000 in
theorem safe_walk (r : Int) (ao : Option Addr) (n cap : Nat) (bo : Option Addr) (m mcap : Nat) (L : List Stp) (ps : List Int) (w : World) (hl : L.length = n) (hs : Scr w ao L) (hn : n ≤ 9223372036854775807) (hp : ps.length = m ∧ m ≤ mcap ∧ m ≤ 17592186044416 ∧ Ints w bo ps ∧ (∀ i, (Lit.int .i64 (ps.getD i 0)).wf = true) ∧ (bo = none → m = 0 ∧ mcap = 0)) (hrw : (Lit.int .i64 r).wf = true) :
    Calls Try.prog 4 #[.int .i64 r, .slice ao n cap, .slice bo m mcap] w fun e w' => e = .returned (.bool true) ∧ Below w.heap.size w w' := by
  have hlg := long_any ao n cap L w hl hn hs
  have hlg' : Calls Try.prog 5 #[.slice ao n cap] w fun e w' => (e = .returned (.bool true) ∨ e = .returned (.bool false)) ∧ Kept [] w w' := hlg.mono (fun e w' ⟨h1, h2⟩ => ⟨h1.elim .inl (fun h => .inr h.1), h2⟩)
  by_cases h400 : 400 < m
  · clear hlg hs hp
    go_enter Try.func4, Try.ntmps4
    go_wp2_with (go_at_call 5; refine hlg'.mono ?_; rintro e w1 ⟨rfl | rfl, hk⟩)
    all_goals (go_ret; exact ⟨rfl, hk.below (Nat.le_refl _) (by simp)⟩)
  by_cases hr1 : r < 1
  · clear hlg hs hp
    go_enter Try.func4, Try.ntmps4
    go_wp2_with (go_at_call 5; refine hlg'.mono ?_; rintro e w1 ⟨rfl | rfl, hk⟩)
    all_goals (go_ret; exact ⟨rfl, hk.below (Nat.le_refl _) (by simp)⟩)
  by_cases hr2 : 1048576 < r
  · clear hlg hs hp
    go_enter Try.func4, Try.ntmps4
    go_wp2_with (go_at_call 5; refine hlg'.mono ?_; rintro e w1 ⟨rfl | rfl, hk⟩)
    all_goals (go_ret; exact ⟨rfl, hk.below (Nat.le_refl _) (by simp)⟩)
  have hrE : roomE r = 0 := by unfold roomE; simp; omega
  have hnw := fun (v : World) => new_at r v hrw
  rw [hrE] at hnw
  have HS : Hid (Scr w ao L) := hs
  have HL : Hid (L.length = n) := hl
  have HPK := hide hp
  clear hs hl hrE hlg' hp
  go_enter Try.func4, Try.ntmps4
  go_upto_region 7 with (first
    | (go_at_call 5; refine hlg.mono ?_; rintro e w1 ⟨he, hk1⟩; clear hlg; rcases he with rfl | ⟨rfl, hsh⟩)
    | (go_at_call 6; refine (hnw w1).mono ?_; rintro e w2 ⟨v, rfl, hk2, hn2, _⟩; obtain ⟨p, rfl, hat⟩ := hn2 (by first | trivial | rfl); have H2 := hide hat; clear hat hn2 hnw))
  all_goals (try (go_ret; exact ⟨rfl, hk1.below (Nat.le_refl _) (by simp)⟩))
  have hk12 : Hid (Kept [] w w2) := hide (hk1.trans hk2 (by simp))
  have HC : Hid (costs L ≤ 100000) := hide hsh.2
  have hn3 : n ≤ 300 := by rw [← HL.out]; exact hsh.1
  clear hsh
  go_loopw [9] (fun i wr => ∃ k : Nat, k ≤ n ∧ i = .int .i64 k ∧ Hid (At w1 wr p (playD (Ds.fresh r.toNat) (L.take k)) (costs (L.take k) + 3 * k))) (fun i wr => n - (intOf i).toNat)
  case atStart => exact ⟨0, Nat.zero_le _, rfl, by simpa [playD, costs] using H2⟩
  case round =>
    clear H2
    obtain ⟨k, hk, rfl, HA⟩ := hrel
    by_cases hlt : k < n
    · have hkL : k < L.length := by rw [HL.out]; exact hlt
      obtain ⟨b, off, rfl, _, hcs⟩ := HS.out.open (List.length_pos_iff.1 (by omega))
      obtain ⟨hc, hin⟩ := hcs k hkL
      have hkx : Kept [] w wr := hk1.trans HA.out.old (by simp)
      have hin' := hin.kept hkx
      have hcost := cost_at hkL
      have hcc := HC.out
      have hco : (L.getD k stp0).cost = (L.getD k stp0).dn + 8 * (L.getD k stp0).pn := rfl
      have hdo := do_ok HA.out (L.getD k stp0) hin' (by omega) (by omega)
      have HST : Hid (∀ v, At w1 v p (stepD (playD (Ds.fresh r.toNat) (L.take k)) (L.getD k stp0)).2 (costs (L.take k) + 3 * k + (L.getD k stp0).dn + 3) → At w1 v p (playD (Ds.fresh r.toNat) (L.take (k + 1))) (costs (L.take (k + 1)) + 3 * (k + 1))) := fun v hv => by
        rw [stp_snoc L k hkL, playD_snoc, costs_snoc]
        exact hv.mono (by omega)
      have c0 := hkx.cellOf (hc 0 _ rfl) (by simp)
      have c1 := hkx.cellOf (hc 1 _ rfl) (by simp)
      have c2 := hkx.cellOf (hc 2 _ rfl) (by simp)
      have c3 := hkx.cellOf (hc 3 _ rfl) (by simp)
      have c4 := hkx.cellOf (hc 4 _ rfl) (by simp)
      have c5 := hkx.cellOf (hc 5 _ rfl) (by simp)
      have c6 := hkx.cellOf (hc 6 _ rfl) (by simp)
      have c7 := hkx.cellOf (hc 7 _ rfl) (by simp)
      have c8 := hkx.cellOf (hc 8 _ rfl) (by simp)
      have c9 := hkx.cellOf (hc 9 _ rfl) (by simp)
      rw [Nat.mul_comm 10 k] at c0 c1 c2 c3 c4 c5 c6 c7 c8 c9
      rw [Nat.add_zero] at c0
      generalize L.getD k stp0 = s at *
      have hdo' : Calls Try.prog 13 #[.pointer (some ⟨p, 0, none⟩), .agg #[.int .i64 s.kind, encStr s.name, encStr s.to, .int .i64 s.at_, .int .i64 s.n, .slice s.da s.dn s.dc, .int .i64 s.po, .int .i64 s.pf, .int .i64 s.pt, .slice s.pa s.pn s.pc]] wr fun e w' => ∃ E, e = .returned (.int .i64 E) ∧ Hid (At w1 w' p (playD (Ds.fresh r.toNat) (L.take (k + 1))) (costs (L.take (k + 1)) + 3 * (k + 1))) := hdo.mono (fun e w' ⟨h1, h2⟩ => ⟨_, h1, hide (HST.out _ h2)⟩)
      clear hdo HST hin hin' hcs hc hcost hcc hco HA hkx hkL
      go_wp2_with (go_at_call 13; refine hdo'.mono ?_; rintro e w3 ⟨E, rfl, HA3⟩; clear hdo')
      go_roundw
      case rel => exact ⟨k + 1, by omega, by go_num, HA3⟩
      case measure => simp [intOf]; omega
    · have hkn : k = n := by omega
      subst hkn
      have HA1 : Hid (At w1 wr p (playD (Ds.fresh r.toNat) L) 100900) := hide (by
        have := HA.out
        rw [List.take_of_length_le (by rw [HL.out]; omega)] at this
        exact this.mono (by have := HC.out; omega))
      clear HA
      generalize playD (Ds.fresh r.toNat) L = S at HA1
      have hwf := HA1.out.wf
      have hbd := HA1.out.bd
      have HSM := hide (safe_sml hbd hwf (by omega))
      have HM2 := hide (files_sml (hbd.compact hwf |>.crash hwf.compact ps) (hwf.compact.crash ps) (by omega))
      have e1f : (S.compact.crash []).files = S.safeFiles := by rw [crash_none hwf.compact, Ds.compact_safeFiles]
      have e1s : (S.compact.crash []).safeFiles = S.safeFiles := by rw [crash_safe, e1f]
      have e2s : (S.compact.crash ps).safeFiles = (S.compact.crash ps).files := crash_safe _ _
      have e3f : ((S.compact.crash ps).crash [7, 7, 7]).files = (S.compact.crash ps).files := (crash_allSafe _ _).crash _
      have hsf := safeL_at HA1.out (by omega) (L := S.safeFiles) rfl
      have HE := hide (And.intro e1f (And.intro e1s (And.intro e2s e3f)))
      have hww : w.heap.size ≤ w1.heap.size := hk1.size
      have H400 : Hid (m ≤ 400) := hide (by omega)
      clear e1f e1s e2s e3f hbd hr1 hr2 h400
      go_upto_region 25 with (first
        | (go_at_call 9; refine hsf.mono ?_; rintro e w3 ⟨lo3, lc3, rfl, hi3, hk3⟩; have hd3 := HA1.out.kept hk3; have htw := twin_at hd3 (by omega); have I3 := hide hi3; have D3 := hide hd3; clear hsf hi3 hk3 hd3)
        | (go_at_call 19; refine htw.mono ?_; rintro e w4 ⟨q, rfl, ht4⟩; have hcr := crash0_at ht4 (by omega); clear htw ht4)
        | (go_at_call 20; refine hcr.mono ?_; rintro e w5 ⟨rfl, ht5⟩; have hf1 := filesL_at ht5 (by omega) HE.out.1; have T5 := hide ht5; clear hcr ht5)
        | (go_at_call 8; refine hf1.mono ?_; rintro e w6 ⟨lo6, lc6, rfl, hi6, hk6⟩; have ht6 := T5.out.kept hk6; have hcf := files_yes lo6 lo3 S.safeFiles.length lc6 lc3 S.safeFiles w6 rfl HSM.out.1 HSM.out.2 hi6 (I3.out.kept ht6.old); have T6 := hide ht6; clear hf1 hi6 hk6 ht6 T5)
        | (go_at_call 17; refine hcf.mono ?_; rintro e w7 ⟨rfl, j7, hw7⟩; have hk7 : Kept [] w6 w7 := (by rw [hw7]; exact (Kept.refl [] w6).drewN _); have ht7 := T6.out.kept hk7; have hsf2 := safeL_at ht7 (by omega) HE.out.2.1; have T7 := hide ht7; clear hcf hw7 hk7 ht7 T6 j7)
        | (go_at_call 9; refine hsf2.mono ?_; rintro e w8 ⟨lo8, lc8, rfl, hi8, hk8⟩; have ht8 := T7.out.kept hk8; have hcf2 := files_yes lo8 lo3 S.safeFiles.length lc8 lc3 S.safeFiles w8 rfl HSM.out.1 HSM.out.2 hi8 (I3.out.kept ht8.old); have T8 := hide ht8; clear hsf2 hi8 hk8 ht8 T7)
        | (go_at_call 17; refine hcf2.mono ?_; rintro e w9 ⟨rfl, j9, hw9⟩; have hk9 : Kept [] w8 w9 := (by rw [hw9]; exact (Kept.refl [] w8).drewN _); have ht9 := T8.out.kept hk9; have hof := off_at ht9; have hst := strokes_at ht9; have hd9 := D3.out.kept ht9.old; have htw2 := twin_at hd9 (by omega); have D9 := hide hd9; clear hcf2 hw9 hk9 ht9 T8 j9 D3 I3 hd9)
        | (go_at_call 12; have Ha := D9; refine hof.mono ?_; rintro e w' ⟨rfl, hw⟩; obtain rfl := hw.symm; clear hof Ha)
        | (go_at_call 11; refine hst.mono ?_; rintro e w' ⟨rfl, hw⟩; obtain rfl := hw.symm; clear hst)
        | (go_at_call 19; refine htw2.mono ?_; rintro e w10 ⟨q2, rfl, ht10⟩; have hcr2 := crash_at ht10 (Kept.refl [] w10) (by omega) (n := m) (c := mcap) (ps := ps) HPK.out.1 (fun i hi => by
              obtain ⟨b, off, e, hc⟩ := HPK.out.2.2.2.1 i hi
              exact ⟨b, off, e, ((hk1.trans D9.out.old (by simp)).trans ht10.old (by simp)).cellOf hc (by simp)⟩) HPK.out.2.2.2.2.1 (by have := H400.out; omega) (fun hd a ha => .inr (by
              obtain ⟨b, off, e, hc⟩ := HPK.out.2.2.2.1 0 (List.length_pos_iff.2 hd)
              rw [e] at ha
              cases ha
              have h1 : b < w.heap.size := World.block_lt_of_cell? _ _ hc
              have h2 := D9.out.old.size
              show b < w9.heap.size
              omega)); clear htw2 ht10)
        | (go_at_call 20; refine hcr2.mono ?_; rintro e w11 ⟨rfl, ht11⟩; have hf2 := files_at ht11 (by omega); have T11 := hide ht11; clear hcr2 ht11)
        | (go_at_call 8; refine hf2.mono ?_; rintro e w12 ⟨v12, vs12, rfl, hF12, hk12'⟩; obtain ⟨lo12, lc12, rfl, _⟩ := own_shape hF12.row; have hx12 := T11.out.ax.more hk12'; have S12 : Hid (Stay (More (fun b => b < w9.heap.size) w11 w12) w12 (fun v => Fis v lo12 (S.compact.crash ps).files)) := hide ((Stay.fls hF12).imp (fun v hv => (Fis.of hv).1)); have K12 := hide (T11.out.old.trans hk12' (by simp)); have X12 := hide hx12; have hsf3 := safeL_at (T11.out.kept hk12') (by omega) HE.out.2.2.1; clear hf2 hF12 hk12' hx12 T11)
        | (go_at_call 9; refine hsf3.mono ?_; rintro e w13 ⟨lo13, lc13, rfl, hi13, hk13⟩; have hcf3 := files_yes lo13 lo12 (S.compact.crash ps).files.length lc13 lc12 (S.compact.crash ps).files w13 rfl HM2.out.1 HM2.out.2 hi13 (S12.out _ (Keep.ofNone hk13)); have X13 := hide (X12.out.kept hk13); clear hsf3 hi13 hk13 X12)
        | (go_at_call 17; refine hcf3.mono ?_; rintro e w14 ⟨rfl, j14, hw14⟩; have hk14 : Kept [] w13 w14 := (by rw [hw14]; exact (Kept.refl [] w13).drewN _); have hx14 := X13.out.kept hk14; have hcr3 := crash_ax hx14 (seven_row w14).1 (by omega) (n := 3) (c := 3) (ps := [7, 7, 7]) rfl (seven_row w14).2 (fun i => by
              match i with
              | 0 => decide
              | 1 => decide
              | 2 => decide
              | (i + 3) => simp; decide) (by omega) (fun _ a ha => by cases ha; exact .inl (Nat.le_refl _)); clear hcf3 hw14 hk14 hx14 X13 j14)
        | (go_at_call 20; refine hcr3.mono ?_; rintro e w15 ⟨rfl, hx15⟩; have ht15 := hx15.toAt (w0 := w9) (fun b hb => .inl hb) K12.out; have hf4 := filesL_at ht15 (by omega) HE.out.2.2.2; have I15 := hide (S12.out w15 hx15.old); have T15 := hide ht15; clear hcr3 hx15 ht15 S12 K12)
        | (go_at_call 8; refine hf4.mono ?_; rintro e w16 ⟨lo16, lc16, rfl, hi16, hk16⟩; have hcf4 := files_yes lo16 lo12 (S.compact.crash ps).files.length lc16 lc12 (S.compact.crash ps).files w16 rfl HM2.out.1 HM2.out.2 hi16 (I15.out.kept hk16); have K16 := hide (T15.out.old.trans hk16 (by simp)); clear hf4 hi16 hk16 T15 I15)
        | (go_at_call 17; refine hcf4.mono ?_; rintro e w17 ⟨rfl, j17, hw17⟩; have hk17 : Kept [] w16 w17 := (by rw [hw17]; exact (Kept.refl [] w16).drewN _); have hd17 := D9.out.kept (K16.out.trans hk17 (by simp)); have D17 := hide hd17; have hof2 := off_at hd17; clear hcf4 hw17 hk17 hd17 K16 D9 j17))
      by_cases hon : S.on = true
      · have hpl := plan_at D17.out 0 0 0 ⟨by decide, by decide, by decide⟩
        have HS0 := hide (Syn.start hon)
        have HWF0 := hide (hwf.setPlan 0 0 0)
        rw [hon] at hof2
        clear HE HSM HM2 HWF0 hwf hon HA1
        generalize S.setPlan 0 0 0 = S0 at hpl HS0
        go_upto_region 30 with (first
          | (go_at_call 12; refine hof2.mono ?_; rintro e w' ⟨rfl, hw⟩; obtain rfl := hw.symm; clear hof2)
          | (go_at_call 21; refine hpl.mono ?_; rintro e w18 ⟨rfl, hd18⟩; have hf5 := files_at hd18 (by omega); have D18 := hide hd18; clear hpl hd18 D17)
          | (go_at_call 8; refine hf5.mono ?_; rintro e w19 ⟨v19, vs19, rfl, hF19, hk19⟩; obtain ⟨lo19, lc19, rfl, _⟩ := own_shape hF19.row; have S19 : Hid (Stay (More (fun b => b < w1.heap.size) w18 w19) w19 (fun v => Fls v w18.heap.size (.slice lo19 S0.files.length lc19) S0.files vs19)) := hide (Stay.fls hF19); have X19 := hide (D18.out.ax.more hk19); have K19 := hide (D18.out.old.trans hk19 (by simp)); clear hf5 hF19 hk19))
        have HFS := hide (files_sml D18.out.bd D18.out.wf (by omega))
        have HMl : Hid (S0.files.length ≤ 100900) := hide (by have := D18.out.bd.shown D18.out.wf; simpa [Ds.files] using this)
        have hX0 : Hid (∀ b, b < w1.heap.size → More (fun b => b < w1.heap.size) w18 w19 b) := hide (fun b hb => .inl hb)
        generalize More (fun b => b < w1.heap.size) w18 w19 = X at S19 X19 hX0
        have hMl : S0.files.length ≤ 100900 := HMl.out
        clear D18 HMl
        generalize hMe : S0.files.length = M at *
        have HME : Hid (S0.files.length = M ∧ S0.shown.length = M) := hide ⟨hMe, by rw [← hMe]; simp [Ds.files]⟩
        clear hMe
        go_loopw [14] (fun i wx => ∃ j : Nat, j ≤ M ∧ i = .int .i64 j ∧ Hid (∃ S1, Syn S0 S1 j ∧ Ax X w19 wx p S1 (100900 + j))) (fun i wx => M - (intOf i).toNat)
        case atStart => exact ⟨0, Nat.zero_le _, rfl, hide ⟨S0, HS0.out, X19.out⟩⟩
        case round =>
          clear X19 HS0
          obtain ⟨j, hj, rfl, HR⟩ := hrel
          obtain ⟨S1, hSy, hx⟩ := HR.out
          clear HR
          by_cases hlt : j < M
          · obtain ⟨t, ht⟩ : ∃ t, t = M - 1 - j := ⟨_, rfl⟩
            have htl : t < S0.shown.length := by rw [HME.out.2]; omega
            obtain ⟨pr, hpr⟩ : ∃ pr, S0.shown[t]? = some pr := ⟨_, List.getElem?_eq_getElem htl⟩
            have hfk : S0.files[t]? = some (pr.1, (S0.th pr.2).shown) := by simp [Ds.files, hpr]
            have hFl := S19.out wr hx.old
            obtain ⟨u, hu⟩ : ∃ u, vs19[t]? = some u := ⟨vs19[t]'(by rw [hFl.len, HME.out.1]; omega), List.getElem?_eq_getElem _⟩
            obtain ⟨lb, rfl⟩ : ∃ lb, lo19 = some ⟨lb, 0, none⟩ := by
              rcases hFl.row.2 with ⟨e, e2⟩ | ⟨g, cap, cur, e, _⟩
              · have := HME.out.1; omega
              · injection e with e _ _; exact ⟨g, e⟩
            have hcell : wr.cell? ⟨lb, t * 2, none⟩ = some (encStr pr.1) := by
              obtain ⟨q1, _⟩ := fcells_get S0.files vs19 t _ _ hFl.len hfk hu
              have := hFl.row.cells (g := lb) rfl _ _ q1
              rwa [add0] at this
            have hst := hSy.step hx.wf (by rw [HME.out.2]; exact hlt) (p := pr) (by rw [HME.out.2, ← ht]; exact hpr)
            have hnl : pr.1.length ≤ 112 := isNm_len (hx.wf.snm _ (by rw [hSy.shown]; exact List.mem_of_getElem? hpr))
            have hsy := sync_ax hx (by omega) pr.1 (by omega)
            rw [hst.1] at hsy
            have HST := hide hst.2
            have hidx : (M : Int) - 1 - (j : Int) = (t : Int) := by omega
            have htM : (t : Int) < (M : Int) := by omega
            have ht0 : (0 : Int) ≤ (t : Int) := by omega
            clear hst hfk hFl hu hpr htl hSy hx ht
            as_aux_lemma =>
              go_wp2_with (go_at_call 22; refine hsy.mono ?_; rintro e w20 ⟨rfl, hx20⟩; have X20 := hide hx20; clear hsy hx20 hcell)
              refine ⟨⟨j + 1, by omega, by go_num, hide ⟨_, HST.out, X20.out.mono (by omega)⟩⟩, by simp [intOf]; omega⟩
          · have hjM : j = M := by omega
            subst hjM
            obtain ⟨z1, z2, z3⟩ := hSy.end (by rw [HME.out.2]; omega)
            have hsn := syncNames_ax hx (by omega)
            rw [z1] at hsn
            have y1 : (S1.syncNames.2.crash ps).files = S0.files := (z2.crash ps).trans z3
            have y2 : (S1.syncNames.2.crash ps).safeFiles = S0.files := (crash_safe _ _).trans y1
            have HY := hide (And.intro y1 y2)
            clear z1 z2 z3 y1 y2 hSy hx
            generalize S1.syncNames.2 = S2 at hsn HY
            as_aux_lemma =>
              go_wp2_with (first
                | (go_at_call 23; refine hsn.mono ?_; rintro e w20 ⟨rfl, hx20⟩; have hcr := crash_ax hx20 (Kept.refl [] w20) (by omega) (n := m) (c := mcap) (ps := ps) HPK.out.1 (fun i hi => by
                      obtain ⟨b, off, e, hc⟩ := HPK.out.2.2.2.1 i hi
                      exact ⟨b, off, e, (hk1.trans (hx20.toAt hX0.out K19.out).old (by simp)).cellOf hc (by simp)⟩) HPK.out.2.2.2.2.1 (by have := H400.out; omega) (fun hd a ha => .inr (by
                      obtain ⟨b, off, e, hc⟩ := HPK.out.2.2.2.1 0 (List.length_pos_iff.2 hd)
                      rw [e] at ha
                      cases ha
                      have h1 : b < w.heap.size := World.block_lt_of_cell? _ _ hc
                      exact hX0.out b (by omega))); clear hsn hx20)
                | (go_at_call 20; refine hcr.mono ?_; rintro e w21 ⟨rfl, hx21⟩; have hd21 := hx21.toAt hX0.out K19.out; have hf6 := filesL_at hd21 (by omega) HY.out.1; have I21 := hide ((Fis.of (S19.out w21 hx21.old)).1); have D21 := hide hd21; clear hcr hx21 hd21)
                | (go_at_call 8; refine hf6.mono ?_; rintro e w22 ⟨lo22, lc22, rfl, hi22, hk22⟩; have hl := HME.out.1; have hcf := files_yes lo22 lo19 j lc22 lc19 S0.files w22 HME.out.1 HFS.out.1 HFS.out.2 hi22 (I21.out.kept hk22); rw [hl]; have D22 := hide (D21.out.kept hk22); have I22 := hide (I21.out.kept hk22); clear hf6 hi22 hk22 D21 I21 hl)
                | (go_at_call 17; refine hcf.mono ?_; rintro e w23 ⟨rfl, j23, hw23⟩; have hk23 : Kept [] w22 w23 := (by rw [hw23]; exact (Kept.refl [] w22).drewN _); have hd23 := D22.out.kept hk23; have hsf6 := safeL_at hd23 (by omega) HY.out.2; have I23 := hide (I22.out.kept hk23); have D23 := hide hd23; clear hcf hw23 hk23 hd23 D22 I22 j23)
                | (go_at_call 9; refine hsf6.mono ?_; rintro e w24 ⟨lo24, lc24, rfl, hi24, hk24⟩; have hl := HME.out.1; have hcf2 := files_yes lo24 lo19 j lc24 lc19 S0.files w24 HME.out.1 HFS.out.1 HFS.out.2 hi24 (I23.out.kept hk24); rw [hl]; have D24 := hide (D23.out.kept hk24); clear hsf6 hi24 hk24 D23 I23 hl)
                | (go_at_call 17; refine hcf2.mono ?_; rintro e w25 ⟨rfl, j25, hw25⟩; have hk25 : Kept [] w24 w25 := (by rw [hw25]; exact (Kept.refl [] w24).drewN _); have K25 := hide (D24.out.old.trans hk25 (by simp)); clear hcf2 hw25 hk25 D24 j25)
                | (go_at_call 7; refine (known_ok _).mono ?_; rintro e w26 ⟨rfl, hk26⟩; have K26 := hide hk26; clear hk26))
              go_ret
              exact ⟨rfl, ((hk1.trans K25.out (by simp)).trans K26.out (by simp)).below (Nat.le_refl _) (by simp)⟩
      · simp only [Bool.not_eq_true] at hon
        rw [hon] at hof2
        have HK := hide (hk1.trans D17.out.old (by simp))
        clear hon D17 HA1 HE HSM HM2 hwf
        as_aux_lemma =>
          go_wp2_with (first
            | (go_at_call 12; refine hof2.mono ?_; rintro e w' ⟨rfl, hw⟩; obtain rfl := hw.symm; clear hof2)
            | (go_at_call 7; refine (known_ok _).mono ?_; rintro e w26 ⟨rfl, hk26⟩; have K26 := hide hk26; clear hk26))
          go_ret
          exact ⟨rfl, (HK.out.trans K26.out (by simp)).below (Nat.le_refl _) (by simp)⟩
end Go.Proofs.Ytcmiehfahdbffab
