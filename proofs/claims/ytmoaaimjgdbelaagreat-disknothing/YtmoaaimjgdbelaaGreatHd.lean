/-
  Contracts: WriteAt, Append, Truncate, Remove, Rename, Sync, SyncNames.
-/
import Derived.Test.YtmoaaimjgdbelaaGreatHc
namespace Go.Proofs.YtmoaaimjgdbelaaGreat
open Go.RowKit Dsk
set_option linter.unusedVariables false
set_option linter.unusedSimpArgs false

set_option maxHeartbeats 1600000 in
set_option maxRecDepth 100000 in
theorem append_ok {w : World} {p : Nat} {S : Ds} {A : Nat → Nat} {o : Lab} {N : Nat} (h : PD w p S A o) (hB : S.Bd N) {n : Nat} {d : By} {ao : Option Addr} {ac : Nat} (hN : N + n ≤ 268435456) (nm : By) (hnl : nm.length ≤ 4611686018427387904) (hd : Given w o ao n d) :
    Calls Tryz.prog 19 #[.pointer (some ⟨p, 0, none⟩), encStr nm, .slice ao n ac] w fun e w' => e = .returned (.int .i64 (S.append nm d).1) ∧ Aft w w' p (S.append nm d).2 o := by
  obtain ⟨ms, mh, rv, sv, h⟩ := h
  have hfd := find_ok h nm hnl
  by_cases h0 : (S.find nm).1 = 0
  · obtain ⟨hon, hnm, hmem, hlt⟩ := Ds.find_ok h.wf h0
    have hv : findV S A nm = .pointer (some ⟨A (S.find nm).2, 0, none⟩) := by unfold findV; rw [if_pos h0]
    have HC : Hid (S.append nm d = S.write (S.find nm).2 (S.th (S.find nm).2).shown.length d) := hide (by simp [Ds.append, h0])
    rw [hv, h0] at hfd
    generalize (S.find nm).2 = k at hfd HC hlt
    have hw := write_ok h hB (ac := ac) hN hlt (Nat.le_refl _) hd
    obtain ⟨rv1, sv1, ht⟩ := h.th k hlt
    obtain ⟨so, sc, rfl, _⟩ := ht.shown.shape
    have i2 := ht.th0.c2
    clear h hB hd ht h0 hv hmem hnm hon
    go_enter Tryz.func19, Tryz.ntmps19
    go_wp2_with (first
      | (go_at_call 71; refine hfd.mono ?_; rintro e w' ⟨rfl, rfl⟩; clear hfd)
      | (go_at_call 75; refine hw.mono ?_; rintro e w1 ⟨rfl, ha⟩; have H1 := hide ha; clear ha))
    go_ret
    exact ⟨by rw [HC.out]; rfl, by rw [HC.out]; exact H1.out⟩
  · have hv : findV S A nm = .pointer none := by unfold findV; rw [if_neg h0]
    have HC : Hid (S.append nm d = ((S.find nm).1, S)) := hide (by simp [Ds.append, h0])
    have HA := hide (Aft.of h (Keep.refl _ w))
    rw [hv] at hfd
    generalize (S.find nm).1 = E at hfd h0 HC
    have e0 : (E != 0) = true := by simpa using h0
    clear h hB hd h0 hv
    go_enter Tryz.func19, Tryz.ntmps19
    go_wp2_with (go_at_call 71; refine hfd.mono ?_; rintro e w' ⟨rfl, rfl⟩; clear hfd)
    go_ret
    exact ⟨by rw [HC.out]; rfl, by rw [HC.out]; exact HA.out⟩

set_option maxHeartbeats 1600000 in
set_option maxRecDepth 100000 in
theorem remove_ok {w : World} {p : Nat} {S : Ds} {A : Nat → Nat} {o : Lab} {N : Nat} (h : PD w p S A o) (hB : S.Bd N) (hN : N ≤ 268435456) (nm : By) (hnl : nm.length ≤ 4611686018427387904) :
    Calls Tryz.prog 43 #[.pointer (some ⟨p, 0, none⟩), encStr nm] w fun e w' => e = .returned (.int .i64 (S.remove nm).1) ∧ Aft w w' p (S.remove nm).2 o := by
  obtain ⟨ms, mh, rv, sv, h⟩ := h
  have hfd := find_ok h nm hnl
  by_cases h0 : (S.find nm).1 = 0
  · obtain ⟨hon, hnm, hmem, hlt⟩ := Ds.find_ok h.wf h0
    have hv : findV S A nm = .pointer (some ⟨A (S.find nm).2, 0, none⟩) := by unfold findV; rw [if_pos h0]
    have HC : Hid (S.remove nm = (S.ans 0, S.tick.addName (.tk nm))) := hide (by simp [Ds.remove, h0])
    rw [hv, h0] at hfd
    have hwf : (S.addName (.tk nm)).Wf := h.wf.addName trivial (by simp [Nc.made]) (by simp [Nc.made]) hnm
    have hdc := dirChange_pd h (c := .tk nm) hwf trivial (isNm_len hnm) hB (by omega)
    simp only [encNc] at hdc
    have HS : Hid (∀ v rv', PDx v p (S.addName (.tk nm)) A (o.ext w v 1) ms mh rv' sv → Keep (fun b => o b = 1) w v → Calls Tryz.prog 73 #[.pointer (some ⟨p, 0, none⟩), .int .i64 0] v fun e w' => e = .returned (.int .i64 (S.ans 0)) ∧ Aft w w' p (S.tick.addName (.tk nm)) o) := fun v rv' hv hk => by
      refine (stroke_ok hv 0 (by have := hB.strokes; show S.strokes < _; omega) (by have := hB.planned; show S.planned < _; omega)).mono ?_
      rintro e w' ⟨rfl, hP, hK⟩
      exact ⟨rfl, Aft.trans (Ext_ext o w v 1) (mine_k hk) (Aft.of hP (mine_p hP hK))⟩
    generalize A (S.find nm).2 = Ak at hfd
    clear h hB h0 hv hmem hnm hon hwf hlt
    go_enter Tryz.func43, Tryz.ntmps43
    go_wp2_with (first
      | (go_at_call 71; refine hfd.mono ?_; rintro e w' ⟨rfl, rfl⟩; clear hfd)
      | (go_at_call 74; have Ha := hdc; refine hdc.mono ?_; rintro e w1 ⟨rfl, rv', hP1, hK1⟩; have hst := HS.out w1 rv' hP1 hK1; clear Ha hdc hP1 hK1)
      | (go_at_call 73; refine hst.mono ?_; rintro e w2 ⟨rfl, ha⟩; have H2 := hide ha; clear ha))
    go_ret
    exact ⟨by rw [HC.out]; rfl, by rw [HC.out]; exact H2.out⟩
  · have hv : findV S A nm = .pointer none := by unfold findV; rw [if_neg h0]
    have HC : Hid (S.remove nm = ((S.find nm).1, S)) := hide (by simp [Ds.remove, h0])
    have HA := hide (Aft.of h (Keep.refl _ w))
    rw [hv] at hfd
    generalize (S.find nm).1 = E at hfd h0 HC
    have e0 : (E != 0) = true := by simpa using h0
    clear h hB h0 hv
    go_enter Tryz.func43, Tryz.ntmps43
    go_wp2_with (go_at_call 71; refine hfd.mono ?_; rintro e w' ⟨rfl, rfl⟩; clear hfd)
    go_ret
    exact ⟨by rw [HC.out]; rfl, by rw [HC.out]; exact HA.out⟩

set_option maxHeartbeats 1600000 in
set_option maxRecDepth 100000 in
theorem rename_ok {w : World} {p : Nat} {S : Ds} {A : Nat → Nat} {o : Lab} {N : Nat} (h : PD w p S A o) (hB : S.Bd N) (hN : N ≤ 268435456) (f t : By) (hfl : f.length ≤ 4611686018427387904) (htl : t.length ≤ 4611686018427387904) :
    Calls Tryz.prog 37 #[.pointer (some ⟨p, 0, none⟩), encStr f, encStr t] w fun e w' => e = .returned (.int .i64 (S.rename f t).1) ∧ Aft w w' p (S.rename f t).2 o := by
  obtain ⟨ms, mh, rv, sv, h⟩ := h
  have hoff := off_ok h
  have hisn := isName_ok t w htl
  have hfd := find_ok h f hfl
  have HA := hide (Aft.of h (Keep.refl _ w))
  by_cases hon : S.on = true
  · rw [hon] at hoff
    by_cases hnt : isNm t = true
    · rw [hnt] at hisn
      by_cases h0 : (S.find f).1 = 0
      · obtain ⟨_, hnm, hmem, hlt⟩ := Ds.find_ok h.wf h0
        have hv : findV S A f = .pointer (some ⟨A (S.find f).2, 0, none⟩) := by unfold findV; rw [if_pos h0]
        rw [hv, h0] at hfd
        generalize A (S.find f).2 = Ak at hfd
        by_cases hft : f = t
        · have HC : Hid (S.rename f t = (S.ans 0, S.tick)) := hide (by simp [Ds.rename, hon, hnt, h0, hft]; intro h1; rw [hft] at h0; exact absurd h0 h1)
          have hst := stroke_ok h 0 (by have := hB.strokes; omega) (by have := hB.planned; omega)
          have HAF : Hid (∀ w2, PDx w2 p S.tick A o ms mh rv sv → Keep (· = p) w w2 → Aft w w2 p S.tick o) := fun w2 h2 hk => Aft.of h2 (mine_p h2 hk)
          have hne : (f == t) = true := by simpa using hft
          clear h hB h0 hv hmem hnm hlt hft
          go_enter Tryz.func37, Tryz.ntmps37
          go_wp2_with (first
            | (go_at_call 22; refine hoff.mono ?_; rintro e w' ⟨rfl, rfl⟩)
            | (go_at_call 81; refine hisn.mono ?_; rintro e w' ⟨rfl, rfl⟩)
            | (go_at_call 71; refine hfd.mono ?_; rintro e w' ⟨rfl, rfl⟩)
            | (go_at_call 73; refine hst.mono ?_; rintro e w2 ⟨rfl, hP2, hk2⟩; have H2 := hide (HAF.out w2 hP2 hk2); clear hP2 hk2))
          go_ret
          exact ⟨by rw [HC.out]; rfl, by rw [HC.out]; exact H2.out⟩
        · have HC : Hid (S.rename f t = (S.ans 0, S.tick.addName (.gv f t))) := hide (by simp [Ds.rename, hon, hnt, h0, hft])
          have hok : (Nc.gv f t).ok S.shown := ⟨hft, _, (Nm.get_some h.wf.sup).2 hmem⟩
          have hwf : (S.addName (.gv f t)).Wf := h.wf.addName hok (by simp [Nc.made]) (by simp [Nc.made]) ⟨hnm, hnt⟩
          have hdc := dirChange_pd h (c := .gv f t) hwf hok ⟨isNm_len hnm, isNm_len hnt⟩ hB (by omega)
          simp only [encNc] at hdc
          have HS : Hid (∀ v rv', PDx v p (S.addName (.gv f t)) A (o.ext w v 1) ms mh rv' sv → Keep (fun b => o b = 1) w v → Calls Tryz.prog 73 #[.pointer (some ⟨p, 0, none⟩), .int .i64 0] v fun e w' => e = .returned (.int .i64 (S.ans 0)) ∧ Aft w w' p (S.tick.addName (.gv f t)) o) := fun v rv' hv hk => by
            refine (stroke_ok hv 0 (by have := hB.strokes; show S.strokes < _; omega) (by have := hB.planned; show S.planned < _; omega)).mono ?_
            rintro e w' ⟨rfl, hP, hK⟩
            exact ⟨rfl, Aft.trans (Ext_ext o w v 1) (mine_k hk) (Aft.of hP (mine_p hP hK))⟩
          have hne : (f == t) = false := by simpa using hft
          clear h hB h0 hv hmem hnm hlt hft hok hwf
          go_enter Tryz.func37, Tryz.ntmps37
          go_wp2_with (first
            | (go_at_call 22; refine hoff.mono ?_; rintro e w' ⟨rfl, rfl⟩)
            | (go_at_call 81; refine hisn.mono ?_; rintro e w' ⟨rfl, rfl⟩)
            | (go_at_call 71; refine hfd.mono ?_; rintro e w' ⟨rfl, rfl⟩)
            | (go_at_call 74; have Ha := hdc; refine hdc.mono ?_; rintro e w1 ⟨rfl, rv', hP1, hK1⟩; have hst := HS.out w1 rv' hP1 hK1; clear Ha hdc hP1 hK1)
            | (go_at_call 73; refine hst.mono ?_; rintro e w2 ⟨rfl, ha⟩; have H2 := hide ha; clear ha))
          go_ret
          exact ⟨by rw [HC.out]; rfl, by rw [HC.out]; exact H2.out⟩
      · have hv : findV S A f = .pointer none := by unfold findV; rw [if_neg h0]
        have HC : Hid (S.rename f t = ((S.find f).1, S)) := hide (by simp [Ds.rename, hon, hnt, h0])
        rw [hv] at hfd
        generalize (S.find f).1 = E at hfd h0 HC
        have e0 : (E != 0) = true := by simpa using h0
        clear h hB h0 hv
        go_enter Tryz.func37, Tryz.ntmps37
        go_wp2_with (first
          | (go_at_call 22; refine hoff.mono ?_; rintro e w' ⟨rfl, rfl⟩)
          | (go_at_call 81; refine hisn.mono ?_; rintro e w' ⟨rfl, rfl⟩)
          | (go_at_call 71; refine hfd.mono ?_; rintro e w' ⟨rfl, rfl⟩))
        go_ret
        exact ⟨by rw [HC.out]; rfl, by rw [HC.out]; exact HA.out⟩
    · simp only [Bool.not_eq_true] at hnt
      rw [hnt] at hisn
      have HC : Hid (S.rename f t = (51, S)) := hide (by simp [Ds.rename, hon, hnt])
      clear h hB hfd
      go_enter Tryz.func37, Tryz.ntmps37
      go_wp2_with (first
        | (go_at_call 22; refine hoff.mono ?_; rintro e w' ⟨rfl, rfl⟩)
        | (go_at_call 81; refine hisn.mono ?_; rintro e w' ⟨rfl, rfl⟩))
      go_ret
      exact ⟨by rw [HC.out]; rfl, by rw [HC.out]; exact HA.out⟩
  · simp only [Bool.not_eq_true] at hon
    rw [hon] at hoff
    have HC : Hid (S.rename f t = (50, S)) := hide (by simp [Ds.rename, hon])
    clear h hB hfd hisn
    go_enter Tryz.func37, Tryz.ntmps37
    go_wp2_with (go_at_call 22; refine hoff.mono ?_; rintro e w' ⟨rfl, rfl⟩)
    go_ret
    exact ⟨by rw [HC.out]; rfl, by rw [HC.out]; exact HA.out⟩
end Go.Proofs.YtmoaaimjgdbelaaGreat
