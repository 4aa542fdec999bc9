/-
  Contracts: WriteAt, Truncate, Sync, SyncNames.
-/
import Derived.Test.YtemlbmamcbmnjaaGreatDoorHap
namespace Go.Proofs.YtemlbmamcbmnjaaGreatDoor
open Go.RowKit Dsk
set_option linter.unusedVariables false
set_option linter.unusedSimpArgs false

set_option maxHeartbeats 1600000 in
set_option maxRecDepth 100000 in
theorem truncate_ok {w : World} {p : Nat} {S : Ds} {A : Nat → Nat} {o : Lab} {N : Nat} (h : PD w p S A o) (hB : S.Bd N) (hN : N ≤ 268435456) (nm : By) (hnl : nm.length ≤ 4611686018427387904) (a : Int) :
    Calls Tryz.prog 42 #[.pointer (some ⟨p, 0, none⟩), encStr nm, .int .i64 a] w fun e w' => e = .returned (.int .i64 (S.truncate nm a).1) ∧ Aft w w' p (S.truncate nm a).2 o := by
  obtain ⟨ms, mh, rv, sv, h⟩ := h
  have hfd := find_ok h nm hnl
  have HA := hide (Aft.of h (Keep.refl _ w))
  by_cases h0 : (S.find nm).1 = 0
  · obtain ⟨hon, hnm, hmem, hlt⟩ := Ds.find_ok h.wf h0
    have hv : findV S A nm = .pointer (some ⟨A (S.find nm).2, 0, none⟩) := by unfold findV; rw [if_pos h0]
    have HC : Hid (S.truncate nm a = if a < 0 ∨ ((S.th (S.find nm).2).shown.length : Int) < a then (54, S) else (S.ans 0, S.tick.addByte (S.find nm).2 (.cut a.toNat))) := hide (by simp [Ds.truncate, h0])
    rw [hv, h0] at hfd
    generalize (S.find nm).2 = k at hfd HC hlt
    obtain ⟨rv1, sv1, ht⟩ := h.th k hlt
    obtain ⟨so, sc, rfl, _⟩ := ht.shown.shape
    have i2 := ht.th0.c2
    have hlen := hB.len h.wf hlt
    by_cases hneg : a < 0
    · have HC2 : Hid (S.truncate nm a = (54, S)) := hide (by rw [HC.out, if_pos (.inl hneg)])
      clear h hB ht h0 hv hmem hnm hon HC
      go_enter Tryz.func42, Tryz.ntmps42
      go_wp2_with (go_at_call 82; refine hfd.mono ?_; rintro e w' ⟨rfl, rfl⟩; clear hfd)
      go_ret
      exact ⟨by rw [HC2.out]; rfl, by rw [HC2.out]; exact HA.out⟩
    by_cases hbig : ((S.th k).shown.length : Int) < a
    · have HC2 : Hid (S.truncate nm a = (54, S)) := hide (by rw [HC.out, if_pos (.inr hbig)])
      clear h hB ht h0 hv hmem hnm hon HC
      generalize (S.th k).shown.length = m at i2 hbig hlen
      go_enter Tryz.func42, Tryz.ntmps42
      go_wp2_with (go_at_call 82; refine hfd.mono ?_; rintro e w' ⟨rfl, rfl⟩; clear hfd)
      go_ret
      exact ⟨by rw [HC2.out]; rfl, by rw [HC2.out]; exact HA.out⟩
    obtain ⟨b, rfl⟩ : ∃ b : Nat, a = b := ⟨a.toNat, by omega⟩
    have HC2 : Hid (S.truncate nm b = (S.ans 0, S.tick.addByte k (.cut b))) := hide (by rw [HC.out, if_neg (by omega)]; simp)
    have htc := thingChange_pd h hlt (c := .cut b) (by show b ≤ _; omega) hB (by simp only [Ch.units]; omega)
    simp only [encCh] at htc
    have HS : Hid (∀ v, PDx v p (S.addByte k (.cut b)) A (o.ext w v (k + 2)) ms mh rv sv → Keep (fun b => o b = k + 2) w v → Calls Tryz.prog 84 #[.pointer (some ⟨p, 0, none⟩), .int .i64 0] v fun e w' => e = .returned (.int .i64 (S.ans 0)) ∧ Aft w w' p (S.tick.addByte k (.cut b)) o) := fun v hv hk => by
      refine (stroke_ok hv 0 (by have := hB.strokes; show S.strokes < _; omega) (by have := hB.planned; show S.planned < _; omega)).mono ?_
      rintro e w' ⟨rfl, hP, hK⟩
      exact ⟨rfl, Aft.trans (Ext_ext o w v _) (mine_k hk) (Aft.of hP (mine_p hP hK))⟩
    clear h hB ht h0 hv hmem hnm hon HC
    generalize (S.th k).shown.length = m at i2 hbig hlen
    go_enter Tryz.func42, Tryz.ntmps42
    go_wp2_with (first
      | (go_at_call 82; refine hfd.mono ?_; rintro e w' ⟨rfl, rfl⟩; clear hfd)
      | (go_at_call 93; have Ha := htc; refine htc.mono ?_; rintro e w1 ⟨rfl, hP1, hK1⟩; have hst := HS.out w1 hP1 hK1; clear Ha htc hP1 hK1)
      | (go_at_call 84; refine hst.mono ?_; rintro e w2 ⟨rfl, ha⟩; have H2 := hide ha; clear ha))
    go_ret
    exact ⟨by rw [HC2.out]; rfl, by rw [HC2.out]; exact H2.out⟩
  · have hv : findV S A nm = .pointer none := by unfold findV; rw [if_neg h0]
    have HC : Hid (S.truncate nm a = ((S.find nm).1, S)) := hide (by simp [Ds.truncate, h0])
    rw [hv] at hfd
    generalize (S.find nm).1 = E at hfd h0 HC
    have e0 : (E != 0) = true := by simpa using h0
    clear h hB h0 hv
    go_enter Tryz.func42, Tryz.ntmps42
    go_wp2_with (go_at_call 82; refine hfd.mono ?_; rintro e w' ⟨rfl, rfl⟩; clear hfd)
    go_ret
    exact ⟨by rw [HC.out]; rfl, by rw [HC.out]; exact HA.out⟩

set_option maxHeartbeats 1600000 in
set_option maxRecDepth 100000 in
theorem sync_ok {w : World} {p : Nat} {S : Ds} {A : Nat → Nat} {o : Lab} {N : Nat} (h : PD w p S A o) (hB : S.Bd N) (hN : N ≤ 268435456) (nm : By) (hnl : nm.length ≤ 4611686018427387904) :
    Calls Tryz.prog 48 #[.pointer (some ⟨p, 0, none⟩), encStr nm] w fun e w' => e = .returned (.int .i64 (S.sync nm).1) ∧ Aft w w' p (S.sync nm).2 o := by
  obtain ⟨ms, mh, rv, sv, h⟩ := h
  have hfd := find_ok h nm hnl
  have HA := hide (Aft.of h (Keep.refl _ w))
  by_cases h0 : (S.find nm).1 = 0
  · obtain ⟨hon, hnm, hmem, hlt⟩ := Ds.find_ok h.wf h0
    have hv : findV S A nm = .pointer (some ⟨A (S.find nm).2, 0, none⟩) := by unfold findV; rw [if_pos h0]
    rw [hv, h0] at hfd
    have hst := stroke_ok h 0 (by have := hB.strokes; omega) (by have := hB.planned; omega)
    have HAF : Hid (∀ w2, PDx w2 p S.tick A o ms mh rv sv → Keep (· = p) w w2 → Aft w w2 p S.tick o) := fun w2 h2 hk => Aft.of h2 (mine_p h2 hk)
    cases hgo : S.goesOff
    · have HC : Hid (S.sync nm = (0, { S.tick with th := upd S.th (S.find nm).2 (S.th (S.find nm).2).sync })) := hide (by simp [Ds.sync, h0, hgo])
      have hwf := h.wf.sync nm
      rw [HC.out] at hwf
      have ha0 : S.ans 0 = 0 := by unfold Ds.ans; rw [hgo]; rfl
      rw [ha0] at hst
      generalize (S.find nm).2 = k at hfd HC hlt hwf
      have HD : Hid (∀ v, PDx v p S.tick A o ms mh rv sv → Keep (· = p) w v → Calls Tryz.prog 96 #[.pointer (some ⟨A k, 0, none⟩)] v fun e w' => e = .returned (.tuple #[]) ∧ Aft w w' p { S.tick with th := upd S.th k (S.th k).sync } o) := fun v hv hkv => by
        refine (thingSync_pd hv hlt hwf).mono ?_
        rintro e w' ⟨rfl, hP, hK⟩
        exact ⟨rfl, Aft.trans (Lab.Ext.refl _ _) (mine_p hv hkv) ⟨A, _, ⟨_, _, _, _, hP⟩, Ext_ext _ _ _ _, mine_k hK⟩⟩
      clear h hB h0 hv hmem hnm hon hgo hwf ha0 HAF
      go_enter Tryz.func48, Tryz.ntmps48
      go_wp2_with (first
        | (go_at_call 82; refine hfd.mono ?_; rintro e w' ⟨rfl, rfl⟩; clear hfd)
        | (go_at_call 84; have Ha := hst; refine hst.mono ?_; rintro e w1 ⟨rfl, hP1, hK1⟩; have hty := HD.out w1 hP1 hK1; clear Ha hst hP1 hK1)
        | (go_at_call 96; refine hty.mono ?_; rintro e w2 ⟨rfl, ha⟩; have H2 := hide ha; clear ha))
      go_ret
      exact ⟨by rw [HC.out]; rfl, by rw [HC.out]; exact H2.out⟩
    · have HC : Hid (S.sync nm = (50, S.tick)) := hide (by simp [Ds.sync, h0, hgo])
      have ha0 : S.ans 0 = 50 := by unfold Ds.ans; rw [hgo]; rfl
      rw [ha0] at hst
      clear h hB h0 hv hmem hnm hon hgo ha0
      go_enter Tryz.func48, Tryz.ntmps48
      go_wp2_with (first
        | (go_at_call 82; refine hfd.mono ?_; rintro e w' ⟨rfl, rfl⟩; clear hfd)
        | (go_at_call 84; have Ha := hst; refine hst.mono ?_; rintro e w1 ⟨rfl, hP1, hK1⟩; have H2 := hide (HAF.out w1 hP1 hK1); clear Ha hst hP1 hK1))
      go_ret
      exact ⟨by rw [HC.out]; rfl, by rw [HC.out]; exact H2.out⟩
  · have hv : findV S A nm = .pointer none := by unfold findV; rw [if_neg h0]
    have HC : Hid (S.sync nm = ((S.find nm).1, S)) := hide (by simp [Ds.sync, h0])
    rw [hv] at hfd
    generalize (S.find nm).1 = E at hfd h0 HC
    have e0 : (E != 0) = true := by simpa using h0
    clear h hB h0 hv
    go_enter Tryz.func48, Tryz.ntmps48
    go_wp2_with (go_at_call 82; refine hfd.mono ?_; rintro e w' ⟨rfl, rfl⟩; clear hfd)
    go_ret
    exact ⟨by rw [HC.out]; rfl, by rw [HC.out]; exact HA.out⟩

/-- Names made safe. -/
theorem PDx.synced {w w' : World} {p : Nat} {S S' : Ds} {A : Nat → Nat} {o : Lab} {ms mh : Nat} {rv sv : Value} (h : PDx w p S A o ms mh rv sv) {nb mh' : Nat} {l : Nm}
    (hc : w'.heap[p]? = some (.cells #[.int .i64 S'.room, .bool S'.on, .map (some nb), .slice none 0 0, .map (some mh'), .int .i64 S'.strokes, .int .i64 S'.off, .int .i64 S'.from_, .int .i64 S'.to, .int .i64 S'.planned, sv] 98 (0, 0)))
    (h1 : Mp w' nb A l) (h2 : Mp w' mh' A l) (hne : nb ≠ mh') (hK : Keep (· = p) w w') (hn : w.heap.size ≤ nb) (hm : mh' = mh ∨ w.heap.size ≤ mh')
    (hwf : S'.Wf) (e1 : S'.safe = l) (e2 : S'.shown = l) (e3 : S'.row = []) (e4 : S'.reads = S.reads) (e5 : S'.th = S.th) (e6 : S'.nx = S.nx) (hp : (Lit.int .i64 S'.off).wf = true ∧ (Lit.int .i64 S'.from_).wf = true ∧ (Lit.int .i64 S'.to).wf = true) :
    PDx w' p S' A (o.ext w w' 1) nb mh' (.slice none 0 0) sv := by
  have old : ∀ b, b < w.heap.size → o.ext w w' 1 b = o b := fun b hb => Lab.ext_old hb
  refine ⟨hwf, hc, hne, by rw [e1]; exact h1, by rw [e2]; exact h2, by rw [e3]; exact World.ownsRow_nil _ _ _ _, ?_, ?_, (old p h.lt).trans h.lp, Lab.ext_new hn h1.lt, ?_, by simp [Value.ownBlock], fun g hg => (old g (h.reads.lt g hg).2).trans (h.ls g hg), lim_ext h.lim hK.size, hp⟩
  · rw [e4]; exact own_keeps h.reads hK (fun g hg e => h.ne_s (by rw [hg, e]))
  · rw [e5, e6]
    intro j hj
    exact (h.th j hj).ext hK (fun g hg e => by subst e; rw [h.lp] at hg; omega)
  · rcases hm with rfl | e
    · exact (old _ h.shown.lt).trans h.lh
    · exact Lab.ext_new e h2.lt

set_option maxHeartbeats 1600000 in
set_option maxRecDepth 100000 in
theorem syncNames_ok {w : World} {p : Nat} {S : Ds} {A : Nat → Nat} {o : Lab} {N : Nat} (h : PD w p S A o) (hB : S.Bd N) (hN : N ≤ 268435456) :
    Calls Tryz.prog 50 #[.pointer (some ⟨p, 0, none⟩)] w fun e w' => e = .returned (.int .i64 (S.syncNames).1) ∧ Aft w w' p (S.syncNames).2 o := by
  obtain ⟨ms, mh, rv, sv, h⟩ := h
  have hoff := off_ok h
  have HA := hide (Aft.of h (Keep.refl _ w))
  by_cases hon : S.on = true
  · rw [hon] at hoff
    have hst := stroke_ok h 0 (by have := hB.strokes; omega) (by have := hB.planned; omega)
    have HAF : Hid (∀ w2, PDx w2 p S.tick A o ms mh rv sv → Keep (· = p) w w2 → Aft w w2 p S.tick o) := fun w2 h2 hk => Aft.of h2 (mine_p h2 hk)
    cases hgo : S.goesOff
    · have HC : Hid (S.syncNames = (0, { S.tick with safe := S.shown, row := [] })) := hide (by simp [Ds.syncNames, hon, hgo])
      have hwf := h.wf.syncNames
      rw [HC.out] at hwf
      have ha0 : S.ans 0 = 0 := by unfold Ds.ans; rw [hgo]; rfl
      rw [ha0] at hst
      have HD : Hid (∀ v, PDx v p S.tick A o ms mh rv sv → Keep (· = p) w v → Calls Tryz.prog 98 #[.pointer (some ⟨p, 2, none⟩)] v fun e w' => e = .returned (.tuple #[]) ∧ Aft w w' p { S.tick with safe := S.shown, row := [] } o) := fun v hv hkv => by
        refine (dirSync_ok p 2 mh 98 _ A S.shown v hv.cells (by simp) rfl hv.shown).mono ?_
        rintro e w' ⟨rfl, nb, k1, k2, k3, k4, k5⟩
        have hP := PDx.synced (S' := { S.tick with safe := S.shown, row := [] }) hv k1 k2 k3 (by have := hv.shown.lt; omega) k4 k5 (.inl rfl) hwf rfl rfl rfl rfl rfl rfl hv.pl
        exact ⟨rfl, Aft.trans (Lab.Ext.refl _ _) (mine_p hv hkv) ⟨A, _, ⟨_, _, _, _, hP⟩, Ext_ext _ _ _ _, mine_p hv k4⟩⟩
      clear h hB hon hgo hwf ha0 HAF
      go_enter Tryz.func50, Tryz.ntmps50
      go_wp2_with (first
        | (go_at_call 25; refine hoff.mono ?_; rintro e w' ⟨rfl, rfl⟩)
        | (go_at_call 84; have Ha := hst; refine hst.mono ?_; rintro e w1 ⟨rfl, hP1, hK1⟩; have hty := HD.out w1 hP1 hK1; clear Ha hst hP1 hK1)
        | (go_at_call 98; refine hty.mono ?_; rintro e w2 ⟨rfl, ha⟩; have H2 := hide ha; clear ha))
      go_ret
      exact ⟨by rw [HC.out]; rfl, by rw [HC.out]; exact H2.out⟩
    · have HC : Hid (S.syncNames = (50, S.tick)) := hide (by simp [Ds.syncNames, hon, hgo])
      have ha0 : S.ans 0 = 50 := by unfold Ds.ans; rw [hgo]; rfl
      rw [ha0] at hst
      clear h hB hon hgo ha0
      go_enter Tryz.func50, Tryz.ntmps50
      go_wp2_with (first
        | (go_at_call 25; refine hoff.mono ?_; rintro e w' ⟨rfl, rfl⟩)
        | (go_at_call 84; have Ha := hst; refine hst.mono ?_; rintro e w1 ⟨rfl, hP1, hK1⟩; have H2 := hide (HAF.out w1 hP1 hK1); clear Ha hst hP1 hK1))
      go_ret
      exact ⟨by rw [HC.out]; rfl, by rw [HC.out]; exact H2.out⟩
  · simp only [Bool.not_eq_true] at hon
    rw [hon] at hoff
    have HC : Hid (S.syncNames = (50, S)) := hide (by simp [Ds.syncNames, hon])
    clear h hB
    go_enter Tryz.func50, Tryz.ntmps50
    go_wp2_with (go_at_call 25; refine hoff.mono ?_; rintro e w' ⟨rfl, rfl⟩)
    go_ret
    exact ⟨by rw [HC.out]; rfl, by rw [HC.out]; exact HA.out⟩
end Go.Proofs.YtemlbmamcbmnjaaGreatDoor
