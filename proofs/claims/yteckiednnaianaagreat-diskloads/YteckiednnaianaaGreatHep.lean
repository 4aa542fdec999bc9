import Derived.Test.YteckiednnaianaaGreatHap
import Derived.Test.YteckiednnaianaaGreatGsp
import Derived.Laws.AppendOwnNone
import Derived.WalkSpells
namespace Go.Proofs.YteckiednnaianaaGreat
section
open Go.RowKit Dsk
set_option linter.unusedVariables false
set_option linter.unusedSimpArgs false
set_option maxHeartbeats 1600000 in
set_option maxRecDepth 100000 in
theorem writeAt_ok {w : World} {p : Nat} {S : Ds} {A : Nat → Nat} {o : Lab} {N : Nat} (h : PD w p S A o) (hB : S.Bd N) {n : Nat} {d : By} {ao : Option Addr} {ac : Nat} (hN : N + n ≤ 268435456) (nm : By) (hnl : nm.length ≤ 4611686018427387904) (a : Int) (hd : Given w o ao n d) :
  Calls Tryz.prog 52 #[.pointer (some ⟨p, 0, none⟩), encStr nm, .int .i64 a, .slice ao n ac] w fun e w' => e = .returned (.int .i64 (S.writeAt nm a d).1) ∧ Aft w w' p (S.writeAt nm a d).2 o := by
 obtain ⟨ms, mh, rv, sv, h⟩ := h
 have hfd := find_ok h nm hnl
 have HA := hide (Aft.of h (Keep.refl _ w))
 by_cases h0 : (S.find nm).1 = 0
 ·obtain ⟨hon, hnm, hmem, hlt⟩ := Ds.find_ok h.wf h0
  have hv : findV S A nm = .pointer (some ⟨A (S.find nm).2, 0, none⟩) := by unfold findV; rw [if_pos h0]
  have HC : Hid (S.writeAt nm a d = if a < 0 ∨ ((S.th (S.find nm).2).shown.length : Int) < a then (54, S) else S.write (S.find nm).2 a.toNat d) := hide (by simp [Ds.writeAt, h0])
  rw [hv, h0] at hfd
  generalize (S.find nm).2 = k at hfd HC hlt
  obtain ⟨rv1, sv1, ht⟩ := h.th k hlt
  obtain ⟨so, sc, rfl, _⟩ := ht.shown.shape
  have i2 := ht.th0.c2
  have hlen := hB.len h.wf hlt
  by_cases hneg : a < 0
  ·have HC2 : Hid (S.writeAt nm a d = (54, S)) := hide (by rw [HC.out, if_pos (.inl hneg)])
   clear h hB hd ht h0 hv hmem hnm hon HC
   go_enter Tryz.func52, Tryz.ntmps52
   go_wp2_with (go_at_call 67; refine hfd.mono ?_; rintro e w' ⟨rfl, rfl⟩; clear hfd)
   go_ret
   exact ⟨by rw [HC2.out]; rfl, by rw [HC2.out]; exact HA.out⟩
  by_cases hbig : ((S.th k).shown.length : Int) < a
  ·have HC2 : Hid (S.writeAt nm a d = (54, S)) := hide (by rw [HC.out, if_pos (.inr hbig)])
   clear h hB hd ht h0 hv hmem hnm hon HC
   generalize (S.th k).shown.length = m at i2 hbig hlen
   go_enter Tryz.func52, Tryz.ntmps52
   go_wp2_with (go_at_call 67; refine hfd.mono ?_; rintro e w' ⟨rfl, rfl⟩; clear hfd)
   go_ret
   exact ⟨by rw [HC2.out]; rfl, by rw [HC2.out]; exact HA.out⟩
  obtain ⟨b, rfl⟩ : ∃ b : Nat, a = b := ⟨a.toNat, by omega⟩
  have HC2 : Hid (S.writeAt nm b d = S.write k b d) := hide (by rw [HC.out, if_neg (by omega)]; simp)
  have hw := write_ok h hB (ac := ac) hN hlt (a := b) (by omega) hd
  clear h hB hd ht h0 hv hmem hnm hon HC
  generalize (S.th k).shown.length = m at i2 hbig hlen
  go_enter Tryz.func52, Tryz.ntmps52
  go_wp2_with (first
   | (go_at_call 67; refine hfd.mono ?_; rintro e w' ⟨rfl, rfl⟩; clear hfd)
   | (go_at_call 71; refine hw.mono ?_; rintro e w1 ⟨rfl, ha⟩; have H1 := hide ha; clear ha))
  go_ret
  exact ⟨by rw [HC2.out]; rfl, by rw [HC2.out]; exact H1.out⟩
 ·have hv : findV S A nm = .pointer none := by unfold findV; rw [if_neg h0]
  have HC : Hid (S.writeAt nm a d = ((S.find nm).1, S)) := hide (by simp [Ds.writeAt, h0])
  rw [hv] at hfd
  generalize (S.find nm).1 = E at hfd h0 HC
  have e0 : (E != 0) = true := by simpa using h0
  clear h hB hd h0 hv
  go_enter Tryz.func52, Tryz.ntmps52
  go_wp2_with (go_at_call 67; refine hfd.mono ?_; rintro e w' ⟨rfl, rfl⟩; clear hfd)
  go_ret
  exact ⟨by rw [HC.out]; rfl, by rw [HC.out]; exact HA.out⟩
set_option maxHeartbeats 1600000 in
set_option maxRecDepth 100000 in
theorem truncate_ok {w : World} {p : Nat} {S : Ds} {A : Nat → Nat} {o : Lab} {N : Nat} (h : PD w p S A o) (hB : S.Bd N) (hN : N ≤ 268435456) (nm : By) (hnl : nm.length ≤ 4611686018427387904) (a : Int) :
  Calls Tryz.prog 57 #[.pointer (some ⟨p, 0, none⟩), encStr nm, .int .i64 a] w fun e w' => e = .returned (.int .i64 (S.truncate nm a).1) ∧ Aft w w' p (S.truncate nm a).2 o := by
 obtain ⟨ms, mh, rv, sv, h⟩ := h
 have hfd := find_ok h nm hnl
 have HA := hide (Aft.of h (Keep.refl _ w))
 by_cases h0 : (S.find nm).1 = 0
 ·obtain ⟨hon, hnm, hmem, hlt⟩ := Ds.find_ok h.wf h0
  have hv : findV S A nm = .pointer (some ⟨A (S.find nm).2, 0, none⟩) := by unfold findV; rw [if_pos h0]
  have HC : Hid (S.truncate nm a = if a < 0 ∨ ((S.th (S.find nm).2).shown.length : Int) < a then (54, S) else (S.ans 0, S.tick.addByte (S.find nm).2 (.cut a.toNat))) := hide (by simp [Ds.truncate, h0])
  rw [hv, h0] at hfd
  generalize (S.find nm).2 = k at hfd HC hlt
  obtain ⟨rv1, sv1, ht⟩ := h.th k hlt
  obtain ⟨so, sc, rfl, _⟩ := ht.shown.shape
  have i2 := ht.th0.c2
  have hlen := hB.len h.wf hlt
  by_cases hneg : a < 0
  ·have HC2 : Hid (S.truncate nm a = (54, S)) := hide (by rw [HC.out, if_pos (.inl hneg)])
   clear h hB ht h0 hv hmem hnm hon HC
   go_enter Tryz.func57, Tryz.ntmps57
   go_wp2_with (go_at_call 67; refine hfd.mono ?_; rintro e w' ⟨rfl, rfl⟩; clear hfd)
   go_ret
   exact ⟨by rw [HC2.out]; rfl, by rw [HC2.out]; exact HA.out⟩
  by_cases hbig : ((S.th k).shown.length : Int) < a
  ·have HC2 : Hid (S.truncate nm a = (54, S)) := hide (by rw [HC.out, if_pos (.inr hbig)])
   clear h hB ht h0 hv hmem hnm hon HC
   generalize (S.th k).shown.length = m at i2 hbig hlen
   go_enter Tryz.func57, Tryz.ntmps57
   go_wp2_with (go_at_call 67; refine hfd.mono ?_; rintro e w' ⟨rfl, rfl⟩; clear hfd)
   go_ret
   exact ⟨by rw [HC2.out]; rfl, by rw [HC2.out]; exact HA.out⟩
  obtain ⟨b, rfl⟩ : ∃ b : Nat, a = b := ⟨a.toNat, by omega⟩
  have HC2 : Hid (S.truncate nm b = (S.ans 0, S.tick.addByte k (.cut b))) := hide (by rw [HC.out, if_neg (by omega)]; simp)
  have htc := thingChange_pd h hlt (c := .cut b) (by show b ≤ _; omega) hB (by simp only [Ch.units]; omega)
  simp only [encCh] at htc
  have HS : Hid (∀ v, PDx v p (S.addByte k (.cut b)) A (o.ext w v (k + 2)) ms mh rv sv → Keep (fun b => o b = k + 2) w v → Calls Tryz.prog 69 #[.pointer (some ⟨p, 0, none⟩), .int .i64 0] v fun e w' => e = .returned (.int .i64 (S.ans 0)) ∧ Aft w w' p (S.tick.addByte k (.cut b)) o) := fun v hv hk => by
   refine (stroke_ok hv 0 (by have := hB.strokes; show S.strokes < _; omega) (by have := hB.planned; show S.planned < _; omega)).mono ?_
   rintro e w' ⟨rfl, hP, hK⟩
   exact ⟨rfl, Aft.trans (Ext_ext o w v _) (mine_k hk) (Aft.of hP (mine_p hP hK))⟩
  clear h hB ht h0 hv hmem hnm hon HC
  generalize (S.th k).shown.length = m at i2 hbig hlen
  go_enter Tryz.func57, Tryz.ntmps57
  go_wp2_with (first
   | (go_at_call 67; refine hfd.mono ?_; rintro e w' ⟨rfl, rfl⟩; clear hfd)
   | (go_at_call 85; have Ha := htc; refine htc.mono ?_; rintro e w1 ⟨rfl, hP1, hK1⟩; have hst := HS.out w1 hP1 hK1; clear Ha htc hP1 hK1)
   | (go_at_call 69; refine hst.mono ?_; rintro e w2 ⟨rfl, ha⟩; have H2 := hide ha; clear ha))
  go_ret
  exact ⟨by rw [HC2.out]; rfl, by rw [HC2.out]; exact H2.out⟩
 ·have hv : findV S A nm = .pointer none := by unfold findV; rw [if_neg h0]
  have HC : Hid (S.truncate nm a = ((S.find nm).1, S)) := hide (by simp [Ds.truncate, h0])
  rw [hv] at hfd
  generalize (S.find nm).1 = E at hfd h0 HC
  have e0 : (E != 0) = true := by simpa using h0
  clear h hB h0 hv
  go_enter Tryz.func57, Tryz.ntmps57
  go_wp2_with (go_at_call 67; refine hfd.mono ?_; rintro e w' ⟨rfl, rfl⟩; clear hfd)
  go_ret
  exact ⟨by rw [HC.out]; rfl, by rw [HC.out]; exact HA.out⟩
set_option maxHeartbeats 1600000 in
set_option maxRecDepth 100000 in
theorem sync_ok {w : World} {p : Nat} {S : Ds} {A : Nat → Nat} {o : Lab} {N : Nat} (h : PD w p S A o) (hB : S.Bd N) (hN : N ≤ 268435456) (nm : By) (hnl : nm.length ≤ 4611686018427387904) :
  Calls Tryz.prog 26 #[.pointer (some ⟨p, 0, none⟩), encStr nm] w fun e w' => e = .returned (.int .i64 (S.sync nm).1) ∧ Aft w w' p (S.sync nm).2 o := by
 obtain ⟨ms, mh, rv, sv, h⟩ := h
 have hfd := find_ok h nm hnl
 have HA := hide (Aft.of h (Keep.refl _ w))
 by_cases h0 : (S.find nm).1 = 0
 ·obtain ⟨hon, hnm, hmem, hlt⟩ := Ds.find_ok h.wf h0
  have hv : findV S A nm = .pointer (some ⟨A (S.find nm).2, 0, none⟩) := by unfold findV; rw [if_pos h0]
  rw [hv, h0] at hfd
  have hst := stroke_ok h 0 (by have := hB.strokes; omega) (by have := hB.planned; omega)
  have HAF : Hid (∀ w2, PDx w2 p S.tick A o ms mh rv sv → Keep (· = p) w w2 → Aft w w2 p S.tick o) := fun w2 h2 hk => Aft.of h2 (mine_p h2 hk)
  cases hgo : S.goesOff
  ·have HC : Hid (S.sync nm = (0, { S.tick with th := upd S.th (S.find nm).2 (S.th (S.find nm).2).sync })) := hide (by simp [Ds.sync, h0, hgo])
   have hwf := h.wf.sync nm
   rw [HC.out] at hwf
   have ha0 : S.ans 0 = 0 := by unfold Ds.ans; rw [hgo]; rfl
   rw [ha0] at hst
   generalize (S.find nm).2 = k at hfd HC hlt hwf
   have HD : Hid (∀ v, PDx v p S.tick A o ms mh rv sv → Keep (· = p) w v → Calls Tryz.prog 15 #[.pointer (some ⟨A k, 0, none⟩)] v fun e w' => e = .returned (.tuple #[]) ∧ Aft w w' p { S.tick with th := upd S.th k (S.th k).sync } o) := fun v hv hkv => by
    refine (thingSync_pd hv hlt hwf).mono ?_
    rintro e w' ⟨rfl, hP, hK⟩
    exact ⟨rfl, Aft.trans (Lab.Ext.refl _ _) (mine_p hv hkv) ⟨A, _, ⟨_, _, _, _, hP⟩, Ext_ext _ _ _ _, mine_k hK⟩⟩
   clear h hB h0 hv hmem hnm hon hgo hwf ha0 HAF
   go_enter Tryz.func26, Tryz.ntmps26
   go_wp2_with (first
    | (go_at_call 67; refine hfd.mono ?_; rintro e w' ⟨rfl, rfl⟩; clear hfd)
    | (go_at_call 69; have Ha := hst; refine hst.mono ?_; rintro e w1 ⟨rfl, hP1, hK1⟩; have hty := HD.out w1 hP1 hK1; clear Ha hst hP1 hK1)
    | (go_at_call 15; refine hty.mono ?_; rintro e w2 ⟨rfl, ha⟩; have H2 := hide ha; clear ha))
   go_ret
   exact ⟨by rw [HC.out]; rfl, by rw [HC.out]; exact H2.out⟩
  ·have HC : Hid (S.sync nm = (50, S.tick)) := hide (by simp [Ds.sync, h0, hgo])
   have ha0 : S.ans 0 = 50 := by unfold Ds.ans; rw [hgo]; rfl
   rw [ha0] at hst
   clear h hB h0 hv hmem hnm hon hgo ha0
   go_enter Tryz.func26, Tryz.ntmps26
   go_wp2_with (first
    | (go_at_call 67; refine hfd.mono ?_; rintro e w' ⟨rfl, rfl⟩; clear hfd)
    | (go_at_call 69; have Ha := hst; refine hst.mono ?_; rintro e w1 ⟨rfl, hP1, hK1⟩; have H2 := hide (HAF.out w1 hP1 hK1); clear Ha hst hP1 hK1))
   go_ret
   exact ⟨by rw [HC.out]; rfl, by rw [HC.out]; exact H2.out⟩
 ·have hv : findV S A nm = .pointer none := by unfold findV; rw [if_neg h0]
  have HC : Hid (S.sync nm = ((S.find nm).1, S)) := hide (by simp [Ds.sync, h0])
  rw [hv] at hfd
  generalize (S.find nm).1 = E at hfd h0 HC
  have e0 : (E != 0) = true := by simpa using h0
  clear h hB h0 hv
  go_enter Tryz.func26, Tryz.ntmps26
  go_wp2_with (go_at_call 67; refine hfd.mono ?_; rintro e w' ⟨rfl, rfl⟩; clear hfd)
  go_ret
  exact ⟨by rw [HC.out]; rfl, by rw [HC.out]; exact HA.out⟩
theorem PDx.synced {w w' : World} {p : Nat} {S S' : Ds} {A : Nat → Nat} {o : Lab} {ms mh : Nat} {rv sv : Value} (h : PDx w p S A o ms mh rv sv) {nb mh' : Nat} {l : Nm}
  (hc : w'.heap[p]? = some (.cells #[.int .i64 S'.room, .bool S'.on, .map (some nb), .slice none 0 0, .map (some mh'), .int .i64 S'.strokes, .int .i64 S'.off, .int .i64 S'.from_, .int .i64 S'.to, .int .i64 S'.planned, sv] 62 (0, 0)))
  (h1 : Mp w' nb A l) (h2 : Mp w' mh' A l) (hne : nb ≠ mh') (hK : Keep (· = p) w w') (hn : w.heap.size ≤ nb) (hm : mh' = mh ∨ w.heap.size ≤ mh')
  (hwf : S'.Wf) (e1 : S'.safe = l) (e2 : S'.shown = l) (e3 : S'.row = []) (e4 : S'.reads = S.reads) (e5 : S'.th = S.th) (e6 : S'.nx = S.nx) (hp : (Lit.int .i64 S'.off).wf = true ∧ (Lit.int .i64 S'.from_).wf = true ∧ (Lit.int .i64 S'.to).wf = true) :
  PDx w' p S' A (o.ext w w' 1) nb mh' (.slice none 0 0) sv := by
 have old : ∀ b, b < w.heap.size → o.ext w w' 1 b = o b := fun b hb => Lab.ext_old hb
 refine ⟨hwf, hc, hne, by rw [e1]; exact h1, by rw [e2]; exact h2, by rw [e3]; exact World.ownsRow_nil _ _ _ _, ?_, ?_, (old p h.lt).trans h.lp, Lab.ext_new hn h1.lt, ?_, by simp [Value.ownBlock], fun g hg => (old g (h.reads.lt g hg).2).trans (h.ls g hg), lim_ext h.lim hK.size, hp⟩
 ·rw [e4]; exact own_keeps h.reads hK (fun g hg e => h.ne_s (by rw [hg, e]))
 ·rw [e5, e6]
  intro j hj
  exact (h.th j hj).ext hK (fun g hg e => by subst e; rw [h.lp] at hg; omega)
 ·rcases hm with rfl | e
  ·exact (old _ h.shown.lt).trans h.lh
  ·exact Lab.ext_new e h2.lt
set_option maxHeartbeats 1600000 in
set_option maxRecDepth 100000 in
theorem syncNames_ok {w : World} {p : Nat} {S : Ds} {A : Nat → Nat} {o : Lab} {N : Nat} (h : PD w p S A o) (hB : S.Bd N) (hN : N ≤ 268435456) :
  Calls Tryz.prog 27 #[.pointer (some ⟨p, 0, none⟩)] w fun e w' => e = .returned (.int .i64 (S.syncNames).1) ∧ Aft w w' p (S.syncNames).2 o := by
 obtain ⟨ms, mh, rv, sv, h⟩ := h
 have hoff := off_ok h
 have HA := hide (Aft.of h (Keep.refl _ w))
 by_cases hon : S.on = true
 ·rw [hon] at hoff
  have hst := stroke_ok h 0 (by have := hB.strokes; omega) (by have := hB.planned; omega)
  have HAF : Hid (∀ w2, PDx w2 p S.tick A o ms mh rv sv → Keep (· = p) w w2 → Aft w w2 p S.tick o) := fun w2 h2 hk => Aft.of h2 (mine_p h2 hk)
  cases hgo : S.goesOff
  ·have HC : Hid (S.syncNames = (0, { S.tick with safe := S.shown, row := [] })) := hide (by simp [Ds.syncNames, hon, hgo])
   have hwf := h.wf.syncNames
   rw [HC.out] at hwf
   have ha0 : S.ans 0 = 0 := by unfold Ds.ans; rw [hgo]; rfl
   rw [ha0] at hst
   have HD : Hid (∀ v, PDx v p S.tick A o ms mh rv sv → Keep (· = p) w v → Calls Tryz.prog 16 #[.pointer (some ⟨p, 2, none⟩)] v fun e w' => e = .returned (.tuple #[]) ∧ Aft w w' p { S.tick with safe := S.shown, row := [] } o) := fun v hv hkv => by
    refine (dirSync_ok p 2 mh 62 _ A S.shown v hv.cells (by simp) rfl hv.shown).mono ?_
    rintro e w' ⟨rfl, nb, k1, k2, k3, k4, k5⟩
    have hP := PDx.synced (S' := { S.tick with safe := S.shown, row := [] }) hv k1 k2 k3 (by have := hv.shown.lt; omega) k4 k5 (.inl rfl) hwf rfl rfl rfl rfl rfl rfl hv.pl
    exact ⟨rfl, Aft.trans (Lab.Ext.refl _ _) (mine_p hv hkv) ⟨A, _, ⟨_, _, _, _, hP⟩, Ext_ext _ _ _ _, mine_p hv k4⟩⟩
   clear h hB hon hgo hwf ha0 HAF
   go_enter Tryz.func27, Tryz.ntmps27
   go_wp2_with (first
    | (go_at_call 36; refine hoff.mono ?_; rintro e w' ⟨rfl, rfl⟩)
    | (go_at_call 69; have Ha := hst; refine hst.mono ?_; rintro e w1 ⟨rfl, hP1, hK1⟩; have hty := HD.out w1 hP1 hK1; clear Ha hst hP1 hK1)
    | (go_at_call 16; refine hty.mono ?_; rintro e w2 ⟨rfl, ha⟩; have H2 := hide ha; clear ha))
   go_ret
   exact ⟨by rw [HC.out]; rfl, by rw [HC.out]; exact H2.out⟩
  ·have HC : Hid (S.syncNames = (50, S.tick)) := hide (by simp [Ds.syncNames, hon, hgo])
   have ha0 : S.ans 0 = 50 := by unfold Ds.ans; rw [hgo]; rfl
   rw [ha0] at hst
   clear h hB hon hgo ha0
   go_enter Tryz.func27, Tryz.ntmps27
   go_wp2_with (first
    | (go_at_call 36; refine hoff.mono ?_; rintro e w' ⟨rfl, rfl⟩)
    | (go_at_call 69; have Ha := hst; refine hst.mono ?_; rintro e w1 ⟨rfl, hP1, hK1⟩; have H2 := hide (HAF.out w1 hP1 hK1); clear Ha hst hP1 hK1))
   go_ret
   exact ⟨by rw [HC.out]; rfl, by rw [HC.out]; exact H2.out⟩
 ·simp only [Bool.not_eq_true] at hon
  rw [hon] at hoff
  have HC : Hid (S.syncNames = (50, S)) := hide (by simp [Ds.syncNames, hon])
  clear h hB
  go_enter Tryz.func27, Tryz.ntmps27
  go_wp2_with (go_at_call 36; refine hoff.mono ?_; rintro e w' ⟨rfl, rfl⟩)
  go_ret
  exact ⟨by rw [HC.out]; rfl, by rw [HC.out]; exact HA.out⟩
end

section
open Go.RowKit Dsk
set_option linter.unusedVariables false
set_option linter.unusedSimpArgs false
theorem Tryz.infoSpan : (Tryz.prog.info? 126).map (fun i => (i.zero, i.size, i.bytes)) = some (some (.agg #[.string ⟨#[]⟩, .int .i64 0, .int .i64 0]), 3, 32) := by kernel_rfl
set_option maxHeartbeats 400000 in
set_option maxRecDepth 100000 in
theorem cloneB_nil (w : World) :
  Calls Tryz.prog 14 #[.slice none 0 0] w fun e w' => e = .returned (.slice none 0 0) ∧ w' = w := by
 have hnil := fun (w : World) (a : Option Addr) (n c : Nat) => Lib.run_eql_slice_nil (P := Tryz.prog) w 24 5 a n c 0 0 Tryz.underlying24
 go_enter Tryz.func14, Tryz.ntmps14
 go_wp2
 go_ret
 exact ⟨rfl, rfl⟩
set_option maxHeartbeats 400000 in
set_option maxRecDepth 100000 in
theorem cloneB_some (ad : Addr) (cap m : Nat) (xs : List Value) (w : World) (hx : xs.length = m * 1) (h1 : ∀ u ∈ xs, u.oneCell' = true) (hm : m ≤ 1073741824) (hc : ∀ j u, xs[j]? = some u → (w.alloc (.cells #[] 5)).cell? (ad.add j) = some u) :
  Calls Tryz.prog 14 #[.slice (some ad) m cap] w fun e w' => ∃ v, e = .returned v ∧ w'.ownsRow w.heap.size 5 1 v m xs ∧ Kept [] w w' := by
 obtain ⟨i0, hi, hz0, hz1, hz2⟩ := info_parts Tryz.infoByte
 have hnil := fun (w : World) (a : Option Addr) (n c : Nat) => Lib.run_eql_slice_nil (P := Tryz.prog) w 24 5 a n c 0 0 Tryz.underlying24
 go_enter Tryz.func14, Tryz.ntmps14
 go_wp2_with (at_builtin; refine wpList_append_own _ rfl _ _ 24 rfl w.heap.size 5 i0 (.int .u8 0) 1 1 Tryz.underlying24 hi hz0 hz1 hz2 rfl (by decide) _ 0 [] rfl (World.ownsRow_made w #[] 0 (Nat.le_refl _) (by decide) rfl) ad m cap xs rfl hx hc h1 ?c3 ?c4 ?c5 ?_)
 case c3 => unfold maxLen; omega
 case c4 => omega
 case c5 => simp
 intro v' w1 hown hgrow hnn
 have hk : Kept [] w w1 := ((Kept.refl [] w).alloc _).grown hgrow (by intro k hk hlt; simp [Value.ownBlock] at hk; omega)
 obtain ⟨bo, bc, rfl, _⟩ := own_shape hown
 have HOW := hide hown
 clear hown hgrow hnn hnil hc
 go_wp2
 go_ret
 exact ⟨_, rfl, HOW.out, hk⟩
set_option maxHeartbeats 400000 in
set_option maxRecDepth 100000 in
theorem cloneS_nil (w : World) :
  Calls Tryz.prog 72 #[.slice none 0 0] w fun e w' => e = .returned (.slice none 0 0) ∧ w' = w := by
 have hnil := fun (w : World) (a : Option Addr) (n c : Nat) => Lib.run_eql_slice_nil (P := Tryz.prog) w 60 126 a n c 0 0 Tryz.underlying60
 go_enter Tryz.func72, Tryz.ntmps72
 go_wp2
 go_ret
 exact ⟨rfl, rfl⟩
set_option maxHeartbeats 400000 in
set_option maxRecDepth 100000 in
theorem cloneS_some (ad : Addr) (cap m : Nat) (xs : List Value) (w : World) (hx : xs.length = m * 3) (h1 : ∀ u ∈ xs, u.oneCell' = true) (hm : m ≤ 1073741824) (hc : ∀ j u, xs[j]? = some u → (w.alloc (.cells #[] 126)).cell? (ad.add j) = some u) :
  Calls Tryz.prog 72 #[.slice (some ad) m cap] w fun e w' => ∃ v, e = .returned v ∧ w'.ownsRow w.heap.size 126 3 v m xs ∧ Kept [] w w' := by
 obtain ⟨i0, hi, hz0, hz1, hz2⟩ := info_parts Tryz.infoSpan
 have hnil := fun (w : World) (a : Option Addr) (n c : Nat) => Lib.run_eql_slice_nil (P := Tryz.prog) w 60 126 a n c 0 0 Tryz.underlying60
 go_enter Tryz.func72, Tryz.ntmps72
 go_wp2_with (at_builtin; refine wpList_append_own _ rfl _ _ 60 rfl w.heap.size 126 i0 (.agg #[.string ⟨#[]⟩, .int .i64 0, .int .i64 0]) 3 32 Tryz.underlying60 hi hz0 hz1 hz2 rfl (by decide) _ 0 [] rfl (World.ownsRow_made w #[] 0 (Nat.le_refl _) (by decide) rfl) ad m cap xs rfl hx hc h1 ?c3 ?c4 ?c5 ?_)
 case c3 => unfold maxLen; omega
 case c4 => omega
 case c5 => simp
 intro v' w1 hown hgrow hnn
 have hk : Kept [] w w1 := ((Kept.refl [] w).alloc _).grown hgrow (by intro k hk hlt; simp [Value.ownBlock] at hk; omega)
 obtain ⟨bo, bc, rfl, _⟩ := own_shape hown
 have HOW := hide hown
 clear hown hgrow hnn hnil hc
 go_wp2
 go_ret
 exact ⟨_, rfl, HOW.out, hk⟩
theorem cloneB_ok (ao : Option Addr) (n c : Nat) (xs : By) (w : World) (hn : xs.length = n) (h : Sl w ao xs) (h0 : ao = none → n = 0 ∧ c = 0) (hm : n ≤ 1073741824) :
  Calls Tryz.prog 14 #[.slice ao n c] w fun e w' => ∃ v, e = .returned v ∧ OwnB w' v n xs ∧ Kept [] w w' ∧ (∀ g, v.ownBlock = some g → w.heap.size ≤ g) := by
 cases ao with
 | none =>
  obtain ⟨rfl, rfl⟩ := h0 rfl
  have : xs = [] := List.eq_nil_of_length_eq_zero hn
  subst this
  refine (cloneB_nil w).mono ?_
  rintro e w' ⟨rfl, rfl⟩
  exact ⟨_, rfl, OwnB.nil _, Kept.refl _ _, by simp [Value.ownBlock]⟩
 | some ad =>
  have hk := (Kept.refl [] w).alloc (.cells #[] 5)
  refine (cloneB_some ad c n (bys xs) w (by rw [bys_length]; omega) (bys_oneCell xs) hm (fun j u hu => ?_)).mono ?_
  ·obtain ⟨hj, rfl⟩ := bys_get hu
   obtain ⟨b', off', e', hc⟩ := h j hj
   injection e' with e'
   subst e'
   rw [show ((⟨b', off', none⟩ : Addr).add j) = ⟨b', off' + j, none⟩ from by unfold Addr.add; by_cases h : j = 0 <;> simp [h]]
   exact hk.cellOf hc (by simp)
  ·rintro e w' ⟨v, rfl, ho, hk⟩
   exact ⟨v, rfl, OwnB.of ho, hk, fun g hg => (ho.lt g hg).1⟩
theorem cloneS_ok (v : Value) (n : Nat) (xs : List Value) (w : World) (h : w.ownsRow 0 126 3 v n xs) (h1 : ∀ u ∈ xs, u.oneCell' = true) (hm : n ≤ 1073741824) :
  Calls Tryz.prog 72 #[v] w fun e w' => ∃ v', e = .returned v' ∧ w'.ownsRow w.heap.size 126 3 v' n xs ∧ Kept [] w w' := by
 have hx := h.1
 have hcl := fun g => h.cells (g := g)
 rcases h.2 with ⟨rfl, rfl⟩ | ⟨g, cap, cur, rfl, _⟩
 ·have : xs = [] := List.eq_nil_of_length_eq_zero (by omega)
  subst this
  refine (cloneS_nil w).mono ?_
  rintro e w' ⟨rfl, rfl⟩
  exact ⟨_, rfl, World.ownsRow_nil _ _ _ _, Kept.refl _ _⟩
 ·have hk := (Kept.refl [] w).alloc (.cells #[] 126)
  exact cloneS_some ⟨g, 0, none⟩ cap n xs w hx h1 hm (fun j u hu => hk.cellOf (hcl g rfl j u hu) (by simp))
end

section
open Go.RowKit Dsk
set_option linter.unusedVariables false
set_option linter.unusedSimpArgs false
set_option maxHeartbeats 800000 in
set_option maxRecDepth 100000 in
theorem strokes_ok {w : World} {p : Nat} {S : Ds} {A : Nat → Nat} {o : Lab} (h : PD w p S A o) : Calls Tryz.prog 30 #[.pointer (some ⟨p, 0, none⟩)] w fun e w' => e = .returned (.int .i64 S.strokes) ∧ w' = w := by
 obtain ⟨ms, mh, rv, sv, h⟩ := h
 have c5 := h.c5
 clear h
 go_enter Tryz.func30, Tryz.ntmps30
 go_wp2
 go_ret
 exact ⟨rfl, rfl⟩
set_option maxHeartbeats 800000 in
set_option maxRecDepth 100000 in
theorem isNone_ok {w : World} {p : Nat} {S : Ds} {A : Nat → Nat} {o : Lab} {ms mh : Nat} {rv sv : Value} (h : PDx w p S A o ms mh rv sv) : Calls Tryz.prog 73 #[.pointer (some ⟨p, 0, none⟩)] w fun e w' => e = .returned (.bool false) ∧ w' = w := by
 have c0 := h.c0
 have hr := h.wf.room
 have hz : ((S.room : Int) == 0) = false := by simp; omega
 clear h
 go_enter Tryz.func73, Tryz.ntmps73
 go_wp2
 go_ret
 exact ⟨rfl, rfl⟩
theorem offD_ok {w : World} {p : Nat} {S : Ds} {A : Nat → Nat} {o : Lab} (h : PD w p S A o) : Calls Tryz.prog 36 #[.pointer (some ⟨p, 0, none⟩)] w fun e w' => e = .returned (.bool (!S.on)) ∧ w' = w := by
 obtain ⟨ms, mh, rv, sv, h⟩ := h
 exact off_ok h
theorem usedD_ok {w : World} {p : Nat} {S : Ds} {A : Nat → Nat} {o : Lab} {N : Nat} (h : PD w p S A o) (hB : S.Bd N) (hN : N ≤ 536870912) : Calls Tryz.prog 35 #[.pointer (some ⟨p, 0, none⟩)] w fun e w' => e = .returned (.int .i64 S.used) ∧ Kept [] w w' := by
 obtain ⟨ms, mh, rv, sv, h⟩ := h
 exact used_ok h hB hN
set_option maxHeartbeats 800000 in
set_option maxRecDepth 100000 in
theorem look_ok {w : World} {p : Nat} {S : Ds} {A : Nat → Nat} {o : Lab} (h : PD w p S A o) : Calls Tryz.prog 94 #[.pointer (some ⟨p, 0, none⟩)] w fun e w' => e = .returned (.tuple #[]) ∧ Aft w w' p S.look o := by
 obtain ⟨ms, mh, rv, sv, h⟩ := h
 have c10 := h.c10
 have f10 := h.fr 10
 have FIN : Hid (Aft w (w.setCell ⟨p, 10, none⟩ (.slice none 0 0)) p S.look o) := by
  have hK : Keep (· = p) w (w.setCell ⟨p, 10, none⟩ (.slice none 0 0)) := (Keep.refl (· = p) w).setCell (p := ⟨p, 10, none⟩) (fun _ => rfl) _
  refine Aft.of (A := A) (ms := ms) (mh := mh) (rv := rv) (sv := .slice none 0 0) ⟨h.wf.look, heap_setCell_same w p 10 _ _ _ h.cells, h.ne, h.safe.keep hK h.ne_m, h.shown.keep hK h.ne_h, own_keeps h.row hK (fun g hg e => h.ne_r (by rw [hg, e])), World.ownsRow_nil _ _ _ _, fun k hk => ?_, h.lp, h.lm, h.lh, h.lr, by simp [Value.ownBlock], fun b hb => Nat.lt_of_lt_of_le (h.lim b hb) hK.size, h.pl⟩ (mine_p h hK)
  obtain ⟨a, b, ht⟩ := h.th k hk
  exact ⟨a, b, ht.keep hK (fun g hg e => by subst e; rw [h.lp] at hg; omega)⟩
 clear h
 go_enter Tryz.func94, Tryz.ntmps94
 go_wp2
 first | refine bodyPost_end (results_none rfl _ _ _) rfl ?_ | refine bodyPost_ret (results_none rfl _ _ _) rfl ?_
 exact ⟨rfl, FIN.out⟩
set_option maxHeartbeats 800000 in
set_option maxRecDepth 100000 in
theorem plan_ok {w : World} {p : Nat} {S : Ds} {A : Nat → Nat} {o : Lab} (h : PD w p S A o) (a b c : Int) (hp : (Lit.int .i64 a).wf = true ∧ (Lit.int .i64 b).wf = true ∧ (Lit.int .i64 c).wf = true) : Calls Tryz.prog 89 #[.pointer (some ⟨p, 0, none⟩), .agg #[.int .i64 a, .int .i64 b, .int .i64 c]] w fun e w' => e = .returned (.tuple #[]) ∧ Aft w w' p (S.setPlan a b c) o := by
 obtain ⟨ms, mh, rv, sv, h⟩ := h
 obtain ⟨w0, hw0⟩ : ∃ w0, w0 = w.alloc (.cells #[.int .i64 a, .int .i64 b, .int .i64 c] 50) := ⟨_, rfl⟩
 have hk0 : Kept [] w w0 := by rw [hw0]; exact (Kept.refl [] w).alloc _
 have h0 := h.keep (Keep.ofNone (F := fun _ => False) hk0) (fun _ _ h => h)
 have hoff := off_ok h0
 have hb0 : w0.heap[w.heap.size]? = some (.cells #[.int .i64 a, .int .i64 b, .int .i64 c] 50 (0, 0)) := by rw [hw0]; exact (MapKept.heap_alloc w _).1
 have i0 : w0.cell? ⟨w.heap.size, 0, none⟩ = some (.int .i64 a) := by rw [cell_of_row w0 _ 0 _ _ _ hb0]; rfl
 have i1 : w0.cell? ⟨w.heap.size, 1, none⟩ = some (.int .i64 b) := by rw [cell_of_row w0 _ 1 _ _ _ hb0]; rfl
 have i2 : w0.cell? ⟨w.heap.size, 2, none⟩ = some (.int .i64 c) := by rw [cell_of_row w0 _ 2 _ _ _ hb0]; rfl
 by_cases hon : S.on = true
 ·rw [hon] at hoff
  have HC : Hid (S.setPlan a b c = { S with off := a, from_ := b, to := c, planned := 0 }) := hide (by simp [Ds.setPlan, hon])
  have c6 := h0.c6
  have c7 := h0.c7
  have c8 := h0.c8
  have c9 := h0.c9
  have f6 := h0.fr 6
  have f7 := h0.fr 7
  have f8 := h0.fr 8
  have f9 := h0.fr 9
  have FIN : Hid (Aft w ((((w0.setCell ⟨p, 6, none⟩ (.int .i64 a)).setCell ⟨p, 7, none⟩ (.int .i64 b)).setCell ⟨p, 8, none⟩ (.int .i64 c)).setCell ⟨p, 9, none⟩ (.int .i64 0)) p (S.setPlan a b c) o) := by
   have hK : Keep (· = p) w0 ((((w0.setCell ⟨p, 6, none⟩ (.int .i64 a)).setCell ⟨p, 7, none⟩ (.int .i64 b)).setCell ⟨p, 8, none⟩ (.int .i64 c)).setCell ⟨p, 9, none⟩ (.int .i64 0)) := ((((Keep.refl (· = p) w0).setCell (p := ⟨p, 6, none⟩) (fun _ => rfl) _).setCell (p := ⟨p, 7, none⟩) (fun _ => rfl) _).setCell (p := ⟨p, 8, none⟩) (fun _ => rfl) _).setCell (p := ⟨p, 9, none⟩) (fun _ => rfl) _
   have q6 := heap_setCell_same w0 p 6 _ _ (.int .i64 a) h0.cells
   have q7 := heap_setCell_same _ p 7 _ _ (.int .i64 b) q6
   have q8 := heap_setCell_same _ p 8 _ _ (.int .i64 c) q7
   have q9 := heap_setCell_same _ p 9 _ _ (.int .i64 0) q8
   rw [HC.out]
   have hwf := h.wf.setPlan a b c
   rw [HC.out] at hwf
   exact Aft.trans (Lab.Ext.refl _ _) (Keep.ofNone hk0) (Aft.of (h0.recell hK hwf q9 rfl rfl rfl rfl rfl rfl hp) (mine_p h0 hK))
  have HI := hide hb0
  clear h h0 hb0 hk0 HC
  go_enter Tryz.func89, Tryz.ntmps89
  go_upto_region 1 with (fail)
  rw [← hw0]
  clear hw0
  go_wp2_with (go_at_call 36; refine hoff.mono ?_; rintro e w' ⟨rfl, rfl⟩)
  first | refine bodyPost_end (results_none rfl _ _ _) rfl ?_ | refine bodyPost_ret (results_none rfl _ _ _) rfl ?_
  exact ⟨rfl, FIN.out⟩
 ·simp only [Bool.not_eq_true] at hon
  rw [hon] at hoff
  have FIN : Hid (Aft w w0 p (S.setPlan a b c) o) := by
   have : S.setPlan a b c = S := by simp [Ds.setPlan, hon]
   rw [this]
   exact Aft.of h0 (Keep.ofNone hk0)
  clear h h0 hb0 hk0
  go_enter Tryz.func89, Tryz.ntmps89
  go_upto_region 1 with (fail)
  rw [← hw0]
  clear hw0
  go_wp2_with (go_at_call 36; refine hoff.mono ?_; rintro e w' ⟨rfl, rfl⟩)
  first | refine bodyPost_end (results_none rfl _ _ _) rfl ?_ | refine bodyPost_ret (results_none rfl _ _ _) rfl ?_
  exact ⟨rfl, FIN.out⟩
set_option maxHeartbeats 800000 in
set_option maxRecDepth 100000 in
theorem size_ok {w : World} {p : Nat} {S : Ds} {A : Nat → Nat} {o : Lab} (h : PD w p S A o) (nm : By) (hnl : nm.length ≤ 4611686018427387904) : Calls Tryz.prog 87 #[.pointer (some ⟨p, 0, none⟩), encStr nm] w fun e w' => e = .returned (.tuple #[.int .i64 (S.size nm), .int .i64 (S.find nm).1]) ∧ w' = w := by
 obtain ⟨ms, mh, rv, sv, h⟩ := h
 have hfd := find_ok h nm hnl
 by_cases h0 : (S.find nm).1 = 0
 ·obtain ⟨hon, hnm, hmem, hlt⟩ := Ds.find_ok h.wf h0
  have hv : findV S A nm = .pointer (some ⟨A (S.find nm).2, 0, none⟩) := by unfold findV; rw [if_pos h0]
  have HC : Hid (S.size nm = (S.th (S.find nm).2).shown.length) := hide (by simp [Ds.size, h0])
  have HE := hide h0
  rw [hv, h0] at hfd
  generalize (S.find nm).2 = k at hfd HC hlt
  obtain ⟨rv1, sv1, ht⟩ := h.th k hlt
  obtain ⟨so, sc, rfl, _⟩ := ht.shown.shape
  have i2 := ht.th0.c2
  clear h ht h0 hv hmem hnm hon
  go_enter Tryz.func87, Tryz.ntmps87
  go_wp2_with (go_at_call 67; refine hfd.mono ?_; rintro e w' ⟨rfl, rfl⟩; clear hfd)
  go_ret2
  exact ⟨by rw [HC.out, HE.out]; rfl, rfl⟩
 ·have hv : findV S A nm = .pointer none := by unfold findV; rw [if_neg h0]
  have HC : Hid (S.size nm = 0) := hide (by simp [Ds.size, h0])
  rw [hv] at hfd
  generalize (S.find nm).1 = E at hfd h0
  have e0 : (E != 0) = true := by simpa using h0
  clear h h0 hv
  go_enter Tryz.func87, Tryz.ntmps87
  go_wp2_with (go_at_call 67; refine hfd.mono ?_; rintro e w' ⟨rfl, rfl⟩; clear hfd)
  go_ret2
  exact ⟨by rw [HC.out]; rfl, rfl⟩
theorem encSp_one (l : List Dsk.Span) : ∀ u ∈ l.flatMap encSp, u.oneCell' = true := by
 intro u hu
 obtain ⟨s, _, hs⟩ := List.mem_flatMap.1 hu
 simp only [encSp, List.mem_cons, List.not_mem_nil, or_false] at hs
 rcases hs with rfl | rfl | rfl <;> rfl
set_option maxHeartbeats 800000 in
set_option maxRecDepth 100000 in
theorem reads_ok {w : World} {p : Nat} {S : Ds} {A : Nat → Nat} {o : Lab} {N : Nat} (h : PD w p S A o) (hB : S.Bd N) (hN : N ≤ 268435456) : Calls Tryz.prog 31 #[.pointer (some ⟨p, 0, none⟩)] w fun e w' => ∃ v, e = .returned v ∧ w'.ownsRow w.heap.size 126 3 v S.reads.length (S.reads.flatMap encSp) ∧ Kept [] w w' := by
 obtain ⟨ms, mh, rv, sv, h⟩ := h
 have c10 := h.c10
 have hcl := cloneS_ok sv S.reads.length _ w h.reads (encSp_one _) (by have := hB.reads; omega)
 clear h hB
 go_enter Tryz.func31, Tryz.ntmps31
 go_wp2_with (go_at_call 72; refine hcl.mono ?_; rintro e w1 ⟨v, rfl, ho, hk⟩)
 go_ret
 exact ⟨v, rfl, ho, hk⟩
end

section
open Go.RowKit Dsk
set_option linter.unusedVariables false
set_option linter.unusedSimpArgs false
set_option maxRecDepth 100000 in
theorem Tryz.cutMid (W : World) (ao : Option Addr) (L cap a m : Nat) (xs : By) (hs : Sl W ao xs) (hx : xs.length = L) (hL : L ≤ cap) (h : a + m ≤ L) (h0 : ao = none → cap = 0) :
  ∃ ao', (Instr.slice 24 (.slice ao L cap) (some (.int .i64 a)) (some (.int .i64 ((a : Int) + (m : Int)))) none).run Tryz.prog W = .ok (.slice ao' m (cap - a)) W ∧ Sl W ao' ((xs.drop a).take m) ∧ (ao' = none → m = 0 ∧ cap - a = 0) := by
 have hz : (sizeOf (Tryz.prog.elem 24)).run Tryz.prog W = .ok 1 W := by kernel_rfl
 have hr := run_slice_lh (P := Tryz.prog) W 24 ao L cap (by kernel_rfl) .i64 .i64 a ((a : Int) + (m : Int)) (by omega) (by omega) (by omega)
 have hm : (((a : Int) + (m : Int)).toNat - a) = m := by omega
 rw [hr, hz]
 cases ao with
 | none =>
  have := h0 rfl
  subst this
  refine ⟨none, by simp [sliced, hm], ?_, fun _ => ⟨by omega, by omega⟩⟩
  have : (xs.drop a).take m = [] := by apply List.eq_nil_of_length_eq_zero; simp; omega
  rw [this]
  exact Sl.nil _ _
 | some ad =>
  by_cases hc : cap = a
  ·refine ⟨some ad, by simp [sliced, hc]; omega, ?_, by simp⟩
   have : (xs.drop a).take m = [] := by apply List.eq_nil_of_length_eq_zero; simp; omega
   rw [this]
   exact Sl.nil _ _
  ·refine ⟨some (ad.add a), by simp [sliced, hc, hm], ?_, by simp⟩
   intro i hi
   simp only [List.length_take, List.length_drop] at hi
   obtain ⟨b', off', e', hcell⟩ := hs (a + i) (by omega)
   injection e' with e'
   subst e'
   refine ⟨b', off' + a, by rw [show ((⟨b', off', none⟩ : Addr).add a) = ⟨b', off' + a, none⟩ from by unfold Addr.add; by_cases h : a = 0 <;> simp [h]], ?_⟩
   rw [Nat.add_assoc, hcell]
   have hi2 : i < m := by omega
   simp [List.getElem?_take, hi2, List.getElem?_drop]
def AftB (w w' : World) (p : Nat) (S' : Ds) (o : Lab) (v : Value) (xs : By) : Prop := ∃ A' o', PD w' p S' A' o' ∧ o.Ext o' w ∧ Keep o.mine w w' ∧ OwnB w' v xs.length xs ∧ (∀ g, v.ownBlock = some g → w.heap.size ≤ g ∧ o' g = 0)
theorem PDx.told {w w' : World} {p : Nat} {S : Ds} {A : Nat → Nat} {o : Lab} {ms mh : Nat} {rv sv sv' : Value} (h : PDx w p S A o ms mh rv sv) (s : Dsk.Span) (hwf : ({ S with reads := S.reads ++ [s] } : Ds).Wf)
  (hc : w'.heap[p]? = some (.cells #[.int .i64 S.room, .bool S.on, .map (some ms), rv, .map (some mh), .int .i64 S.strokes, .int .i64 S.off, .int .i64 S.from_, .int .i64 S.to, .int .i64 S.planned, sv'] 62 (0, 0)))
  (hr : w'.ownsRow 0 126 3 sv' (S.reads.length + 1) (S.reads.flatMap encSp ++ encSp s)) (hK : Keep (fun k => k = p ∨ sv.ownBlock = some k) w w') (hl : ∀ g, sv'.ownBlock = some g → sv.ownBlock = some g ∨ w.heap.size ≤ g) :
  PDx w' p { S with reads := S.reads ++ [s] } A (o.ext w w' 1) ms mh rv sv' ∧ Keep (fun b => o b = 1) w w' := by
 have hF : ∀ b, (b = p ∨ sv.ownBlock = some b) → o b = 1 := fun b hb => by
  rcases hb with rfl | e
  ·exact h.lp
  ·exact h.ls b e
 have old : ∀ b, b < w.heap.size → o.ext w w' 1 b = o b := fun b hb => Lab.ext_old hb
 refine ⟨⟨hwf, hc, h.ne, h.safe.keep hK ?_, h.shown.keep hK ?_, own_keeps h.row hK (fun g hg => ?_), ?_, fun j hj => (h.th j hj).ext hK (fun g hg e2 => by have := hF g e2; omega), (old p h.lt).trans h.lp, (old _ h.safe.lt).trans h.lm, (old _ h.shown.lt).trans h.lh, fun g hg => (old g (h.row.lt g hg).2).trans (h.lr g hg), fun g hg => ?_, lim_ext h.lim hK.size, h.pl⟩, hK.mono (fun b hb _ => hF b hb)⟩
 ·rintro (e | e)
  ·exact h.ne_m e
  ·exact own_nmap h.reads h.safe.blk e
 ·rintro (e | e)
  ·exact h.ne_h e
  ·exact own_nmap h.reads h.shown.blk e
 ·rintro (e | e)
  ·exact h.ne_r (by rw [hg, e])
  ·exact own_two h.row h.reads (by decide) g hg e
 ·have e1 : ({ S with reads := S.reads ++ [s] } : Ds).reads.length = S.reads.length + 1 := by simp
  have e2 : ({ S with reads := S.reads ++ [s] } : Ds).reads.flatMap encSp = S.reads.flatMap encSp ++ encSp s := by simp
  rw [e1, e2]
  exact hr
 ·rcases hl g hg with e | e
  ·exact (old g (h.reads.lt g e).2).trans (h.ls g e)
  ·exact Lab.ext_new e (hr.lt g hg).2
set_option maxHeartbeats 1600000 in
set_option maxRecDepth 100000 in
theorem read_ok {w : World} {p : Nat} {S : Ds} {A : Nat → Nat} {o : Lab} {N : Nat} (h : PD w p S A o) (hB : S.Bd N) (hN : N ≤ 268435456) (nm : By) (hnl : nm.length ≤ 4611686018427387904) (a m : Int) :
  Calls Tryz.prog 29 #[.pointer (some ⟨p, 0, none⟩), encStr nm, .int .i64 a, .int .i64 m] w fun e w' => ∃ v, e = .returned (.tuple #[v, .int .i64 (S.readOk nm a m)]) ∧ AftB w w' p (S.read nm a m) o v (S.readBytes nm a m) := by
 obtain ⟨ms, mh, rv, sv, h⟩ := h
 have hfd := find_ok h nm hnl
 have HNO : Hid (∀ E : Int, E ≠ 0 → S.readOk nm a m = E → AftB w w p (S.read nm a m) o (.slice none 0 0) (S.readBytes nm a m)) := fun E hE he => by
  have e1 : S.read nm a m = S := by unfold Ds.read; rw [he, if_neg hE]
  have e2 : S.readBytes nm a m = [] := by unfold Ds.readBytes; rw [he, if_neg hE]
  rw [e1, e2]
  exact ⟨A, o, ⟨ms, mh, rv, sv, h⟩, Lab.Ext.refl _ _, Keep.refl _ _, OwnB.nil _, by simp [Value.ownBlock]⟩
 by_cases h0 : (S.find nm).1 = 0
 ·obtain ⟨hon, hnm, hmem, hlt⟩ := Ds.find_ok h.wf h0
  have hv : findV S A nm = .pointer (some ⟨A (S.find nm).2, 0, none⟩) := by unfold findV; rw [if_pos h0]
  have HC : Hid (S.readOk nm a m = if a < 0 ∨ m < 0 ∨ ((S.th (S.find nm).2).shown.length : Int) < a ∨ ((S.th (S.find nm).2).shown.length : Int) - a < m then 54 else 0) := hide (by simp [Ds.readOk, h0])
  have HD : Hid (S.readOk nm a m = 0 → S.readBytes nm a m = ((S.th (S.find nm).2).shown.drop a.toNat).take m.toNat ∧ S.read nm a m = { S with reads := S.reads ++ [⟨nm, a.toNat, m.toNat⟩] }) := fun he => by
   unfold Ds.readBytes Ds.read
   rw [he, if_pos rfl, if_pos rfl]
   exact ⟨rfl, rfl⟩
  rw [hv, h0] at hfd
  generalize (S.find nm).2 = k at hfd HC hlt HD
  obtain ⟨rv1, sv1, ht⟩ := h.th k hlt
  obtain ⟨so, sc, rfl, hsc, hscm, hs0, hs1⟩ := ht.shown.shape
  have i2 := ht.th0.c2
  have hlen := hB.len h.wf hlt
  by_cases hbad : a < 0 ∨ m < 0 ∨ ((S.th k).shown.length : Int) < a ∨ ((S.th k).shown.length : Int) - a < m
  ·have he : S.readOk nm a m = 54 := by rw [HC.out, if_pos hbad]
   have H54 := hide (HNO.out 54 (by decide) he)
   have HE := hide he
   clear h hB ht h0 hv hmem hnm hon HC HD HNO he hs0 hs1
   generalize (S.th k).shown.length = L at i2 hlen hbad hsc
   by_cases b1 : a < 0
   ·go_enter Tryz.func29, Tryz.ntmps29
    go_wp2_with (go_at_call 67; refine hfd.mono ?_; rintro e w' ⟨rfl, rfl⟩; clear hfd)
    go_ret2
    exact ⟨_, by rw [HE.out]; rfl, H54.out⟩
   by_cases b2 : m < 0
   ·go_enter Tryz.func29, Tryz.ntmps29
    go_wp2_with (go_at_call 67; refine hfd.mono ?_; rintro e w' ⟨rfl, rfl⟩; clear hfd)
    go_ret2
    exact ⟨_, by rw [HE.out]; rfl, H54.out⟩
   by_cases b3 : (L : Int) < a
   ·go_enter Tryz.func29, Tryz.ntmps29
    go_wp2_with (go_at_call 67; refine hfd.mono ?_; rintro e w' ⟨rfl, rfl⟩; clear hfd)
    go_ret2
    exact ⟨_, by rw [HE.out]; rfl, H54.out⟩
   have b4 : (L : Int) - a < m := by omega
   clear hbad
   go_enter Tryz.func29, Tryz.ntmps29
   go_wp2_with (go_at_call 67; refine hfd.mono ?_; rintro e w' ⟨rfl, rfl⟩; clear hfd)
   go_ret2
   exact ⟨_, by rw [HE.out]; rfl, H54.out⟩
  ·obtain ⟨x, rfl⟩ : ∃ x : Nat, a = x := ⟨a.toNat, by omega⟩
   obtain ⟨y, rfl⟩ : ∃ y : Nat, m = y := ⟨m.toNat, by omega⟩
   have he : S.readOk nm x y = 0 := by rw [HC.out, if_neg hbad]
   obtain ⟨hb1, hb2⟩ := HD.out he
   simp only [Int.toNat_natCast] at hb1 hb2
   have hwfr := h.wf.read nm x y
   rw [hb2] at hwfr
   obtain ⟨to, tc, rfl, _⟩ := own_shape h.reads
   have c10 := h.c10
   obtain ⟨g, c2, w1, hrun, ho1, hk1, hg1, hlt1⟩ := run_app (P := Tryz.prog) w 60 60 126 Tryz.underlying60 Tryz.infoSpan rfl (by decide) _ S.reads.length _ h.reads (encSp ⟨nm, x, y⟩) rfl (by simp [encSp, Value.oneCell']) (by unfold maxLen; have := hB.reads; omega) (by have := hB.reads; omega)
   have hK1 := hk1 (fun k => (Value.slice to S.reads.length tc).ownBlock = some k) (fun k e => e)
   have hQ1 := hK1.heapOf h.cells h.ne_s
   have hgp : g ≠ p := by rcases hg1 with e | e; exact fun e2 => h.ne_s (by rw [← e, e2]); have := h.lt; omega
   obtain ⟨w2, hw2⟩ : ∃ w2, w2 = w1.setCell ⟨p, 10, none⟩ (.slice (some ⟨g, 0, none⟩) (S.reads.length + 1) c2) := ⟨_, rfl⟩
   have hK2 : Keep (· = p) w1 w2 := by rw [hw2]; exact (Keep.refl (· = p) w1).setCell (p := ⟨p, 10, none⟩) (fun _ => rfl) _
   have hQ2 := heap_setCell_same w1 p 10 _ _ (.slice (some ⟨g, 0, none⟩) (S.reads.length + 1) c2) hQ1
   rw [← hw2] at hQ2
   have ho2 := own_keeps ho1 hK2 (fun k e e2 => by simp only [Value.ownBlock, Option.some.injEq] at e; exact hgp (by rw [e, e2]))
   have hK02 : Keep (fun k => k = p ∨ (Value.slice to S.reads.length tc).ownBlock = some k) w w2 := (hK1.mono (fun k e _ => .inr e)).trans hK2 (fun k e _ => .inl e)
   obtain ⟨hP2, hKo⟩ := h.told ⟨nm, x, y⟩ hwfr hQ2 ho2 hK02 (fun k e => by
    simp only [Value.ownBlock, Option.some.injEq] at e
    subst e
    rcases hg1 with e | e
    ·exact .inl e.symm
    ·exact .inr e)
   have d10 : w1.cell? ⟨p, 10, none⟩ = some (.slice to S.reads.length tc) := by rw [cell_of_row w1 p 10 _ _ _ hQ1]; rfl
   have f10 : w1.frozen? ⟨p, 10, none⟩ = false := frozen_of_row w1 p 10 _ _ hQ1
   have ht2 := ht.keep hKo (fun g hg => by omega)
   have j2 := ht2.th0.c2
   obtain ⟨ao', hcut, hsl, hnil⟩ := Tryz.cutMid w2 so (S.th k).shown.length sc x y (S.th k).shown ht2.shown.sl rfl hsc (by omega) (fun e => (hs0 e).2)
   rw [← hb1] at hsl
   have hyl : (S.readBytes nm x y).length = y := by rw [hb1]; simp; omega
   have hcl := cloneB_ok ao' y (sc - x) (S.readBytes nm x y) w2 hyl hsl hnil (by omega)
   have hxy : (x : Int) + (y : Int) = ((x + y : Nat) : Int) := by omega
   have hwr : IntKind.i64.wrap ((x : Int) + (y : Int)) = ((x + y : Nat) : Int) := by rw [IntWalk.i64_in _ (by omega)]; omega
   have FIN : Hid (∀ w3 v, OwnB w3 v y (S.readBytes nm x y) → Kept [] w2 w3 → (∀ g, v.ownBlock = some g → w2.heap.size ≤ g) → AftB w w3 p (S.read nm x y) o v (S.readBytes nm x y)) := fun w3 v hv hk hn => by
    have hP3 := hP2.keep (Keep.ofNone (F := fun _ => False) hk) (fun _ _ h => h)
    refine ⟨A, o.ext w w2 1, ?_, Ext_ext _ _ _ _, (mine_k hKo).kept hk, by rw [hyl]; exact hv, fun g hg => ⟨Nat.le_trans hKo.size (hn g hg), ?_⟩⟩
    ·rw [hb2]; exact ⟨_, _, _, _, hP3⟩
    ·have := hn g hg
     have := hKo.size
     unfold Lab.ext
     rw [if_neg (by omega), if_neg (by omega)]
   have HE := hide he
   have HXY := hide hxy
   clear h hB ht h0 hv hmem hnm hon HC HD HNO he hs0 hs1 hb1 hb2 hwfr ho1 hk1 hg1 hK1 hQ1 hK2 hQ2 ho2 hK02 hP2 hKo ht2 hsl hnil hxy hscm hgp hlt1
   generalize (S.th k).shown.length = L at i2 hlen hbad j2 hcut hsc
   have b1 : ¬ ((x : Int) < 0) := by omega
   have b2 : ¬ ((y : Int) < 0) := by omega
   have b3 : ¬ ((L : Int) < x) := by omega
   have b4 : ¬ ((L : Int) - x < y) := by omega
   clear hbad
   simp only [encSp] at hrun
   go_enter Tryz.func29, Tryz.ntmps29
   go_upto_region 7 with (first
    | (go_at_call 67; refine hfd.mono ?_; rintro e w' ⟨rfl, rfl⟩; clear hfd)
    | (at_builtin; refine wpList_app_run rfl _ _ 60 60 rfl _ _ rfl rfl _ _ hrun ?_))
   try rw [← hw2]
   clear hw2 hrun d10 f10 c10 i2
   go_wp2_with (go_at_call 14; refine hcl.mono ?_; rintro e w3 ⟨v, rfl, hv3, hk3, hn3⟩; have H3 := hide (FIN.out w3 v hv3 hk3 hn3); obtain ⟨vo, vc, rfl, _⟩ := hv3.shape; clear hv3 hk3 hn3)
   go_ret2
   exact ⟨_, by rw [HE.out]; rfl, H3.out⟩
 ·have hv : findV S A nm = .pointer none := by unfold findV; rw [if_neg h0]
  have he : S.readOk nm a m = (S.find nm).1 := by simp [Ds.readOk, h0]
  have HF := hide (HNO.out _ h0 he)
  have HE := hide he
  rw [hv] at hfd
  clear h hB HNO he
  generalize (S.find nm).1 = E at hfd h0 HE
  have e0 : (E != 0) = true := by simpa using h0
  clear h0 hv
  go_enter Tryz.func29, Tryz.ntmps29
  go_wp2_with (go_at_call 67; refine hfd.mono ?_; rintro e w' ⟨rfl, rfl⟩; clear hfd)
  go_ret2
  exact ⟨_, by rw [HE.out]; rfl, HF.out⟩
end

end Go.Proofs.YteckiednnaianaaGreat
