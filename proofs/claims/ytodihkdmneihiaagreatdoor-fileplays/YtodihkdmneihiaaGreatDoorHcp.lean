import Derived.Test.YtodihkdmneihiaaGreatDoorGyp
import Derived.Test.YtodihkdmneihiaaGreatDoorGnp
import Derived.Laws.AppendOwnNone
import Derived.WalkSpells
namespace Go.Proofs.YtodihkdmneihiaaGreatDoor
section
open Go.RowKit Dsk
set_option linter.unusedVariables false
set_option linter.unusedSimpArgs false
theorem conv_sl (W : World) (ao : Option Addr) (n c : Nat) (xs : By) (hn : xs.length = n) (h : Sl W ao xs) (h0 : ao = none → n = 0) : (convert 28 9 (.slice ao n c)).run Tryz.prog W = .ok (encStr xs) W := by
 cases ao with
 | none =>
  obtain rfl := h0 rfl
  have : xs = [] := List.eq_nil_of_length_eq_zero hn
  subst this
  exact Lib.run_convert_nil_bytes W 28 9 5 c Tryz.underlying28 Tryz.underlying5 Tryz.underlying9
 | some ad =>
  subst hn
  refine run_convert_bytes_back W 28 9 5 ad c xs Tryz.underlying28 Tryz.underlying5 Tryz.underlying9 (fun j hj => ?_)
  obtain ⟨b', off', e', hcell⟩ := h j hj
  injection e' with e'
  subst e'
  rw [show ((⟨b', off', none⟩ : Addr).add j) = ⟨b', off' + j, none⟩ from by unfold Addr.add; by_cases h : j = 0 <;> simp [h], hcell]
  simp [List.getElem?_eq_getElem hj]
structure Given (w : World) (o : Lab) (ao : Option Addr) (n : Nat) (d : By) : Prop where
 len : d.length = n
 sl : Sl w ao d
 nil : ao = none → n = 0
 out : d ≠ [] → ∀ a, ao = some a → o a.block = 0
theorem Given.keep {w w' : World} {o : Lab} {ao : Option Addr} {n : Nat} {d : By} (h : Given w o ao n d) (hk : Keep o.mine w w') : Given w' o ao n d :=
 ⟨h.len, h.sl.keep hk (fun hd a ha hm => hm (h.out hd a ha)), h.nil, h.out⟩
set_option maxHeartbeats 1600000 in
set_option maxRecDepth 100000 in
theorem write_ok {w : World} {p : Nat} {S : Ds} {A : Nat → Nat} {o : Lab} {N : Nat} {ms mh : Nat} {rv sv : Value} (h : PDx w p S A o ms mh rv sv) (hB : S.Bd N) {k a n : Nat} {d : By} {ao : Option Addr} {ac : Nat} (hN : N + n ≤ 268435456) (hk : k < S.nx) (ha : a ≤ (S.th k).shown.length) (hd : Given w o ao n d) :
  Calls Tryz.prog 75 #[.pointer (some ⟨p, 0, none⟩), .pointer (some ⟨A k, 0, none⟩), .int .i64 a, .slice ao n ac] w fun e w' => e = .returned (.int .i64 (S.write k a d).1) ∧ Aft w w' p (S.write k a d).2 o := by
 obtain ⟨rv1, sv1, ht⟩ := h.th k hk
 obtain ⟨so, sc, rfl, _⟩ := ht.shown.shape
 have i2 := ht.th0.c2
 have hlen := hB.len h.wf hk
 have hdl := hd.len
 have hrf := refused_ok h hB (by omega) ((a : Int) + n - (S.th k).shown.length) (by omega) (by omega)
 have HW : Hid (∀ v, Kept [] w v → PDx v p S A o ms mh rv sv ∧ Given v o ao n d) := fun v hv => ⟨h.keep (Keep.ofNone (F := fun _ => False) hv) (fun _ _ h => h), hd.keep (Keep.ofNone hv)⟩
 have HS : Hid (∀ v r, Kept [] w v → Calls Tryz.prog 69 #[.pointer (some ⟨p, 0, none⟩), .int .i64 r] v fun e w' => e = .returned (.int .i64 (S.ans r)) ∧ PDx w' p S.tick A o ms mh rv sv ∧ Keep (· = p) v w') := fun v r hv => stroke_ok (HW.out v hv).1 r (by have := hB.strokes; omega) (by have := hB.planned; omega)
 have HAF : Hid (∀ v w2, Kept [] w v → PDx w2 p S.tick A o ms mh rv sv → Keep (· = p) v w2 → Keep o.mine w w2) := fun v w2 hv h2 hk => (Keep.ofNone hv).trans (mine_p h2 hk) (fun _ h _ => h)
 have hA : ((a : Int) + n - (S.th k).shown.length) = ((a : Int) + d.length - (S.th k).shown.length) := by rw [hdl]
 rw [hA] at hrf
 obtain ⟨M, hM⟩ : ∃ M : Int, M = (a : Int) + d.length - (S.th k).shown.length := ⟨_, rfl⟩
 have hM2 : (a : Int) + (n : Int) - (List.length (S.th k).shown : Int) = M := by rw [hM, hdl]
 rw [← hM] at hrf
 have hb1 : a ≤ 268435456 := by omega
 cases hfl : S.full M
 ·have HC : Hid (S.write k a d = (S.ans 0, S.tick.addByte k (.wr a d))) := hide (by unfold Ds.write; rw [← hM, hfl]; rfl)
  have hf0 : fullE S M = 0 := by unfold fullE; rw [hfl]; rfl
  rw [hf0] at hrf
  have HD : Hid (∀ v, PDx v p S.tick A o ms mh rv sv → Calls Tryz.prog 78 #[.pointer (some ⟨A k, 0, none⟩), .iface 187 (.agg #[.int .i64 a, encStr d])] v fun e w' => e = .returned (.tuple #[]) ∧ Aft v w' p (S.tick.addByte k (.wr a d)) o) := fun v hv => by
   refine (thingChange_pd hv (k := k) hk (c := .wr a d) ha hB.tick (by simp only [Ch.units]; omega)).mono ?_
   rintro e w' ⟨rfl, hP, hK⟩
   exact ⟨rfl, A, _, ⟨_, _, _, _, hP⟩, Ext_ext _ _ _ _, mine_k hK⟩
  have HCV : Hid (∀ v w2, Kept [] w v → PDx w2 p S.tick A o ms mh rv sv → Keep (· = p) v w2 → (convert 28 9 (.slice ao n ac)).run Tryz.prog w2 = .ok (encStr d) w2) := fun v w2 hv h2 hk => by
   have hg := hd.keep (HAF.out v w2 hv h2 hk)
   exact conv_sl w2 ao n ac d hg.len hg.sl hg.nil
  clear h hB hd ht hfl hf0 hM hA
  go_enter Tryz.func75, Tryz.ntmps75
  generalize (S.th k).shown.length = m at i2 hM2 ha hlen
  go_wp2_with (first
   | (go_at_call 68; have Ha := hrf; refine hrf.mono ?_; rintro e w1 ⟨rfl, hk1⟩; clear Ha hrf)
   | (go_at_call 69; have Ha := HS; refine (HS.out w1 0 hk1).mono ?_; rintro e w2 ⟨rfl, hP2, hk2⟩; have HH2 := hide (And.intro hP2 hk2); have hcv := HCV.out w1 w2 hk1 hP2 hk2; clear hP2 hk2 HS Ha)
   | (go_at_call 78; refine (HD.out w2 HH2.out.1).mono ?_; rintro e w3 ⟨rfl, ha3⟩; have H3 := hide (Aft.trans (Lab.Ext.refl _ _) (HAF.out w1 w2 hk1 HH2.out.1 HH2.out.2) ha3); clear ha3))
  go_ret
  exact ⟨by rw [HC.out]; rfl, by rw [HC.out]; exact H3.out⟩
 ·have HC : Hid (S.write k a d = (S.ans 55, S.tick)) := hide (by unfold Ds.write; rw [← hM, hfl]; rfl)
  have hf0 : fullE S M = 55 := by unfold fullE; rw [hfl]; rfl
  rw [hf0] at hrf
  clear h hB hd ht hfl hf0 hM hA
  go_enter Tryz.func75, Tryz.ntmps75
  generalize (S.th k).shown.length = m at i2 hM2 ha hlen
  go_wp2_with (first
   | (go_at_call 68; have Ha := hrf; refine hrf.mono ?_; rintro e w1 ⟨rfl, hk1⟩; clear Ha hrf)
   | (go_at_call 69; have Ha := HS; refine (HS.out w1 55 hk1).mono ?_; rintro e w2 ⟨rfl, hP2, hk2⟩; have H2 := hide (Aft.of hP2 (HAF.out w1 w2 hk1 hP2 hk2)); clear hP2 hk2 HS Ha))
  go_ret
  exact ⟨by rw [HC.out]; rfl, by rw [HC.out]; exact H2.out⟩
end

section
open Go.RowKit Dsk
set_option linter.unusedVariables false
set_option linter.unusedSimpArgs false
set_option maxHeartbeats 1600000 in
set_option maxRecDepth 100000 in
theorem append_ok {w : World} {p : Nat} {S : Ds} {A : Nat → Nat} {o : Lab} {N : Nat} (h : PD w p S A o) (hB : S.Bd N) {n : Nat} {d : By} {ao : Option Addr} {ac : Nat} (hN : N + n ≤ 268435456) (nm : By) (hnl : nm.length ≤ 4611686018427387904) (hd : Given w o ao n d) :
  Calls Tryz.prog 25 #[.pointer (some ⟨p, 0, none⟩), encStr nm, .slice ao n ac] w fun e w' => e = .returned (.int .i64 (S.append nm d).1) ∧ Aft w w' p (S.append nm d).2 o := by
 obtain ⟨ms, mh, rv, sv, h⟩ := h
 have hfd := find_ok h nm hnl
 by_cases h0 : (S.find nm).1 = 0
 ·obtain ⟨hon, hnm, hmem, hlt⟩ := Ds.find_ok h.wf h0
  have hv : findV S A nm = .pointer (some ⟨A (S.find nm).2, 0, none⟩) := by unfold findV; rw [if_pos h0]
  have HC : Hid (S.append nm d = S.write (S.find nm).2 (S.th (S.find nm).2).shown.length d) := hide (by simp [Ds.append, h0])
  rw [hv, h0] at hfd
  generalize (S.find nm).2 = k at hfd HC hlt
  have hw := write_ok h hB (ac := ac) hN hlt (Nat.le_refl _) hd
  obtain ⟨rv1, sv1, ht⟩ := h.th k hlt
  obtain ⟨so, sc, rfl, _⟩ := ht.shown.shape
  have i2 := ht.th0.c2
  clear h hB hd ht h0 hv hmem hnm hon
  go_enter Tryz.func25, Tryz.ntmps25
  go_wp2_with (first
   | (go_at_call 67; refine hfd.mono ?_; rintro e w' ⟨rfl, rfl⟩; clear hfd)
   | (go_at_call 75; refine hw.mono ?_; rintro e w1 ⟨rfl, ha⟩; have H1 := hide ha; clear ha))
  go_ret
  exact ⟨by rw [HC.out]; rfl, by rw [HC.out]; exact H1.out⟩
 ·have hv : findV S A nm = .pointer none := by unfold findV; rw [if_neg h0]
  have HC : Hid (S.append nm d = ((S.find nm).1, S)) := hide (by simp [Ds.append, h0])
  have HA := hide (Aft.of h (Keep.refl _ w))
  rw [hv] at hfd
  generalize (S.find nm).1 = E at hfd h0 HC
  have e0 : (E != 0) = true := by simpa using h0
  clear h hB hd h0 hv
  go_enter Tryz.func25, Tryz.ntmps25
  go_wp2_with (go_at_call 67; refine hfd.mono ?_; rintro e w' ⟨rfl, rfl⟩; clear hfd)
  go_ret
  exact ⟨by rw [HC.out]; rfl, by rw [HC.out]; exact HA.out⟩
set_option maxHeartbeats 1600000 in
set_option maxRecDepth 100000 in
theorem remove_ok {w : World} {p : Nat} {S : Ds} {A : Nat → Nat} {o : Lab} {N : Nat} (h : PD w p S A o) (hB : S.Bd N) (hN : N ≤ 268435456) (nm : By) (hnl : nm.length ≤ 4611686018427387904) :
  Calls Tryz.prog 31 #[.pointer (some ⟨p, 0, none⟩), encStr nm] w fun e w' => e = .returned (.int .i64 (S.remove nm).1) ∧ Aft w w' p (S.remove nm).2 o := by
 obtain ⟨ms, mh, rv, sv, h⟩ := h
 have hfd := find_ok h nm hnl
 by_cases h0 : (S.find nm).1 = 0
 ·obtain ⟨hon, hnm, hmem, hlt⟩ := Ds.find_ok h.wf h0
  have hv : findV S A nm = .pointer (some ⟨A (S.find nm).2, 0, none⟩) := by unfold findV; rw [if_pos h0]
  have HC : Hid (S.remove nm = (S.ans 0, S.tick.addName (.tk nm))) := hide (by simp [Ds.remove, h0])
  rw [hv, h0] at hfd
  have hwf : (S.addName (.tk nm)).Wf := h.wf.addName trivial (by simp [Nc.made]) (by simp [Nc.made]) hnm
  have hdc := dirChange_pd h (c := .tk nm) hwf trivial (isNm_len hnm) hB (by omega)
  simp only [encNc] at hdc
  have HS : Hid (∀ v rv', PDx v p (S.addName (.tk nm)) A (o.ext w v 1) ms mh rv' sv → Keep (fun b => o b = 1) w v → Calls Tryz.prog 69 #[.pointer (some ⟨p, 0, none⟩), .int .i64 0] v fun e w' => e = .returned (.int .i64 (S.ans 0)) ∧ Aft w w' p (S.tick.addName (.tk nm)) o) := fun v rv' hv hk => by
   refine (stroke_ok hv 0 (by have := hB.strokes; show S.strokes < _; omega) (by have := hB.planned; show S.planned < _; omega)).mono ?_
   rintro e w' ⟨rfl, hP, hK⟩
   exact ⟨rfl, Aft.trans (Ext_ext o w v 1) (mine_k hk) (Aft.of hP (mine_p hP hK))⟩
  generalize A (S.find nm).2 = Ak at hfd
  clear h hB h0 hv hmem hnm hon hwf hlt
  go_enter Tryz.func31, Tryz.ntmps31
  go_wp2_with (first
   | (go_at_call 67; refine hfd.mono ?_; rintro e w' ⟨rfl, rfl⟩; clear hfd)
   | (go_at_call 70; have Ha := hdc; refine hdc.mono ?_; rintro e w1 ⟨rfl, rv', hP1, hK1⟩; have hst := HS.out w1 rv' hP1 hK1; clear Ha hdc hP1 hK1)
   | (go_at_call 69; refine hst.mono ?_; rintro e w2 ⟨rfl, ha⟩; have H2 := hide ha; clear ha))
  go_ret
  exact ⟨by rw [HC.out]; rfl, by rw [HC.out]; exact H2.out⟩
 ·have hv : findV S A nm = .pointer none := by unfold findV; rw [if_neg h0]
  have HC : Hid (S.remove nm = ((S.find nm).1, S)) := hide (by simp [Ds.remove, h0])
  have HA := hide (Aft.of h (Keep.refl _ w))
  rw [hv] at hfd
  generalize (S.find nm).1 = E at hfd h0 HC
  have e0 : (E != 0) = true := by simpa using h0
  clear h hB h0 hv
  go_enter Tryz.func31, Tryz.ntmps31
  go_wp2_with (go_at_call 67; refine hfd.mono ?_; rintro e w' ⟨rfl, rfl⟩; clear hfd)
  go_ret
  exact ⟨by rw [HC.out]; rfl, by rw [HC.out]; exact HA.out⟩
set_option maxHeartbeats 1600000 in
set_option maxRecDepth 100000 in
theorem rename_ok {w : World} {p : Nat} {S : Ds} {A : Nat → Nat} {o : Lab} {N : Nat} (h : PD w p S A o) (hB : S.Bd N) (hN : N ≤ 268435456) (f t : By) (hfl : f.length ≤ 4611686018427387904) (htl : t.length ≤ 4611686018427387904) :
  Calls Tryz.prog 29 #[.pointer (some ⟨p, 0, none⟩), encStr f, encStr t] w fun e w' => e = .returned (.int .i64 (S.rename f t).1) ∧ Aft w w' p (S.rename f t).2 o := by
 obtain ⟨ms, mh, rv, sv, h⟩ := h
 have hoff := off_ok h
 have hisn := isName_ok t w htl
 have hfd := find_ok h f hfl
 have HA := hide (Aft.of h (Keep.refl _ w))
 by_cases hon : S.on = true
 ·rw [hon] at hoff
  by_cases hnt : isNm t = true
  ·rw [hnt] at hisn
   by_cases h0 : (S.find f).1 = 0
   ·obtain ⟨_, hnm, hmem, hlt⟩ := Ds.find_ok h.wf h0
    have hv : findV S A f = .pointer (some ⟨A (S.find f).2, 0, none⟩) := by unfold findV; rw [if_pos h0]
    rw [hv, h0] at hfd
    generalize A (S.find f).2 = Ak at hfd
    by_cases hft : f = t
    ·have HC : Hid (S.rename f t = (S.ans 0, S.tick)) := hide (by simp [Ds.rename, hon, hnt, h0, hft]; intro h1; rw [hft] at h0; exact absurd h0 h1)
     have hst := stroke_ok h 0 (by have := hB.strokes; omega) (by have := hB.planned; omega)
     have HAF : Hid (∀ w2, PDx w2 p S.tick A o ms mh rv sv → Keep (· = p) w w2 → Aft w w2 p S.tick o) := fun w2 h2 hk => Aft.of h2 (mine_p h2 hk)
     have hne : (f == t) = true := by simpa using hft
     clear h hB h0 hv hmem hnm hlt hft
     go_enter Tryz.func29, Tryz.ntmps29
     go_wp2_with (first
      | (go_at_call 41; refine hoff.mono ?_; rintro e w' ⟨rfl, rfl⟩)
      | (go_at_call 80; refine hisn.mono ?_; rintro e w' ⟨rfl, rfl⟩)
      | (go_at_call 67; refine hfd.mono ?_; rintro e w' ⟨rfl, rfl⟩)
      | (go_at_call 69; refine hst.mono ?_; rintro e w2 ⟨rfl, hP2, hk2⟩; have H2 := hide (HAF.out w2 hP2 hk2); clear hP2 hk2))
     go_ret
     exact ⟨by rw [HC.out]; rfl, by rw [HC.out]; exact H2.out⟩
    ·have HC : Hid (S.rename f t = (S.ans 0, S.tick.addName (.gv f t))) := hide (by simp [Ds.rename, hon, hnt, h0, hft])
     have hok : (Nc.gv f t).ok S.shown := ⟨hft, _, (Nm.get_some h.wf.sup).2 hmem⟩
     have hwf : (S.addName (.gv f t)).Wf := h.wf.addName hok (by simp [Nc.made]) (by simp [Nc.made]) ⟨hnm, hnt⟩
     have hdc := dirChange_pd h (c := .gv f t) hwf hok ⟨isNm_len hnm, isNm_len hnt⟩ hB (by omega)
     simp only [encNc] at hdc
     have HS : Hid (∀ v rv', PDx v p (S.addName (.gv f t)) A (o.ext w v 1) ms mh rv' sv → Keep (fun b => o b = 1) w v → Calls Tryz.prog 69 #[.pointer (some ⟨p, 0, none⟩), .int .i64 0] v fun e w' => e = .returned (.int .i64 (S.ans 0)) ∧ Aft w w' p (S.tick.addName (.gv f t)) o) := fun v rv' hv hk => by
      refine (stroke_ok hv 0 (by have := hB.strokes; show S.strokes < _; omega) (by have := hB.planned; show S.planned < _; omega)).mono ?_
      rintro e w' ⟨rfl, hP, hK⟩
      exact ⟨rfl, Aft.trans (Ext_ext o w v 1) (mine_k hk) (Aft.of hP (mine_p hP hK))⟩
     have hne : (f == t) = false := by simpa using hft
     clear h hB h0 hv hmem hnm hlt hft hok hwf
     go_enter Tryz.func29, Tryz.ntmps29
     go_wp2_with (first
      | (go_at_call 41; refine hoff.mono ?_; rintro e w' ⟨rfl, rfl⟩)
      | (go_at_call 80; refine hisn.mono ?_; rintro e w' ⟨rfl, rfl⟩)
      | (go_at_call 67; refine hfd.mono ?_; rintro e w' ⟨rfl, rfl⟩)
      | (go_at_call 70; have Ha := hdc; refine hdc.mono ?_; rintro e w1 ⟨rfl, rv', hP1, hK1⟩; have hst := HS.out w1 rv' hP1 hK1; clear Ha hdc hP1 hK1)
      | (go_at_call 69; refine hst.mono ?_; rintro e w2 ⟨rfl, ha⟩; have H2 := hide ha; clear ha))
     go_ret
     exact ⟨by rw [HC.out]; rfl, by rw [HC.out]; exact H2.out⟩
   ·have hv : findV S A f = .pointer none := by unfold findV; rw [if_neg h0]
    have HC : Hid (S.rename f t = ((S.find f).1, S)) := hide (by simp [Ds.rename, hon, hnt, h0])
    rw [hv] at hfd
    generalize (S.find f).1 = E at hfd h0 HC
    have e0 : (E != 0) = true := by simpa using h0
    clear h hB h0 hv
    go_enter Tryz.func29, Tryz.ntmps29
    go_wp2_with (first
     | (go_at_call 41; refine hoff.mono ?_; rintro e w' ⟨rfl, rfl⟩)
     | (go_at_call 80; refine hisn.mono ?_; rintro e w' ⟨rfl, rfl⟩)
     | (go_at_call 67; refine hfd.mono ?_; rintro e w' ⟨rfl, rfl⟩))
    go_ret
    exact ⟨by rw [HC.out]; rfl, by rw [HC.out]; exact HA.out⟩
  ·simp only [Bool.not_eq_true] at hnt
   rw [hnt] at hisn
   have HC : Hid (S.rename f t = (51, S)) := hide (by simp [Ds.rename, hon, hnt])
   clear h hB hfd
   go_enter Tryz.func29, Tryz.ntmps29
   go_wp2_with (first
    | (go_at_call 41; refine hoff.mono ?_; rintro e w' ⟨rfl, rfl⟩)
    | (go_at_call 80; refine hisn.mono ?_; rintro e w' ⟨rfl, rfl⟩))
   go_ret
   exact ⟨by rw [HC.out]; rfl, by rw [HC.out]; exact HA.out⟩
 ·simp only [Bool.not_eq_true] at hon
  rw [hon] at hoff
  have HC : Hid (S.rename f t = (50, S)) := hide (by simp [Ds.rename, hon])
  clear h hB hfd hisn
  go_enter Tryz.func29, Tryz.ntmps29
  go_wp2_with (go_at_call 41; refine hoff.mono ?_; rintro e w' ⟨rfl, rfl⟩)
  go_ret
  exact ⟨by rw [HC.out]; rfl, by rw [HC.out]; exact HA.out⟩
end

section
open Go.RowKit Dsk
set_option linter.unusedVariables false
set_option linter.unusedSimpArgs false
set_option maxHeartbeats 1600000 in
set_option maxRecDepth 100000 in
theorem truncate_ok {w : World} {p : Nat} {S : Ds} {A : Nat → Nat} {o : Lab} {N : Nat} (h : PD w p S A o) (hB : S.Bd N) (hN : N ≤ 268435456) (nm : By) (hnl : nm.length ≤ 4611686018427387904) (a : Int) :
  Calls Tryz.prog 27 #[.pointer (some ⟨p, 0, none⟩), encStr nm, .int .i64 a] w fun e w' => e = .returned (.int .i64 (S.truncate nm a).1) ∧ Aft w w' p (S.truncate nm a).2 o := by
 obtain ⟨ms, mh, rv, sv, h⟩ := h
 have hfd := find_ok h nm hnl
 have HA := hide (Aft.of h (Keep.refl _ w))
 by_cases h0 : (S.find nm).1 = 0
 ·obtain ⟨hon, hnm, hmem, hlt⟩ := Ds.find_ok h.wf h0
  have hv : findV S A nm = .pointer (some ⟨A (S.find nm).2, 0, none⟩) := by unfold findV; rw [if_pos h0]
  have HC : Hid (S.truncate nm a = if a < 0 ∨ ((S.th (S.find nm).2).shown.length : Int) < a then (54, S) else (S.ans 0, S.tick.addByte (S.find nm).2 (.cut a.toNat))) := hide (by simp [Ds.truncate, h0])
  rw [hv, h0] at hfd
  generalize (S.find nm).2 = k at hfd HC hlt
  obtain ⟨rv1, sv1, ht⟩ := h.th k hlt
  obtain ⟨so, sc, rfl, _⟩ := ht.shown.shape
  have i2 := ht.th0.c2
  have hlen := hB.len h.wf hlt
  by_cases hneg : a < 0
  ·have HC2 : Hid (S.truncate nm a = (54, S)) := hide (by rw [HC.out, if_pos (.inl hneg)])
   clear h hB ht h0 hv hmem hnm hon HC
   go_enter Tryz.func27, Tryz.ntmps27
   go_wp2_with (go_at_call 67; refine hfd.mono ?_; rintro e w' ⟨rfl, rfl⟩; clear hfd)
   go_ret
   exact ⟨by rw [HC2.out]; rfl, by rw [HC2.out]; exact HA.out⟩
  by_cases hbig : ((S.th k).shown.length : Int) < a
  ·have HC2 : Hid (S.truncate nm a = (54, S)) := hide (by rw [HC.out, if_pos (.inr hbig)])
   clear h hB ht h0 hv hmem hnm hon HC
   generalize (S.th k).shown.length = m at i2 hbig hlen
   go_enter Tryz.func27, Tryz.ntmps27
   go_wp2_with (go_at_call 67; refine hfd.mono ?_; rintro e w' ⟨rfl, rfl⟩; clear hfd)
   go_ret
   exact ⟨by rw [HC2.out]; rfl, by rw [HC2.out]; exact HA.out⟩
  obtain ⟨b, rfl⟩ : ∃ b : Nat, a = b := ⟨a.toNat, by omega⟩
  have HC2 : Hid (S.truncate nm b = (S.ans 0, S.tick.addByte k (.cut b))) := hide (by rw [HC.out, if_neg (by omega)]; simp)
  have htc := thingChange_pd h hlt (c := .cut b) (by show b ≤ _; omega) hB (by simp only [Ch.units]; omega)
  simp only [encCh] at htc
  have HS : Hid (∀ v, PDx v p (S.addByte k (.cut b)) A (o.ext w v (k + 2)) ms mh rv sv → Keep (fun b => o b = k + 2) w v → Calls Tryz.prog 69 #[.pointer (some ⟨p, 0, none⟩), .int .i64 0] v fun e w' => e = .returned (.int .i64 (S.ans 0)) ∧ Aft w w' p (S.tick.addByte k (.cut b)) o) := fun v hv hk => by
   refine (stroke_ok hv 0 (by have := hB.strokes; show S.strokes < _; omega) (by have := hB.planned; show S.planned < _; omega)).mono ?_
   rintro e w' ⟨rfl, hP, hK⟩
   exact ⟨rfl, Aft.trans (Ext_ext o w v _) (mine_k hk) (Aft.of hP (mine_p hP hK))⟩
  clear h hB ht h0 hv hmem hnm hon HC
  generalize (S.th k).shown.length = m at i2 hbig hlen
  go_enter Tryz.func27, Tryz.ntmps27
  go_wp2_with (first
   | (go_at_call 67; refine hfd.mono ?_; rintro e w' ⟨rfl, rfl⟩; clear hfd)
   | (go_at_call 78; have Ha := htc; refine htc.mono ?_; rintro e w1 ⟨rfl, hP1, hK1⟩; have hst := HS.out w1 hP1 hK1; clear Ha htc hP1 hK1)
   | (go_at_call 69; refine hst.mono ?_; rintro e w2 ⟨rfl, ha⟩; have H2 := hide ha; clear ha))
  go_ret
  exact ⟨by rw [HC2.out]; rfl, by rw [HC2.out]; exact H2.out⟩
 ·have hv : findV S A nm = .pointer none := by unfold findV; rw [if_neg h0]
  have HC : Hid (S.truncate nm a = ((S.find nm).1, S)) := hide (by simp [Ds.truncate, h0])
  rw [hv] at hfd
  generalize (S.find nm).1 = E at hfd h0 HC
  have e0 : (E != 0) = true := by simpa using h0
  clear h hB h0 hv
  go_enter Tryz.func27, Tryz.ntmps27
  go_wp2_with (go_at_call 67; refine hfd.mono ?_; rintro e w' ⟨rfl, rfl⟩; clear hfd)
  go_ret
  exact ⟨by rw [HC.out]; rfl, by rw [HC.out]; exact HA.out⟩
set_option maxHeartbeats 1600000 in
set_option maxRecDepth 100000 in
theorem sync_ok {w : World} {p : Nat} {S : Ds} {A : Nat → Nat} {o : Lab} {N : Nat} (h : PD w p S A o) (hB : S.Bd N) (hN : N ≤ 268435456) (nm : By) (hnl : nm.length ≤ 4611686018427387904) :
  Calls Tryz.prog 33 #[.pointer (some ⟨p, 0, none⟩), encStr nm] w fun e w' => e = .returned (.int .i64 (S.sync nm).1) ∧ Aft w w' p (S.sync nm).2 o := by
 obtain ⟨ms, mh, rv, sv, h⟩ := h
 have hfd := find_ok h nm hnl
 have HA := hide (Aft.of h (Keep.refl _ w))
 by_cases h0 : (S.find nm).1 = 0
 ·obtain ⟨hon, hnm, hmem, hlt⟩ := Ds.find_ok h.wf h0
  have hv : findV S A nm = .pointer (some ⟨A (S.find nm).2, 0, none⟩) := by unfold findV; rw [if_pos h0]
  rw [hv, h0] at hfd
  have hst := stroke_ok h 0 (by have := hB.strokes; omega) (by have := hB.planned; omega)
  have HAF : Hid (∀ w2, PDx w2 p S.tick A o ms mh rv sv → Keep (· = p) w w2 → Aft w w2 p S.tick o) := fun w2 h2 hk => Aft.of h2 (mine_p h2 hk)
  cases hgo : S.goesOff
  ·have HC : Hid (S.sync nm = (0, { S.tick with th := upd S.th (S.find nm).2 (S.th (S.find nm).2).sync })) := hide (by simp [Ds.sync, h0, hgo])
   have hwf := h.wf.sync nm
   rw [HC.out] at hwf
   have ha0 : S.ans 0 = 0 := by unfold Ds.ans; rw [hgo]; rfl
   rw [ha0] at hst
   generalize (S.find nm).2 = k at hfd HC hlt hwf
   have HD : Hid (∀ v, PDx v p S.tick A o ms mh rv sv → Keep (· = p) w v → Calls Tryz.prog 81 #[.pointer (some ⟨A k, 0, none⟩)] v fun e w' => e = .returned (.tuple #[]) ∧ Aft w w' p { S.tick with th := upd S.th k (S.th k).sync } o) := fun v hv hkv => by
    refine (thingSync_pd hv hlt hwf).mono ?_
    rintro e w' ⟨rfl, hP, hK⟩
    exact ⟨rfl, Aft.trans (Lab.Ext.refl _ _) (mine_p hv hkv) ⟨A, _, ⟨_, _, _, _, hP⟩, Ext_ext _ _ _ _, mine_k hK⟩⟩
   clear h hB h0 hv hmem hnm hon hgo hwf ha0 HAF
   go_enter Tryz.func33, Tryz.ntmps33
   go_wp2_with (first
    | (go_at_call 67; refine hfd.mono ?_; rintro e w' ⟨rfl, rfl⟩; clear hfd)
    | (go_at_call 69; have Ha := hst; refine hst.mono ?_; rintro e w1 ⟨rfl, hP1, hK1⟩; have hty := HD.out w1 hP1 hK1; clear Ha hst hP1 hK1)
    | (go_at_call 81; refine hty.mono ?_; rintro e w2 ⟨rfl, ha⟩; have H2 := hide ha; clear ha))
   go_ret
   exact ⟨by rw [HC.out]; rfl, by rw [HC.out]; exact H2.out⟩
  ·have HC : Hid (S.sync nm = (50, S.tick)) := hide (by simp [Ds.sync, h0, hgo])
   have ha0 : S.ans 0 = 50 := by unfold Ds.ans; rw [hgo]; rfl
   rw [ha0] at hst
   clear h hB h0 hv hmem hnm hon hgo ha0
   go_enter Tryz.func33, Tryz.ntmps33
   go_wp2_with (first
    | (go_at_call 67; refine hfd.mono ?_; rintro e w' ⟨rfl, rfl⟩; clear hfd)
    | (go_at_call 69; have Ha := hst; refine hst.mono ?_; rintro e w1 ⟨rfl, hP1, hK1⟩; have H2 := hide (HAF.out w1 hP1 hK1); clear Ha hst hP1 hK1))
   go_ret
   exact ⟨by rw [HC.out]; rfl, by rw [HC.out]; exact H2.out⟩
 ·have hv : findV S A nm = .pointer none := by unfold findV; rw [if_neg h0]
  have HC : Hid (S.sync nm = ((S.find nm).1, S)) := hide (by simp [Ds.sync, h0])
  rw [hv] at hfd
  generalize (S.find nm).1 = E at hfd h0 HC
  have e0 : (E != 0) = true := by simpa using h0
  clear h hB h0 hv
  go_enter Tryz.func33, Tryz.ntmps33
  go_wp2_with (go_at_call 67; refine hfd.mono ?_; rintro e w' ⟨rfl, rfl⟩; clear hfd)
  go_ret
  exact ⟨by rw [HC.out]; rfl, by rw [HC.out]; exact HA.out⟩
theorem PDx.synced {w w' : World} {p : Nat} {S S' : Ds} {A : Nat → Nat} {o : Lab} {ms mh : Nat} {rv sv : Value} (h : PDx w p S A o ms mh rv sv) {nb mh' : Nat} {l : Nm}
  (hc : w'.heap[p]? = some (.cells #[.int .i64 S'.room, .bool S'.on, .map (some nb), .slice none 0 0, .map (some mh'), .int .i64 S'.strokes, .int .i64 S'.off, .int .i64 S'.from_, .int .i64 S'.to, .int .i64 S'.planned, sv] 97 (0, 0)))
  (h1 : Mp w' nb A l) (h2 : Mp w' mh' A l) (hne : nb ≠ mh') (hK : Keep (· = p) w w') (hn : w.heap.size ≤ nb) (hm : mh' = mh ∨ w.heap.size ≤ mh')
  (hwf : S'.Wf) (e1 : S'.safe = l) (e2 : S'.shown = l) (e3 : S'.row = []) (e4 : S'.reads = S.reads) (e5 : S'.th = S.th) (e6 : S'.nx = S.nx) (hp : (Lit.int .i64 S'.off).wf = true ∧ (Lit.int .i64 S'.from_).wf = true ∧ (Lit.int .i64 S'.to).wf = true) :
  PDx w' p S' A (o.ext w w' 1) nb mh' (.slice none 0 0) sv := by
 have old : ∀ b, b < w.heap.size → o.ext w w' 1 b = o b := fun b hb => Lab.ext_old hb
 refine ⟨hwf, hc, hne, by rw [e1]; exact h1, by rw [e2]; exact h2, by rw [e3]; exact World.ownsRow_nil _ _ _ _, ?_, ?_, (old p h.lt).trans h.lp, Lab.ext_new hn h1.lt, ?_, by simp [Value.ownBlock], fun g hg => (old g (h.reads.lt g hg).2).trans (h.ls g hg), lim_ext h.lim hK.size, hp⟩
 ·rw [e4]; exact own_keeps h.reads hK (fun g hg e => h.ne_s (by rw [hg, e]))
 ·rw [e5, e6]
  intro j hj
  exact (h.th j hj).ext hK (fun g hg e => by subst e; rw [h.lp] at hg; omega)
 ·rcases hm with rfl | e
  ·exact (old _ h.shown.lt).trans h.lh
  ·exact Lab.ext_new e h2.lt
set_option maxHeartbeats 1600000 in
set_option maxRecDepth 100000 in
theorem syncNames_ok {w : World} {p : Nat} {S : Ds} {A : Nat → Nat} {o : Lab} {N : Nat} (h : PD w p S A o) (hB : S.Bd N) (hN : N ≤ 268435456) :
  Calls Tryz.prog 35 #[.pointer (some ⟨p, 0, none⟩)] w fun e w' => e = .returned (.int .i64 (S.syncNames).1) ∧ Aft w w' p (S.syncNames).2 o := by
 obtain ⟨ms, mh, rv, sv, h⟩ := h
 have hoff := off_ok h
 have HA := hide (Aft.of h (Keep.refl _ w))
 by_cases hon : S.on = true
 ·rw [hon] at hoff
  have hst := stroke_ok h 0 (by have := hB.strokes; omega) (by have := hB.planned; omega)
  have HAF : Hid (∀ w2, PDx w2 p S.tick A o ms mh rv sv → Keep (· = p) w w2 → Aft w w2 p S.tick o) := fun w2 h2 hk => Aft.of h2 (mine_p h2 hk)
  cases hgo : S.goesOff
  ·have HC : Hid (S.syncNames = (0, { S.tick with safe := S.shown, row := [] })) := hide (by simp [Ds.syncNames, hon, hgo])
   have hwf := h.wf.syncNames
   rw [HC.out] at hwf
   have ha0 : S.ans 0 = 0 := by unfold Ds.ans; rw [hgo]; rfl
   rw [ha0] at hst
   have HD : Hid (∀ v, PDx v p S.tick A o ms mh rv sv → Keep (· = p) w v → Calls Tryz.prog 83 #[.pointer (some ⟨p, 2, none⟩)] v fun e w' => e = .returned (.tuple #[]) ∧ Aft w w' p { S.tick with safe := S.shown, row := [] } o) := fun v hv hkv => by
    refine (dirSync_ok p 2 mh 97 _ A S.shown v hv.cells (by simp) rfl hv.shown).mono ?_
    rintro e w' ⟨rfl, nb, k1, k2, k3, k4, k5⟩
    have hP := PDx.synced (S' := { S.tick with safe := S.shown, row := [] }) hv k1 k2 k3 (by have := hv.shown.lt; omega) k4 k5 (.inl rfl) hwf rfl rfl rfl rfl rfl rfl hv.pl
    exact ⟨rfl, Aft.trans (Lab.Ext.refl _ _) (mine_p hv hkv) ⟨A, _, ⟨_, _, _, _, hP⟩, Ext_ext _ _ _ _, mine_p hv k4⟩⟩
   clear h hB hon hgo hwf ha0 HAF
   go_enter Tryz.func35, Tryz.ntmps35
   go_wp2_with (first
    | (go_at_call 41; refine hoff.mono ?_; rintro e w' ⟨rfl, rfl⟩)
    | (go_at_call 69; have Ha := hst; refine hst.mono ?_; rintro e w1 ⟨rfl, hP1, hK1⟩; have hty := HD.out w1 hP1 hK1; clear Ha hst hP1 hK1)
    | (go_at_call 83; refine hty.mono ?_; rintro e w2 ⟨rfl, ha⟩; have H2 := hide ha; clear ha))
   go_ret
   exact ⟨by rw [HC.out]; rfl, by rw [HC.out]; exact H2.out⟩
  ·have HC : Hid (S.syncNames = (50, S.tick)) := hide (by simp [Ds.syncNames, hon, hgo])
   have ha0 : S.ans 0 = 50 := by unfold Ds.ans; rw [hgo]; rfl
   rw [ha0] at hst
   clear h hB hon hgo ha0
   go_enter Tryz.func35, Tryz.ntmps35
   go_wp2_with (first
    | (go_at_call 41; refine hoff.mono ?_; rintro e w' ⟨rfl, rfl⟩)
    | (go_at_call 69; have Ha := hst; refine hst.mono ?_; rintro e w1 ⟨rfl, hP1, hK1⟩; have H2 := hide (HAF.out w1 hP1 hK1); clear Ha hst hP1 hK1))
   go_ret
   exact ⟨by rw [HC.out]; rfl, by rw [HC.out]; exact H2.out⟩
 ·simp only [Bool.not_eq_true] at hon
  rw [hon] at hoff
  have HC : Hid (S.syncNames = (50, S)) := hide (by simp [Ds.syncNames, hon])
  clear h hB
  go_enter Tryz.func35, Tryz.ntmps35
  go_wp2_with (go_at_call 41; refine hoff.mono ?_; rintro e w' ⟨rfl, rfl⟩)
  go_ret
  exact ⟨by rw [HC.out]; rfl, by rw [HC.out]; exact HA.out⟩
end

section
open Go.RowKit Dsk
set_option linter.unusedVariables false
set_option linter.unusedSimpArgs false
theorem Tryz.infoSpan : (Tryz.prog.info? 164).map (fun i => (i.zero, i.size, i.bytes)) = some (some (.agg #[.string ⟨#[]⟩, .int .i64 0, .int .i64 0]), 3, 32) := by kernel_rfl
set_option maxHeartbeats 400000 in
set_option maxRecDepth 100000 in
theorem cloneB_nil (w : World) :
  Calls Tryz.prog 91 #[.slice none 0 0] w fun e w' => e = .returned (.slice none 0 0) ∧ w' = w := by
 have hnil := fun (w : World) (a : Option Addr) (n c : Nat) => Lib.run_eql_slice_nil (P := Tryz.prog) w 28 5 a n c 0 0 Tryz.underlying28
 go_enter Tryz.func91, Tryz.ntmps91
 go_wp2
 go_ret
 exact ⟨rfl, rfl⟩
set_option maxHeartbeats 400000 in
set_option maxRecDepth 100000 in
theorem cloneB_some (ad : Addr) (cap m : Nat) (xs : List Value) (w : World) (hx : xs.length = m * 1) (h1 : ∀ u ∈ xs, u.oneCell' = true) (hm : m ≤ 1073741824) (hc : ∀ j u, xs[j]? = some u → (w.alloc (.cells #[] 5)).cell? (ad.add j) = some u) :
  Calls Tryz.prog 91 #[.slice (some ad) m cap] w fun e w' => ∃ v, e = .returned v ∧ w'.ownsRow w.heap.size 5 1 v m xs ∧ Kept [] w w' := by
 obtain ⟨i0, hi, hz0, hz1, hz2⟩ := info_parts Tryz.infoByte
 have hnil := fun (w : World) (a : Option Addr) (n c : Nat) => Lib.run_eql_slice_nil (P := Tryz.prog) w 28 5 a n c 0 0 Tryz.underlying28
 go_enter Tryz.func91, Tryz.ntmps91
 go_wp2_with (at_builtin; refine wpList_append_own _ rfl _ _ 28 rfl w.heap.size 5 i0 (.int .u8 0) 1 1 Tryz.underlying28 hi hz0 hz1 hz2 rfl (by decide) _ 0 [] rfl (World.ownsRow_made w #[] 0 (Nat.le_refl _) (by decide) rfl) ad m cap xs rfl hx hc h1 ?c3 ?c4 ?c5 ?_)
 case c3 => unfold maxLen; omega
 case c4 => omega
 case c5 => simp
 intro v' w1 hown hgrow hnn
 have hk : Kept [] w w1 := ((Kept.refl [] w).alloc _).grown hgrow (by intro k hk hlt; simp [Value.ownBlock] at hk; omega)
 obtain ⟨bo, bc, rfl, _⟩ := own_shape hown
 have HOW := hide hown
 clear hown hgrow hnn hnil hc
 go_wp2
 go_ret
 exact ⟨_, rfl, HOW.out, hk⟩
theorem cloneB_ok (ao : Option Addr) (n c : Nat) (xs : By) (w : World) (hn : xs.length = n) (h : Sl w ao xs) (h0 : ao = none → n = 0 ∧ c = 0) (hm : n ≤ 1073741824) :
  Calls Tryz.prog 91 #[.slice ao n c] w fun e w' => ∃ v, e = .returned v ∧ OwnB w' v n xs ∧ Kept [] w w' ∧ (∀ g, v.ownBlock = some g → w.heap.size ≤ g) := by
 cases ao with
 | none =>
  obtain ⟨rfl, rfl⟩ := h0 rfl
  have : xs = [] := List.eq_nil_of_length_eq_zero hn
  subst this
  refine (cloneB_nil w).mono ?_
  rintro e w' ⟨rfl, rfl⟩
  exact ⟨_, rfl, OwnB.nil _, Kept.refl _ _, by simp [Value.ownBlock]⟩
 | some ad =>
  have hk := (Kept.refl [] w).alloc (.cells #[] 5)
  refine (cloneB_some ad c n (bys xs) w (by rw [bys_length]; omega) (bys_oneCell xs) hm (fun j u hu => ?_)).mono ?_
  ·obtain ⟨hj, rfl⟩ := bys_get hu
   obtain ⟨b', off', e', hc⟩ := h j hj
   injection e' with e'
   subst e'
   rw [show ((⟨b', off', none⟩ : Addr).add j) = ⟨b', off' + j, none⟩ from by unfold Addr.add; by_cases h : j = 0 <;> simp [h]]
   exact hk.cellOf hc (by simp)
  ·rintro e w' ⟨v, rfl, ho, hk⟩
   exact ⟨v, rfl, OwnB.of ho, hk, fun g hg => (ho.lt g hg).1⟩
end

end Go.Proofs.YtodihkdmneihiaaGreatDoor
