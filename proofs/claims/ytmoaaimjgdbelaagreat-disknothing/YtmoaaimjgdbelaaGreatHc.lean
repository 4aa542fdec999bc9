/-
  Contracts: write, WriteAt, Append, Truncate, Remove, Rename, Sync, SyncNames.
-/
import Derived.Test.YtmoaaimjgdbelaaGreatHb
namespace Go.Proofs.YtmoaaimjgdbelaaGreat
open Go.RowKit Dsk
set_option linter.unusedVariables false
set_option linter.unusedSimpArgs false

/-- string(b), of whatever row. -/
theorem conv_sl (W : World) (ao : Option Addr) (n c : Nat) (xs : By) (hn : xs.length = n) (h : Sl W ao xs) (h0 : ao = none → n = 0) : (convert 24 9 (.slice ao n c)).run Tryz.prog W = .ok (encStr xs) W := by
  cases ao with
  | none =>
    obtain rfl := h0 rfl
    have : xs = [] := List.eq_nil_of_length_eq_zero hn
    subst this
    exact Lib.run_convert_nil_bytes W 24 9 5 c Tryz.underlying24 Tryz.underlying5 Tryz.underlying9
  | some ad =>
    subst hn
    refine run_convert_bytes_back W 24 9 5 ad c xs Tryz.underlying24 Tryz.underlying5 Tryz.underlying9 (fun j hj => ?_)
    obtain ⟨b', off', e', hcell⟩ := h j hj
    injection e' with e'
    subst e'
    rw [show ((⟨b', off', none⟩ : Addr).add j) = ⟨b', off' + j, none⟩ from by unfold Addr.add; by_cases h : j = 0 <;> simp [h], hcell]
    simp [List.getElem?_eq_getElem hj]

/-- Bytes that are handed in: they lie in nobody's blocks. -/
structure Given (w : World) (o : Lab) (ao : Option Addr) (n : Nat) (d : By) : Prop where
  len : d.length = n
  sl : Sl w ao d
  nil : ao = none → n = 0
  out : d ≠ [] → ∀ a, ao = some a → o a.block = 0
theorem Given.keep {w w' : World} {o : Lab} {ao : Option Addr} {n : Nat} {d : By} (h : Given w o ao n d) (hk : Keep o.mine w w') : Given w' o ao n d :=
  ⟨h.len, h.sl.keep hk (fun hd a ha hm => hm (h.out hd a ha)), h.nil, h.out⟩

theorem sync_eq {S : Ds} (h : S.goesOff = false) : S.tick.goesOff = S.tick.goesOff := rfl

set_option maxHeartbeats 1600000 in
set_option maxRecDepth 100000 in
theorem write_ok {w : World} {p : Nat} {S : Ds} {A : Nat → Nat} {o : Lab} {N : Nat} {ms mh : Nat} {rv sv : Value} (h : PDx w p S A o ms mh rv sv) (hB : S.Bd N) {k a n : Nat} {d : By} {ao : Option Addr} {ac : Nat} (hN : N + n ≤ 268435456) (hk : k < S.nx) (ha : a ≤ (S.th k).shown.length) (hd : Given w o ao n d) :
    Calls Tryz.prog 75 #[.pointer (some ⟨p, 0, none⟩), .pointer (some ⟨A k, 0, none⟩), .int .i64 a, .slice ao n ac] w fun e w' => e = .returned (.int .i64 (S.write k a d).1) ∧ Aft w w' p (S.write k a d).2 o := by
  obtain ⟨rv1, sv1, ht⟩ := h.th k hk
  obtain ⟨so, sc, rfl, _⟩ := ht.shown.shape
  have i2 := ht.th0.c2
  have hlen := hB.len h.wf hk
  have hdl := hd.len
  have hrf := refused_ok h hB (by omega) ((a : Int) + n - (S.th k).shown.length) (by omega) (by omega)
  have HW : Hid (∀ v, Kept [] w v → PDx v p S A o ms mh rv sv ∧ Given v o ao n d) := fun v hv => ⟨h.keep (Keep.ofNone (F := fun _ => False) hv) (fun _ _ h => h), hd.keep (Keep.ofNone hv)⟩
  have HS : Hid (∀ v r, Kept [] w v → Calls Tryz.prog 73 #[.pointer (some ⟨p, 0, none⟩), .int .i64 r] v fun e w' => e = .returned (.int .i64 (S.ans r)) ∧ PDx w' p S.tick A o ms mh rv sv ∧ Keep (· = p) v w') := fun v r hv => stroke_ok (HW.out v hv).1 r (by have := hB.strokes; omega) (by have := hB.planned; omega)
  have HAF : Hid (∀ v w2, Kept [] w v → PDx w2 p S.tick A o ms mh rv sv → Keep (· = p) v w2 → Keep o.mine w w2) := fun v w2 hv h2 hk => (Keep.ofNone hv).trans (mine_p h2 hk) (fun _ h _ => h)
  have hA : ((a : Int) + n - (S.th k).shown.length) = ((a : Int) + d.length - (S.th k).shown.length) := by rw [hdl]
  rw [hA] at hrf
  obtain ⟨M, hM⟩ : ∃ M : Int, M = (a : Int) + d.length - (S.th k).shown.length := ⟨_, rfl⟩
  have hM2 : (a : Int) + (n : Int) - (List.length (S.th k).shown : Int) = M := by rw [hM, hdl]
  rw [← hM] at hrf
  have hb1 : a ≤ 268435456 := by omega
  cases hfl : S.full M
  · have HC : Hid (S.write k a d = (S.ans 0, S.tick.addByte k (.wr a d))) := hide (by unfold Ds.write; rw [← hM, hfl]; rfl)
    have hf0 : fullE S M = 0 := by unfold fullE; rw [hfl]; rfl
    rw [hf0] at hrf
    have HD : Hid (∀ v, PDx v p S.tick A o ms mh rv sv → Calls Tryz.prog 95 #[.pointer (some ⟨A k, 0, none⟩), .iface 174 (.agg #[.int .i64 a, encStr d])] v fun e w' => e = .returned (.tuple #[]) ∧ Aft v w' p (S.tick.addByte k (.wr a d)) o) := fun v hv => by
      refine (thingChange_pd hv (k := k) hk (c := .wr a d) ha hB.tick (by simp only [Ch.units]; omega)).mono ?_
      rintro e w' ⟨rfl, hP, hK⟩
      exact ⟨rfl, A, _, ⟨_, _, _, _, hP⟩, Ext_ext _ _ _ _, mine_k hK⟩
    have HCV : Hid (∀ v w2, Kept [] w v → PDx w2 p S.tick A o ms mh rv sv → Keep (· = p) v w2 → (convert 24 9 (.slice ao n ac)).run Tryz.prog w2 = .ok (encStr d) w2) := fun v w2 hv h2 hk => by
      have hg := hd.keep (HAF.out v w2 hv h2 hk)
      exact conv_sl w2 ao n ac d hg.len hg.sl hg.nil
    clear h hB hd ht hfl hf0 hM hA
    go_enter Tryz.func75, Tryz.ntmps75
    generalize (S.th k).shown.length = m at i2 hM2 ha hlen
    go_wp2_with (first
      | (go_at_call 72; have Ha := hrf; refine hrf.mono ?_; rintro e w1 ⟨rfl, hk1⟩; clear Ha hrf)
      | (go_at_call 73; have Ha := HS; refine (HS.out w1 0 hk1).mono ?_; rintro e w2 ⟨rfl, hP2, hk2⟩; have HH2 := hide (And.intro hP2 hk2); have hcv := HCV.out w1 w2 hk1 hP2 hk2; clear hP2 hk2 HS Ha)
      | (go_at_call 95; refine (HD.out w2 HH2.out.1).mono ?_; rintro e w3 ⟨rfl, ha3⟩; have H3 := hide (Aft.trans (Lab.Ext.refl _ _) (HAF.out w1 w2 hk1 HH2.out.1 HH2.out.2) ha3); clear ha3))
    go_ret
    exact ⟨by rw [HC.out]; rfl, by rw [HC.out]; exact H3.out⟩
  · have HC : Hid (S.write k a d = (S.ans 55, S.tick)) := hide (by unfold Ds.write; rw [← hM, hfl]; rfl)
    have hf0 : fullE S M = 55 := by unfold fullE; rw [hfl]; rfl
    rw [hf0] at hrf
    clear h hB hd ht hfl hf0 hM hA
    go_enter Tryz.func75, Tryz.ntmps75
    generalize (S.th k).shown.length = m at i2 hM2 ha hlen
    go_wp2_with (first
      | (go_at_call 72; have Ha := hrf; refine hrf.mono ?_; rintro e w1 ⟨rfl, hk1⟩; clear Ha hrf)
      | (go_at_call 73; have Ha := HS; refine (HS.out w1 55 hk1).mono ?_; rintro e w2 ⟨rfl, hP2, hk2⟩; have H2 := hide (Aft.of hP2 (HAF.out w1 w2 hk1 hP2 hk2)); clear hP2 hk2 HS Ha))
    go_ret
    exact ⟨by rw [HC.out]; rfl, by rw [HC.out]; exact H2.out⟩
end Go.Proofs.YtmoaaimjgdbelaaGreat
