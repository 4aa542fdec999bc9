import Derived.Test.YteckiednnaianaaGreatHgp
import Derived.Test.YteckiednnaianaaGreatHpp
import Derived.Test.YteckiednnaianaaGreatFobp
import Derived.Test.YteckiednnaianaaGreatIep
import Derived.Defers
import Derived.Recover
import Derived.Scope
import Derived.Test.YteckiednnaianaaGreatGap
import Derived.Test.YteckiednnaianaaGreatGvp
import Derived.Test.YteckiednnaianaaGreatGpp
import Derived.Deep.RegionHeld
namespace Go.Proofs.YteckiednnaianaaGreat
section
open Go.RowKit Dsk
set_option linter.unusedVariables false
set_option linter.unusedSimpArgs false
set_option maxHeartbeats 1600000 in
set_option maxRecDepth 100000 in
theorem safe_ok {w : World} {p : Nat} {S : Ds} {A : Nat → Nat} {o : Lab} {N : Nat} (h : PD w p S A o) (hB : S.Bd N) (hN : N ≤ 268435456) : Calls Tryz.prog 44 #[.pointer (some ⟨p, 0, none⟩)] w fun e w' => ∃ v vs, e = .returned v ∧ Fls w' w.heap.size v S.safeFiles vs ∧ Kept [] w w' := by
 obtain ⟨ms, mh, rv, sv, h⟩ := h
 have hup : S.safe.Up := h.wf.up
 have hlen : S.safe.length ≤ N := by have := hB.nm; omega
 have hrs := rising_ok ms A S.safe w h.safe hup (by omega)
 have cm := h.c2
 have HP : Hid (∀ v, Kept [] w v → PDx v p S A o ms mh rv sv) := fun v hv => h.keep (Keep.ofNone (F := fun _ => False) hv) (fun _ _ h => h)
 have HB := hide (And.intro h.wf hB)
 have hLl : S.safeFiles.length = S.safe.length := by simp [Ds.safeFiles]
 clear h hB
 go_enter Tryz.func44, Tryz.ntmps44
 go_wp2_with (go_at_call 76; refine hrs.mono ?_; rintro e w1 ⟨nv, rfl, hrow, hbl⟩; obtain ⟨no, nc, rfl, _⟩ := own_shape hrow; have HLP := hide (Lp.mk (Fls.start w1 w.heap.size) (Kept.of_below hbl) (show w1.ownsRow 0 9 1 _ (S.safe.keys).length (S.safe.keys.map encStr) by simpa [Nm.keys] using ownsRow_base_a hrow (Nat.zero_le _))); clear hrow hbl hrs)
 generalize hLe : S.safe.length = M at *
 have HL := hide hLe
 clear cm hLe
 go_loopw [15, 3, 5] (fun i f _ wr => ∃ k : Nat, k ≤ M ∧ i = .int .i64 k ∧ Hid (∃ vs, Lp w wr w.heap.size (.slice no M nc) S.safe.keys f (S.safeFiles.take k) vs) ∧ ∃ fo fc, f = .slice fo k fc) (fun i _ _ wr => M - (intOf i).toNat)
 case atStart => exact ⟨0, by omega, rfl, hide ⟨[], by simpa using HLP.out⟩, none, 0, rfl⟩
 case round =>
  clear HLP
  obtain ⟨k, hk, rfl, HR, fo, fc, rfl⟩ := hrel
  obtain ⟨vs, hR⟩ := HR.out
  clear HR
  by_cases hlt : k < M
  ·have hlt2 : k < S.safe.length := by rw [HL.out]; exact hlt
   obtain ⟨⟨n, id⟩, hq⟩ : ∃ q, S.safe[k]? = some q := ⟨S.safe[k], List.getElem?_eq_getElem hlt2⟩
   have hmem : (n, id) ∈ S.safe := List.mem_of_getElem? hq
   have hPr := HP.out wr hR.keep
   have hget := (Nm.get_some hup).2 hmem
   have hnl : n.length ≤ 112 := isNm_len (HB.out.1.nm _ hmem)
   have hid : id < S.nx := HB.out.1.lt id (List.mem_append_left _ (Nm.mem_ids.2 ⟨n, hmem⟩))
   have hlk := hPr.safe.look n (by unfold maxLen; omega)
   rw [hget] at hlk
   have cm := hPr.c2
   obtain ⟨rv1, sv1, ht⟩ := hPr.th id hid
   obtain ⟨so, sc, rfl, hsc, _, hs0, _⟩ := ht.shown.shape
   have it := ht.th0.c0
   have hil := HB.out.2.th id hid
   have hls := HB.out.2.len HB.out.1 hid
   obtain ⟨g, hg⟩ : ∃ g, no = some ⟨g, 0, none⟩ := by
    rcases hR.names.2 with ⟨e, e2⟩ | ⟨g, cap, cur, e, _⟩
    ·have h2 : S.safe.keys.length = S.safe.length := by simp [Nm.keys]
     omega
    ·injection e with e _ _; exact ⟨g, e⟩
   subst hg
   have hcell : wr.cell? ⟨g, k, none⟩ = some (encStr n) := by
    have := hR.names.cells (g := g) rfl k (encStr n) (by simp [Nm.keys, hq])
    rwa [add0] at this
   have htk : S.safeFiles.take (k + 1) = S.safeFiles.take k ++ [(n, (S.th id).safe)] := by
    rw [List.take_add_one]
    congr 1
    simp [Ds.safeFiles, hq]
   have htl : (S.safeFiles.take k).length = k := by rw [List.length_take]; simp [Ds.safeFiles]; omega
   have HST : Hid (∀ w4 w5 u v', Kept [] wr w4 → OwnB w4 u (S.th id).safe.length (S.th id).safe → (∀ g, u.ownBlock = some g → wr.heap.size ≤ g) → w5.ownsRow 0 26 2 v' (k + 1) (fcells (S.safeFiles.take k) vs ++ [encStr n, u]) → (∀ F : Nat → Prop, (∀ j, (Value.slice fo k fc).ownBlock = some j → F j) → Keep F w4 w5) → (∀ g, v'.ownBlock = some g → (Value.slice fo k fc).ownBlock = some g ∨ w4.heap.size ≤ g) → ∃ vs', Lp w w5 w.heap.size (.slice (some ⟨g, 0, none⟩) M nc) S.safe.keys v' (S.safeFiles.take (k + 1)) vs') := fun w4 w5 u v' h1 h2 h3 h4 h5 h6 => by
    rw [htk]
    exact ⟨_, hR.step rfl h1 (f := (n, (S.th id).safe)) h2 h3 (by rw [htl]; exact h4) h5 h6⟩
   have HAP : Hid (∀ w4, Kept [] wr w4 → ∀ u : Value, u.oneCell' = true → ∃ g c w', (Builtin.append_ #[22, 22] 22 #[.slice fo k fc, .slice (some ⟨w4.heap.size, 0, none⟩) 1 1]).run Tryz.prog (w4.alloc (.cells #[encStr n, u] 26)) = .ok (.slice (some ⟨g, 0, none⟩) (k + 1) c) w' ∧ w'.ownsRow 0 26 2 (.slice (some ⟨g, 0, none⟩) (k + 1) c) (k + 1) (fcells (S.safeFiles.take k) vs ++ [encStr n, u]) ∧ (∀ F : Nat → Prop, (∀ j, (Value.slice fo k fc).ownBlock = some j → F j) → Keep F w4 w') ∧ (∀ g', (Value.slice (some ⟨g, 0, none⟩) (k + 1) c).ownBlock = some g' → (Value.slice fo k fc).ownBlock = some g' ∨ w4.heap.size ≤ g')) := fun w4 h4 u hu => by
    have hr4 := own_keeps (ownsRow_base_a hR.fls.row (Nat.zero_le _)) (Keep.ofNone (F := fun _ => False) h4) (fun _ _ h => h)
    rw [htl] at hr4
    obtain ⟨g, c, w', e1, e2, e3, e4, _⟩ := run_app (P := Tryz.prog) w4 22 22 26 Tryz.underlying22 Tryz.infoFile rfl (by decide) _ k _ hr4 [encStr n, u] rfl (fun z hz => by simp only [List.mem_cons, List.not_mem_nil, or_false] at hz; rcases hz with rfl | rfl; rfl; exact hu) (by unfold maxLen; omega) (by omega)
    refine ⟨g, c, w', e1, e2, e3, fun g' hg' => ?_⟩
    simp only [Value.ownBlock, Option.some.injEq] at hg'
    subst hg'
    rcases e4 with e | e
    ·exact .inl e.symm
    ·exact .inr e
   obtain ⟨u, w4, hcv, hu4, hk4, hb4, uc, rfl⟩ := run_of_str wr (S.th id).safe (by omega)
   obtain ⟨ga, gc, w5, hap, ho5, hK5, hl5⟩ := HAP.out w4 hk4 (.slice (some ⟨wr.heap.size, 0, none⟩) (S.th id).safe.length uc) rfl
   have H5 := hide (HST.out w4 w5 _ _ hk4 hu4 (fun g hg => by rw [hb4] at hg; injection hg with hg; omega) ho5 hK5 hl5)
   clear hu4 hb4 ho5 hK5 hl5 HST HAP
   clear hR hPr hget ht hq htk hmem htl hs0
   go_wp2_with (first
    | fail
    | (at_builtin; refine wpList_app_run rfl _ _ 22 22 rfl _ _ rfl rfl _ _ hap ?_))
   go_roundw
   case rel => exact ⟨k + 1, by omega, by go_num, H5, _, _, rfl⟩
   case measure => simp [intOf]; omega
  ·have hkM : k = M := by omega
   subst hkM
   have HE : Hid (S.safeFiles.take k = S.safeFiles) := hide (List.take_of_length_le (by omega))
   have HRR := hide hR
   clear hR
   go_wp2
   go_ret
   rw [HE.out] at HRR
   exact ⟨_, vs, rfl, HRR.out.fls, HRR.out.keep⟩
end

section
open Go.RowKit Dsk
set_option linter.unusedVariables false
set_option linter.unusedSimpArgs false
def Ax (X : Nat → Prop) (wa w : World) (p : Nat) (S : Ds) (N : Nat) : Prop := ∃ A o, PD w p S A o ∧ (∀ b, X b → o b = 0 ∧ b < wa.heap.size) ∧ Keep (fun b => ¬ X b) wa w ∧ S.Bd N
section
variable {X : Nat → Prop} {wa w w' : World} {p : Nat} {S : Ds} {N : Nat}
theorem Ax.wf (h : Ax X wa w p S N) : S.Wf := by
 obtain ⟨A, o, ⟨_, _, _, _, h⟩, _⟩ := h
 exact h.wf
theorem Ax.bd (h : Ax X wa w p S N) : S.Bd N := h.choose_spec.choose_spec.2.2.2
theorem Ax.old (h : Ax X wa w p S N) : Keep (fun b => ¬ X b) wa w := h.choose_spec.choose_spec.2.2.1
theorem Ax.kept (h : Ax X wa w p S N) (hk : Kept [] w w') : Ax X wa w' p S N := by
 obtain ⟨A, o, hP, ho, hw, hb⟩ := h
 exact ⟨A, o, hP.keep (Keep.ofNone (F := fun _ => False) hk) (fun _ _ h => h), ho, hw.kept hk, hb⟩
theorem Ax.mono {M : Nat} (h : Ax X wa w p S N) (hm : N ≤ M) : Ax X wa w p S M := by
 obtain ⟨A, o, hP, ho, hw, hb⟩ := h
 exact ⟨A, o, hP, ho, hw, hb.mono hm⟩
def More (X : Nat → Prop) (w w' : World) : Nat → Prop := fun b => X b ∨ (w.heap.size ≤ b ∧ b < w'.heap.size)
theorem Ax.more (h : Ax X wa w p S N) (hk : Kept [] w w') : Ax (More X w w') w' w' p S N := by
 obtain ⟨A, o, hP, ho, hw, hb⟩ := h
 refine ⟨A, o, hP.keep (Keep.ofNone (F := fun _ => False) hk) (fun _ _ h => h), fun b hx => ?_, Keep.refl _ _, hb⟩
 have hs := hk.size
 have hs2 := hw.size
 rcases hx with hx | hx
 ·exact ⟨(ho b hx).1, by have := (ho b hx).2; omega⟩
 ·refine ⟨Classical.byContradiction fun hn => ?_, hx.2⟩
  obtain ⟨_, _, _, _, hz⟩ := hP
  have := hz.lim b hn
  omega
theorem At.ax {w0 : World} (h : At w0 w p S N) : Ax (fun b => b < w0.heap.size) w0 w p S N := by
 obtain ⟨A, o, hP, ho, hw, hb⟩ := h
 refine ⟨A, o, hP, fun b hx => ⟨Classical.byContradiction fun hn => ?_, hx⟩, Keep.ofNone hw, hb⟩
 have := ho b hn
 omega
theorem aft_ax {S' : Ds} {M : Nat} {o : Lab} (ho : ∀ b, X b → o b = 0 ∧ b < wa.heap.size) (hw : Keep (fun b => ¬ X b) wa w) (ha : Aft w w' p S' o) (hb : S'.Bd M) : Ax X wa w' p S' M := by
 obtain ⟨A', o', hP, he, hK⟩ := ha
 refine ⟨A', o', hP, fun b hx => ⟨Classical.byContradiction fun hn => ?_, (ho b hx).2⟩, hw.trans hK ?_, hb⟩
 ·exact he b (Nat.lt_of_lt_of_le (ho b hx).2 hw.size) hn (ho b hx).1
 ·intro b hm _ hx
  exact hm (ho b hx).1
end
section
variable {X : Nat → Prop} {wa w : World} {p : Nat} {S : Ds} {N : Nat}
theorem create_ax (h : Ax X wa w p S N) (hN : N ≤ 268435456) (n : By) (hn : n.length ≤ 4611686018427387904) : Calls Tryz.prog 24 #[.pointer (some ⟨p, 0, none⟩), encStr n] w fun e w' => e = .returned (.int .i64 (S.create n).1) ∧ Ax X wa w' p (S.create n).2 (N + 1) := by
 obtain ⟨A, o, hP, ho, hw, hb⟩ := h
 refine (create_ok hP hb hN n hn).mono ?_
 rintro e w' ⟨rfl, ha⟩
 exact ⟨rfl, aft_ax ho hw ha (hb.create n)⟩
theorem given_ax {A : Nat → Nat} {o : Lab} {w1 : World} (hP : PD w p S A o) (ho : ∀ b, X b → o b = 0 ∧ b < wa.heap.size) (hk : Kept [] w w1) {ao : Option Addr} {n : Nat} {d : By} (hl : d.length = n) (hs : Sl w1 ao d) (h0 : ao = none → n = 0) (hnew : d ≠ [] → ∀ a, ao = some a → w.heap.size ≤ a.block ∨ X a.block) : Given w1 o ao n d := by
 obtain ⟨_, _, _, _, hx⟩ := hP
 refine ⟨hl, hs, h0, fun hd a ha => ?_⟩
 apply Classical.byContradiction
 intro hne
 rcases hnew hd a ha with h1 | h1
 ·have := hx.lim a.block hne; omega
 ·exact hne (ho a.block h1).1
theorem append_ax (h : Ax X wa w p S N) {w1 : World} (hk : Kept [] w w1) {ao : Option Addr} {n c : Nat} {d : By} (hN : N + n ≤ 268435456) (nm : By) (hnl : nm.length ≤ 4611686018427387904) (hl : d.length = n) (hs : Sl w1 ao d) (h0 : ao = none → n = 0) (hnew : d ≠ [] → ∀ a, ao = some a → w.heap.size ≤ a.block ∨ X a.block) :
  Calls Tryz.prog 25 #[.pointer (some ⟨p, 0, none⟩), encStr nm, .slice ao n c] w1 fun e w' => e = .returned (.int .i64 (S.append nm d).1) ∧ Ax X wa w' p (S.append nm d).2 (N + n + 2) := by
 obtain ⟨A, o, hP, ho, hw, hb⟩ := h
 have hP1 : PD w1 p S A o := hP.keep (Keep.ofNone (F := fun _ => False) hk) (fun _ _ h => h)
 refine (append_ok hP1 hb hN nm hnl (given_ax hP ho hk hl hs h0 hnew)).mono ?_
 rintro e w' ⟨rfl, ha⟩
 exact ⟨rfl, aft_ax ho (hw.kept hk) ha (by have := hb.append nm d; rw [hl] at this; exact this)⟩
theorem writeAt_ax (h : Ax X wa w p S N) {w1 : World} (hk : Kept [] w w1) {ao : Option Addr} {n c : Nat} {d : By} (hN : N + n ≤ 268435456) (nm : By) (hnl : nm.length ≤ 4611686018427387904) (a : Int) (hl : d.length = n) (hs : Sl w1 ao d) (h0 : ao = none → n = 0) (hnew : d ≠ [] → ∀ a, ao = some a → w.heap.size ≤ a.block ∨ X a.block) :
  Calls Tryz.prog 52 #[.pointer (some ⟨p, 0, none⟩), encStr nm, .int .i64 a, .slice ao n c] w1 fun e w' => e = .returned (.int .i64 (S.writeAt nm a d).1) ∧ Ax X wa w' p (S.writeAt nm a d).2 (N + n + 2) := by
 obtain ⟨A, o, hP, ho, hw, hb⟩ := h
 have hP1 : PD w1 p S A o := hP.keep (Keep.ofNone (F := fun _ => False) hk) (fun _ _ h => h)
 refine (writeAt_ok hP1 hb hN nm hnl a (given_ax hP ho hk hl hs h0 hnew)).mono ?_
 rintro e w' ⟨rfl, ha⟩
 exact ⟨rfl, aft_ax ho (hw.kept hk) ha (by have := hb.writeAt nm a d; rw [hl] at this; exact this)⟩
theorem truncate_ax (h : Ax X wa w p S N) (hN : N ≤ 268435456) (nm : By) (hnl : nm.length ≤ 4611686018427387904) (a : Int) : Calls Tryz.prog 57 #[.pointer (some ⟨p, 0, none⟩), encStr nm, .int .i64 a] w fun e w' => e = .returned (.int .i64 (S.truncate nm a).1) ∧ Ax X wa w' p (S.truncate nm a).2 (N + 3) := by
 obtain ⟨A, o, hP, ho, hw, hb⟩ := h
 refine (truncate_ok hP hb hN nm hnl a).mono ?_
 rintro e w' ⟨rfl, ha⟩
 exact ⟨rfl, aft_ax ho hw ha (hb.truncate nm a)⟩
theorem rename_ax (h : Ax X wa w p S N) (hN : N ≤ 268435456) (f t : By) (hfl : f.length ≤ 4611686018427387904) (htl : t.length ≤ 4611686018427387904) : Calls Tryz.prog 28 #[.pointer (some ⟨p, 0, none⟩), encStr f, encStr t] w fun e w' => e = .returned (.int .i64 (S.rename f t).1) ∧ Ax X wa w' p (S.rename f t).2 (N + 2) := by
 obtain ⟨A, o, hP, ho, hw, hb⟩ := h
 refine (rename_ok hP hb hN f t hfl htl).mono ?_
 rintro e w' ⟨rfl, ha⟩
 exact ⟨rfl, aft_ax ho hw ha (hb.rename f t)⟩
theorem remove_ax (h : Ax X wa w p S N) (hN : N ≤ 268435456) (nm : By) (hnl : nm.length ≤ 4611686018427387904) : Calls Tryz.prog 34 #[.pointer (some ⟨p, 0, none⟩), encStr nm] w fun e w' => e = .returned (.int .i64 (S.remove nm).1) ∧ Ax X wa w' p (S.remove nm).2 (N + 2) := by
 obtain ⟨A, o, hP, ho, hw, hb⟩ := h
 refine (remove_ok hP hb hN nm hnl).mono ?_
 rintro e w' ⟨rfl, ha⟩
 exact ⟨rfl, aft_ax ho hw ha (hb.remove nm)⟩
theorem sync_ax (h : Ax X wa w p S N) (hN : N ≤ 268435456) (nm : By) (hnl : nm.length ≤ 4611686018427387904) : Calls Tryz.prog 26 #[.pointer (some ⟨p, 0, none⟩), encStr nm] w fun e w' => e = .returned (.int .i64 (S.sync nm).1) ∧ Ax X wa w' p (S.sync nm).2 (N + 1) := by
 have hwf := h.wf
 obtain ⟨A, o, hP, ho, hw, hb⟩ := h
 refine (sync_ok hP hb hN nm hnl).mono ?_
 rintro e w' ⟨rfl, ha⟩
 exact ⟨rfl, aft_ax ho hw ha (hb.sync hwf nm)⟩
theorem syncNames_ax (h : Ax X wa w p S N) (hN : N ≤ 268435456) : Calls Tryz.prog 27 #[.pointer (some ⟨p, 0, none⟩)] w fun e w' => e = .returned (.int .i64 (S.syncNames).1) ∧ Ax X wa w' p (S.syncNames).2 (N + 1) := by
 have hwf := h.wf
 obtain ⟨A, o, hP, ho, hw, hb⟩ := h
 refine (syncNames_ok hP hb hN).mono ?_
 rintro e w' ⟨rfl, ha⟩
 exact ⟨rfl, aft_ax ho hw ha (hb.syncNames hwf)⟩
theorem size_ax (h : Ax X wa w p S N) (nm : By) (hnl : nm.length ≤ 4611686018427387904) : Calls Tryz.prog 87 #[.pointer (some ⟨p, 0, none⟩), encStr nm] w fun e w' => e = .returned (.tuple #[.int .i64 (S.size nm), .int .i64 (S.find nm).1]) ∧ w' = w := by
 obtain ⟨A, o, hP, _⟩ := h
 exact size_ok hP nm hnl
theorem plan_ax (h : Ax X wa w p S N) (a b c : Int) (hp : (Lit.int .i64 a).wf = true ∧ (Lit.int .i64 b).wf = true ∧ (Lit.int .i64 c).wf = true) : Calls Tryz.prog 89 #[.pointer (some ⟨p, 0, none⟩), .agg #[.int .i64 a, .int .i64 b, .int .i64 c]] w fun e w' => e = .returned (.tuple #[]) ∧ Ax X wa w' p (S.setPlan a b c) N := by
 obtain ⟨A, o, hP, ho, hw, hb⟩ := h
 refine (plan_ok hP a b c hp).mono ?_
 rintro e w' ⟨rfl, ha⟩
 exact ⟨rfl, aft_ax ho hw ha (hb.setPlan a b c)⟩
theorem look_ax (h : Ax X wa w p S N) : Calls Tryz.prog 94 #[.pointer (some ⟨p, 0, none⟩)] w fun e w' => e = .returned (.tuple #[]) ∧ Ax X wa w' p S.look N := by
 obtain ⟨A, o, hP, ho, hw, hb⟩ := h
 refine (look_ok hP).mono ?_
 rintro e w' ⟨rfl, ha⟩
 exact ⟨rfl, aft_ax ho hw ha hb.look⟩
theorem crash_ax (h : Ax X wa w p S N) {w1 : World} (hk : Kept [] w w1) (hN : N ≤ 268435456) {ao : Option Addr} {n c : Nat} {ps : List Int} (hl : ps.length = n) (hr : Ints w1 ao ps) (hwf : ∀ i, (Lit.int .i64 (ps.getD i 0)).wf = true) (hn : n ≤ 17592186044416) (hnew : ps ≠ [] → ∀ a, ao = some a → w.heap.size ≤ a.block ∨ X a.block) :
  Calls Tryz.prog 32 #[.pointer (some ⟨p, 0, none⟩), .slice ao n c] w1 fun e w' => e = .returned (.tuple #[]) ∧ Ax X wa w' p (S.crash ps) N := by
 have hwfS := h.wf
 obtain ⟨A, o, hP, ho, hw, hb⟩ := h
 have hP1 : PD w1 p S A o := hP.keep (Keep.ofNone (F := fun _ => False) hk) (fun _ _ h => h)
 refine (crash_ok hP1 hb hN (ps := ps) ⟨hl, hr, hwf, fun hd a ha => ?_⟩ hn).mono ?_
 ·obtain ⟨_, _, _, _, hx⟩ := hP
  apply Classical.byContradiction
  intro hne
  rcases hnew hd a ha with h1 | h1
  ·have := hx.lim a.block hne; omega
  ·exact hne (ho a.block h1).1
 rintro e w' ⟨rfl, ha⟩
 exact ⟨rfl, aft_ax ho (hw.kept hk) ha (hb.crash hwfS ps)⟩
end
end

section
open Go.RowKit Dsk
set_option linter.unusedVariables false
set_option linter.unusedSimpArgs false
end

section
open Go.RowKit Dsk
set_option linter.unusedVariables false
set_option linter.unusedSimpArgs false
end

section
open Go.RowKit Dsk
set_option linter.unusedVariables false
set_option linter.unusedSimpArgs false
end

section
open Go.RowKit Dsk
set_option linter.unusedVariables false
set_option linter.unusedSimpArgs false
namespace Dsk
open _root_.Go.Proofs.YteckiednnaianaaGreat.Dsk.Ds
end Dsk
end

section
open Go.RowKit Dsk
set_option linter.unusedVariables false
set_option linter.unusedSimpArgs false
namespace Dsk
open _root_.Go.Proofs.YteckiednnaianaaGreat.Dsk.Ds
namespace Nm
def ren (f : Nat → Nat) (l : Nm) : Nm := l.map (fun p => (p.1, f p.2))
theorem ren_ids (f : Nat → Nat) (l : Nm) : (l.ren f).ids = l.ids.map f := by simp [ren, ids, Function.comp_def]
theorem ren_del (f : Nat → Nat) (l : Nm) (n : By) : (l.ren f).del n = (l.del n).ren f := by
 simp only [ren, del, List.filter_map, Function.comp_def]
theorem ren_ins (f : Nat → Nat) (x : By × Nat) (l : Nm) : ins (x.1, f x.2) (l.ren f) = (ins x l).ren f := by
 induction l with
 | nil => rfl
 | cons y r ih =>
  show ins (x.1, f x.2) ((y.1, f y.2) :: ren f r) = ren f (ins x (y :: r))
  simp only [ins]
  by_cases h : bytesBefore x.1 y.1 = true
  ·rw [if_pos h, if_pos h]; rfl
  ·rw [if_neg h, if_neg h, ih]; rfl
theorem ren_put (f : Nat → Nat) (l : Nm) (n : By) (k : Nat) : (l.ren f).put n (f k) = (l.put n k).ren f := by
 unfold put
 rw [ren_del]
 exact ren_ins f (n, k) _
theorem ren_get (f : Nat → Nat) (l : Nm) (n : By) : (l.ren f).get n = (l.get n).map f := by
 unfold get ren
 rw [List.find?_map]
 simp only [Function.comp_def, Option.map_map]
theorem ren_up (f : Nat → Nat) {l : Nm} (h : l.Up) : (l.ren f).Up := by
 unfold ren Up
 rw [List.pairwise_map]
 exact h
theorem ren_len (f : Nat → Nat) (l : Nm) : (l.ren f).length = l.length := by simp [ren]
end Nm
namespace Nc
def ren (f : Nat → Nat) : Nc → Nc
 | .mk n k => .mk n (f k)
 | .gv a b => .gv a b
 | .tk n => .tk n
theorem ren_apply (f : Nat → Nat) (c : Nc) (l : Nm) : (c.ren f).apply (l.ren f) = (c.apply l).ren f := by
 cases c with
 | mk n k => exact Nm.ren_put f l n k
 | tk n => exact Nm.ren_del f l n
 | gv a b =>
  simp only [ren, apply]
  rw [Nm.ren_get]
  cases h : l.get a with
  | none => rfl
  | some k =>
   show ((l.ren f).put b (f k)).del a = _
   rw [Nm.ren_put, Nm.ren_del]
theorem ren_ok (f : Nat → Nat) (c : Nc) {l : Nm} (h : c.ok l) : (c.ren f).ok (l.ren f) := by
 cases c with
 | mk n k => trivial
 | tk n => trivial
 | gv a b =>
  obtain ⟨h1, k, h2⟩ := h
  exact ⟨h1, f k, by rw [Nm.ren_get, h2]; rfl⟩
theorem ren_made (f : Nat → Nat) (c : Nc) : (c.ren f).made = c.made.map f := by cases c <;> rfl
end Nc
theorem ren_run (f : Nat → Nat) (l : Nm) (r : List Nc) : runN (l.ren f) (r.map (Nc.ren f)) = (runN l r).ren f := by
 induction r generalizing l with
 | nil => rfl
 | cons c r ih => simp only [List.map_cons, runN, Nc.ren_apply, ih]
theorem ren_okN (f : Nat → Nat) (l : Nm) (r : List Nc) (h : okN l r) : okN (l.ren f) (r.map (Nc.ren f)) := by
 induction r generalizing l with
 | nil => trivial
 | cons c r ih => exact ⟨Nc.ren_ok f c h.1, by rw [Nc.ren_apply]; exact ih _ h.2⟩
theorem ren_madeN (f : Nat → Nat) (r : List Nc) : madeN (r.map (Nc.ren f)) = (madeN r).map f := by
 induction r with
 | nil => rfl
 | cons c r ih => simp only [List.map_cons, madeN_cons, Nc.ren_made, ih, List.map_append]
namespace Ds
def lives (S : Ds) : List Nat := S.safe.ids ++ madeN S.row
def rho (S : Ds) (k : Nat) : Nat := S.lives.idxOf k
def compact (S : Ds) : Ds := { S with safe := S.safe.ren S.rho, row := S.row.map (Nc.ren S.rho), shown := S.shown.ren S.rho, th := fun j => S.th (S.lives.getD j 0), nx := S.lives.length }
theorem rho_lt {S : Ds} {k : Nat} (h : k ∈ S.lives) : S.rho k < S.lives.length := List.idxOf_lt_length_of_mem h
theorem rho_back {S : Ds} {k : Nat} (h : k ∈ S.lives) : S.lives.getD (S.rho k) 0 = k := by
 rw [List.getD_eq_getElem?_getD, List.getElem?_eq_getElem (rho_lt h)]
 exact List.getElem_idxOf (rho_lt h)
theorem rho_inj {S : Ds} {j k : Nat} (hj : j ∈ S.lives) (hk : k ∈ S.lives) (h : S.rho j = S.rho k) : j = k := by
 rw [← rho_back hj, ← rho_back hk, h]
theorem compact_th {S : Ds} {k : Nat} (h : k ∈ S.lives) : S.compact.th (S.rho k) = S.th k := by
 show S.th _ = _
 rw [rho_back h]
theorem lives_map {S : Ds} (h : S.lives.Nodup) : (S.lives.map S.rho).Nodup := by
 unfold List.Nodup
 rw [List.pairwise_map]
 refine List.Pairwise.imp_of_mem ?_ h
 intro a b ha hb hne e
 exact hne (rho_inj ha hb e)
theorem shown_lives {S : Ds} (hw : S.Wf) {p : By × Nat} (hp : p ∈ S.shown) : p.2 ∈ S.lives := by
 have : p.2 ∈ S.shown.ids := List.mem_map.2 ⟨p, hp, rfl⟩
 rw [hw.shown] at this
 exact runN_ids_sub _ this
theorem safe_lives {S : Ds} {p : By × Nat} (hp : p ∈ S.safe) : p.2 ∈ S.lives := List.mem_append_left _ (List.mem_map.2 ⟨p, hp, rfl⟩)
theorem compact_ids (S : Ds) : S.compact.safe.ids ++ madeN S.compact.row = S.lives.map S.rho := by
 show (S.safe.ren S.rho).ids ++ madeN (S.row.map (Nc.ren S.rho)) = _
 rw [Nm.ren_ids, ren_madeN, ← List.map_append]
 rfl
theorem Wf.compact {S : Ds} (h : S.Wf) : S.compact.Wf := by
 refine ⟨h.room, Nm.ren_up _ h.up, ?_, ren_okN _ _ _ h.ok, by rw [compact_ids]; exact lives_map h.nodup, fun k hk => ?_, fun p hp => ?_, fun c hc => ?_, fun k hk => ?_⟩
 ·show S.shown.ren S.rho = runN (S.safe.ren S.rho) (S.row.map (Nc.ren S.rho))
  rw [ren_run, ← h.shown]
 ·rw [compact_ids] at hk
  obtain ⟨j, hj, rfl⟩ := List.mem_map.1 hk
  exact rho_lt hj
 ·obtain ⟨q, hq, rfl⟩ := List.mem_map.1 hp
  exact h.nm q hq
 ·obtain ⟨d, hd, rfl⟩ := List.mem_map.1 hc
  have := h.nmr d hd
  cases d <;> exact this
 ·have hm : S.lives.getD k 0 ∈ S.lives := by
   rw [List.getD_eq_getElem?_getD, List.getElem?_eq_getElem hk]
   exact List.getElem_mem _
  exact h.th _ (h.lt _ hm)
theorem Bd.compact {S : Ds} {N : Nat} (h : S.Bd N) (hw : S.Wf) : S.compact.Bd N := by
 refine ⟨?_, fun k hk => ?_, h.reads, h.strokes, h.planned⟩
 ·show (S.safe.ren S.rho).length + (S.row.map (Nc.ren S.rho)).length ≤ N
  rw [Nm.ren_len, List.length_map]
  exact h.nm
 ·have hm : S.lives.getD k 0 ∈ S.lives := by
   rw [List.getD_eq_getElem?_getD, List.getElem?_eq_getElem hk]
   exact List.getElem_mem _
  exact h.th _ (hw.lt _ hm)
end Ds
end Dsk
end

section
open Go.RowKit Dsk
set_option linter.unusedVariables false
set_option linter.unusedSimpArgs false
namespace Dsk
open _root_.Go.Proofs.YteckiednnaianaaGreat.Dsk.Ds
end Dsk
end

section
open Go.RowKit Dsk
set_option linter.unusedVariables false
set_option linter.unusedSimpArgs false
namespace Dsk
def Ds.drop (S : Ds) (n : By) : Int × Ds := if isNm n then (if (S.remove n).1 = 0 then (S.remove n).2.syncNames else S.remove n) else (51, S)
end Dsk
namespace Dsk
end Dsk
end

section
open Go.RowKit Dsk
set_option linter.unusedVariables false
set_option linter.unusedSimpArgs false
namespace Dsk
def ldn (L : List (By × By)) : Nat → Nm
 | 0 => []
 | k + 1 => (ldn L k).put (L.getD k ([], [])).1 k
def thL (L : List (By × By)) (k : Nat) : Th := ⟨(L.getD k ([], [])).2, [], (L.getD k ([], [])).2⟩
def Ds.load (room : Nat) (L : List (By × By)) : Ds := ⟨room, true, ldn L L.length, [], ldn L L.length, thL L, L.length, 0, 0, 0, 0, 0, []⟩
theorem ldn_up (L : List (By × By)) (k : Nat) : (ldn L k).Up := by
 induction k with
 | zero => exact List.Pairwise.nil
 | succ k ih => exact ih.put _ _
theorem ldn_len (L : List (By × By)) (k : Nat) : (ldn L k).length ≤ k := by
 induction k with
 | zero => exact Nat.le_refl _
 | succ k ih => exact Nat.le_trans (Nm.put_length_le _ _ _) (by omega)
theorem ldn_mem (L : List (By × By)) (k : Nat) (p : By × Nat) (h : p ∈ ldn L k) : p.2 < k ∧ p.1 = (L.getD p.2 ([], [])).1 := by
 induction k with
 | zero => cases h
 | succ k ih =>
  rcases Nm.mem_put.1 h with rfl | ⟨h, _⟩
  ·exact ⟨Nat.lt_succ_self k, rfl⟩
  ·exact ⟨Nat.lt_succ_of_lt (ih h).1, (ih h).2⟩
theorem ldn_ids (L : List (By × By)) (k : Nat) : (ldn L k).ids.Nodup := by
 induction k with
 | zero => exact List.nodup_nil
 | succ k ih =>
  have h1 : ((ldn L (k + 1)).ids).Perm (k :: ((ldn L k).del (L.getD k ([], [])).1).ids) := (Nm.ins_perm _ _).map _
  refine h1.nodup_iff.2 (List.nodup_cons.2 ⟨fun h => ?_, ih.sublist (List.filter_sublist.map _)⟩)
  obtain ⟨p, hp, e⟩ := List.mem_map.1 h
  have := (ldn_mem L k p (List.mem_filter.1 hp).1).1
  omega
theorem Wf.load {room : Nat} {L : List (By × By)} (hr : 1 ≤ room ∧ room ≤ 1048576) (hN : ∀ f ∈ L, isNm f.1 = true) : (Ds.load room L).Wf := by
 refine ⟨hr, ldn_up L _, rfl, trivial, by simpa [madeN, Ds.load] using ldn_ids L L.length, fun k hk => ?_, fun p hp => ?_, fun c hc => (by cases hc), fun k hk => ⟨trivial, rfl⟩⟩
 ·have hk' : k ∈ (ldn L L.length).ids := by simpa [madeN, Ds.load] using hk
  obtain ⟨p, hp, rfl⟩ := List.mem_map.1 hk'
  exact (ldn_mem L _ p hp).1
 ·obtain ⟨h1, h2⟩ := ldn_mem L _ p hp
  rw [h2]
  apply hN
  rw [List.getD_eq_getElem?_getD, List.getElem?_eq_getElem h1]
  exact List.getElem_mem h1
theorem Bd.load {room N : Nat} {L : List (By × By)} (hn : L.length ≤ N) (hd : ∀ f ∈ L, f.2.length ≤ N) : (Ds.load room L).Bd N := by
 refine ⟨Nat.le_trans (ldn_len L _) hn, fun k hk => ?_, Nat.zero_le _, Nat.zero_le _, Nat.zero_le _⟩
 have hk' : k < L.length := hk
 show (L.getD k ([], [])).2.length + 0 + 0 ≤ N
 rw [List.getD_eq_getElem?_getD, List.getElem?_eq_getElem hk']
 exact hd _ (List.getElem_mem hk')
end Dsk
structure Ldg (w wr : World) (p mb : Nat) (cs : Array Value) (L : List (By × By)) (k : Nat) (A : Nat → Nat) (o : Lab) : Prop where
 cells : wr.heap[p]? = some (.cells cs 62 (0, 0))
 map : Mp wr mb A (ldn L k)
 th : ∀ j, j < k → Tg wr o (j + 2) (A j) (thL L j)
 lp : o p = 1
 lm : o mb = 1
 lim : ∀ b, o b ≠ 0 → b < wr.heap.size ∧ w.heap.size ≤ b
 kept : Kept [] w wr
theorem Ldg.step {w wr w6 w7 : World} {p mb tb k : Nat} {cs : Array Value} {L : List (By × By)} {A : Nat → Nat} {o : Lab} {rv sv : Value} (h : Ldg w wr p mb cs L k A o) (hk6 : Kept [] wr w6) (ht : Th0 w6 tb rv sv (thL L k)) (htb : wr.heap.size ≤ tb)
  (hrv : ∀ g, rv.ownBlock = some g → wr.heap.size ≤ g) (hsv : ∀ g, sv.ownBlock = some g → wr.heap.size ≤ g) (hm : Mp w7 mb (upd A k tb) (ldn L (k + 1))) (hK : Keep (· = mb) w6 w7) : Ldg w w7 p mb cs L (k + 1) (upd A k tb) (o.ext wr w7 (k + 2)) := by
 have hmp : mb ≠ p := map_ne h.map h.cells (by simp)
 have hmlt : mb < wr.heap.size := h.map.lt
 have hplt : p < wr.heap.size := (Array.getElem?_eq_some_iff.1 h.cells).1
 have hs6 := hk6.size
 have hs7 := hK.size
 have hk6' : Keep (fun _ => False) wr w6 := Keep.ofNone hk6
 refine ⟨hK.heapOf (hk6'.heapOf h.cells (fun h => h)) (fun e => hmp e.symm), hm, fun j hj => ?_, (Lab.ext_old hplt).trans h.lp, (Lab.ext_old hmlt).trans h.lm, fun b hb => ?_, ?_⟩
 ·by_cases e : j = k
  ·subst e
   rw [upd_same]
   refine ⟨rv, sv, ⟨hK.heapOf ht.cells (by omega), own_keeps ht.row hK (fun g hg => by have := hrv g hg; omega), ht.shown.keep hK (fun g hg => by have := hsv g hg; omega), Lab.ext_new htb (Nat.lt_of_lt_of_le ht.lt hs7), fun g hg => Lab.ext_new (hrv g hg) (Nat.lt_of_lt_of_le (ht.row.lt g hg).2 hs7), fun g hg => Lab.ext_new (hsv g hg) (Nat.lt_of_lt_of_le (ht.shown.lt hg) hs7)⟩⟩
  ·rw [upd_other _ _ e]
   obtain ⟨rv1, sv1, h1⟩ := h.th j (by omega)
   refine ⟨rv1, sv1, (((h1.relab (o' := o.ext wr w7 (k + 2)) (fun g hg => Lab.ext_old hg)).keep hk6' (fun _ _ h => h)).keep hK (fun g hg e => ?_))⟩
   rw [e, Lab.ext_old hmlt, h.lm] at hg
   omega
 ·by_cases hb2 : b < wr.heap.size
  ·rw [Lab.ext_old hb2] at hb
   exact ⟨by omega, (h.lim b hb).2⟩
  ·by_cases hb3 : b < w7.heap.size
   ·have := h.kept.size
    exact ⟨hb3, by omega⟩
   ·simp [Lab.ext, hb2, hb3] at hb
 ·have h1 := h.kept.trans hk6 (by simp)
  have hn : w.heap.size ≤ mb := (h.lim mb (by rw [h.lm]; decide)).2
  exact ⟨hK.os.trans h1.os, hK.tape.trans h1.tape, hK.output.trans h1.output, Nat.le_trans h1.size hK.size, fun i hi _ => (hK.block i (Nat.lt_of_lt_of_le hi h1.size) (by omega)).trans (h1.block i hi (by simp))⟩
def ldc (r : Int) (mb : Nat) : Array Value := #[.int .i64 r, .bool true, .map none, .slice none 0 0, .map (some mb), .int .i64 0, .int .i64 0, .int .i64 0, .int .i64 0, .int .i64 0, .slice none 0 0]
theorem Ldg.done {w wr w3 : World} {p mb : Nat} {r : Int} {L : List (By × By)} {A : Nat → Nat} {o : Lab} (h : Ldg w wr p mb (ldc r mb) L L.length A o) (hr : 1 ≤ r ∧ r ≤ 1048576) (hN : ∀ f ∈ L, isNm f.1 = true) (hs : DirSynced wr w3 p 2 mb 62 (ldc r mb) A (ldn L L.length)) :
  ∃ o', PD w3 p (Ds.load r.toNat L) A o' ∧ (∀ b, o' b ≠ 0 → w.heap.size ≤ b) ∧ Kept [] w w3 := by
 obtain ⟨nb, k1, k2, k3, k4, k5⟩ := hs
 have hplt : p < wr.heap.size := (Array.getElem?_eq_some_iff.1 h.cells).1
 have hmlt : mb < wr.heap.size := h.map.lt
 have hnlt : nb < w3.heap.size := k2.lt
 have hs3 := k4.size
 have hrc : (r.toNat : Int) = r := by omega
 have hpn : w.heap.size ≤ p := (h.lim p (by rw [h.lp]; decide)).2
 have hwr := h.kept.size
 refine ⟨o.ext wr w3 1, ⟨nb, mb, .slice none 0 0, .slice none 0 0, ⟨Wf.load (by omega) hN, ?_, by omega, k2, k3, World.ownsRow_nil _ _ _ _, World.ownsRow_nil _ _ _ _, fun k hk => ?_, (Lab.ext_old hplt).trans h.lp, Lab.ext_new k5 hnlt, (Lab.ext_old hmlt).trans h.lm, by simp [Value.ownBlock], by simp [Value.ownBlock], fun b hb => ?_, (show (Lit.int .i64 0).wf = true ∧ (Lit.int .i64 0).wf = true ∧ (Lit.int .i64 0).wf = true from ⟨by decide, by decide, by decide⟩)⟩⟩, fun b hb => ?_, ?_⟩
 ·rw [k1]
  simp [Ds.load, hrc, ldc]
 ·obtain ⟨rv1, sv1, h1⟩ := h.th k hk
  refine ⟨rv1, sv1, ((h1.relab (o' := o.ext wr w3 1) (fun g hg => Lab.ext_old hg)).keep k4 (fun g hg e => ?_))⟩
  rw [e, Lab.ext_old hplt, h.lp] at hg
  omega
 ·by_cases hb2 : b < wr.heap.size
  ·omega
  ·by_cases hb3 : b < w3.heap.size
   ·exact hb3
   ·simp [Lab.ext, hb2, hb3] at hb
 ·by_cases hb2 : b < wr.heap.size
  ·rw [Lab.ext_old hb2] at hb
   exact (h.lim b hb).2
  ·omega
 ·have h1 := h.kept
  exact ⟨k4.os.trans h1.os, k4.tape.trans h1.tape, k4.output.trans h1.output, Nat.le_trans h1.size k4.size, fun i hi _ => (k4.block i (Nat.lt_of_lt_of_le hi h1.size) (by omega)).trans (h1.block i hi (by simp))⟩
end

section
open Go.RowKit Dsk
set_option linter.unusedVariables false
set_option linter.unusedSimpArgs false
def Fiz (w : World) (ao : Option Addr) (L : List (By × By)) : Prop := ∀ i b bo m bc, i < L.length → ao = some ⟨b, 0, none⟩ → w.cell? ⟨b, i * 2 + 1, none⟩ = some (.slice bo m bc) → bo = none → m = 0 ∧ bc = 0
theorem getD_of {L : List (By × By)} {k : Nat} {f : By × By} (h : L[k]? = some f) : L.getD k ([], []) = f := by rw [List.getD_eq_getElem?_getD, h]; rfl
theorem Ldg.start {w w1 : World} (r : Int) (L : List (By × By)) (hk : Kept [] w w1) :
  Ldg w ((w1.alloc (.cells #[.int .i64 r, .bool true, .map none, .slice none 0 0, .map (some (w1.heap.size + 1)), .int .i64 0, .int .i64 0, .int .i64 0, .int .i64 0, .int .i64 0, .slice none 0 0] 62)).alloc (.map #[] 0)) w1.heap.size (w1.heap.size + 1) (ldc r (w1.heap.size + 1)) L 0 (fun _ => 0) (fun b => if b = w1.heap.size ∨ b = w1.heap.size + 1 then 1 else 0) := by
 have hs := hk.size
 refine ⟨(Below.heap_alloc _ _ _ (by simp)).trans (MapKept.heap_alloc w1 _).1, ?_, fun j hj => absurd hj (Nat.not_lt_zero _), by simp, by simp, fun b hb => ?_, (hk.alloc _).alloc _⟩
 ·have := World.ownsMap_made (H := Unit) (w1.alloc (.cells #[.int .i64 r, .bool true, .map none, .slice none 0 0, .map (some (w1.heap.size + 1)), .int .i64 0, .int .i64 0, .int .i64 0, .int .i64 0, .int .i64 0, .slice none 0 0] 62)) Tryz.prog 9 ptrElem
  have e : (w1.alloc (.cells #[.int .i64 r, .bool true, .map none, .slice none 0 0, .map (some (w1.heap.size + 1)), .int .i64 0, .int .i64 0, .int .i64 0, .int .i64 0, .int .i64 0, .slice none 0 0] 62)).heap.size = w1.heap.size + 1 := by simp
  rw [e] at this
  exact this
 ·by_cases h : b = w1.heap.size ∨ b = w1.heap.size + 1
  ·exact ⟨by simp; omega, by omega⟩
  ·simp [h] at hb
set_option maxHeartbeats 3200000 in
set_option maxRecDepth 100000 in
theorem load_fine (r : Int) (ao : Option Addr) (n c : Nat) (L : List (By × By)) (w : World) (hx : L.length = n) (hn : n ≤ 256) (hr : 1 ≤ r ∧ r ≤ 1048576) (hN : ∀ f ∈ L, isNm f.1 = true) (hd : (L.map (·.1)).Nodup) (hT : (totalOf L : Int) ≤ r) (hM : ∀ f ∈ L, f.2.length ≤ 1048576) (h1 : Fis w ao L) (hz : Fiz w ao L) :
  Calls Tryz.prog 6 #[.int .i64 r, .slice ao n c] w fun e w' => ∃ p A o, e = .returned (.tuple #[.pointer (some ⟨p, 0, none⟩), .int .i64 0]) ∧ PD w' p (Ds.load r.toNat L) A o ∧ (∀ b, o b ≠ 0 → w.heap.size ≤ b) ∧ Kept [] w w' := by
 have hmm := @run_makeMap Tryz.prog
 have hrf := refused_fine r ao n c L w hx hn hr hN hd hT h1
 have HX := hide hx
 have HR0 := hide hr
 have HN := hide hN
 have HM := hide hM
 have H1 := hide h1
 have HZ := hide hz
 clear hx hr hN hd hT hM h1 hz
 go_enter Tryz.func6, Tryz.ntmps6
 go_upto_region 6 with (go_at_call 13; refine hrf.mono ?_; rintro e w1 ⟨rfl, hk1⟩; have HS := hide (Ldg.start r L hk1); clear hrf hk1)
 generalize ((w1.alloc (.cells #[.int .i64 r, .bool true, .map none, .slice none 0 0, .map (some (w1.heap.size + 1)), .int .i64 0, .int .i64 0, .int .i64 0, .int .i64 0, .int .i64 0, .slice none 0 0] 62)).alloc (.map #[] 0)) = w2 at HS ⊢
 generalize w1.heap.size + 1 = mb at HS ⊢
 generalize w1.heap.size = p at HS ⊢
 go_wp2
 go_loopw [27] (fun i wr => ∃ k : Nat, k ≤ n ∧ i = .int .i64 k ∧ Hid (∃ A o, Ldg w wr p mb (ldc r mb) L k A o)) (fun i wr => n - (intOf i).toNat)
 case atStart => exact ⟨0, Nat.zero_le _, rfl, hide ⟨_, _, HS.out⟩⟩
 case round =>
  clear HS
  obtain ⟨k, hk, rfl, HR⟩ := hrel
  by_cases hlt : k < n
  ·obtain ⟨b1, rfl, ⟨x, d⟩, hs, e1, bo1, bc1, e2, s1⟩ := H1.out k (by rw [HX.out]; exact hlt)
   have hz0 := HZ.out k b1 bo1 d.length bc1 (by rw [HX.out]; exact hlt) rfl e2
   obtain ⟨A, o, hR⟩ := HR.out
   replace e1 := hR.kept.cellOf e1 (by simp)
   replace e2 := hR.kept.cellOf e2 (by simp)
   dsimp only at e1 e2 s1
   have hdl : d.length ≤ 1048576 := HM.out _ (List.mem_of_getElem? hs)
   have hxl : x.length ≤ 112 := isNm_len (HN.out _ (List.mem_of_getElem? hs))
   have hA : Kept [] wr (wr.alloc (.cells #[encStr x, .slice bo1 d.length bc1] 26)) := (Kept.refl [] wr).alloc _
   have hcl := cloneB_ok bo1 d.length bc1 d (wr.alloc (.cells #[encStr x, .slice bo1 d.length bc1] 26)) rfl (s1.kept (hR.kept.trans hA (by simp)) (by simp)) hz0 (by omega)
   have hcx : (wr.alloc (.cells #[encStr x, .slice bo1 d.length bc1] 26)).cell? ⟨wr.heap.size, 0, none⟩ = some (encStr x) := by rw [cell_of_row _ _ _ _ _ _ (MapKept.heap_alloc wr _).1]; rfl
   have hcd : (wr.alloc (.cells #[encStr x, .slice bo1 d.length bc1] 26)).cell? ⟨wr.heap.size, 1, none⟩ = some (.slice bo1 d.length bc1) := by rw [cell_of_row _ _ _ _ _ _ (MapKept.heap_alloc wr _).1]; rfl
   have HRR := hide (show _ ∧ L[k]? = some (x, d) ∧ (wr.alloc (.cells #[encStr x, .slice bo1 d.length bc1] 26)).heap.size = wr.heap.size + 1 from ⟨hR, hs, by simp⟩)
   have HA := hide hA
   have HCX := hide hcx
   clear hR s1 hz0 HR hs hcx hA
   go_upto_region 9 with (fail)
   generalize (wr.alloc (.cells #[encStr x, .slice bo1 d.length bc1] 26)) = wA at HA hcl HCX HRR hcd ⊢
   clear e1 e2
   go_upto_region 10 with (go_at_call 14; refine hcl.mono ?_; rintro e w4 ⟨u, rfl, hu4, hk4, hn4⟩; obtain ⟨uo, uc, rfl, _⟩ := hu4.shape; have HU4 := hide hu4; have HK4 := hide hk4; have HN4 := hide hn4; clear hu4 hk4 hn4 hcl)
   clear hcd
   have hT0 : Th0 (w4.alloc (.cells #[.string ⟨#[]⟩, .slice none 0 0, .slice uo d.length uc] 67)) w4.heap.size (.slice none 0 0) (.slice uo d.length uc) ⟨[], [], d⟩ := ⟨(MapKept.heap_alloc w4 _).1, World.ownsRow_nil _ _ _ _, HU4.out.kept ((Kept.refl [] w4).alloc _)⟩
   have hsy := thingSync_ok w4.heap.size (.slice none 0 0) (.slice uo d.length uc) ⟨[], [], d⟩ (w4.alloc (.cells #[.string ⟨#[]⟩, .slice none 0 0, .slice uo d.length uc] 67)) hT0
   have hK5 : Kept [] w4 (w4.alloc (.cells #[.string ⟨#[]⟩, .slice none 0 0, .slice uo d.length uc] 67)) := (Kept.refl [] w4).alloc _
   have HK5 := hide hK5
   have hz5 : Hid ((w4.alloc (.cells #[.string ⟨#[]⟩, .slice none 0 0, .slice uo d.length uc] 67)).heap.size = w4.heap.size + 1) := hide (by simp)
   clear hT0 hK5
   generalize (w4.alloc (.cells #[.string ⟨#[]⟩, .slice none 0 0, .slice uo d.length uc] 67)) = w5 at hsy HK5 hz5 ⊢
   generalize htb : w4.heap.size = tb at hsy hz5 ⊢
   have HTB := hide htb
   clear htb
   go_upto_region 11 with (go_at_call 15; refine hsy.mono ?_; rintro e w6 ⟨rfl, hmv⟩; have HMV := hide hmv; clear hsy hmv)
   have HF : Hid (∃ w7, (Instr.mapUpdate 56 (.map (some mb)) (encStr x) (.pointer (some ⟨tb, 0, none⟩))).run Tryz.prog (World.drew w6) = .ok () w7 ∧ Kept [mb] (World.drew w6) w7 ∧ (∃ A o, Ldg w w7 p mb (ldc r mb) L (k + 1) A o) ∧ w6.cell? ⟨p, 4, none⟩ = some (.map (some mb)) ∧ w6.cell? ⟨wr.heap.size, 0, none⟩ = some (encStr x) ∧ p ≠ mb ∧ wr.heap.size ≠ mb) := hide (by
    obtain ⟨hR, hs, hsA⟩ := HRR.out
    obtain ⟨rv, sv, ht, hKt, hl1, hl2⟩ := HMV.out
    have q4 := HK4.out.size
    have q5 := hz5.out
    have qt := HTB.out
    have hmlt : mb < wr.heap.size := hR.map.lt
    have hpm : mb ≠ p := map_ne hR.map hR.cells (by simp)
    have k4 : Kept [] wr w4 := HA.out.trans HK4.out (by simp)
    have k5 : Kept [] wr w5 := k4.trans HK5.out (by simp)
    have hge : ∀ g, thF tb (.slice none 0 0) (.slice uo d.length uc) g → wr.heap.size < g := fun g hg => by
     rcases hg with rfl | h | h
     ·omega
     ·simp [Value.ownBlock] at h
     ·have := HN4.out g h
      omega
    have k6 : Kept [] wr w6 := ⟨hKt.os.trans k5.os, hKt.tape.trans k5.tape, hKt.output.trans k5.output, Nat.le_trans k5.size hKt.size, fun i hi _ => (hKt.block i (Nat.lt_of_lt_of_le hi k5.size) (fun h => by have := hge i h; omega)).trans (k5.block i hi (by simp))⟩
    have k6d : Kept [] wr (World.drew w6) := k6.trans ((Kept.refl [] w6).drew) (by simp)
    have htd : Th0 (World.drew w6) tb rv sv (thL L k) := by
     have := ht.kept ((Kept.refl [] w6).drew)
     have e : thL L k = (⟨[], [], d⟩ : Th).sync := by unfold thL; rw [getD_of hs]; rfl
     rw [e]
     exact this
    have hMd : Mp (World.drew w6) mb (upd A k tb) (ldn L k) := (hR.map.keep (Keep.ofNone (F := fun _ => False) k6d) (fun h => h)).congr (fun j hj => by
     obtain ⟨q, hq, rfl⟩ := List.mem_map.1 hj
     exact upd_other _ _ (by have := (ldn_mem L k q hq).1; omega))
    obtain ⟨w7, hup, hM7, hK7⟩ := hMd.put x k (by unfold maxLen; omega) (by have := ldn_len L k; unfold maxLen; omega)
    rw [upd_same] at hup
    have hM7' : Mp w7 mb (upd A k tb) (ldn L (k + 1)) := by
     show Mp w7 mb (upd A k tb) ((ldn L k).put (L.getD k ([], [])).1 k)
     rw [getD_of hs]
     exact hM7
    have htbl : wr.heap.size ≤ tb := by have := HTB.out; omega
    have hst := hR.step k6d htd htbl (fun g hg => by
      rcases hl1 g hg with h | h
      ·simp [Value.ownBlock] at h
      ·omega) (fun g hg => by
      rcases hl2 g hg with h | h
      ·have := HN4.out g h; omega
      ·omega) hM7' hK7
    refine ⟨w7, hup, ⟨hK7.os, hK7.tape, hK7.output, hK7.size, fun i hi hni => hK7.block i hi (by simpa using hni)⟩, ⟨_, _, hst⟩, k6.cellOf (by rw [cell_of_row _ _ _ _ _ _ hR.cells]; rfl) (by simp), ?_, fun e => hpm e.symm, by omega⟩
    have c4 := HK4.out.cellOf HCX.out (by simp)
    have c5 := HK5.out.cellOf c4 (by simp)
    exact hKt.cellOf c5 (fun h => by have := hge _ h; simp at this))
   obtain ⟨w7, hup, hk7, hL7, cp, cx, hnp, hnl⟩ := HF.out
   have HQ := hide (show (∃ A o, Ldg w w7 p mb (ldc r mb) L (k + 1) A o) ∧ Kept [mb] (World.drew w6) w7 from ⟨hL7, hk7⟩)
   clear HF hk7 hL7 HMV HRR HCX HA HU4 HK4 HN4 HK5 hz5
   generalize wr.heap.size = lb at *
   refine wp_region_held_drew (S := fun w' => Kept [mb] w6 w') (by kernel_rfl) ((Kept.refl [mb] w6).drew) (fun h0 => ?_)
   generalize World.drew w6 = v0 at h0 hup HQ ⊢
   refine wpAnyH_take (i := 0) (v := .pointer (some ⟨p, 0, none⟩)) rfl (by kernel_rfl) (by kernel_rfl) (by kernel_rfl) (fun _ _ _ h => h) (Or.inl ⟨by rfl, fun w hSw => by go_simp⟩) h0 ?_
   try simp only [z1, z2, z3, z4, z5, z6, z7, z8]
   refine wpAnyH_take (i := 1) (v := .pointer (some ⟨p, 0, none⟩)) rfl (by kernel_rfl) (by kernel_rfl) (by kernel_rfl) (fun _ _ _ h => h) (Or.inl ⟨by rfl, fun w hSw => by go_simp⟩) h0 ?_
   try simp only [z1, z2, z3, z4, z5, z6, z7, z8]
   refine wpAnyH_take (i := 2) (v := .pointer (some ⟨p, 2, none⟩)) rfl (by kernel_rfl) (by kernel_rfl) (by kernel_rfl) (fun _ _ _ h => h) (Or.inl ⟨by rfl, fun w hSw => by go_simp⟩) h0 ?_
   try simp only [z1, z2, z3, z4, z5, z6, z7, z8]
   refine wpAnyH_take (i := 3) (v := .pointer (some ⟨p, 4, none⟩)) rfl (by kernel_rfl) (by kernel_rfl) (by kernel_rfl) (fun _ _ _ h => h) (Or.inl ⟨by rfl, fun w hSw => by go_simp⟩) h0 ?_
   try simp only [z1, z2, z3, z4, z5, z6, z7, z8]
   have hne := hnp
   refine wpAnyH_take (i := 4) (v := .map (some mb)) rfl (by kernel_rfl) (by kernel_rfl) (by kernel_rfl) (fun _ _ _ h => h) (Or.inl ⟨by rfl, fun w hSw => by have c := Kept.cellOf hSw cp (by simpa using hne); go_simp⟩) h0 ?_
   try simp only [z1, z2, z3, z4, z5, z6, z7, z8]
   clear hne
   refine wpAnyH_take (i := 5) (v := .pointer (some ⟨lb, 0, none⟩)) rfl (by kernel_rfl) (by kernel_rfl) (by kernel_rfl) (fun _ _ _ h => h) (Or.inl ⟨by rfl, fun w hSw => by go_simp⟩) h0 ?_
   try simp only [z1, z2, z3, z4, z5, z6, z7, z8]
   have hne := hnl
   refine wpAnyH_take (i := 6) (v := encStr x) rfl (by kernel_rfl) (by kernel_rfl) (by kernel_rfl) (fun _ _ _ h => h) (Or.inl ⟨by rfl, fun w hSw => by have c := Kept.cellOf hSw cx (by simpa using hne); go_simp⟩) h0 ?_
   try simp only [z1, z2, z3, z4, z5, z6, z7, z8]
   clear hne
   refine wpAnyH_take (i := 7) (v := .pointer (some ⟨tb, 0, none⟩)) rfl (by kernel_rfl) (by kernel_rfl) (by kernel_rfl) (fun _ _ _ h => h) (Or.inl ⟨by rfl, fun w hSw => by go_simp⟩) h0 ?_
   try simp only [z1, z2, z3, z4, z5, z6, z7, z8]
   refine wpAnyH_ready (rs := [8]) (by kernel_rfl) (by simp) (AllReadyH.cons (i := 8) rfl (fun K hK => ?_) AllReadyH.nil)
   rw [if_pos (by rfl)]
   go_simp
   refine hK.out _ _ (h0.trans HQ.out.2 (by simp)) (fun h1 => ?_)
   clear hK K
   try simp only [z1, z2, z3, z4, z5, z6, z7, z8]
   refine wpAnyH_done (by kernel_rfl) ?_ _
   go_wp2
   go_roundw
   case rel => exact ⟨k + 1, by omega, by go_num, hide HQ.out.1⟩
   case measure => simp [intOf]; omega
  ·have hkn : k = n := by omega
   subst hkn
   obtain ⟨A, o, hR⟩ := HR.out
   have hRn := hR
   rw [← HX.out] at hRn
   have hds := dirSync_ok p 2 mb 62 (ldc r mb) A (ldn L L.length) wr hRn.cells (by simp [ldc]) rfl hRn.map
   have HF : Hid (∀ w3, DirSynced wr w3 p 2 mb 62 (ldc r mb) A (ldn L L.length) → ∃ o', PD w3 p (Ds.load r.toNat L) A o' ∧ (∀ b, o' b ≠ 0 → w.heap.size ≤ b) ∧ Kept [] w w3) := hide (fun w3 h => hRn.done HR0.out HN.out h)
   clear hR hRn HR
   go_wp2_with (go_at_call 16; refine hds.mono ?_; rintro e w3 ⟨rfl, hS3⟩; have H3 := hide (HF.out w3 hS3); clear hS3 hds)
   go_ret2
   obtain ⟨o', q1, q2, q3⟩ := H3.out
   exact ⟨p, A, o', rfl, q1, q2, q3⟩
end

section
open Go.RowKit Dsk
set_option linter.unusedVariables false
set_option linter.unusedSimpArgs false
theorem loadE_ok {r : Int} {L : List (By × By)} (h : loadE r L = 0) : (1 ≤ r ∧ r ≤ 1048576) ∧ L.length ≤ 256 ∧ (∀ f ∈ L, isNm f.1 = true) ∧ (L.map (·.1)).Nodup ∧ (totalOf L : Int) ≤ r := by
 unfold loadE at h
 by_cases h1 : 1 ≤ r ∧ r ≤ 1048576
 ·rw [if_neg (not_not_intro h1)] at h
  by_cases h2 : 256 < L.length
  ·rw [if_pos h2] at h; cases h
  ·rw [if_neg h2] at h
   by_cases h3 : ∀ f ∈ L, isNm f.1 = true
   ·rw [if_neg (not_not_intro h3)] at h
    by_cases h4 : (L.map (·.1)).Nodup
    ·rw [if_neg (not_not_intro h4)] at h
     by_cases h5 : r < (totalOf L : Int)
     ·rw [if_pos h5] at h; cases h
     ·exact ⟨h1, by omega, h3, h4, by omega⟩
    ·rw [if_pos h4] at h; cases h
   ·rw [if_pos h3] at h; cases h
 ·rw [if_pos h1] at h; cases h
set_option maxHeartbeats 800000 in
set_option maxRecDepth 100000 in
theorem load_bad (r : Int) (ao : Option Addr) (n c : Nat) (L : List (By × By)) (w : World) (hx : L.length = n) (hn : n ≤ 4611686018427387900) (hT : totalOf L ≤ 1000000) (hM : ∀ f ∈ L, f.1.length ≤ 4611686018427387900) (h1 : Fis w ao L) (he : loadE r L ≠ 0) :
  Calls Tryz.prog 6 #[.int .i64 r, .slice ao n c] w fun e w' => e = .returned (.tuple #[.pointer none, .int .i64 (loadE r L)]) ∧ Kept [] w w' := by
 have hr := refused_any r ao n c L w hx hn hT hM h1
 have hb : (loadE r L != 0) = true := by simpa using he
 clear h1 hM hT hx he
 generalize loadE r L = E at *
 go_enter Tryz.func6, Tryz.ntmps6
 go_wp2_with (go_at_call 13; refine hr.mono ?_; rintro e w1 ⟨rfl, hk⟩; have HK := hide hk; clear hr hk)
 go_ret2
 exact ⟨rfl, HK.out⟩
end

end Go.Proofs.YteckiednnaianaaGreat
