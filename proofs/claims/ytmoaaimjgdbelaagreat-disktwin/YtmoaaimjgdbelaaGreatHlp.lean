import Derived.Test.YtmoaaimjgdbelaaGreatHgp
import Derived.Test.YtmoaaimjgdbelaaGreatHpp
import Derived.Test.YtmoaaimjgdbelaaGreatIbp
namespace Go.Proofs.YtmoaaimjgdbelaaGreat
section
open Go.RowKit Dsk
set_option linter.unusedVariables false
set_option linter.unusedSimpArgs false

set_option maxHeartbeats 1600000 in
set_option maxRecDepth 100000 in
theorem safe_ok {w : World} {p : Nat} {S : Ds} {A : Nat → Nat} {o : Lab} {N : Nat} (h : PD w p S A o) (hB : S.Bd N) (hN : N ≤ 268435456) : Calls Tryz.prog 51 #[.pointer (some ⟨p, 0, none⟩)] w fun e w' => ∃ v vs, e = .returned v ∧ Fls w' w.heap.size v S.safeFiles vs ∧ Kept [] w w' := by
  obtain ⟨ms, mh, rv, sv, h⟩ := h
  have hup : S.safe.Up := h.wf.up
  have hlen : S.safe.length ≤ N := by have := hB.nm; omega
  have hrs := rising_ok ms A S.safe w h.safe hup (by omega)
  have cm := h.c2
  have HP : Hid (∀ v, Kept [] w v → PDx v p S A o ms mh rv sv) := fun v hv => h.keep (Keep.ofNone (F := fun _ => False) hv) (fun _ _ h => h)
  have HB := hide (And.intro h.wf hB)
  have hLl : S.safeFiles.length = S.safe.length := by simp [Ds.safeFiles]
  clear h hB
  go_enter Tryz.func51, Tryz.ntmps51
  go_wp2_with (go_at_call 86; refine hrs.mono ?_; rintro e w1 ⟨nv, rfl, hrow, hbl⟩; obtain ⟨no, nc, rfl, _⟩ := own_shape hrow; have HLP := hide (Lp.mk (Fls.start w1 w.heap.size) (Kept.of_below hbl) (show w1.ownsRow 0 9 1 _ (S.safe.keys).length (S.safe.keys.map encStr) by simpa [Nm.keys] using ownsRow_base_a hrow (Nat.zero_le _))); clear hrow hbl hrs)
  generalize hLe : S.safe.length = M at *
  have HL := hide hLe
  clear cm hLe
  go_loopw [15, 3, 5] (fun i f _ wr => ∃ k : Nat, k ≤ M ∧ i = .int .i64 k ∧ Hid (∃ vs, Lp w wr w.heap.size (.slice no M nc) S.safe.keys f (S.safeFiles.take k) vs) ∧ ∃ fo fc, f = .slice fo k fc) (fun i _ _ wr => M - (intOf i).toNat)
  case atStart => exact ⟨0, by omega, rfl, hide ⟨[], by simpa using HLP.out⟩, none, 0, rfl⟩
  case round =>
    clear HLP
    obtain ⟨k, hk, rfl, HR, fo, fc, rfl⟩ := hrel
    obtain ⟨vs, hR⟩ := HR.out
    clear HR
    by_cases hlt : k < M
    · have hlt2 : k < S.safe.length := by rw [HL.out]; exact hlt
      obtain ⟨⟨n, id⟩, hq⟩ : ∃ q, S.safe[k]? = some q := ⟨S.safe[k], List.getElem?_eq_getElem hlt2⟩
      have hmem : (n, id) ∈ S.safe := List.mem_of_getElem? hq
      have hPr := HP.out wr hR.keep
      have hget := (Nm.get_some hup).2 hmem
      have hnl : n.length ≤ 112 := isNm_len (HB.out.1.nm _ hmem)
      have hid : id < S.nx := HB.out.1.lt id (List.mem_append_left _ (Nm.mem_ids.2 ⟨n, hmem⟩))
      have hlk := hPr.safe.look n (by unfold maxLen; omega)
      rw [hget] at hlk
      have cm := hPr.c2
      obtain ⟨rv1, sv1, ht⟩ := hPr.th id hid
      obtain ⟨so, sc, rfl, hsc, _, hs0, _⟩ := ht.shown.shape
      have it := ht.th0.c0
      have hil := HB.out.2.th id hid
      have hls := HB.out.2.len HB.out.1 hid
      obtain ⟨g, hg⟩ : ∃ g, no = some ⟨g, 0, none⟩ := by
        rcases hR.names.2 with ⟨e, e2⟩ | ⟨g, cap, cur, e, _⟩
        · have h2 : S.safe.keys.length = S.safe.length := by simp [Nm.keys]
          omega
        · injection e with e _ _; exact ⟨g, e⟩
      subst hg
      have hcell : wr.cell? ⟨g, k, none⟩ = some (encStr n) := by
        have := hR.names.cells (g := g) rfl k (encStr n) (by simp [Nm.keys, hq])
        rwa [add0] at this
      have htk : S.safeFiles.take (k + 1) = S.safeFiles.take k ++ [(n, (S.th id).safe)] := by
        rw [List.take_add_one]
        congr 1
        simp [Ds.safeFiles, hq]
      have htl : (S.safeFiles.take k).length = k := by rw [List.length_take]; simp [Ds.safeFiles]; omega
      have HST : Hid (∀ w4 w5 u v', Kept [] wr w4 → OwnB w4 u (S.th id).safe.length (S.th id).safe → (∀ g, u.ownBlock = some g → wr.heap.size ≤ g) → w5.ownsRow 0 26 2 v' (k + 1) (fcells (S.safeFiles.take k) vs ++ [encStr n, u]) → (∀ F : Nat → Prop, (∀ j, (Value.slice fo k fc).ownBlock = some j → F j) → Keep F w4 w5) → (∀ g, v'.ownBlock = some g → (Value.slice fo k fc).ownBlock = some g ∨ w4.heap.size ≤ g) → ∃ vs', Lp w w5 w.heap.size (.slice (some ⟨g, 0, none⟩) M nc) S.safe.keys v' (S.safeFiles.take (k + 1)) vs') := fun w4 w5 u v' h1 h2 h3 h4 h5 h6 => by
        rw [htk]
        exact ⟨_, hR.step rfl h1 (f := (n, (S.th id).safe)) h2 h3 (by rw [htl]; exact h4) h5 h6⟩
      have HAP : Hid (∀ w4, Kept [] wr w4 → ∀ u : Value, u.oneCell' = true → ∃ g c w', (Builtin.append_ #[22, 22] 22 #[.slice fo k fc, .slice (some ⟨w4.heap.size, 0, none⟩) 1 1]).run Tryz.prog (w4.alloc (.cells #[encStr n, u] 26)) = .ok (.slice (some ⟨g, 0, none⟩) (k + 1) c) w' ∧ w'.ownsRow 0 26 2 (.slice (some ⟨g, 0, none⟩) (k + 1) c) (k + 1) (fcells (S.safeFiles.take k) vs ++ [encStr n, u]) ∧ (∀ F : Nat → Prop, (∀ j, (Value.slice fo k fc).ownBlock = some j → F j) → Keep F w4 w') ∧ (∀ g', (Value.slice (some ⟨g, 0, none⟩) (k + 1) c).ownBlock = some g' → (Value.slice fo k fc).ownBlock = some g' ∨ w4.heap.size ≤ g')) := fun w4 h4 u hu => by
        have hr4 := own_keeps (ownsRow_base_a hR.fls.row (Nat.zero_le _)) (Keep.ofNone (F := fun _ => False) h4) (fun _ _ h => h)
        rw [htl] at hr4
        obtain ⟨g, c, w', e1, e2, e3, e4, _⟩ := run_app (P := Tryz.prog) w4 22 22 26 Tryz.underlying22 Tryz.infoFile rfl (by decide) _ k _ hr4 [encStr n, u] rfl (fun z hz => by simp only [List.mem_cons, List.not_mem_nil, or_false] at hz; rcases hz with rfl | rfl; rfl; exact hu) (by unfold maxLen; omega) (by omega)
        refine ⟨g, c, w', e1, e2, e3, fun g' hg' => ?_⟩
        simp only [Value.ownBlock, Option.some.injEq] at hg'
        subst hg'
        rcases e4 with e | e
        · exact .inl e.symm
        · exact .inr e
      obtain ⟨u, w4, hcv, hu4, hk4, hb4, uc, rfl⟩ := run_of_str wr (S.th id).safe (by omega)
      obtain ⟨ga, gc, w5, hap, ho5, hK5, hl5⟩ := HAP.out w4 hk4 (.slice (some ⟨wr.heap.size, 0, none⟩) (S.th id).safe.length uc) rfl
      have H5 := hide (HST.out w4 w5 _ _ hk4 hu4 (fun g hg => by rw [hb4] at hg; injection hg with hg; omega) ho5 hK5 hl5)
      clear hu4 hb4 ho5 hK5 hl5 HST HAP
      clear hR hPr hget ht hq htk hmem htl hs0
      go_wp2_with (first
        | fail
        | (at_builtin; refine wpList_app_run rfl _ _ 22 22 rfl _ _ rfl rfl _ _ hap ?_))
      go_roundw
      case rel => exact ⟨k + 1, by omega, by go_num, H5, _, _, rfl⟩
      case measure => simp [intOf]; omega
    · have hkM : k = M := by omega
      subst hkM
      have HE : Hid (S.safeFiles.take k = S.safeFiles) := hide (List.take_of_length_le (by omega))
      have HRR := hide hR
      clear hR
      go_wp2
      go_ret
      rw [HE.out] at HRR
      exact ⟨_, vs, rfl, HRR.out.fls, HRR.out.keep⟩
end

section
open Go.RowKit Dsk
set_option linter.unusedVariables false
set_option linter.unusedSimpArgs false

/-- At p lies the disk S; none of the blocks X is its, and they are as they were in wa. N: how much there is of it. -/
def Ax (X : Nat → Prop) (wa w : World) (p : Nat) (S : Ds) (N : Nat) : Prop := ∃ A o, PD w p S A o ∧ (∀ b, X b → o b = 0 ∧ b < wa.heap.size) ∧ Keep (fun b => ¬ X b) wa w ∧ S.Bd N

section

variable {X : Nat → Prop} {wa w w' : World} {p : Nat} {S : Ds} {N : Nat}

theorem Ax.wf (h : Ax X wa w p S N) : S.Wf := by
  obtain ⟨A, o, ⟨_, _, _, _, h⟩, _⟩ := h
  exact h.wf

theorem Ax.bd (h : Ax X wa w p S N) : S.Bd N := h.choose_spec.choose_spec.2.2.2

theorem Ax.old (h : Ax X wa w p S N) : Keep (fun b => ¬ X b) wa w := h.choose_spec.choose_spec.2.2.1

theorem Ax.kept (h : Ax X wa w p S N) (hk : Kept [] w w') : Ax X wa w' p S N := by
  obtain ⟨A, o, hP, ho, hw, hb⟩ := h
  exact ⟨A, o, hP.keep (Keep.ofNone (F := fun _ => False) hk) (fun _ _ h => h), ho, hw.kept hk, hb⟩

theorem Ax.mono {M : Nat} (h : Ax X wa w p S N) (hm : N ≤ M) : Ax X wa w p S M := by
  obtain ⟨A, o, hP, ho, hw, hb⟩ := h
  exact ⟨A, o, hP, ho, hw, hb.mono hm⟩

theorem Ax.here (h : Ax X wa w p S N) : Ax X w w p S N := by
  obtain ⟨A, o, hP, ho, hw, hb⟩ := h
  exact ⟨A, o, hP, fun b hx => ⟨(ho b hx).1, Nat.lt_of_lt_of_le (ho b hx).2 hw.size⟩, Keep.refl _ _, hb⟩

/-- What has come behind the disk, it not being touched, stays as well. -/
def More (X : Nat → Prop) (w w' : World) : Nat → Prop := fun b => X b ∨ (w.heap.size ≤ b ∧ b < w'.heap.size)

theorem Ax.more (h : Ax X wa w p S N) (hk : Kept [] w w') : Ax (More X w w') w' w' p S N := by
  obtain ⟨A, o, hP, ho, hw, hb⟩ := h
  refine ⟨A, o, hP.keep (Keep.ofNone (F := fun _ => False) hk) (fun _ _ h => h), fun b hx => ?_, Keep.refl _ _, hb⟩
  have hs := hk.size
  have hs2 := hw.size
  rcases hx with hx | hx
  · exact ⟨(ho b hx).1, by have := (ho b hx).2; omega⟩
  · refine ⟨Classical.byContradiction fun hn => ?_, hx.2⟩
    obtain ⟨_, _, _, _, hz⟩ := hP
    have := hz.lim b hn
    omega

theorem At.ax {w0 : World} (h : At w0 w p S N) : Ax (fun b => b < w0.heap.size) w0 w p S N := by
  obtain ⟨A, o, hP, ho, hw, hb⟩ := h
  refine ⟨A, o, hP, fun b hx => ⟨Classical.byContradiction fun hn => ?_, hx⟩, Keep.ofNone hw, hb⟩
  have := ho b hn
  omega

theorem aft_ax {S' : Ds} {M : Nat} {o : Lab} (ho : ∀ b, X b → o b = 0 ∧ b < wa.heap.size) (hw : Keep (fun b => ¬ X b) wa w) (ha : Aft w w' p S' o) (hb : S'.Bd M) : Ax X wa w' p S' M := by
  obtain ⟨A', o', hP, he, hK⟩ := ha
  refine ⟨A', o', hP, fun b hx => ⟨Classical.byContradiction fun hn => ?_, (ho b hx).2⟩, hw.trans hK ?_, hb⟩
  · exact he b (Nat.lt_of_lt_of_le (ho b hx).2 hw.size) hn (ho b hx).1
  · intro b hm _ hx
    exact hm (ho b hx).1

end

section

variable {X : Nat → Prop} {wa w : World} {p : Nat} {S : Ds} {N : Nat}

theorem create_ax (h : Ax X wa w p S N) (hN : N ≤ 268435456) (n : By) (hn : n.length ≤ 4611686018427387904) : Calls Tryz.prog 17 #[.pointer (some ⟨p, 0, none⟩), encStr n] w fun e w' => e = .returned (.int .i64 (S.create n).1) ∧ Ax X wa w' p (S.create n).2 (N + 1) := by
  obtain ⟨A, o, hP, ho, hw, hb⟩ := h
  refine (create_ok hP hb hN n hn).mono ?_
  rintro e w' ⟨rfl, ha⟩
  exact ⟨rfl, aft_ax ho hw ha (hb.create n)⟩

/-- Bytes in a block that came behind the disk, or that was there ahead of it. -/
theorem given_ax {A : Nat → Nat} {o : Lab} {w1 : World} (hP : PD w p S A o) (ho : ∀ b, X b → o b = 0 ∧ b < wa.heap.size) (hk : Kept [] w w1) {ao : Option Addr} {n : Nat} {d : By} (hl : d.length = n) (hs : Sl w1 ao d) (h0 : ao = none → n = 0) (hnew : d ≠ [] → ∀ a, ao = some a → w.heap.size ≤ a.block ∨ X a.block) : Given w1 o ao n d := by
  obtain ⟨_, _, _, _, hx⟩ := hP
  refine ⟨hl, hs, h0, fun hd a ha => ?_⟩
  apply Classical.byContradiction
  intro hne
  rcases hnew hd a ha with h1 | h1
  · have := hx.lim a.block hne; omega
  · exact hne (ho a.block h1).1

theorem append_ax (h : Ax X wa w p S N) {w1 : World} (hk : Kept [] w w1) {ao : Option Addr} {n c : Nat} {d : By} (hN : N + n ≤ 268435456) (nm : By) (hnl : nm.length ≤ 4611686018427387904) (hl : d.length = n) (hs : Sl w1 ao d) (h0 : ao = none → n = 0) (hnew : d ≠ [] → ∀ a, ao = some a → w.heap.size ≤ a.block ∨ X a.block) :
    Calls Tryz.prog 19 #[.pointer (some ⟨p, 0, none⟩), encStr nm, .slice ao n c] w1 fun e w' => e = .returned (.int .i64 (S.append nm d).1) ∧ Ax X wa w' p (S.append nm d).2 (N + n + 2) := by
  obtain ⟨A, o, hP, ho, hw, hb⟩ := h
  have hP1 : PD w1 p S A o := hP.keep (Keep.ofNone (F := fun _ => False) hk) (fun _ _ h => h)
  refine (append_ok hP1 hb hN nm hnl (given_ax hP ho hk hl hs h0 hnew)).mono ?_
  rintro e w' ⟨rfl, ha⟩
  exact ⟨rfl, aft_ax ho (hw.kept hk) ha (by have := hb.append nm d; rw [hl] at this; exact this)⟩

theorem writeAt_ax (h : Ax X wa w p S N) {w1 : World} (hk : Kept [] w w1) {ao : Option Addr} {n c : Nat} {d : By} (hN : N + n ≤ 268435456) (nm : By) (hnl : nm.length ≤ 4611686018427387904) (a : Int) (hl : d.length = n) (hs : Sl w1 ao d) (h0 : ao = none → n = 0) (hnew : d ≠ [] → ∀ a, ao = some a → w.heap.size ≤ a.block ∨ X a.block) :
    Calls Tryz.prog 59 #[.pointer (some ⟨p, 0, none⟩), encStr nm, .int .i64 a, .slice ao n c] w1 fun e w' => e = .returned (.int .i64 (S.writeAt nm a d).1) ∧ Ax X wa w' p (S.writeAt nm a d).2 (N + n + 2) := by
  obtain ⟨A, o, hP, ho, hw, hb⟩ := h
  have hP1 : PD w1 p S A o := hP.keep (Keep.ofNone (F := fun _ => False) hk) (fun _ _ h => h)
  refine (writeAt_ok hP1 hb hN nm hnl a (given_ax hP ho hk hl hs h0 hnew)).mono ?_
  rintro e w' ⟨rfl, ha⟩
  exact ⟨rfl, aft_ax ho (hw.kept hk) ha (by have := hb.writeAt nm a d; rw [hl] at this; exact this)⟩

theorem truncate_ax (h : Ax X wa w p S N) (hN : N ≤ 268435456) (nm : By) (hnl : nm.length ≤ 4611686018427387904) (a : Int) : Calls Tryz.prog 64 #[.pointer (some ⟨p, 0, none⟩), encStr nm, .int .i64 a] w fun e w' => e = .returned (.int .i64 (S.truncate nm a).1) ∧ Ax X wa w' p (S.truncate nm a).2 (N + 3) := by
  obtain ⟨A, o, hP, ho, hw, hb⟩ := h
  refine (truncate_ok hP hb hN nm hnl a).mono ?_
  rintro e w' ⟨rfl, ha⟩
  exact ⟨rfl, aft_ax ho hw ha (hb.truncate nm a)⟩

theorem rename_ax (h : Ax X wa w p S N) (hN : N ≤ 268435456) (f t : By) (hfl : f.length ≤ 4611686018427387904) (htl : t.length ≤ 4611686018427387904) : Calls Tryz.prog 37 #[.pointer (some ⟨p, 0, none⟩), encStr f, encStr t] w fun e w' => e = .returned (.int .i64 (S.rename f t).1) ∧ Ax X wa w' p (S.rename f t).2 (N + 2) := by
  obtain ⟨A, o, hP, ho, hw, hb⟩ := h
  refine (rename_ok hP hb hN f t hfl htl).mono ?_
  rintro e w' ⟨rfl, ha⟩
  exact ⟨rfl, aft_ax ho hw ha (hb.rename f t)⟩

theorem remove_ax (h : Ax X wa w p S N) (hN : N ≤ 268435456) (nm : By) (hnl : nm.length ≤ 4611686018427387904) : Calls Tryz.prog 43 #[.pointer (some ⟨p, 0, none⟩), encStr nm] w fun e w' => e = .returned (.int .i64 (S.remove nm).1) ∧ Ax X wa w' p (S.remove nm).2 (N + 2) := by
  obtain ⟨A, o, hP, ho, hw, hb⟩ := h
  refine (remove_ok hP hb hN nm hnl).mono ?_
  rintro e w' ⟨rfl, ha⟩
  exact ⟨rfl, aft_ax ho hw ha (hb.remove nm)⟩

theorem sync_ax (h : Ax X wa w p S N) (hN : N ≤ 268435456) (nm : By) (hnl : nm.length ≤ 4611686018427387904) : Calls Tryz.prog 35 #[.pointer (some ⟨p, 0, none⟩), encStr nm] w fun e w' => e = .returned (.int .i64 (S.sync nm).1) ∧ Ax X wa w' p (S.sync nm).2 (N + 1) := by
  have hwf := h.wf
  obtain ⟨A, o, hP, ho, hw, hb⟩ := h
  refine (sync_ok hP hb hN nm hnl).mono ?_
  rintro e w' ⟨rfl, ha⟩
  exact ⟨rfl, aft_ax ho hw ha (hb.sync hwf nm)⟩

theorem syncNames_ax (h : Ax X wa w p S N) (hN : N ≤ 268435456) : Calls Tryz.prog 36 #[.pointer (some ⟨p, 0, none⟩)] w fun e w' => e = .returned (.int .i64 (S.syncNames).1) ∧ Ax X wa w' p (S.syncNames).2 (N + 1) := by
  have hwf := h.wf
  obtain ⟨A, o, hP, ho, hw, hb⟩ := h
  refine (syncNames_ok hP hb hN).mono ?_
  rintro e w' ⟨rfl, ha⟩
  exact ⟨rfl, aft_ax ho hw ha (hb.syncNames hwf)⟩

theorem read_ax (h : Ax X wa w p S N) (hN : N ≤ 268435456) (nm : By) (hnl : nm.length ≤ 4611686018427387904) (a m : Int) : Calls Tryz.prog 38 #[.pointer (some ⟨p, 0, none⟩), encStr nm, .int .i64 a, .int .i64 m] w fun e w' => ∃ v, e = .returned (.tuple #[v, .int .i64 (S.readOk nm a m)]) ∧ Ax X wa w' p (S.read nm a m) (N + 1) ∧ OwnB w' v (S.readBytes nm a m).length (S.readBytes nm a m) := by
  obtain ⟨A, o, hP, ho, hw, hb⟩ := h
  refine (read_ok hP hb hN nm hnl a m).mono ?_
  rintro e w' ⟨v, rfl, A', o', h1, h2, h3, h4, h5⟩
  exact ⟨v, rfl, aft_ax ho hw ⟨A', o', h1, h2, h3⟩ (hb.read nm a m), h4⟩

theorem size_ax (h : Ax X wa w p S N) (nm : By) (hnl : nm.length ≤ 4611686018427387904) : Calls Tryz.prog 97 #[.pointer (some ⟨p, 0, none⟩), encStr nm] w fun e w' => e = .returned (.tuple #[.int .i64 (S.size nm), .int .i64 (S.find nm).1]) ∧ w' = w := by
  obtain ⟨A, o, hP, _⟩ := h
  exact size_ok hP nm hnl

theorem plan_ax (h : Ax X wa w p S N) (a b c : Int) (hp : (Lit.int .i64 a).wf = true ∧ (Lit.int .i64 b).wf = true ∧ (Lit.int .i64 c).wf = true) : Calls Tryz.prog 18 #[.pointer (some ⟨p, 0, none⟩), .agg #[.int .i64 a, .int .i64 b, .int .i64 c]] w fun e w' => e = .returned (.tuple #[]) ∧ Ax X wa w' p (S.setPlan a b c) N := by
  obtain ⟨A, o, hP, ho, hw, hb⟩ := h
  refine (plan_ok hP a b c hp).mono ?_
  rintro e w' ⟨rfl, ha⟩
  exact ⟨rfl, aft_ax ho hw ha (hb.setPlan a b c)⟩

theorem look_ax (h : Ax X wa w p S N) : Calls Tryz.prog 103 #[.pointer (some ⟨p, 0, none⟩)] w fun e w' => e = .returned (.tuple #[]) ∧ Ax X wa w' p S.look N := by
  obtain ⟨A, o, hP, ho, hw, hb⟩ := h
  refine (look_ok hP).mono ?_
  rintro e w' ⟨rfl, ha⟩
  exact ⟨rfl, aft_ax ho hw ha hb.look⟩

theorem crash_ax (h : Ax X wa w p S N) {w1 : World} (hk : Kept [] w w1) (hN : N ≤ 268435456) {ao : Option Addr} {n c : Nat} {ps : List Int} (hl : ps.length = n) (hr : Ints w1 ao ps) (hwf : ∀ i, (Lit.int .i64 (ps.getD i 0)).wf = true) (hn : n ≤ 17592186044416) (hnew : ps ≠ [] → ∀ a, ao = some a → w.heap.size ≤ a.block ∨ X a.block) :
    Calls Tryz.prog 41 #[.pointer (some ⟨p, 0, none⟩), .slice ao n c] w1 fun e w' => e = .returned (.tuple #[]) ∧ Ax X wa w' p (S.crash ps) N := by
  have hwfS := h.wf
  obtain ⟨A, o, hP, ho, hw, hb⟩ := h
  have hP1 : PD w1 p S A o := hP.keep (Keep.ofNone (F := fun _ => False) hk) (fun _ _ h => h)
  refine (crash_ok hP1 hb hN (ps := ps) ⟨hl, hr, hwf, fun hd a ha => ?_⟩ hn).mono ?_
  · obtain ⟨_, _, _, _, hx⟩ := hP
    apply Classical.byContradiction
    intro hne
    rcases hnew hd a ha with h1 | h1
    · have := hx.lim a.block hne; omega
    · exact hne (ho a.block h1).1
  rintro e w' ⟨rfl, ha⟩
  exact ⟨rfl, aft_ax ho (hw.kept hk) ha (hb.crash hwfS ps)⟩

theorem strokes_ax (h : Ax X wa w p S N) : Calls Tryz.prog 39 #[.pointer (some ⟨p, 0, none⟩)] w fun e w' => e = .returned (.int .i64 S.strokes) ∧ w' = w := by
  obtain ⟨A, o, hP, _⟩ := h
  exact strokes_ok hP

theorem off_ax (h : Ax X wa w p S N) : Calls Tryz.prog 22 #[.pointer (some ⟨p, 0, none⟩)] w fun e w' => e = .returned (.bool (!S.on)) ∧ w' = w := by
  obtain ⟨A, o, hP, _⟩ := h
  exact offD_ok hP

theorem used_ax (h : Ax X wa w p S N) (hN : N ≤ 268435456) : Calls Tryz.prog 44 #[.pointer (some ⟨p, 0, none⟩)] w fun e w' => e = .returned (.int .i64 S.used) ∧ Kept [] w w' := by
  obtain ⟨A, o, hP, ho, hw, hb⟩ := h
  exact usedD_ok hP hb (by omega)

theorem files_ax (h : Ax X wa w p S N) (hN : N ≤ 268435456) : Calls Tryz.prog 42 #[.pointer (some ⟨p, 0, none⟩)] w fun e w' => ∃ v vs, e = .returned v ∧ Fls w' w.heap.size v S.files vs ∧ Kept [] w w' := by
  obtain ⟨A, o, hP, ho, hw, hb⟩ := h
  exact files_ok hP hb hN

theorem reads_ax (h : Ax X wa w p S N) (hN : N ≤ 268435456) : Calls Tryz.prog 40 #[.pointer (some ⟨p, 0, none⟩)] w fun e w' => ∃ v, e = .returned v ∧ w'.ownsRow w.heap.size 127 3 v S.reads.length (S.reads.flatMap encSp) ∧ Kept [] w w' := by
  obtain ⟨A, o, hP, ho, hw, hb⟩ := h
  exact reads_ok hP hb hN

theorem safe_ax (h : Ax X wa w p S N) (hN : N ≤ 268435456) : Calls Tryz.prog 51 #[.pointer (some ⟨p, 0, none⟩)] w fun e w' => ∃ v vs, e = .returned v ∧ Fls w' w.heap.size v S.safeFiles vs ∧ Kept [] w w' := by
  obtain ⟨A, o, hP, ho, hw, hb⟩ := h
  exact safe_ok hP hb hN

end
end

section
open Go.RowKit Dsk
set_option linter.unusedVariables false
set_option linter.unusedSimpArgs false

/-- Of whatever leaves the blocks X alone, P holds behind it. -/
def Stay (X : Nat → Prop) (w : World) (P : World → Prop) : Prop := ∀ v, Keep (fun b => ¬ X b) w v → P v
section
variable {X Y : Nat → Prop} {w w' : World} {P Q : World → Prop}
theorem Stay.now (h : Stay X w P) : P w := h w (Keep.refl _ _)
theorem Stay.keep (h : Stay X w P) (hk : Keep (fun b => ¬ X b) w w') : Stay X w' P := fun v hv => h v (hk.trans hv (fun _ h _ => h))
theorem Stay.kept (h : Stay X w P) (hk : Kept [] w w') : Stay X w' P := h.keep (Keep.ofNone hk)
theorem Stay.wide (h : Stay X w P) (hx : ∀ b, X b → Y b) : Stay Y w P := fun v hv => h v (hv.mono (fun i hi _ hx2 => hi (hx i hx2)))
theorem Stay.imp (h : Stay X w P) (hi : ∀ v, P v → Q v) : Stay X w Q := fun v hv => hi v (h v hv)
theorem Stay.more (h : Stay X w P) (hk : Kept [] w w') : Stay (More X w w') w' P := (h.kept hk).wide (fun _ h => .inl h)
theorem Stay.fls {lv : Value} {L : List (By × By)} {vs : List Value} (h : Fls w' w.heap.size lv L vs) : Stay (More X w w') w' (fun v => Fls v w.heap.size lv L vs) := fun v hv =>
  h.keep hv (fun g hg hn => hn (.inr (h.row.lt g hg))) (fun u hu g hg hn => hn (.inr ⟨h.new u hu g hg, h.val_lt hu hg⟩))
theorem Stay.own {e : TypeId} {s : Nat} {v : Value} {n : Nat} {xs : List Value} (h : w'.ownsRow w.heap.size e s v n xs) : Stay (More X w w') w' (fun u => u.ownsRow w.heap.size e s v n xs) := fun u hu =>
  own_keeps h hu (fun g hg hn => hn (.inr (h.lt g hg)))
end

/-- Two disks, and blocks that are neither's. -/
def Tw (X : Nat → Prop) (w : World) (p : Nat) (S : Ds) (N : Nat) (q : Nat) (T : Ds) (M : Nat) : Prop :=
  ∃ A o A' o', PD w p S A o ∧ PD w q T A' o' ∧ (∀ b, o b ≠ 0 → o' b = 0) ∧ (∀ b, X b → o b = 0 ∧ o' b = 0 ∧ b < w.heap.size) ∧ S.Bd N ∧ T.Bd M
section
variable {X : Nat → Prop} {w : World} {p : Nat} {S : Ds} {N : Nat} {q : Nat} {T : Ds} {M : Nat}
theorem Tw.one (h : Tw X w p S N q T M) : ∃ Y, Ax Y w w p S N ∧ ∀ w' S' N', Ax Y w w' p S' N' → Tw X w' p S' N' q T M ∧ Keep (fun b => ¬ X b) w w' := by
  obtain ⟨A, o, A', o', h1, h2, h3, h4, h5, h6⟩ := h
  refine ⟨fun b => X b ∨ o' b ≠ 0, ⟨A, o, h1, fun b hb => ?_, Keep.refl _ _, h5⟩, fun w' S' N' hY => ?_⟩
  · rcases hb with hb | hb
    · exact ⟨(h4 b hb).1, (h4 b hb).2.2⟩
    · exact ⟨Classical.byContradiction fun hn => hb (h3 b hn), h2.lim hb⟩
  · obtain ⟨A2, o2, g1, g2, g3, g4⟩ := hY
    refine ⟨⟨A2, o2, A', o', g1, h2.keep g3 (fun b hb hn => hn (.inr hb)), fun b hb => Classical.byContradiction fun hn => hb (g2 b (.inr hn)).1, fun b hb => ⟨(g2 b (.inl hb)).1, (h4 b hb).2.1, Nat.lt_of_lt_of_le (h4 b hb).2.2 g3.size⟩, g4, h6⟩, g3.mono (fun b hb _ hx => hb (.inl hx))⟩
theorem Tw.swap (h : Tw X w p S N q T M) : Tw X w q T M p S N := by
  obtain ⟨A, o, A', o', h1, h2, h3, h4, h5, h6⟩ := h
  exact ⟨A', o', A, o, h2, h1, fun b hb => Classical.byContradiction fun hn => hb (h3 b hn), fun b hb => ⟨(h4 b hb).2.1, (h4 b hb).1, (h4 b hb).2.2⟩, h6, h5⟩
theorem Tw.two (h : Tw X w p S N q T M) : ∃ Y, Ax Y w w q T M ∧ ∀ w' T' M', Ax Y w w' q T' M' → Tw X w' p S N q T' M' ∧ Keep (fun b => ¬ X b) w w' := by
  obtain ⟨Y, h1, h2⟩ := h.swap.one
  exact ⟨Y, h1, fun w' T' M' hY => ⟨(h2 w' T' M' hY).1.swap, (h2 w' T' M' hY).2⟩⟩
theorem Tw.kept {w' : World} (h : Tw X w p S N q T M) (hk : Kept [] w w') : Tw X w' p S N q T M := by
  obtain ⟨Y, h1, h2⟩ := h.one
  exact (h2 w' S N (h1.kept hk)).1
theorem Tw.wf1 (h : Tw X w p S N q T M) : S.Wf := by obtain ⟨Y, h1, _⟩ := h.one; exact h1.wf
theorem Tw.wf2 (h : Tw X w p S N q T M) : T.Wf := h.swap.wf1
theorem Tw.bd1 (h : Tw X w p S N q T M) : S.Bd N := by obtain ⟨Y, h1, _⟩ := h.one; exact h1.bd
theorem Tw.bd2 (h : Tw X w p S N q T M) : T.Bd M := h.swap.bd1
theorem Tw.mono {N' M' : Nat} (h : Tw X w p S N q T M) (hn : N ≤ N') (hm : M ≤ M') : Tw X w p S N' q T M' := by
  obtain ⟨A, o, A', o', h1, h2, h3, h4, h5, h6⟩ := h
  exact ⟨A, o, A', o', h1, h2, h3, h4, h5.mono hn, h6.mono hm⟩
theorem Tw.free (h : Tw X w p S N q T M) {w' : World} {Y F : Nat → Prop} (hk : Keep F w w') (hF : ∀ b, b < w.heap.size → F b → X b) (hY : ∀ b, Y b → (X b ∨ w.heap.size ≤ b) ∧ b < w'.heap.size) : Tw Y w' p S N q T M := by
  obtain ⟨A, o, A', o', h1, h2, h3, h4, h5, h6⟩ := h
  have n1 : ∀ b, w.heap.size ≤ b → o b = 0 := fun b hb => Classical.byContradiction fun hn => by have := h1.lim hn; omega
  have n2 : ∀ b, w.heap.size ≤ b → o' b = 0 := fun b hb => Classical.byContradiction fun hn => by have := h2.lim hn; omega
  refine ⟨A, o, A', o', h1.keep hk (fun b hb hf => hb (h4 b (hF b (h1.lim hb) hf)).1), h2.keep hk (fun b hb hf => hb (h4 b (hF b (h2.lim hb) hf)).2.1), h3, fun b hb => ?_, h5, h6⟩
  obtain ⟨h7, h8⟩ := hY b hb
  rcases h7 with h7 | h7
  · exact ⟨(h4 b h7).1, (h4 b h7).2.1, h8⟩
  · exact ⟨n1 b h7, n2 b h7, h8⟩
/-- A second disk that is new since the first stood. -/
theorem Tw.begin {wa w' : World} (h : Ax X wa w p S N) (hn : At w w' q T M) : Tw X w' p S N q T M := by
  obtain ⟨A, o, h1, h2, h3, h4⟩ := h
  obtain ⟨A', o', g1, g2, g3, g4⟩ := hn
  refine ⟨A, o, A', o', h1.keep (Keep.ofNone (F := fun _ => False) g3) (fun _ _ h => h), g1, fun b hb => Classical.byContradiction fun hn => ?_, fun b hb => ⟨(h2 b hb).1, Classical.byContradiction fun hn => ?_, ?_⟩, h4, g4⟩
  · have := h1.lim hb
    have := g2 b hn
    omega
  · have := (h2 b hb).2
    have := h3.size
    have := g2 b hn
    omega
  · have := (h2 b hb).2
    have := h3.size
    have := g3.size
    omega
end
end

end Go.Proofs.YtmoaaimjgdbelaaGreat
