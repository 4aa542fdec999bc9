/-
  Contract: Safe. (Written by tools/hk.py.)
-/
import Derived.Test.YtemlbmamcbmnjaaGreatDoorHkp
namespace Go.Proofs.YtemlbmamcbmnjaaGreatDoor
open Go.RowKit Dsk
set_option linter.unusedVariables false
set_option linter.unusedSimpArgs false

set_option maxHeartbeats 1600000 in
set_option maxRecDepth 100000 in
theorem safe_ok {w : World} {p : Nat} {S : Ds} {A : Nat → Nat} {o : Lab} {N : Nat} (h : PD w p S A o) (hB : S.Bd N) (hN : N ≤ 268435456) : Calls Tryz.prog 57 #[.pointer (some ⟨p, 0, none⟩)] w fun e w' => ∃ v vs, e = .returned v ∧ Fls w' w.heap.size v S.safeFiles vs ∧ Kept [] w w' := by
  obtain ⟨ms, mh, rv, sv, h⟩ := h
  have hup : S.safe.Up := h.wf.up
  have hlen : S.safe.length ≤ N := by have := hB.nm; omega
  have hrs := rising_ok ms A S.safe w h.safe hup (by omega)
  have cm := h.c2
  have HP : Hid (∀ v, Kept [] w v → PDx v p S A o ms mh rv sv) := fun v hv => h.keep (Keep.ofNone (F := fun _ => False) hv) (fun _ _ h => h)
  have HB := hide (And.intro h.wf hB)
  have hLl : S.safeFiles.length = S.safe.length := by simp [Ds.safeFiles]
  clear h hB
  go_enter Tryz.func57, Tryz.ntmps57
  go_wp2_with (go_at_call 65; refine hrs.mono ?_; rintro e w1 ⟨nv, rfl, hrow, hbl⟩; obtain ⟨no, nc, rfl, _⟩ := own_shape hrow; have HLP := hide (Lp.mk (Fls.start w1 w.heap.size) (Kept.of_below hbl) (show w1.ownsRow 0 9 1 _ (S.safe.keys).length (S.safe.keys.map encStr) by simpa [Nm.keys] using ownsRow_base_a hrow (Nat.zero_le _))); clear hrow hbl hrs)
  generalize hLe : S.safe.length = M at *
  have HL := hide hLe
  clear cm hLe
  go_loopw [15, 3, 5] (fun i f _ wr => ∃ k : Nat, k ≤ M ∧ i = .int .i64 k ∧ Hid (∃ vs, Lp w wr w.heap.size (.slice no M nc) S.safe.keys f (S.safeFiles.take k) vs) ∧ ∃ fo fc, f = .slice fo k fc) (fun i _ _ wr => M - (intOf i).toNat)
  case atStart => exact ⟨0, by omega, rfl, hide ⟨[], by simpa using HLP.out⟩, none, 0, rfl⟩
  case round =>
    clear HLP
    obtain ⟨k, hk, rfl, HR, fo, fc, rfl⟩ := hrel
    obtain ⟨vs, hR⟩ := HR.out
    clear HR
    by_cases hlt : k < M
    · have hlt2 : k < S.safe.length := by rw [HL.out]; exact hlt
      obtain ⟨⟨n, id⟩, hq⟩ : ∃ q, S.safe[k]? = some q := ⟨S.safe[k], List.getElem?_eq_getElem hlt2⟩
      have hmem : (n, id) ∈ S.safe := List.mem_of_getElem? hq
      have hPr := HP.out wr hR.keep
      have hget := (Nm.get_some hup).2 hmem
      have hnl : n.length ≤ 112 := isNm_len (HB.out.1.nm _ hmem)
      have hid : id < S.nx := HB.out.1.lt id (List.mem_append_left _ (Nm.mem_ids.2 ⟨n, hmem⟩))
      have hlk := hPr.safe.look n (by unfold maxLen; omega)
      rw [hget] at hlk
      have cm := hPr.c2
      obtain ⟨rv1, sv1, ht⟩ := hPr.th id hid
      obtain ⟨so, sc, rfl, hsc, _, hs0, _⟩ := ht.shown.shape
      have it := ht.th0.c0
      have hil := HB.out.2.th id hid
      have hls := HB.out.2.len HB.out.1 hid
      obtain ⟨g, hg⟩ : ∃ g, no = some ⟨g, 0, none⟩ := by
        rcases hR.names.2 with ⟨e, e2⟩ | ⟨g, cap, cur, e, _⟩
        · have h2 : S.safe.keys.length = S.safe.length := by simp [Nm.keys]
          omega
        · injection e with e _ _; exact ⟨g, e⟩
      subst hg
      have hcell : wr.cell? ⟨g, k, none⟩ = some (encStr n) := by
        have := hR.names.cells (g := g) rfl k (encStr n) (by simp [Nm.keys, hq])
        rwa [add0] at this
      have htk : S.safeFiles.take (k + 1) = S.safeFiles.take k ++ [(n, (S.th id).safe)] := by
        rw [List.take_add_one]
        congr 1
        simp [Ds.safeFiles, hq]
      have htl : (S.safeFiles.take k).length = k := by rw [List.length_take]; simp [Ds.safeFiles]; omega
      have HST : Hid (∀ w4 w5 u v', Kept [] wr w4 → OwnB w4 u (S.th id).safe.length (S.th id).safe → (∀ g, u.ownBlock = some g → wr.heap.size ≤ g) → w5.ownsRow 0 88 2 v' (k + 1) (fcells (S.safeFiles.take k) vs ++ [encStr n, u]) → (∀ F : Nat → Prop, (∀ j, (Value.slice fo k fc).ownBlock = some j → F j) → Keep F w4 w5) → (∀ g, v'.ownBlock = some g → (Value.slice fo k fc).ownBlock = some g ∨ w4.heap.size ≤ g) → ∃ vs', Lp w w5 w.heap.size (.slice (some ⟨g, 0, none⟩) M nc) S.safe.keys v' (S.safeFiles.take (k + 1)) vs') := fun w4 w5 u v' h1 h2 h3 h4 h5 h6 => by
        rw [htk]
        exact ⟨_, hR.step rfl h1 (f := (n, (S.th id).safe)) h2 h3 (by rw [htl]; exact h4) h5 h6⟩
      have HAP : Hid (∀ w4, Kept [] wr w4 → ∀ u : Value, u.oneCell' = true → ∃ g c w', (Builtin.append_ #[36, 36] 36 #[.slice fo k fc, .slice (some ⟨w4.heap.size, 0, none⟩) 1 1]).run Tryz.prog (w4.alloc (.cells #[encStr n, u] 88)) = .ok (.slice (some ⟨g, 0, none⟩) (k + 1) c) w' ∧ w'.ownsRow 0 88 2 (.slice (some ⟨g, 0, none⟩) (k + 1) c) (k + 1) (fcells (S.safeFiles.take k) vs ++ [encStr n, u]) ∧ (∀ F : Nat → Prop, (∀ j, (Value.slice fo k fc).ownBlock = some j → F j) → Keep F w4 w') ∧ (∀ g', (Value.slice (some ⟨g, 0, none⟩) (k + 1) c).ownBlock = some g' → (Value.slice fo k fc).ownBlock = some g' ∨ w4.heap.size ≤ g')) := fun w4 h4 u hu => by
        have hr4 := own_keeps (ownsRow_base_a hR.fls.row (Nat.zero_le _)) (Keep.ofNone (F := fun _ => False) h4) (fun _ _ h => h)
        rw [htl] at hr4
        obtain ⟨g, c, w', e1, e2, e3, e4, _⟩ := run_app (P := Tryz.prog) w4 36 36 88 Tryz.underlying36 Tryz.infoFile rfl (by decide) _ k _ hr4 [encStr n, u] rfl (fun z hz => by simp only [List.mem_cons, List.not_mem_nil, or_false] at hz; rcases hz with rfl | rfl; rfl; exact hu) (by unfold maxLen; omega) (by omega)
        refine ⟨g, c, w', e1, e2, e3, fun g' hg' => ?_⟩
        simp only [Value.ownBlock, Option.some.injEq] at hg'
        subst hg'
        rcases e4 with e | e
        · exact .inl e.symm
        · exact .inr e
      obtain ⟨u, w4, hcv, hu4, hk4, hb4, uc, rfl⟩ := run_of_str wr (S.th id).safe (by omega)
      obtain ⟨ga, gc, w5, hap, ho5, hK5, hl5⟩ := HAP.out w4 hk4 (.slice (some ⟨wr.heap.size, 0, none⟩) (S.th id).safe.length uc) rfl
      have H5 := hide (HST.out w4 w5 _ _ hk4 hu4 (fun g hg => by rw [hb4] at hg; injection hg with hg; omega) ho5 hK5 hl5)
      clear hu4 hb4 ho5 hK5 hl5 HST HAP
      clear hR hPr hget ht hq htk hmem htl hs0
      go_wp2_with (first
        | fail
        | (at_builtin; refine wpList_app_run rfl _ _ 36 36 rfl _ _ rfl rfl _ _ hap ?_))
      go_roundw
      case rel => exact ⟨k + 1, by omega, by go_num, H5, _, _, rfl⟩
      case measure => simp [intOf]; omega
    · have hkM : k = M := by omega
      subst hkM
      have HE : Hid (S.safeFiles.take k = S.safeFiles) := hide (List.take_of_length_le (by omega))
      have HRR := hide hR
      clear hR
      go_wp2
      go_ret
      rw [HE.out] at HRR
      exact ⟨_, vs, rfl, HRR.out.fls, HRR.out.keep⟩
end Go.Proofs.YtemlbmamcbmnjaaGreatDoor
