/-
  Contracts: Files, Safe. (Written by tools/hk.py.)
-/
import Derived.Test.YtemlbmamcbmnjaaGreatDoorHjp
import Derived.Test.YtemlbmamcbmnjaaGreatDoorHgp
namespace Go.Proofs.YtemlbmamcbmnjaaGreatDoor
open Go.RowKit Dsk
set_option linter.unusedVariables false
set_option linter.unusedSimpArgs false

theorem Tryz.infoFile : (Tryz.prog.info? 88).map (fun i => (i.zero, i.size, i.bytes)) = some (some (.agg #[.string ⟨#[]⟩, .slice none 0 0]), 2, 40) := by kernel_rfl
def fcells : List (By × By) → List Value → List Value
  | f :: L, v :: vs => encStr f.1 :: v :: fcells L vs
  | _, _ => []
theorem fcells_snoc {L : List (By × By)} {vs : List Value} (h : vs.length = L.length) (f : By × By) (v : Value) : fcells (L ++ [f]) (vs ++ [v]) = fcells L vs ++ [encStr f.1, v] := by
  induction L generalizing vs with
  | nil => have : vs = [] := List.eq_nil_of_length_eq_zero (by simpa using h); subst this; rfl
  | cons x L ih =>
    cases vs with
    | nil => simp at h
    | cons u vs =>
      simp only [List.cons_append, fcells]
      rw [ih (by simpa using h)]
/-- A list of files of its own, with the bytes of each. -/
structure Fls (w : World) (B : Nat) (v : Value) (L : List (By × By)) (vs : List Value) : Prop where
  len : vs.length = L.length
  row : w.ownsRow B 88 2 v L.length (fcells L vs)
  own : ∀ (i : Nat) (f : By × By) (u : Value), L[i]? = some f → vs[i]? = some u → OwnB w u f.2.length f.2
  new : ∀ u ∈ vs, ∀ g, u.ownBlock = some g → B ≤ g
  apart : vs.Pairwise (fun a b => ∀ k, a.ownBlock = some k → b.ownBlock ≠ some k)
theorem Fls.start (w : World) (B : Nat) : Fls w B (.slice none 0 0) [] [] := ⟨rfl, World.ownsRow_nil _ _ _ _, by simp, by simp, List.Pairwise.nil⟩
theorem Fls.kept {w w' : World} {B : Nat} {v : Value} {L : List (By × By)} {vs : List Value} (h : Fls w B v L vs) (hk : Kept [] w w') : Fls w' B v L vs :=
  ⟨h.len, own_keeps h.row (Keep.ofNone (F := fun _ => False) hk) (fun _ _ h => h), fun i f u h1 h2 => (h.own i f u h1 h2).kept hk, h.new, h.apart⟩
theorem Fls.val_lt {w : World} {B : Nat} {v : Value} {L : List (By × By)} {vs : List Value} (h : Fls w B v L vs) {u : Value} (hu : u ∈ vs) {g : Nat} (hg : u.ownBlock = some g) : g < w.heap.size := by
  obtain ⟨i, hi, e⟩ := List.mem_iff_getElem.1 hu
  have h1 : vs[i]? = some u := by rw [List.getElem?_eq_getElem hi, e]
  have h2 : i < L.length := by rw [← h.len]; exact hi
  exact (h.own i _ u (List.getElem?_eq_getElem h2) h1).lt hg
/-- One file more: its bytes came new (w4), then the list took it (w5). -/
theorem Fls.step {w w4 w5 : World} {B : Nat} {v v' u : Value} {L : List (By × By)} {vs : List Value} {f : By × By} (h : Fls w B v L vs) (hk : Kept [] w w4) (hB : B ≤ w.heap.size) (hu : OwnB w4 u f.2.length f.2) (hn : ∀ g, u.ownBlock = some g → w.heap.size ≤ g)
    (ho : w5.ownsRow 0 88 2 v' (L.length + 1) (fcells L vs ++ [encStr f.1, u])) (hK : ∀ F : Nat → Prop, (∀ k, v.ownBlock = some k → F k) → Keep F w4 w5) (hl : ∀ g, v'.ownBlock = some g → v.ownBlock = some g ∨ w4.heap.size ≤ g) : Fls w5 B v' (L ++ [f]) (vs ++ [u]) := by
  have h4 := h.kept hk
  have hK5 := hK (fun k => v.ownBlock = some k) (fun _ e => e)
  have hsz := hk.size
  refine ⟨by simp [h.len], ?_, fun i f' u' hf hu' => ?_, fun u' hm g hg => ?_, ?_⟩
  · rw [fcells_snoc h.len]
    refine ⟨by have := ho.1; simpa using this, ?_⟩
    rcases ho.2 with ⟨rfl, h0⟩ | ⟨g, cap, cur, rfl, _, r⟩
    · omega
    · refine .inr ⟨g, cap, cur, by simp, ?_, by simpa using r⟩
      rcases hl g rfl with e | e
      · exact (h.row.lt g e).1
      · omega
  · by_cases hi : i < L.length
    · rw [List.getElem?_append_left hi] at hf
      rw [List.getElem?_append_left (by rw [h.len]; exact hi)] at hu'
      exact (h4.own i f' u' hf hu').keep hK5 (fun g hg e => OwnB.two h4.row (h4.own i f' u' hf hu') (by decide) g e hg)
    · have hi2 : i = L.length := by
        have := (List.getElem?_eq_some_iff.1 hf).1
        simp at this
        omega
      subst hi2
      rw [List.getElem?_append_right (Nat.le_refl _)] at hf
      rw [List.getElem?_append_right (by rw [h.len]; exact Nat.le_refl _), h.len] at hu'
      simp at hf hu'
      subst hf hu'
      exact hu.keep hK5 (fun g hg e => OwnB.two h4.row hu (by decide) g e hg)
  · rcases List.mem_append.1 hm with h1 | h1
    · exact h.new u' h1 g hg
    · simp only [List.mem_singleton] at h1
      subst h1
      exact Nat.le_trans hB (hn g hg)
  · refine List.pairwise_append.2 ⟨h.apart, List.pairwise_singleton _ _, fun a ha b hb k hka hkb => ?_⟩
    simp only [List.mem_singleton] at hb
    subst hb
    have := h.val_lt ha hka
    have := hn k hkb
    omega

/-- In the loop. -/
structure Lp (w wr : World) (B : Nat) (nv : Value) (ks : List By) (v : Value) (L : List (By × By)) (vs : List Value) : Prop where
  fls : Fls wr B v L vs
  keep : Kept [] w wr
  names : wr.ownsRow 0 9 1 nv ks.length (ks.map encStr)
theorem Lp.step {w wr w4 w5 : World} {B : Nat} {nv v v' u : Value} {ks : List By} {L : List (By × By)} {vs : List Value} {f : By × By} (h : Lp w wr B nv ks v L vs) (hBw : B = w.heap.size) (hk : Kept [] wr w4) (hu : OwnB w4 u f.2.length f.2) (hn : ∀ g, u.ownBlock = some g → wr.heap.size ≤ g)
    (ho : w5.ownsRow 0 88 2 v' (L.length + 1) (fcells L vs ++ [encStr f.1, u])) (hK : ∀ F : Nat → Prop, (∀ k, v.ownBlock = some k → F k) → Keep F w4 w5) (hl : ∀ g, v'.ownBlock = some g → v.ownBlock = some g ∨ w4.heap.size ≤ g) : Lp w w5 B nv ks v' (L ++ [f]) (vs ++ [u]) := by
  have hs := h.keep.size
  refine ⟨h.fls.step hk (by omega) hu hn ho hK hl, ?_, ?_⟩
  · have h1 := h.keep.trans hk (by simp)
    have hK5 := hK (fun k => w.heap.size ≤ k) (fun k e => by have := (h.fls.row.lt k e).1; omega)
    exact ⟨hK5.os.trans h1.os, hK5.tape.trans h1.tape, hK5.output.trans h1.output, Nat.le_trans h1.size hK5.size, fun i hi _ => (hK5.block i (Nat.lt_of_lt_of_le hi h1.size) (by omega)).trans (h1.block i hi (by simp))⟩
  · have h4 := own_keeps h.names (Keep.ofNone (F := fun _ => False) hk) (fun _ _ h => h)
    have hK5 := hK (fun k => v.ownBlock = some k) (fun _ e => e)
    exact own_keeps h4 hK5 (fun g hg e => own_two h4 (h.fls.kept hk).row (by decide) g hg e)

set_option maxHeartbeats 1600000 in
set_option maxRecDepth 100000 in
theorem files_ok {w : World} {p : Nat} {S : Ds} {A : Nat → Nat} {o : Lab} {N : Nat} (h : PD w p S A o) (hB : S.Bd N) (hN : N ≤ 268435456) : Calls Tryz.prog 17 #[.pointer (some ⟨p, 0, none⟩)] w fun e w' => ∃ v vs, e = .returned v ∧ Fls w' w.heap.size v S.files vs ∧ Kept [] w w' := by
  obtain ⟨ms, mh, rv, sv, h⟩ := h
  have hup : S.shown.Up := h.wf.sup
  have hlen : S.shown.length ≤ N := hB.shown h.wf
  have hrs := rising_ok mh A S.shown w h.shown hup (by omega)
  have cm := h.c4
  have HP : Hid (∀ v, Kept [] w v → PDx v p S A o ms mh rv sv) := fun v hv => h.keep (Keep.ofNone (F := fun _ => False) hv) (fun _ _ h => h)
  have HB := hide (And.intro h.wf hB)
  have hLl : S.files.length = S.shown.length := by simp [Ds.files]
  clear h hB
  go_enter Tryz.func17, Tryz.ntmps17
  go_wp2_with (go_at_call 65; refine hrs.mono ?_; rintro e w1 ⟨nv, rfl, hrow, hbl⟩; obtain ⟨no, nc, rfl, _⟩ := own_shape hrow; have HLP := hide (Lp.mk (Fls.start w1 w.heap.size) (Kept.of_below hbl) (show w1.ownsRow 0 9 1 _ (S.shown.keys).length (S.shown.keys.map encStr) by simpa [Nm.keys] using ownsRow_base_a hrow (Nat.zero_le _))); clear hrow hbl hrs)
  generalize hLe : S.shown.length = M at *
  have HL := hide hLe
  clear cm hLe
  go_loopw [15, 3, 5] (fun i f _ wr => ∃ k : Nat, k ≤ M ∧ i = .int .i64 k ∧ Hid (∃ vs, Lp w wr w.heap.size (.slice no M nc) S.shown.keys f (S.files.take k) vs) ∧ ∃ fo fc, f = .slice fo k fc) (fun i _ _ wr => M - (intOf i).toNat)
  case atStart => exact ⟨0, by omega, rfl, hide ⟨[], by simpa using HLP.out⟩, none, 0, rfl⟩
  case round =>
    clear HLP
    obtain ⟨k, hk, rfl, HR, fo, fc, rfl⟩ := hrel
    obtain ⟨vs, hR⟩ := HR.out
    clear HR
    by_cases hlt : k < M
    · have hlt2 : k < S.shown.length := by rw [HL.out]; exact hlt
      obtain ⟨⟨n, id⟩, hq⟩ : ∃ q, S.shown[k]? = some q := ⟨S.shown[k], List.getElem?_eq_getElem hlt2⟩
      have hmem : (n, id) ∈ S.shown := List.mem_of_getElem? hq
      have hPr := HP.out wr hR.keep
      have hget := (Nm.get_some hup).2 hmem
      have hnl : n.length ≤ 112 := isNm_len (HB.out.1.snm _ hmem)
      have hid : id < S.nx := HB.out.1.slt hmem
      have hlk := hPr.shown.look n (by unfold maxLen; omega)
      rw [hget] at hlk
      have cm := hPr.c4
      obtain ⟨rv1, sv1, ht⟩ := hPr.th id hid
      obtain ⟨so, sc, rfl, hsc, _, hs0, _⟩ := ht.shown.shape
      have it := ht.th0.c2
      have hil := HB.out.2.th id hid
      have hls := HB.out.2.len HB.out.1 hid
      obtain ⟨g, hg⟩ : ∃ g, no = some ⟨g, 0, none⟩ := by
        rcases hR.names.2 with ⟨e, e2⟩ | ⟨g, cap, cur, e, _⟩
        · have h2 : S.shown.keys.length = S.shown.length := by simp [Nm.keys]
          omega
        · injection e with e _ _; exact ⟨g, e⟩
      subst hg
      have hcell : wr.cell? ⟨g, k, none⟩ = some (encStr n) := by
        have := hR.names.cells (g := g) rfl k (encStr n) (by simp [Nm.keys, hq])
        rwa [add0] at this
      have htk : S.files.take (k + 1) = S.files.take k ++ [(n, (S.th id).shown)] := by
        rw [List.take_add_one]
        congr 1
        simp [Ds.files, hq]
      have htl : (S.files.take k).length = k := by rw [List.length_take]; simp [Ds.files]; omega
      have HST : Hid (∀ w4 w5 u v', Kept [] wr w4 → OwnB w4 u (S.th id).shown.length (S.th id).shown → (∀ g, u.ownBlock = some g → wr.heap.size ≤ g) → w5.ownsRow 0 88 2 v' (k + 1) (fcells (S.files.take k) vs ++ [encStr n, u]) → (∀ F : Nat → Prop, (∀ j, (Value.slice fo k fc).ownBlock = some j → F j) → Keep F w4 w5) → (∀ g, v'.ownBlock = some g → (Value.slice fo k fc).ownBlock = some g ∨ w4.heap.size ≤ g) → ∃ vs', Lp w w5 w.heap.size (.slice (some ⟨g, 0, none⟩) M nc) S.shown.keys v' (S.files.take (k + 1)) vs') := fun w4 w5 u v' h1 h2 h3 h4 h5 h6 => by
        rw [htk]
        exact ⟨_, hR.step rfl h1 (f := (n, (S.th id).shown)) h2 h3 (by rw [htl]; exact h4) h5 h6⟩
      have HAP : Hid (∀ w4, Kept [] wr w4 → ∀ u : Value, u.oneCell' = true → ∃ g c w', (Builtin.append_ #[36, 36] 36 #[.slice fo k fc, .slice (some ⟨w4.heap.size, 0, none⟩) 1 1]).run Tryz.prog (w4.alloc (.cells #[encStr n, u] 88)) = .ok (.slice (some ⟨g, 0, none⟩) (k + 1) c) w' ∧ w'.ownsRow 0 88 2 (.slice (some ⟨g, 0, none⟩) (k + 1) c) (k + 1) (fcells (S.files.take k) vs ++ [encStr n, u]) ∧ (∀ F : Nat → Prop, (∀ j, (Value.slice fo k fc).ownBlock = some j → F j) → Keep F w4 w') ∧ (∀ g', (Value.slice (some ⟨g, 0, none⟩) (k + 1) c).ownBlock = some g' → (Value.slice fo k fc).ownBlock = some g' ∨ w4.heap.size ≤ g')) := fun w4 h4 u hu => by
        have hr4 := own_keeps (ownsRow_base_a hR.fls.row (Nat.zero_le _)) (Keep.ofNone (F := fun _ => False) h4) (fun _ _ h => h)
        rw [htl] at hr4
        obtain ⟨g, c, w', e1, e2, e3, e4, _⟩ := run_app (P := Tryz.prog) w4 36 36 88 Tryz.underlying36 Tryz.infoFile rfl (by decide) _ k _ hr4 [encStr n, u] rfl (fun z hz => by simp only [List.mem_cons, List.not_mem_nil, or_false] at hz; rcases hz with rfl | rfl; rfl; exact hu) (by unfold maxLen; omega) (by omega)
        refine ⟨g, c, w', e1, e2, e3, fun g' hg' => ?_⟩
        simp only [Value.ownBlock, Option.some.injEq] at hg'
        subst hg'
        rcases e4 with e | e
        · exact .inl e.symm
        · exact .inr e
      have hcl := cloneB_ok so (S.th id).shown.length sc (S.th id).shown wr rfl ht.shown.sl hs0 (by omega)
      clear hR hPr hget ht hq htk hmem htl hs0
      go_wp2_with (first
        | (go_at_call 66; have Ha := hcl; refine hcl.mono ?_; rintro e w4 ⟨u, rfl, hu4, hk4, hn4⟩; obtain ⟨uo, uc, rfl, _⟩ := hu4.shape; obtain ⟨ga, gc, w5, hap, ho5, hK5, hl5⟩ := HAP.out w4 hk4 (.slice uo (S.th id).shown.length uc) rfl; have H5 := hide (HST.out w4 w5 _ _ hk4 hu4 hn4 ho5 hK5 hl5); clear hu4 hn4 ho5 hK5 hl5 HST HAP Ha hcl)
        | (at_builtin; refine wpList_app_run rfl _ _ 36 36 rfl _ _ rfl rfl _ _ hap ?_))
      go_roundw
      case rel => exact ⟨k + 1, by omega, by go_num, H5, _, _, rfl⟩
      case measure => simp [intOf]; omega
    · have hkM : k = M := by omega
      subst hkM
      have HE : Hid (S.files.take k = S.files) := hide (List.take_of_length_le (by omega))
      have HRR := hide hR
      clear hR
      go_wp2
      go_ret
      rw [HE.out] at HRR
      exact ⟨_, vs, rfl, HRR.out.fls, HRR.out.keep⟩
end Go.Proofs.YtemlbmamcbmnjaaGreatDoor
