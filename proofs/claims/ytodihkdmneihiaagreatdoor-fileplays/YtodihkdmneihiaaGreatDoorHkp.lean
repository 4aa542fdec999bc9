import Derived.Test.YtodihkdmneihiaaGreatDoorHip
namespace Go.Proofs.YtodihkdmneihiaaGreatDoor
section
open Go.RowKit Dsk
set_option linter.unusedVariables false
set_option linter.unusedSimpArgs false
theorem Tryz.infoFile : (Tryz.prog.info? 157).map (fun i => (i.zero, i.size, i.bytes)) = some (some (.agg #[.string ⟨#[]⟩, .slice none 0 0]), 2, 40) := by kernel_rfl
def fcells : List (By × By) → List Value → List Value
 | f :: L, v :: vs => encStr f.1 :: v :: fcells L vs
 | _, _ => []
theorem fcells_snoc {L : List (By × By)} {vs : List Value} (h : vs.length = L.length) (f : By × By) (v : Value) : fcells (L ++ [f]) (vs ++ [v]) = fcells L vs ++ [encStr f.1, v] := by
 induction L generalizing vs with
 | nil => have : vs = [] := List.eq_nil_of_length_eq_zero (by simpa using h); subst this; rfl
 | cons x L ih =>
  cases vs with
  | nil => simp at h
  | cons u vs =>
   simp only [List.cons_append, fcells]
   rw [ih (by simpa using h)]
structure Fls (w : World) (B : Nat) (v : Value) (L : List (By × By)) (vs : List Value) : Prop where
 len : vs.length = L.length
 row : w.ownsRow B 157 2 v L.length (fcells L vs)
 own : ∀ (i : Nat) (f : By × By) (u : Value), L[i]? = some f → vs[i]? = some u → OwnB w u f.2.length f.2
 new : ∀ u ∈ vs, ∀ g, u.ownBlock = some g → B ≤ g
 apart : vs.Pairwise (fun a b => ∀ k, a.ownBlock = some k → b.ownBlock ≠ some k)
theorem Fls.start (w : World) (B : Nat) : Fls w B (.slice none 0 0) [] [] := ⟨rfl, World.ownsRow_nil _ _ _ _, by simp, by simp, List.Pairwise.nil⟩
theorem Fls.kept {w w' : World} {B : Nat} {v : Value} {L : List (By × By)} {vs : List Value} (h : Fls w B v L vs) (hk : Kept [] w w') : Fls w' B v L vs :=
 ⟨h.len, own_keeps h.row (Keep.ofNone (F := fun _ => False) hk) (fun _ _ h => h), fun i f u h1 h2 => (h.own i f u h1 h2).kept hk, h.new, h.apart⟩
theorem Fls.val_lt {w : World} {B : Nat} {v : Value} {L : List (By × By)} {vs : List Value} (h : Fls w B v L vs) {u : Value} (hu : u ∈ vs) {g : Nat} (hg : u.ownBlock = some g) : g < w.heap.size := by
 obtain ⟨i, hi, e⟩ := List.mem_iff_getElem.1 hu
 have h1 : vs[i]? = some u := by rw [List.getElem?_eq_getElem hi, e]
 have h2 : i < L.length := by rw [← h.len]; exact hi
 exact (h.own i _ u (List.getElem?_eq_getElem h2) h1).lt hg
theorem Fls.step {w w4 w5 : World} {B : Nat} {v v' u : Value} {L : List (By × By)} {vs : List Value} {f : By × By} (h : Fls w B v L vs) (hk : Kept [] w w4) (hB : B ≤ w.heap.size) (hu : OwnB w4 u f.2.length f.2) (hn : ∀ g, u.ownBlock = some g → w.heap.size ≤ g)
  (ho : w5.ownsRow 0 157 2 v' (L.length + 1) (fcells L vs ++ [encStr f.1, u])) (hK : ∀ F : Nat → Prop, (∀ k, v.ownBlock = some k → F k) → Keep F w4 w5) (hl : ∀ g, v'.ownBlock = some g → v.ownBlock = some g ∨ w4.heap.size ≤ g) : Fls w5 B v' (L ++ [f]) (vs ++ [u]) := by
 have h4 := h.kept hk
 have hK5 := hK (fun k => v.ownBlock = some k) (fun _ e => e)
 have hsz := hk.size
 refine ⟨by simp [h.len], ?_, fun i f' u' hf hu' => ?_, fun u' hm g hg => ?_, ?_⟩
 ·rw [fcells_snoc h.len]
  refine ⟨by have := ho.1; simpa using this, ?_⟩
  rcases ho.2 with ⟨rfl, h0⟩ | ⟨g, cap, cur, rfl, _, r⟩
  ·omega
  ·refine .inr ⟨g, cap, cur, by simp, ?_, by simpa using r⟩
   rcases hl g rfl with e | e
   ·exact (h.row.lt g e).1
   ·omega
 ·by_cases hi : i < L.length
  ·rw [List.getElem?_append_left hi] at hf
   rw [List.getElem?_append_left (by rw [h.len]; exact hi)] at hu'
   exact (h4.own i f' u' hf hu').keep hK5 (fun g hg e => OwnB.two h4.row (h4.own i f' u' hf hu') (by decide) g e hg)
  ·have hi2 : i = L.length := by
    have := (List.getElem?_eq_some_iff.1 hf).1
    simp at this
    omega
   subst hi2
   rw [List.getElem?_append_right (Nat.le_refl _)] at hf
   rw [List.getElem?_append_right (by rw [h.len]; exact Nat.le_refl _), h.len] at hu'
   simp at hf hu'
   subst hf hu'
   exact hu.keep hK5 (fun g hg e => OwnB.two h4.row hu (by decide) g e hg)
 ·rcases List.mem_append.1 hm with h1 | h1
  ·exact h.new u' h1 g hg
  ·simp only [List.mem_singleton] at h1
   subst h1
   exact Nat.le_trans hB (hn g hg)
 ·refine List.pairwise_append.2 ⟨h.apart, List.pairwise_singleton _ _, fun a ha b hb k hka hkb => ?_⟩
  simp only [List.mem_singleton] at hb
  subst hb
  have := h.val_lt ha hka
  have := hn k hkb
  omega
structure Lp (w wr : World) (B : Nat) (nv : Value) (ks : List By) (v : Value) (L : List (By × By)) (vs : List Value) : Prop where
 fls : Fls wr B v L vs
 keep : Kept [] w wr
 names : wr.ownsRow 0 9 1 nv ks.length (ks.map encStr)
theorem Lp.step {w wr w4 w5 : World} {B : Nat} {nv v v' u : Value} {ks : List By} {L : List (By × By)} {vs : List Value} {f : By × By} (h : Lp w wr B nv ks v L vs) (hBw : B = w.heap.size) (hk : Kept [] wr w4) (hu : OwnB w4 u f.2.length f.2) (hn : ∀ g, u.ownBlock = some g → wr.heap.size ≤ g)
  (ho : w5.ownsRow 0 157 2 v' (L.length + 1) (fcells L vs ++ [encStr f.1, u])) (hK : ∀ F : Nat → Prop, (∀ k, v.ownBlock = some k → F k) → Keep F w4 w5) (hl : ∀ g, v'.ownBlock = some g → v.ownBlock = some g ∨ w4.heap.size ≤ g) : Lp w w5 B nv ks v' (L ++ [f]) (vs ++ [u]) := by
 have hs := h.keep.size
 refine ⟨h.fls.step hk (by omega) hu hn ho hK hl, ?_, ?_⟩
 ·have h1 := h.keep.trans hk (by simp)
  have hK5 := hK (fun k => w.heap.size ≤ k) (fun k e => by have := (h.fls.row.lt k e).1; omega)
  exact ⟨hK5.os.trans h1.os, hK5.tape.trans h1.tape, hK5.output.trans h1.output, Nat.le_trans h1.size hK5.size, fun i hi _ => (hK5.block i (Nat.lt_of_lt_of_le hi h1.size) (by omega)).trans (h1.block i hi (by simp))⟩
 ·have h4 := own_keeps h.names (Keep.ofNone (F := fun _ => False) hk) (fun _ _ h => h)
  have hK5 := hK (fun k => v.ownBlock = some k) (fun _ e => e)
  exact own_keeps h4 hK5 (fun g hg e => own_two h4 (h.fls.kept hk).row (by decide) g hg e)
set_option maxHeartbeats 1600000 in
set_option maxRecDepth 100000 in
theorem files_ok {w : World} {p : Nat} {S : Ds} {A : Nat → Nat} {o : Lab} {N : Nat} (h : PD w p S A o) (hB : S.Bd N) (hN : N ≤ 268435456) : Calls Tryz.prog 45 #[.pointer (some ⟨p, 0, none⟩)] w fun e w' => ∃ v vs, e = .returned v ∧ Fls w' w.heap.size v S.files vs ∧ Kept [] w w' := by
 obtain ⟨ms, mh, rv, sv, h⟩ := h
 have hup : S.shown.Up := h.wf.sup
 have hlen : S.shown.length ≤ N := hB.shown h.wf
 have hrs := rising_ok mh A S.shown w h.shown hup (by omega)
 have cm := h.c4
 have HP : Hid (∀ v, Kept [] w v → PDx v p S A o ms mh rv sv) := fun v hv => h.keep (Keep.ofNone (F := fun _ => False) hv) (fun _ _ h => h)
 have HB := hide (And.intro h.wf hB)
 have hLl : S.files.length = S.shown.length := by simp [Ds.files]
 clear h hB
 go_enter Tryz.func45, Tryz.ntmps45
 go_wp2_with (go_at_call 87; refine hrs.mono ?_; rintro e w1 ⟨nv, rfl, hrow, hbl⟩; obtain ⟨no, nc, rfl, _⟩ := own_shape hrow; have HLP := hide (Lp.mk (Fls.start w1 w.heap.size) (Kept.of_below hbl) (show w1.ownsRow 0 9 1 _ (S.shown.keys).length (S.shown.keys.map encStr) by simpa [Nm.keys] using ownsRow_base_a hrow (Nat.zero_le _))); clear hrow hbl hrs)
 generalize hLe : S.shown.length = M at *
 have HL := hide hLe
 clear cm hLe
 go_loopw [15, 3, 5] (fun i f _ wr => ∃ k : Nat, k ≤ M ∧ i = .int .i64 k ∧ Hid (∃ vs, Lp w wr w.heap.size (.slice no M nc) S.shown.keys f (S.files.take k) vs) ∧ ∃ fo fc, f = .slice fo k fc) (fun i _ _ wr => M - (intOf i).toNat)
 case atStart => exact ⟨0, by omega, rfl, hide ⟨[], by simpa using HLP.out⟩, none, 0, rfl⟩
 case round =>
  clear HLP
  obtain ⟨k, hk, rfl, HR, fo, fc, rfl⟩ := hrel
  obtain ⟨vs, hR⟩ := HR.out
  clear HR
  by_cases hlt : k < M
  ·have hlt2 : k < S.shown.length := by rw [HL.out]; exact hlt
   obtain ⟨⟨n, id⟩, hq⟩ : ∃ q, S.shown[k]? = some q := ⟨S.shown[k], List.getElem?_eq_getElem hlt2⟩
   have hmem : (n, id) ∈ S.shown := List.mem_of_getElem? hq
   have hPr := HP.out wr hR.keep
   have hget := (Nm.get_some hup).2 hmem
   have hnl : n.length ≤ 112 := isNm_len (HB.out.1.snm _ hmem)
   have hid : id < S.nx := HB.out.1.slt hmem
   have hlk := hPr.shown.look n (by unfold maxLen; omega)
   rw [hget] at hlk
   have cm := hPr.c4
   obtain ⟨rv1, sv1, ht⟩ := hPr.th id hid
   obtain ⟨so, sc, rfl, hsc, _, hs0, _⟩ := ht.shown.shape
   have it := ht.th0.c2
   have hil := HB.out.2.th id hid
   have hls := HB.out.2.len HB.out.1 hid
   obtain ⟨g, hg⟩ : ∃ g, no = some ⟨g, 0, none⟩ := by
    rcases hR.names.2 with ⟨e, e2⟩ | ⟨g, cap, cur, e, _⟩
    ·have h2 : S.shown.keys.length = S.shown.length := by simp [Nm.keys]
     omega
    ·injection e with e _ _; exact ⟨g, e⟩
   subst hg
   have hcell : wr.cell? ⟨g, k, none⟩ = some (encStr n) := by
    have := hR.names.cells (g := g) rfl k (encStr n) (by simp [Nm.keys, hq])
    rwa [add0] at this
   have htk : S.files.take (k + 1) = S.files.take k ++ [(n, (S.th id).shown)] := by
    rw [List.take_add_one]
    congr 1
    simp [Ds.files, hq]
   have htl : (S.files.take k).length = k := by rw [List.length_take]; simp [Ds.files]; omega
   have HST : Hid (∀ w4 w5 u v', Kept [] wr w4 → OwnB w4 u (S.th id).shown.length (S.th id).shown → (∀ g, u.ownBlock = some g → wr.heap.size ≤ g) → w5.ownsRow 0 157 2 v' (k + 1) (fcells (S.files.take k) vs ++ [encStr n, u]) → (∀ F : Nat → Prop, (∀ j, (Value.slice fo k fc).ownBlock = some j → F j) → Keep F w4 w5) → (∀ g, v'.ownBlock = some g → (Value.slice fo k fc).ownBlock = some g ∨ w4.heap.size ≤ g) → ∃ vs', Lp w w5 w.heap.size (.slice (some ⟨g, 0, none⟩) M nc) S.shown.keys v' (S.files.take (k + 1)) vs') := fun w4 w5 u v' h1 h2 h3 h4 h5 h6 => by
    rw [htk]
    exact ⟨_, hR.step rfl h1 (f := (n, (S.th id).shown)) h2 h3 (by rw [htl]; exact h4) h5 h6⟩
   have HAP : Hid (∀ w4, Kept [] wr w4 → ∀ u : Value, u.oneCell' = true → ∃ g c w', (Builtin.append_ #[72, 72] 72 #[.slice fo k fc, .slice (some ⟨w4.heap.size, 0, none⟩) 1 1]).run Tryz.prog (w4.alloc (.cells #[encStr n, u] 157)) = .ok (.slice (some ⟨g, 0, none⟩) (k + 1) c) w' ∧ w'.ownsRow 0 157 2 (.slice (some ⟨g, 0, none⟩) (k + 1) c) (k + 1) (fcells (S.files.take k) vs ++ [encStr n, u]) ∧ (∀ F : Nat → Prop, (∀ j, (Value.slice fo k fc).ownBlock = some j → F j) → Keep F w4 w') ∧ (∀ g', (Value.slice (some ⟨g, 0, none⟩) (k + 1) c).ownBlock = some g' → (Value.slice fo k fc).ownBlock = some g' ∨ w4.heap.size ≤ g')) := fun w4 h4 u hu => by
    have hr4 := own_keeps (ownsRow_base_a hR.fls.row (Nat.zero_le _)) (Keep.ofNone (F := fun _ => False) h4) (fun _ _ h => h)
    rw [htl] at hr4
    obtain ⟨g, c, w', e1, e2, e3, e4, _⟩ := run_app (P := Tryz.prog) w4 72 72 157 Tryz.underlying72 Tryz.infoFile rfl (by decide) _ k _ hr4 [encStr n, u] rfl (fun z hz => by simp only [List.mem_cons, List.not_mem_nil, or_false] at hz; rcases hz with rfl | rfl; rfl; exact hu) (by unfold maxLen; omega) (by omega)
    refine ⟨g, c, w', e1, e2, e3, fun g' hg' => ?_⟩
    simp only [Value.ownBlock, Option.some.injEq] at hg'
    subst hg'
    rcases e4 with e | e
    ·exact .inl e.symm
    ·exact .inr e
   have hcl := cloneB_ok so (S.th id).shown.length sc (S.th id).shown wr rfl ht.shown.sl hs0 (by omega)
   clear hR hPr hget ht hq htk hmem htl hs0
   go_wp2_with (first
    | (go_at_call 91; have Ha := hcl; refine hcl.mono ?_; rintro e w4 ⟨u, rfl, hu4, hk4, hn4⟩; obtain ⟨uo, uc, rfl, _⟩ := hu4.shape; obtain ⟨ga, gc, w5, hap, ho5, hK5, hl5⟩ := HAP.out w4 hk4 (.slice uo (S.th id).shown.length uc) rfl; have H5 := hide (HST.out w4 w5 _ _ hk4 hu4 hn4 ho5 hK5 hl5); clear hu4 hn4 ho5 hK5 hl5 HST HAP Ha hcl)
    | (at_builtin; refine wpList_app_run rfl _ _ 72 72 rfl _ _ rfl rfl _ _ hap ?_))
   go_roundw
   case rel => exact ⟨k + 1, by omega, by go_num, H5, _, _, rfl⟩
   case measure => simp [intOf]; omega
  ·have hkM : k = M := by omega
   subst hkM
   have HE : Hid (S.files.take k = S.files) := hide (List.take_of_length_le (by omega))
   have HRR := hide hR
   clear hR
   go_wp2
   go_ret
   rw [HE.out] at HRR
   exact ⟨_, vs, rfl, HRR.out.fls, HRR.out.keep⟩
end

section
open Go.RowKit Dsk
set_option linter.unusedVariables false
set_option linter.unusedSimpArgs false
structure Picks (w : World) (o : Lab) (ao : Option Addr) (n : Nat) (ps : List Int) : Prop where
 len : ps.length = n
 row : Ints w ao ps
 wf : ∀ i, (Lit.int .i64 (ps.getD i 0)).wf = true
 out : ps ≠ [] → ∀ a, ao = some a → o a.block = 0
theorem Picks.keep {w w' : World} {o : Lab} {ao : Option Addr} {n : Nat} {ps : List Int} (h : Picks w o ao n ps) (hk : Keep o.mine w w') : Picks w' o ao n ps :=
 ⟨h.len, h.row.kept hk (fun hd a ha hm => hm (h.out hd a ha)), h.wf, h.out⟩
theorem Picks.ext {w : World} {o o' : Lab} {ao : Option Addr} {n : Nat} {ps : List Int} (h : Picks w o ao n ps) (he : o.Ext o' w) : Picks w o' ao n ps := by
 refine ⟨h.len, h.row, h.wf, fun hd a ha => ?_⟩
 have h0 := h.out hd a ha
 obtain ⟨b, off, e, hc⟩ := h.row 0 (List.length_pos_iff.2 hd)
 rw [ha] at e
 injection e with e
 have hlt := World.block_lt_of_cell? _ _ hc
 apply Classical.byContradiction
 intro hne
 exact he a.block (by rw [e]; exact hlt) hne h0
def Ds.named (S : Ds) (l : Nm) : Ds := { S with safe := l, row := [], shown := l }
def Ds.thinged (S : Ds) (l : Nm) (th : Nat → Th) : Ds := { S with safe := l, row := [], shown := l, th := th }
theorem crashTh_snoc (ps : List Int) (i : Nat) (l : Nm) (x : By × Nat) (th : Nat → Th) : Ds.crashTh ps i (l ++ [x]) th = upd (Ds.crashTh ps i l th) x.2 ((Ds.crashTh ps i l th x.2).crash (ps.getD (i + l.length + 1) 0)) := by
 induction l generalizing i th with
 | nil => simp [Ds.crashTh]
 | cons y r ih =>
  simp only [List.cons_append, Ds.crashTh, List.length_cons]
  rw [ih]
  rw [show i + 1 + r.length + 1 = i + (r.length + 1) + 1 by omega]
theorem crashTh_ok' (ps : List Int) (i : Nat) (l : Nm) (th : Nat → Th) (k : Nat) (h : (th k).ok) : (Ds.crashTh ps i l th k).ok := by
 rcases Ds.crashTh_or ps i l th k with e | ⟨t, p, e⟩
 ·rw [e]; exact h
 ·rw [e]; exact Th.crash_ok t p
theorem thinged_wf {S : Ds} (h : S.Wf) (ps : List Int) (k : Nat) : (Ds.thinged S (S.crashNm ps) (Ds.crashTh ps 0 ((S.crashNm ps).take k) S.th)).Wf := by
 have hc := h.crash ps
 exact ⟨h.room, hc.up, rfl, trivial, hc.nodup, hc.lt, hc.nm, by simp [Ds.thinged], fun j hj => crashTh_ok' _ _ _ _ _ (h.th j hj)⟩
theorem dirCrash_pd {w : World} {p : Nat} {S : Ds} {A : Nat → Nat} {o : Lab} {ms mh : Nat} {rv sv : Value} {N : Nat} (h : PDx w p S A o ms mh rv sv) (hB : S.Bd N) (hN : N ≤ 268435456) (ps : List Int) (hw : (Lit.int .i64 (ps.getD 0 0)).wf = true) :
  Calls Tryz.prog 85 #[.pointer (some ⟨p, 2, none⟩), .int .i64 (ps.getD 0 0)] w fun e w' => e = .returned (.tuple #[]) ∧ ∃ ms' mh', PDx w' p (Ds.thinged S (S.crashNm ps) S.th) A (o.ext w w' 1) ms' mh' (.slice none 0 0) sv ∧ Keep (· = p) w w' := by
 have hnm := hB.nm
 have hsh : ∀ c ∈ S.row, ncShort c := by
  intro c hc
  have hn := h.wf.nmr _ hc
  cases c with
  | mk n k => exact isNm_len hn
  | gv f t => exact ⟨isNm_len hn.1, isNm_len hn.2⟩
  | tk n => exact isNm_len hn
 refine (dirCrash_ok (ps.getD 0 0) p 2 ms 97 _ rv A S.safe S.row w h.cells (by decide) (by simp) rfl rfl h.row h.safe h.wf.up h.wf.ok hsh (by omega) hw).mono ?_
 rintro e w' ⟨rfl, m1, m2, k1, k2, k3, k4, k5, k6, k7⟩
 have hwf : (Ds.thinged S (S.crashNm ps) S.th).Wf := by have := thinged_wf h.wf ps 0; simpa [Ds.crashTh] using this
 exact ⟨rfl, m2, m1, PDx.synced (S' := Ds.thinged S (S.crashNm ps) S.th) h k1 k2 k3 k7 k4 k6 (.inr k5) hwf rfl rfl rfl rfl rfl rfl h.pl, k4⟩
end

section
open Go.RowKit Dsk
set_option linter.unusedVariables false
set_option linter.unusedSimpArgs false
theorem thingCrash_pd {w : World} {p : Nat} {S : Ds} {A : Nat → Nat} {o : Lab} {ms mh : Nat} {rv sv : Value} (h : PDx w p S A o ms mh rv sv) {k : Nat} (hk : k < S.nx) (q : Int) (hq : (Lit.int .i64 q).wf = true) (hb : (S.th k).safe.length + unitsOf (S.th k).row + (S.th k).row.length < 1073741824) (hwf : ({ S with th := upd S.th k ((S.th k).crash q) } : Ds).Wf) :
  Calls Tryz.prog 88 #[.pointer (some ⟨A k, 0, none⟩), .int .i64 q] w fun e w' => e = .returned (.tuple #[]) ∧ PDx w' p { S with th := upd S.th k ((S.th k).crash q) } A (o.ext w w' (k + 2)) ms mh rv sv ∧ Keep (fun b => o b = k + 2) w w' := by
 obtain ⟨rv1, sv1, ht⟩ := h.th k hk
 refine (thingCrash_ok q (A k) rv1 sv1 (S.th k) w ht.th0 (h.wf.th k hk) hb hq).mono ?_
 rintro e w' ⟨rfl, hm⟩
 exact ⟨rfl, h.thing hk ht hm hwf⟩
structure Cl (w wr : World) (p : Nat) (S : Ds) (A : Nat → Nat) (o : Lab) (ps : List Int) (l : Nm) (ms mh : Nat) (sv nv : Value) (k : Nat) (o' : Lab) : Prop where
 pd : PDx wr p (Ds.thinged S l (Ds.crashTh ps 0 (l.take k) S.th)) A o' ms mh (.slice none 0 0) sv
 ext : o.Ext o' w
 keep : Keep o.mine w wr
 names : wr.ownsRow 0 9 1 nv l.length (l.keys.map encStr)
 free : ∀ g, nv.ownBlock = some g → o' g = 0
theorem Cl.step {w wr w3 : World} {p : Nat} {S : Ds} {A : Nat → Nat} {o o' : Lab} {ps : List Int} {l : Nm} {ms mh : Nat} {sv nv : Value} {k : Nat} {n : By} {id : Nat} (h : Cl w wr p S A o ps l ms mh sv nv k o') (hq : l[k]? = some (n, id))
  (hP : PDx w3 p { Ds.thinged S l (Ds.crashTh ps 0 (l.take k) S.th) with th := upd (Ds.crashTh ps 0 (l.take k) S.th) id ((Ds.crashTh ps 0 (l.take k) S.th id).crash (ps.getD (k + 1) 0)) } A (o'.ext wr w3 (id + 2)) ms mh (.slice none 0 0) sv) (hK : Keep (fun b => o' b = id + 2) wr w3) : Cl w w3 p S A o ps l ms mh sv nv (k + 1) (o'.ext wr w3 (id + 2)) := by
 have hlt : k < l.length := (List.getElem?_eq_some_iff.1 hq).1
 have htk : l.take (k + 1) = l.take k ++ [(n, id)] := by rw [List.take_add_one, hq]; rfl
 have hl : (l.take k).length = k := by simp; omega
 have hc : Ds.crashTh ps 0 (l.take (k + 1)) S.th = upd (Ds.crashTh ps 0 (l.take k) S.th) id ((Ds.crashTh ps 0 (l.take k) S.th id).crash (ps.getD (k + 1) 0)) := by
  rw [htk, crashTh_snoc, hl, Nat.zero_add]
 refine ⟨by rw [hc]; exact hP, h.ext.trans (Ext_ext _ _ _ _) h.keep.size, h.keep.trans (mine_k hK) (fun i hi hlt => h.ext i hlt hi), own_keeps h.names hK (fun g hg e => by rw [h.free g hg] at e; omega), fun g hg => by rw [Lab.ext_old (h.names.lt g hg).2]; exact h.free g hg⟩
set_option maxHeartbeats 1600000 in
set_option maxRecDepth 100000 in
theorem crash_ok {w : World} {p : Nat} {S : Ds} {A : Nat → Nat} {o : Lab} {N : Nat} (h : PD w p S A o) (hB : S.Bd N) (hN : N ≤ 268435456) {ao : Option Addr} {n c : Nat} {ps : List Int} (hps : Picks w o ao n ps) (hn : n ≤ 17592186044416) :
  Calls Tryz.prog 39 #[.pointer (some ⟨p, 0, none⟩), .slice ao n c] w fun e w' => e = .returned (.tuple #[]) ∧ Aft w w' p (S.crash ps) o := by
 obtain ⟨ms, mh, rv, sv, h⟩ := h
 have hin := isNone_ok h
 have HPK : Hid (∀ v (o' : Lab) i, i ≤ 1073741824 → Picks v o' ao n ps → Calls Tryz.prog 86 #[.slice ao n c, .int .i64 (i : Nat)] v fun e w' => e = .returned (.int .i64 (ps.getD i 0)) ∧ w' = v) := fun v o' i hi hp => pickAt_ok ao n c ps i v hp.len hn hi hp.row
 have HW : Hid (∀ v, Kept [] w v → PDx v p S A o ms mh rv sv ∧ Picks v o ao n ps) := fun v hv => ⟨h.keep (Keep.ofNone (F := fun _ => False) hv) (fun _ _ h => h), hps.keep (Keep.ofNone hv)⟩
 have HB := hide hB
 have HS := hide (And.intro h.wf hps)
 have hcl : (S.crashNm ps).length ≤ N := by have := (hB.crash h.wf ps).shown (h.wf.crash ps); exact this
 have HD : Hid (∀ v, Kept [] w v → Calls Tryz.prog 85 #[.pointer (some ⟨p, 2, none⟩), .int .i64 (ps.getD 0 0)] v fun e w' => e = .returned (.tuple #[]) ∧ ∃ ms' mh', PDx w' p (Ds.thinged S (S.crashNm ps) S.th) A (o.ext v w' 1) ms' mh' (.slice none 0 0) sv ∧ Keep (· = p) v w') := fun v hv => dirCrash_pd (HW.out v hv).1 HB.out hN ps (hps.wf 0)
 have hlp := h.lp
 clear h hB hps
 go_enter Tryz.func39, Tryz.ntmps39
 go_upto_region 1 with (go_at_call 84; refine hin.mono ?_; rintro e wa ⟨rfl, rfl⟩)
 refine wp_region_late (fun w' => Kept [] wa w') (fun i => i == 5) (by kernel_rfl) ?_
 have h0 : Kept [] wa wa.drew := (Kept.refl [] wa).drew
 generalize World.drew wa = v0 at h0 ⊢
 refine wpAnyL_free (i := 0) (v := .pointer (some ⟨p, 0, none⟩)) rfl (by kernel_rfl) (by kernel_rfl) (by kernel_rfl) (fun _ _ _ h => h) (Or.inl ⟨by rfl, fun w _ => by go_simp⟩) ?_
 try simp only [z1, z2, z3, z4, z5, z6, z7, z8]
 refine wpAnyL_free (i := 1) (v := .pointer (some ⟨p, 0, none⟩)) rfl (by kernel_rfl) (by kernel_rfl) (by kernel_rfl) (fun _ _ _ h => h) (Or.inl ⟨by rfl, fun w _ => by go_simp⟩) ?_
 try simp only [z1, z2, z3, z4, z5, z6, z7, z8]
 refine wpAnyL_free (i := 2) (v := .pointer (some ⟨p, 2, none⟩)) rfl (by kernel_rfl) (by kernel_rfl) (by kernel_rfl) (fun _ _ _ h => h) (Or.inl ⟨by rfl, fun w _ => by go_simp⟩) ?_
 try simp only [z1, z2, z3, z4, z5, z6, z7, z8]
 refine wpAnyL_free (i := 3) (v := .slice ao n c) rfl (by kernel_rfl) (by kernel_rfl) (by kernel_rfl) (fun _ _ _ h => h) (Or.inl ⟨by rfl, fun w _ => by go_simp⟩) ?_
 try simp only [z1, z2, z3, z4, z5, z6, z7, z8]
 have HPK2 := HPK.out v0 o 0 (by omega) (HW.out v0 h0).2
 refine wpAnyL_one (i := 4) (by kernel_rfl) rfl (fun K hK => ?_)
 rw [if_pos (by rfl)]
 go_simp
 refine HPK2.mono ?_
 rintro e v1 ⟨rfl, hv1⟩
 obtain rfl := hv1.symm
 refine hK.out _ _ (fun _ _ => h0) ?_
 clear hK K hv1
 try simp only [z1, z2, z3, z4, z5, z6, z7, z8]
 refine wpAnyL_one (i := 5) (by kernel_rfl) rfl (fun K hK => ?_)
 rw [if_pos (by rfl)]
 go_simp
 refine (HD.out _ h0).mono ?_
 rintro e w1 ⟨rfl, hq5⟩
 refine hK.out _ _ (fun _ h => by cases h) ?_
 clear hK K
 try simp only [z1, z2, z3, z4, z5, z6, z7, z8]
 refine wpAnyL_done (by kernel_rfl) ?_ _
 obtain ⟨ms', mh', hP1, hK1⟩ := hq5
 have hsz1 := hK1.size
 have hkw : Keep o.mine wa w1 := (Keep.ofNone h0).trans (hK1.mono (fun i e _ => by subst e; show o i ≠ 0; rw [hlp]; decide)) (fun _ h _ => h)
 have hup : (S.crashNm ps).Up := (HS.out.1.crash ps).up
 have hrs := rising_ok mh' A (S.crashNm ps) w1 hP1.shown hup (by omega)
 have c4 := hP1.c4
 have hext : o.Ext (o.ext v0 w1 1) wa := fun b hb hne => by rw [Lab.ext_old (Nat.lt_of_lt_of_le hb h0.size)] at hne; exact hne
 have H1 := hide (And.intro hP1 (And.intro hkw hext))
 clear hP1 hK1 hkw hext HPK2 HD
 go_wp2_with (go_at_call 87; go_loud (refine hrs.mono ?_; rintro e w2 ⟨nv, rfl, hrow, hbl⟩; obtain ⟨no, nc, rfl, _⟩ := own_shape hrow; have HCL : Hid (Cl wa w2 p S A o ps (S.crashNm ps) ms' mh' sv (.slice no (S.crashNm ps).length nc) 0 (o.ext v0 w1 1)) := ⟨by have := H1.out.1.keep (Keep.ofNone (F := fun _ => False) (Kept.of_below hbl)) (fun _ _ h => h); simpa [Ds.crashTh] using this, H1.out.2.2, H1.out.2.1.kept (Kept.of_below hbl), ownsRow_base_a hrow (Nat.zero_le _), fun g hg => by have hge := (hrow.lt g hg).1; have hs := h0.size; have hs1 := hsz1; unfold Lab.ext; rw [if_neg (by omega), if_neg (by omega)]⟩; clear hrow hbl hrs c4))
 have hLn : (S.crashNm ps).length ≤ 268435456 := by omega
 generalize hMl : (S.crashNm ps).length = M at *
 have HM := hide hMl
 clear hMl
 go_loopw [21, 4, 5] (fun i _ _ wr => ∃ k : Nat, k ≤ M ∧ i = .int .i64 k ∧ Hid (∃ o', Cl wa wr p S A o ps (S.crashNm ps) ms' mh' sv (.slice no M nc) k o')) (fun i _ _ wr => M - (intOf i).toNat)
 case atStart => exact ⟨0, by omega, rfl, hide ⟨_, HCL.out⟩⟩
 case round =>
  clear HCL H1
  obtain ⟨k, hk, rfl, HR⟩ := hrel
  obtain ⟨o', hR⟩ := HR.out
  clear HR
  by_cases hlt : k < M
  ·have hlt2 : k < (S.crashNm ps).length := by rw [HM.out]; exact hlt
   obtain ⟨⟨nm, id⟩, hq⟩ : ∃ q, (S.crashNm ps)[k]? = some q := ⟨(S.crashNm ps)[k], List.getElem?_eq_getElem hlt2⟩
   have hmem : (nm, id) ∈ S.crashNm ps := List.mem_of_getElem? hq
   have hget := (Nm.get_some hup).2 hmem
   have hnl : nm.length ≤ 112 := isNm_len ((HS.out.1.crash ps).nm _ hmem)
   have hidm : id ∈ (S.crashNm ps).ids := Nm.mem_ids.2 ⟨nm, hmem⟩
   have hid : id < S.nx := HS.out.1.crashSub ps hidm
   have hnot : id ∉ Nm.ids ((S.crashNm ps).take k) := by
    intro hm
    have hnd := HS.out.1.crashIds ps
    have hsp : (S.crashNm ps).ids = Nm.ids ((S.crashNm ps).take k) ++ Nm.ids ((S.crashNm ps).drop k) := by
     unfold Nm.ids
     rw [← List.map_append, List.take_append_drop]
    rw [hsp] at hnd
    have hin2 : id ∈ Nm.ids ((S.crashNm ps).drop k) := by
     rw [List.drop_eq_getElem_cons hlt2]
     have : (S.crashNm ps)[k] = (nm, id) := (List.getElem?_eq_some_iff.1 hq).2
     rw [this]
     simp [Nm.ids]
    exact (List.nodup_append.1 hnd).2.2 id hm id hin2 rfl
   have hsame : Ds.crashTh ps 0 ((S.crashNm ps).take k) S.th id = S.th id := Ds.crashTh_not _ _ _ _ _ hnot
   have hil := HB.out.th id hid
   obtain ⟨g, hg⟩ : ∃ g, no = some ⟨g, 0, none⟩ := by
    rcases hR.names.2 with ⟨e, e2⟩ | ⟨g, cap, cur, e, _⟩
    ·omega
    ·injection e with e _ _; exact ⟨g, e⟩
   subst hg
   have hcell : wr.cell? ⟨g, k, none⟩ = some (encStr nm) := by
    have := hR.names.cells (g := g) rfl k (encStr nm) (by simp [Nm.keys, hq])
    rwa [add0] at this
   have HKW : Hid (∀ v, Kept [] wr v → Cl wa v p S A o ps (S.crashNm ps) ms' mh' sv (.slice (some ⟨g, 0, none⟩) M nc) k o') := fun v hv => ⟨hR.pd.keep (Keep.ofNone (F := fun _ => False) hv) (fun _ _ h => h), hR.ext, hR.keep.kept hv, own_keeps hR.names (Keep.ofNone (F := fun _ => False) hv) (fun _ _ h => h), hR.free⟩
   have HLK : Hid (∀ v, Kept [] wr v → (Instr.lookup 92 (.map (some mh')) (encStr nm) false).run Tryz.prog v = .ok (.pointer (some ⟨A id, 0, none⟩)) v) := fun v hv => by
    have := (HKW.out v hv).pd.shown.look nm (by unfold maxLen; omega)
    have hg2 : (Ds.thinged S (S.crashNm ps) (Ds.crashTh ps 0 ((S.crashNm ps).take k) S.th)).shown.get nm = some id := hget
    rw [hg2] at this
    exact this
   have c4 := hR.pd.c4
   have hwfk : ({ Ds.thinged S (S.crashNm ps) (Ds.crashTh ps 0 ((S.crashNm ps).take k) S.th) with th := upd (Ds.crashTh ps 0 ((S.crashNm ps).take k) S.th) id ((Ds.crashTh ps 0 ((S.crashNm ps).take k) S.th id).crash (ps.getD (k + 1) 0)) } : Ds).Wf := by
    have hw := thinged_wf HS.out.1 ps (k + 1)
    have htk : (S.crashNm ps).take (k + 1) = (S.crashNm ps).take k ++ [(nm, id)] := by rw [List.take_add_one, hq]; rfl
    have hl : ((S.crashNm ps).take k).length = k := by simp; omega
    rw [htk, crashTh_snoc, hl, Nat.zero_add] at hw
    exact hw
   have HTC : Hid (∀ v, Kept [] wr v → Calls Tryz.prog 88 #[.pointer (some ⟨A id, 0, none⟩), .int .i64 (ps.getD (k + 1) 0)] v fun e w3 => e = .returned (.tuple #[]) ∧ ∃ o2, Cl wa w3 p S A o ps (S.crashNm ps) ms' mh' sv (.slice (some ⟨g, 0, none⟩) M nc) (k + 1) o2) := fun v hv => by
    have hCv := HKW.out v hv
    refine (thingCrash_pd hCv.pd (k := id) hid (ps.getD (k + 1) 0) (HS.out.2.wf _) (by show (Ds.crashTh ps 0 ((S.crashNm ps).take k) S.th id).safe.length + _ + _ < _; rw [hsame]; show _ + unitsOf (Ds.crashTh ps 0 ((S.crashNm ps).take k) S.th id).row + (Ds.crashTh ps 0 ((S.crashNm ps).take k) S.th id).row.length < _; rw [hsame]; omega) hwfk).mono ?_
    rintro e w3 ⟨rfl, hP, hK⟩
    exact ⟨rfl, _, hCv.step hq hP hK⟩
   obtain ⟨j, hj⟩ : ∃ j, j = k + 1 := ⟨_, rfl⟩
   have hkj : IntKind.i64.wrap ((k : Int) + 1) = (j : Int) := by rw [IntWalk.i64_in _ (by omega)]; omega
   have hkj2 : (k : Int) + 1 = (j : Int) := by omega
   have hjj : IntKind.i64.wrap (j : Int) = (j : Int) := IntWalk.i64_in _ (by omega)
   have HPI : Hid (∀ v, Kept [] wr v → Calls Tryz.prog 86 #[.slice ao n c, .int .i64 j] v fun e wa => e = .returned (.int .i64 (ps.getD (k + 1) 0)) ∧ wa = v) := fun v hv => by
    have := HPK.out v o (k + 1) (by omega) (HS.out.2.keep (HKW.out v hv).keep)
    rw [hj]
    exact this
   clear hR hget hq hmem hidm hnot hsame hwfk HKW hj
   go_upto_region 5 with (fail)
   refine wp_region_late (fun w' => Kept [] wr w') (fun i => i == 11) (by kernel_rfl) ?_
   have h0' : Kept [] wr wr.drew := (Kept.refl [] wr).drew
   generalize World.drew wr = v0' at h0' ⊢
   refine wpAnyL_free (i := 0) (v := .pointer (some ⟨p, 0, none⟩)) rfl (by kernel_rfl) (by kernel_rfl) (by kernel_rfl) (fun _ _ _ h => h) (Or.inl ⟨by rfl, fun w _ => by go_simp⟩) ?_
   try simp only [z1, z2, z3, z4, z5, z6, z7, z8]
   refine wpAnyL_free (i := 1) (v := .pointer (some ⟨p, 0, none⟩)) rfl (by kernel_rfl) (by kernel_rfl) (by kernel_rfl) (fun _ _ _ h => h) (Or.inl ⟨by rfl, fun w _ => by go_simp⟩) ?_
   try simp only [z1, z2, z3, z4, z5, z6, z7, z8]
   refine wpAnyL_free (i := 2) (v := .pointer (some ⟨p, 2, none⟩)) rfl (by kernel_rfl) (by kernel_rfl) (by kernel_rfl) (fun _ _ _ h => h) (Or.inl ⟨by rfl, fun w _ => by go_simp⟩) ?_
   try simp only [z1, z2, z3, z4, z5, z6, z7, z8]
   refine wpAnyL_free (i := 3) (v := .pointer (some ⟨p, 4, none⟩)) rfl (by kernel_rfl) (by kernel_rfl) (by kernel_rfl) (fun _ _ _ h => h) (Or.inl ⟨by rfl, fun w _ => by go_simp⟩) ?_
   try simp only [z1, z2, z3, z4, z5, z6, z7, z8]
   refine wpAnyL_take (i := 4) (v := .map (some mh')) rfl (by kernel_rfl) (by kernel_rfl) (by kernel_rfl) (by kernel_rfl) (by kernel_rfl) (fun _ _ _ h => h) (Or.inl ⟨by rfl, fun w hSw => by have c := Kept.cellOf hSw c4 (by simp); go_simp⟩) h0' ?_
   try simp only [z1, z2, z3, z4, z5, z6, z7, z8]
   refine wpAnyL_free (i := 5) (v := encStr nm) rfl (by kernel_rfl) (by kernel_rfl) (by kernel_rfl) (fun _ _ _ h => h) (Or.inl ⟨by rfl, fun w _ => by go_simp⟩) ?_
   try simp only [z1, z2, z3, z4, z5, z6, z7, z8]
   refine wpAnyL_take (i := 6) (v := .pointer (some ⟨A id, 0, none⟩)) rfl (by kernel_rfl) (by kernel_rfl) (by kernel_rfl) (by kernel_rfl) (by kernel_rfl) (fun _ _ _ h => h) (Or.inl ⟨by rfl, fun w hSw => by have c := HLK.out _ hSw; go_simp⟩) h0' ?_
   try simp only [z1, z2, z3, z4, z5, z6, z7, z8]
   refine wpAnyL_free (i := 7) (v := .slice ao n c) rfl (by kernel_rfl) (by kernel_rfl) (by kernel_rfl) (fun _ _ _ h => h) (Or.inl ⟨by rfl, fun w _ => by go_simp⟩) ?_
   try simp only [z1, z2, z3, z4, z5, z6, z7, z8]
   refine wpAnyL_free (i := 8) (v := .int .i64 k) rfl (by kernel_rfl) (by kernel_rfl) (by kernel_rfl) (fun _ _ _ h => h) (Or.inl ⟨by rfl, fun w _ => by go_simp⟩) ?_
   try simp only [z1, z2, z3, z4, z5, z6, z7, z8]
   refine wpAnyL_free (i := 9) (v := .int .i64 j) rfl (by kernel_rfl) (by kernel_rfl) (by kernel_rfl) (fun _ _ _ h => h) (Or.inl ⟨by rfl, fun w _ => by go_simp⟩) ?_
   try simp only [z1, z2, z3, z4, z5, z6, z7, z8]
   have HPI2 := HPI.out v0' h0'
   refine wpAnyL_one (i := 10) (by kernel_rfl) rfl (fun K hK => ?_)
   rw [if_pos (by rfl)]
   go_simp
   refine HPI2.mono ?_
   rintro e v1 ⟨rfl, hv1⟩
   obtain rfl := hv1.symm
   refine hK.out _ _ (fun _ _ => h0') ?_
   clear hK K hv1
   try simp only [z1, z2, z3, z4, z5, z6, z7, z8]
   refine wpAnyL_one (i := 11) (by kernel_rfl) rfl (fun K hK => ?_)
   rw [if_pos (by rfl)]
   go_simp
   refine (HTC.out _ h0').mono ?_
   rintro e w3 ⟨rfl, hq5⟩
   refine hK.out _ _ (fun _ h => by cases h) ?_
   clear hK K HPI2
   try simp only [z1, z2, z3, z4, z5, z6, z7, z8]
   have H5 := hide hq5
   clear hq5
   refine wpAnyL_done (by kernel_rfl) ?_ _
   go_wp2
   go_roundw
   case rel => exact ⟨k + 1, by omega, by first | go_num | (rw [← hkj2]; go_num), H5⟩
   case measure => simp [intOf]; omega
  ·have hkM : k = M := by omega
   subst hkM
   have htk : (S.crashNm ps).take k = S.crashNm ps := List.take_of_length_le (by rw [HM.out]; exact Nat.le_refl _)
   have hpd := hR.pd
   rw [htk] at hpd
   have HF := hide (And.intro hpd (And.intro hR.ext hR.keep))
   have c1 := hpd.c1
   have f1 := hpd.fr 1
   have q1 := heap_setCell_same wr p 1 _ _ (.bool true) hpd.cells
   have d5 : (wr.setCell ⟨p, 1, none⟩ (.bool true)).cell? ⟨p, 5, none⟩ = some (.int .i64 S.strokes) := by rw [cell_of_row _ p 5 _ _ _ q1]; rfl
   have g5 : (wr.setCell ⟨p, 1, none⟩ (.bool true)).frozen? ⟨p, 5, none⟩ = false := frozen_of_row _ p 5 _ _ q1
   have q5 := heap_setCell_same _ p 5 _ _ (.int .i64 0) q1
   have HQ := hide q5
   have hke : Keep (· = p) wr ((wr.setCell ⟨p, 1, none⟩ (.bool true)).setCell ⟨p, 5, none⟩ (.int .i64 0)) := ((Keep.refl (· = p) wr).setCell (p := ⟨p, 1, none⟩) (fun _ => rfl) _).setCell (p := ⟨p, 5, none⟩) (fun _ => rfl) _
   clear hR hpd q1 q5
   go_upto_region 9 with (fail)
   generalize (wr.setCell ⟨p, 1, none⟩ (.bool true)).setCell ⟨p, 5, none⟩ (.int .i64 0) = w5 at HQ hke ⊢
   have e6 : w5.cell? ⟨p, 6, none⟩ = some (.int .i64 S.off) := by rw [cell_of_row _ p 6 _ _ _ HQ.out]; rfl
   have e7 : w5.cell? ⟨p, 7, none⟩ = some (.int .i64 S.from_) := by rw [cell_of_row _ p 7 _ _ _ HQ.out]; rfl
   have e8 : w5.cell? ⟨p, 8, none⟩ = some (.int .i64 S.to) := by rw [cell_of_row _ p 8 _ _ _ HQ.out]; rfl
   have e9 : w5.cell? ⟨p, 9, none⟩ = some (.int .i64 S.planned) := by rw [cell_of_row _ p 9 _ _ _ HQ.out]; rfl
   have f6 : w5.frozen? ⟨p, 6, none⟩ = false := frozen_of_row _ p 6 _ _ HQ.out
   have f7 : w5.frozen? ⟨p, 7, none⟩ = false := frozen_of_row _ p 7 _ _ HQ.out
   have f8 : w5.frozen? ⟨p, 8, none⟩ = false := frozen_of_row _ p 8 _ _ HQ.out
   have f9 : w5.frozen? ⟨p, 9, none⟩ = false := frozen_of_row _ p 9 _ _ HQ.out
   have FIN : Hid (Aft wa ((((w5.setCell ⟨p, 6, none⟩ (.int .i64 0)).setCell ⟨p, 7, none⟩ (.int .i64 0)).setCell ⟨p, 8, none⟩ (.int .i64 0)).setCell ⟨p, 9, none⟩ (.int .i64 0)) p (S.crash ps) o) := by
    have hK : Keep (· = p) wr ((((w5.setCell ⟨p, 6, none⟩ (.int .i64 0)).setCell ⟨p, 7, none⟩ (.int .i64 0)).setCell ⟨p, 8, none⟩ (.int .i64 0)).setCell ⟨p, 9, none⟩ (.int .i64 0)) := (((hke.setCell (p := ⟨p, 6, none⟩) (fun _ => rfl) _).setCell (p := ⟨p, 7, none⟩) (fun _ => rfl) _).setCell (p := ⟨p, 8, none⟩) (fun _ => rfl) _).setCell (p := ⟨p, 9, none⟩) (fun _ => rfl) _
    have q6 := heap_setCell_same w5 p 6 _ _ (.int .i64 0) HQ.out
    have q7 := heap_setCell_same _ p 7 _ _ (.int .i64 0) q6
    have q8 := heap_setCell_same _ p 8 _ _ (.int .i64 0) q7
    have q9 := heap_setCell_same _ p 9 _ _ (.int .i64 0) q8
    have hfin := HF.out.1.recell (S' := S.crash ps) hK (HS.out.1.crash ps) q9 rfl rfl rfl rfl rfl rfl (show (Lit.int .i64 0).wf = true ∧ (Lit.int .i64 0).wf = true ∧ (Lit.int .i64 0).wf = true from ⟨by decide, by decide, by decide⟩)
    exact Aft.trans HF.out.2.1 HF.out.2.2 (Aft.of hfin (mine_p HF.out.1 hK))
   clear HQ hke
   go_wp2
   first | refine bodyPost_end (results_none rfl _ _ _) rfl ?_ | refine bodyPost_ret (results_none rfl _ _ _) rfl ?_
   exact ⟨rfl, FIN.out⟩
end

end Go.Proofs.YtodihkdmneihiaaGreatDoor
