import Derived.Test.YtemlbmamcbmnjaaGreatDoorGxp
import Derived.Maps.OwnSet
namespace Go.Proofs.YtemlbmamcbmnjaaGreatDoor
section
open Go.RowKit Dsk
set_option linter.unusedVariables false
set_option linter.unusedSimpArgs false

/-- Behind a call: the disk is S' now; nothing has turned but its own blocks. -/
def Aft (w w' : World) (p : Nat) (S' : Ds) (o : Lab) : Prop := ∃ A' o', PD w' p S' A' o' ∧ o.Ext o' w ∧ Keep o.mine w w'
theorem Lab.Ext.refl (o : Lab) (w : World) : o.Ext o w := fun _ _ h => h
theorem Lab.Ext.trans {o o1 o2 : Lab} {w w1 : World} (h : o.Ext o1 w) (h1 : o1.Ext o2 w1) (hs : w.heap.size ≤ w1.heap.size) : o.Ext o2 w := fun b hb hn => h b hb (h1 b (by omega) hn)
theorem Aft.of {w w' : World} {p : Nat} {S' : Ds} {A : Nat → Nat} {o : Lab} {ms mh : Nat} {rv sv : Value} (h : PDx w' p S' A o ms mh rv sv) (hk : Keep o.mine w w') : Aft w w' p S' o := ⟨A, o, ⟨ms, mh, rv, sv, h⟩, Lab.Ext.refl _ _, hk⟩
/-- One call behind another. -/
theorem Aft.trans {w w1 w2 : World} {p : Nat} {S2 : Ds} {o o1 : Lab} (he : o.Ext o1 w) (hk : Keep o.mine w w1) (h : Aft w1 w2 p S2 o1) : Aft w w2 p S2 o := by
  obtain ⟨A2, o2, h2, e2, k2⟩ := h
  exact ⟨A2, o2, h2, he.trans e2 hk.size, hk.trans k2 (fun i hi hlt => he i hlt hi)⟩
theorem mine_p {w : World} {p : Nat} {S : Ds} {A : Nat → Nat} {o : Lab} {ms mh : Nat} {rv sv : Value} (h : PDx w p S A o ms mh rv sv) {w1 w2 : World} (hk : Keep (· = p) w1 w2) : Keep o.mine w1 w2 :=
  hk.mono (fun i e _ => by subst e; show o i ≠ 0; rw [h.lp]; decide)

section
variable {w : World} {p : Nat} {S : Ds} {A : Nat → Nat} {o : Lab} {ms mh : Nat} {rv sv : Value}

theorem PDx.thing {w' : World} {k : Nat} {rv1 sv1 : Value} {t' : Th} (h : PDx w p S A o ms mh rv sv) (hk : k < S.nx) (ht : ThAt w o (k + 2) (A k) rv1 sv1 (S.th k)) (hm : Mv w w' (A k) rv1 sv1 t') (hwf : ({ S with th := upd S.th k t' } : Ds).Wf) :
    PDx w' p { S with th := upd S.th k t' } A (o.ext w w' (k + 2)) ms mh rv sv ∧ Keep (fun b => o b = k + 2) w w' := by
  obtain ⟨h1, hK⟩ := ht.moved hm
  have n1 : ∀ b, o b = 1 → ¬ o b = k + 2 := fun b e e2 => by omega
  have old : ∀ b, b < w.heap.size → o.ext w w' (k + 2) b = o b := fun b hb => Lab.ext_old hb
  refine ⟨⟨hwf, hK.heapOf h.cells (n1 p h.lp), h.ne, h.safe.keep hK (n1 _ h.lm), h.shown.keep hK (n1 _ h.lh), own_keeps h.row hK (fun g hg => n1 g (h.lr g hg)), own_keeps h.reads hK (fun g hg => n1 g (h.ls g hg)), ?_, (old p h.lt).trans h.lp, (old _ h.safe.lt).trans h.lm, (old _ h.shown.lt).trans h.lh, fun g hg => (old g (h.row.lt g hg).2).trans (h.lr g hg), fun g hg => (old g (h.reads.lt g hg).2).trans (h.ls g hg), lim_ext h.lim hK.size, h.pl⟩, hK⟩
  intro j hj
  show Tg w' _ (j + 2) (A j) (upd S.th k t' j)
  by_cases e : j = k
  · subst e; rw [upd_same]; exact h1
  · rw [upd_other _ _ e]
    exact (h.th j hj).ext hK (fun g hg e2 => by omega)

theorem PDx.names {w' : World} {c : Nc} {rv' : Value} (h : PDx w p S A o ms mh rv sv) (hwf : (S.addName c).Wf) (hc : w'.heap[p]? = some (.cells #[.int .i64 S.room, .bool S.on, .map (some ms), rv', .map (some mh), .int .i64 S.strokes, .int .i64 S.off, .int .i64 S.from_, .int .i64 S.to, .int .i64 S.planned, sv] 98 (0, 0)))
    (hr : w'.ownsRow 0 180 1 rv' (S.row ++ [c]).length ((S.row ++ [c]).map (encNc A))) (hM : Mp w' mh A (c.apply S.shown)) (hK : Keep (fun k => k = p ∨ k = mh ∨ rv.ownBlock = some k) w w') (hl : ∀ g, rv'.ownBlock = some g → rv.ownBlock = some g ∨ w.heap.size ≤ g) :
    PDx w' p (S.addName c) A (o.ext w w' 1) ms mh rv' sv ∧ Keep (fun b => o b = 1) w w' := by
  have hF : ∀ b, (b = p ∨ b = mh ∨ rv.ownBlock = some b) → o b = 1 := fun b hb => by
    rcases hb with rfl | rfl | e
    · exact h.lp
    · exact h.lh
    · exact h.lr b e
  have old : ∀ b, b < w.heap.size → o.ext w w' 1 b = o b := fun b hb => Lab.ext_old hb
  have hms : ¬ (ms = p ∨ ms = mh ∨ rv.ownBlock = some ms) := by
    rintro (e | e | e)
    · exact h.ne_m e
    · exact h.ne e
    · exact own_nmap h.row h.safe.blk e
  refine ⟨⟨hwf, hc, h.ne, h.safe.keep hK hms, hM, hr, own_keeps h.reads hK (fun g hg => ?_), ?_, (old p h.lt).trans h.lp, (old _ h.safe.lt).trans h.lm, (old _ h.shown.lt).trans h.lh, fun g hg => ?_, fun g hg => (old g (h.reads.lt g hg).2).trans (h.ls g hg), lim_ext h.lim hK.size, h.pl⟩, hK.mono (fun b hb _ => hF b hb)⟩
  · rintro (e | e | e)
    · exact h.ne_s (by rw [hg, e])
    · exact own_nmap h.reads h.shown.blk (by rw [hg, e])
    · exact own_two h.reads h.row (by decide) g hg e
  · intro j hj
    exact (h.th j hj).ext hK (fun g hg e2 => by have := hF g e2; omega)
  · rcases hl g hg with e | e
    · exact (old g (h.row.lt g e).2).trans (h.lr g e)
    · exact Lab.ext_new e (hr.lt g hg).2

theorem encNc_congr {A A' : Nat → Nat} {row : List Nc} {n : Nat} (h : ∀ k, k < n → A' k = A k) (hr : ∀ k ∈ madeN row, k < n) : row.map (encNc A') = row.map (encNc A) := by
  refine List.map_congr_left (fun c hc => ?_)
  cases c with
  | mk nm k =>
    have : k ∈ madeN row := List.mem_flatMap.2 ⟨_, hc, by simp [Nc.made]⟩
    simp only [encNc, h k (hr k this)]
  | gv f t => rfl
  | tk nm => rfl

/-- A new thing. -/
theorem PDx.fresh (h : PDx w p S A o ms mh rv sv) (w' : World) (hw : w' = w.alloc (.cells #[encStr [], .slice none 0 0, .slice none 0 0] 108)) :
    PDx w' p { S with th := upd S.th S.nx Th.new, nx := S.nx + 1 } (upd A S.nx w.heap.size) (o.ext w w' (S.nx + 2)) ms mh rv sv ∧ Kept [] w w' := by
  have hk : Kept [] w w' := by rw [hw]; exact (Kept.refl [] w).alloc _
  have hK : Keep (fun _ => False) w w' := Keep.ofNone hk
  have old : ∀ b, b < w.heap.size → o.ext w w' (S.nx + 2) b = o b := fun b hb => Lab.ext_old hb
  have hA : ∀ k, k < S.nx → upd A S.nx w.heap.size k = A k := fun k hk => upd_other _ _ (by omega)
  have hsz : w'.heap.size = w.heap.size + 1 := by rw [hw]; simp
  have hids : ∀ l : Nm, (∀ k ∈ l.ids, k < S.nx) → ∀ k ∈ l.ids, upd A S.nx w.heap.size k = A k := fun l hl k hk => hA k (hl k hk)
  refine ⟨⟨⟨h.wf.room, h.wf.up, h.wf.shown, h.wf.ok, h.wf.nodup, fun k hk => Nat.lt_succ_of_lt (h.wf.lt k hk), h.wf.nm, h.wf.nmr, ?_⟩, hK.heapOf h.cells (fun h => h), h.ne, ?_, ?_, ?_, own_keeps h.reads hK (fun _ _ h => h), ?_, (old p h.lt).trans h.lp, (old _ h.safe.lt).trans h.lm, (old _ h.shown.lt).trans h.lh, fun g hg => (old g (h.row.lt g hg).2).trans (h.lr g hg), fun g hg => (old g (h.reads.lt g hg).2).trans (h.ls g hg), lim_ext h.lim hK.size, h.pl⟩, hk⟩
  · intro k hk'
    show (upd S.th S.nx Th.new k).ok
    have hk2 : k < S.nx + 1 := hk'
    by_cases e : k = S.nx
    · subst e; rw [upd_same]; exact Th.new_ok
    · rw [upd_other _ _ e]; exact h.wf.th k (by omega)
  · exact (h.safe.keep hK (fun h => h)).congr (hids _ (fun k hk => h.wf.lt k (List.mem_append_left _ hk)))
  · exact (h.shown.keep hK (fun h => h)).congr (hids _ (fun k hk => by obtain ⟨n, hn⟩ := Nm.mem_ids.1 hk; exact h.wf.slt hn))
  · have := own_keeps h.row hK (fun _ _ h => h)
    rw [← encNc_congr hA (fun k hk => h.wf.lt k (List.mem_append_right _ hk))] at this
    exact this
  · intro j hj
    have hj2 : j < S.nx + 1 := hj
    show Tg w' _ (j + 2) (upd A S.nx w.heap.size j) (upd S.th S.nx Th.new j)
    by_cases e : j = S.nx
    · subst e
      rw [upd_same, upd_same]
      refine ⟨.slice none 0 0, .slice none 0 0, by rw [hw]; exact (MapKept.heap_alloc w _).1, World.ownsRow_nil _ _ _ _, OwnB.nil _, Lab.ext_new (Nat.le_refl _) (by omega), by simp [Value.ownBlock], by simp [Value.ownBlock]⟩
    · rw [upd_other _ _ e, upd_other _ _ e]
      exact (h.th j (by omega)).ext hK (fun _ _ h => h)
end
end

section
open Go.RowKit Dsk
set_option linter.unusedVariables false
set_option linter.unusedSimpArgs false

theorem isNm_len {n : By} (h : isNm n = true) : n.length ≤ 112 := by unfold isNm at h; simp at h; omega

section
variable {w : World} {p : Nat} {S : Ds} {A : Nat → Nat} {o : Lab} {ms mh : Nat} {rv sv : Value}
theorem dirChange_pd (h : PDx w p S A o ms mh rv sv) {c : Nc} (hwf : (S.addName c).Wf) (hok : c.ok S.shown) (hs : ncShort c) {N : Nat} (hB : S.Bd N) (hN : N ≤ 536870912) :
    Calls Tryz.prog 85 #[.pointer (some ⟨p, 2, none⟩), encNc A c] w fun e w' => e = .returned (.tuple #[]) ∧ ∃ rv', PDx w' p (S.addName c) A (o.ext w w' 1) ms mh rv' sv ∧ Keep (fun b => o b = 1) w w' := by
  have h1 := hB.shown h.wf
  have h2 := hB.nm
  refine (dirChange_ok c p 2 mh 98 _ rv A S.shown S.row w h.cells (by decide) rfl rfl h.row h.shown hok hs (by omega) (by omega)).mono ?_
  rintro e w' ⟨rfl, rv', h1, h2, h3, h4, h5⟩
  exact ⟨rfl, rv', h.names hwf h1 h2 h3 h4 h5⟩
theorem thingChange_pd (h : PDx w p S A o ms mh rv sv) {k : Nat} (hk : k < S.nx) {c : Ch} (hp : c.place ≤ (S.th k).shown.length) {N : Nat} (hB : S.Bd N) (hN : N + c.units < 536870912) :
    Calls Tryz.prog 93 #[.pointer (some ⟨A k, 0, none⟩), encCh c] w fun e w' => e = .returned (.tuple #[]) ∧ PDx w' p (S.addByte k c) A (o.ext w w' (k + 2)) ms mh rv sv ∧ Keep (fun b => o b = k + 2) w w' := by
  obtain ⟨rv1, sv1, ht⟩ := h.th k hk
  have h1 := hB.len h.wf hk
  have h2 := hB.th k hk
  refine (thingChange_ok c (A k) rv1 sv1 (S.th k) w ht.th0 hp (by omega)).mono ?_
  rintro e w' ⟨rfl, hm⟩
  exact ⟨rfl, h.thing hk ht hm (h.wf.addByte hp hk)⟩
theorem thingSync_pd (h : PDx w p S A o ms mh rv sv) {k : Nat} (hk : k < S.nx) (hwf : ({ S with th := upd S.th k (S.th k).sync } : Ds).Wf) :
    Calls Tryz.prog 96 #[.pointer (some ⟨A k, 0, none⟩)] w fun e w' => e = .returned (.tuple #[]) ∧ PDx w' p { S with th := upd S.th k (S.th k).sync } A (o.ext w w' (k + 2)) ms mh rv sv ∧ Keep (fun b => o b = k + 2) w w' := by
  obtain ⟨rv1, sv1, ht⟩ := h.th k hk
  refine (thingSync_ok (A k) rv1 sv1 (S.th k) w ht.th0).mono ?_
  rintro e w' ⟨rfl, hm⟩
  exact ⟨rfl, h.thing hk ht hm hwf⟩
theorem mine_k {k : Nat} {w1 w2 : World} (hk : Keep (fun b => o b = k + 1) w1 w2) : Keep o.mine w1 w2 := hk.mono (fun i e _ => by show o i ≠ 0; omega)
end

set_option maxHeartbeats 1600000 in
set_option maxRecDepth 100000 in
theorem create_ok {w : World} {p : Nat} {S : Ds} {A : Nat → Nat} {o : Lab} {N : Nat} (h : PD w p S A o) (hB : S.Bd N) (hN : N ≤ 268435456) (n : By) (hn : n.length ≤ 4611686018427387904) :
    Calls Tryz.prog 38 #[.pointer (some ⟨p, 0, none⟩), encStr n] w fun e w' => e = .returned (.int .i64 (S.create n).1) ∧ Aft w w' p (S.create n).2 o := by
  obtain ⟨ms, mh, rv, sv, h⟩ := h
  have hfd := find_ok h n hn
  by_cases h0 : (S.find n).1 = 0
  · have HC : Hid (S.create n = (52, S)) := hide (by simp [Ds.create, h0])
    have hv : findV S A n = .pointer (some ⟨A (S.find n).2, 0, none⟩) := by unfold findV; rw [if_pos h0]
    rw [hv, h0] at hfd
    have HA := hide (Aft.of h (Keep.refl _ w))
    clear h hB h0 hv
    go_enter Tryz.func38, Tryz.ntmps38
    go_wp2_with (go_at_call 82; refine hfd.mono ?_; rintro e w' ⟨rfl, rfl⟩)
    go_ret
    exact ⟨by rw [HC.out]; rfl, by rw [HC.out]; exact HA.out⟩
  have hv : findV S A n = .pointer none := by unfold findV; rw [if_neg h0]
  rw [hv] at hfd
  by_cases h53 : (S.find n).1 = 53
  · obtain ⟨hon, hnm, hget⟩ := Ds.find_none h53
    rw [h53] at hfd
    have hrf := refused_ok h hB (by omega) 0 (by omega) (by omega)
    have hf0 : fullE S 0 = if S.lacks then 55 else 0 := by unfold fullE Ds.full; simp
    rw [hf0] at hrf
    have HW : Hid (∀ v, Kept [] w v → PDx v p S A o ms mh rv sv) := fun v hv => h.keep (Keep.ofNone (F := fun _ => False) hv) (fun _ _ h => h)
    have HL : Hid (∀ v, Kept [] w v → (Builtin.len_ #[92] 3 #[.map (some mh)]).run Tryz.prog v = .ok (.int .i64 S.shown.length) v) := fun v hv => by
      have := World.ownsMap.len (HW.out v hv).shown Tryz.underlying92 3
      rw [nmD_size] at this
      exact this
    have HS : Hid (∀ v r, Kept [] w v → Calls Tryz.prog 84 #[.pointer (some ⟨p, 0, none⟩), .int .i64 r] v fun e w' => e = .returned (.int .i64 (S.ans r)) ∧ PDx w' p S.tick A o ms mh rv sv ∧ Keep (· = p) v w') := fun v r hv => stroke_ok (HW.out v hv) r (by have := hB.strokes; omega) (by have := hB.planned; omega)
    have HC4 : Hid (∀ v, Kept [] w v → v.cell? ⟨p, 4, none⟩ = some (.map (some mh))) := fun v hv => (HW.out v hv).c4
    have HAF : Hid (∀ v w2, Kept [] w v → PDx w2 p S.tick A o ms mh rv sv → Keep (· = p) v w2 → Aft w w2 p S.tick o) := fun v w2 hv h2 hk => Aft.of h2 ((Keep.ofNone hv).trans (mine_p h2 hk) (fun _ h _ => h))
    have hsl := hB.shown h.wf
    have hlp := h.lp
    by_cases hfl : 256 ≤ S.shown.length
    · have HC : Hid (S.create n = (S.ans 56, S.tick)) := hide (by
        have : S.refusedCreate = 56 := by unfold Ds.refusedCreate; rw [if_pos hfl]
        simp [Ds.create, h53, this])
      clear h hB h0 hv h53 hf0 hget
      generalize (if S.lacks = true then (55 : Int) else 0) = q at hrf
      go_enter Tryz.func38, Tryz.ntmps38
      go_wp2_with (first
        | (go_at_call 82; refine hfd.mono ?_; rintro e w' ⟨rfl, rfl⟩; clear hfd)
        | (go_at_call 83; have Ha := hrf; refine hrf.mono ?_; rintro e w1 ⟨rfl, hk1⟩; have hl := HL.out w1 hk1; have c4 := HC4.out w1 hk1; clear Ha hrf)
        | (go_at_call 84; refine (HS.out w1 56 hk1).mono ?_; rintro e w2 ⟨rfl, hP2, hk2⟩; have H2 := hide (HAF.out w1 w2 hk1 hP2 hk2); clear hP2 hk2))
      go_ret
      exact ⟨by rw [HC.out]; rfl, by rw [HC.out]; exact H2.out⟩
    · cases hlk : S.lacks
      · have hr0 : S.refusedCreate = 0 := by unfold Ds.refusedCreate; rw [if_neg hfl, hlk]; rfl
        have hcr : S.create n = (S.ans 0, ({ S.tick with th := upd S.th S.nx Th.new, nx := S.nx + 1 } : Ds).addName (.mk n S.nx)) := by simp [Ds.create, h53, hr0]
        have hwfc := h.wf.create n
        rw [hcr] at hwfc
        have HC := hide hcr
        rw [hlk] at hrf
        have HD : Hid (∀ v, PDx v p S.tick A o ms mh rv sv → Calls Tryz.prog 85 #[.pointer (some ⟨p, 2, none⟩), .iface 141 (.agg #[encStr n, .pointer (some ⟨v.heap.size, 0, none⟩)])] (v.alloc (.cells #[encStr [], .slice none 0 0, .slice none 0 0] 108)) fun e w' => e = .returned (.tuple #[]) ∧ Aft v w' p (({ S.tick with th := upd S.th S.nx Th.new, nx := S.nx + 1 } : Ds).addName (.mk n S.nx)) o) := fun v hv => by
          obtain ⟨hf, hkf⟩ := hv.fresh _ rfl
          have hBt : ({ S.tick with th := upd S.th S.nx Th.new, nx := S.nx + 1 } : Ds).Bd (N + 1) := by
            have hb := hB.create n
            rw [hcr] at hb
            exact ⟨by have := hB.nm; show S.safe.length + S.row.length ≤ _; omega, hb.th, hb.reads, hb.strokes, hb.planned⟩
          have hd := dirChange_pd hf (c := .mk n S.nx) hwfc trivial (isNm_len hnm) hBt (by omega)
          simp only [encNc, upd_same, show S.tick.nx = S.nx from rfl] at hd
          refine hd.mono ?_
          rintro e w' ⟨rfl, rv', hP, hK⟩
          refine ⟨rfl, _, _, ⟨_, _, _, _, hP⟩, ?_, ?_⟩
          · exact (Ext_ext o v _ _).trans (Ext_ext _ _ _ _) hkf.size
          · refine (Keep.ofNone hkf).trans hK (fun i hi hlt => ?_)
            rw [Lab.ext_old hlt] at hi
            show o i ≠ 0
            omega
        have HPT : Hid (∀ v w2 w3, Kept [] w v → PDx w2 p S.tick A o ms mh rv sv → Keep (· = p) v w2 → Aft w2 w3 p (({ S.tick with th := upd S.th S.nx Th.new, nx := S.nx + 1 } : Ds).addName (.mk n S.nx)) o → Aft w w3 p (({ S.tick with th := upd S.th S.nx Th.new, nx := S.nx + 1 } : Ds).addName (.mk n S.nx)) o) := fun v w2 w3 hv h2 hk ha => Aft.trans (Lab.Ext.refl _ _) ((Keep.ofNone hv).trans (mine_p h2 hk) (fun _ h _ => h)) ha
        clear h hB h0 hv h53 hf0 hget hcr hwfc hr0 hlk
        go_enter Tryz.func38, Tryz.ntmps38
        go_wp2_with (first
          | (go_at_call 82; refine hfd.mono ?_; rintro e w' ⟨rfl, rfl⟩; clear hfd)
          | (go_at_call 83; have Ha := hrf; refine hrf.mono ?_; rintro e w1 ⟨rfl, hk1⟩; have hl := HL.out w1 hk1; have c4 := HC4.out w1 hk1; clear Ha hrf)
          | (go_at_call 84; have Ha := HS; refine (HS.out w1 0 hk1).mono ?_; rintro e w2 ⟨rfl, hP2, hk2⟩; have HH2 := hide (And.intro hP2 hk2); clear hP2 hk2 HS Ha)
          | (go_at_call 85; refine (HD.out w2 HH2.out.1).mono ?_; rintro e w3 ⟨rfl, ha3⟩; have H3 := hide (HPT.out w1 w2 w3 hk1 HH2.out.1 HH2.out.2 ha3); clear ha3))
        go_ret
        exact ⟨by rw [HC.out]; rfl, by rw [HC.out]; exact H3.out⟩
      · have HC : Hid (S.create n = (S.ans 55, S.tick)) := hide (by
          have : S.refusedCreate = 55 := by unfold Ds.refusedCreate; rw [if_neg hfl, hlk]; rfl
          simp [Ds.create, h53, this])
        rw [hlk] at hrf
        clear h hB h0 hv h53 hf0 hget hlk
        go_enter Tryz.func38, Tryz.ntmps38
        go_wp2_with (first
          | (go_at_call 82; refine hfd.mono ?_; rintro e w' ⟨rfl, rfl⟩; clear hfd)
          | (go_at_call 83; have Ha := hrf; refine hrf.mono ?_; rintro e w1 ⟨rfl, hk1⟩; have hl := HL.out w1 hk1; have c4 := HC4.out w1 hk1; clear Ha hrf)
          | (go_at_call 84; refine (HS.out w1 55 hk1).mono ?_; rintro e w2 ⟨rfl, hP2, hk2⟩; have H2 := hide (HAF.out w1 w2 hk1 hP2 hk2); clear hP2 hk2))
        go_ret
        exact ⟨by rw [HC.out]; rfl, by rw [HC.out]; exact H2.out⟩
  · have HC : Hid (S.create n = ((S.find n).1, S)) := hide (by simp [Ds.create, h0, h53])
    have HA := hide (Aft.of h (Keep.refl _ w))
    generalize (S.find n).1 = E at hfd h0 h53 HC
    have e0 : (E == 0) = false := by simpa using h0
    have e53 : (E != 53) = true := by simpa using h53
    clear h hB hv h0 h53
    go_enter Tryz.func38, Tryz.ntmps38
    go_wp2_with (go_at_call 82; refine hfd.mono ?_; rintro e w' ⟨rfl, rfl⟩)
    go_ret
    exact ⟨by rw [HC.out]; rfl, by rw [HC.out]; exact HA.out⟩
end

section
open Go.RowKit Dsk
set_option linter.unusedVariables false
set_option linter.unusedSimpArgs false

/-- string(b), of whatever row. -/
theorem conv_sl (W : World) (ao : Option Addr) (n c : Nat) (xs : By) (hn : xs.length = n) (h : Sl W ao xs) (h0 : ao = none → n = 0) : (convert 28 9 (.slice ao n c)).run Tryz.prog W = .ok (encStr xs) W := by
  cases ao with
  | none =>
    obtain rfl := h0 rfl
    have : xs = [] := List.eq_nil_of_length_eq_zero hn
    subst this
    exact Lib.run_convert_nil_bytes W 28 9 5 c Tryz.underlying28 Tryz.underlying5 Tryz.underlying9
  | some ad =>
    subst hn
    refine run_convert_bytes_back W 28 9 5 ad c xs Tryz.underlying28 Tryz.underlying5 Tryz.underlying9 (fun j hj => ?_)
    obtain ⟨b', off', e', hcell⟩ := h j hj
    injection e' with e'
    subst e'
    rw [show ((⟨b', off', none⟩ : Addr).add j) = ⟨b', off' + j, none⟩ from by unfold Addr.add; by_cases h : j = 0 <;> simp [h], hcell]
    simp [List.getElem?_eq_getElem hj]

/-- Bytes that are handed in: they lie in nobody's blocks. -/
structure Given (w : World) (o : Lab) (ao : Option Addr) (n : Nat) (d : By) : Prop where
  len : d.length = n
  sl : Sl w ao d
  nil : ao = none → n = 0
  out : d ≠ [] → ∀ a, ao = some a → o a.block = 0
theorem Given.keep {w w' : World} {o : Lab} {ao : Option Addr} {n : Nat} {d : By} (h : Given w o ao n d) (hk : Keep o.mine w w') : Given w' o ao n d :=
  ⟨h.len, h.sl.keep hk (fun hd a ha hm => hm (h.out hd a ha)), h.nil, h.out⟩

theorem sync_eq {S : Ds} (h : S.goesOff = false) : S.tick.goesOff = S.tick.goesOff := rfl

set_option maxHeartbeats 1600000 in
set_option maxRecDepth 100000 in
theorem write_ok {w : World} {p : Nat} {S : Ds} {A : Nat → Nat} {o : Lab} {N : Nat} {ms mh : Nat} {rv sv : Value} (h : PDx w p S A o ms mh rv sv) (hB : S.Bd N) {k a n : Nat} {d : By} {ao : Option Addr} {ac : Nat} (hN : N + n ≤ 268435456) (hk : k < S.nx) (ha : a ≤ (S.th k).shown.length) (hd : Given w o ao n d) :
    Calls Tryz.prog 90 #[.pointer (some ⟨p, 0, none⟩), .pointer (some ⟨A k, 0, none⟩), .int .i64 a, .slice ao n ac] w fun e w' => e = .returned (.int .i64 (S.write k a d).1) ∧ Aft w w' p (S.write k a d).2 o := by
  obtain ⟨rv1, sv1, ht⟩ := h.th k hk
  obtain ⟨so, sc, rfl, _⟩ := ht.shown.shape
  have i2 := ht.th0.c2
  have hlen := hB.len h.wf hk
  have hdl := hd.len
  have hrf := refused_ok h hB (by omega) ((a : Int) + n - (S.th k).shown.length) (by omega) (by omega)
  have HW : Hid (∀ v, Kept [] w v → PDx v p S A o ms mh rv sv ∧ Given v o ao n d) := fun v hv => ⟨h.keep (Keep.ofNone (F := fun _ => False) hv) (fun _ _ h => h), hd.keep (Keep.ofNone hv)⟩
  have HS : Hid (∀ v r, Kept [] w v → Calls Tryz.prog 84 #[.pointer (some ⟨p, 0, none⟩), .int .i64 r] v fun e w' => e = .returned (.int .i64 (S.ans r)) ∧ PDx w' p S.tick A o ms mh rv sv ∧ Keep (· = p) v w') := fun v r hv => stroke_ok (HW.out v hv).1 r (by have := hB.strokes; omega) (by have := hB.planned; omega)
  have HAF : Hid (∀ v w2, Kept [] w v → PDx w2 p S.tick A o ms mh rv sv → Keep (· = p) v w2 → Keep o.mine w w2) := fun v w2 hv h2 hk => (Keep.ofNone hv).trans (mine_p h2 hk) (fun _ h _ => h)
  have hA : ((a : Int) + n - (S.th k).shown.length) = ((a : Int) + d.length - (S.th k).shown.length) := by rw [hdl]
  rw [hA] at hrf
  obtain ⟨M, hM⟩ : ∃ M : Int, M = (a : Int) + d.length - (S.th k).shown.length := ⟨_, rfl⟩
  have hM2 : (a : Int) + (n : Int) - (List.length (S.th k).shown : Int) = M := by rw [hM, hdl]
  rw [← hM] at hrf
  have hb1 : a ≤ 268435456 := by omega
  cases hfl : S.full M
  · have HC : Hid (S.write k a d = (S.ans 0, S.tick.addByte k (.wr a d))) := hide (by unfold Ds.write; rw [← hM, hfl]; rfl)
    have hf0 : fullE S M = 0 := by unfold fullE; rw [hfl]; rfl
    rw [hf0] at hrf
    have HD : Hid (∀ v, PDx v p S.tick A o ms mh rv sv → Calls Tryz.prog 93 #[.pointer (some ⟨A k, 0, none⟩), .iface 205 (.agg #[.int .i64 a, encStr d])] v fun e w' => e = .returned (.tuple #[]) ∧ Aft v w' p (S.tick.addByte k (.wr a d)) o) := fun v hv => by
      refine (thingChange_pd hv (k := k) hk (c := .wr a d) ha hB.tick (by simp only [Ch.units]; omega)).mono ?_
      rintro e w' ⟨rfl, hP, hK⟩
      exact ⟨rfl, A, _, ⟨_, _, _, _, hP⟩, Ext_ext _ _ _ _, mine_k hK⟩
    have HCV : Hid (∀ v w2, Kept [] w v → PDx w2 p S.tick A o ms mh rv sv → Keep (· = p) v w2 → (convert 28 9 (.slice ao n ac)).run Tryz.prog w2 = .ok (encStr d) w2) := fun v w2 hv h2 hk => by
      have hg := hd.keep (HAF.out v w2 hv h2 hk)
      exact conv_sl w2 ao n ac d hg.len hg.sl hg.nil
    clear h hB hd ht hfl hf0 hM hA
    go_enter Tryz.func90, Tryz.ntmps90
    generalize (S.th k).shown.length = m at i2 hM2 ha hlen
    go_wp2_with (first
      | (go_at_call 83; have Ha := hrf; refine hrf.mono ?_; rintro e w1 ⟨rfl, hk1⟩; clear Ha hrf)
      | (go_at_call 84; have Ha := HS; refine (HS.out w1 0 hk1).mono ?_; rintro e w2 ⟨rfl, hP2, hk2⟩; have HH2 := hide (And.intro hP2 hk2); have hcv := HCV.out w1 w2 hk1 hP2 hk2; clear hP2 hk2 HS Ha)
      | (go_at_call 93; refine (HD.out w2 HH2.out.1).mono ?_; rintro e w3 ⟨rfl, ha3⟩; have H3 := hide (Aft.trans (Lab.Ext.refl _ _) (HAF.out w1 w2 hk1 HH2.out.1 HH2.out.2) ha3); clear ha3))
    go_ret
    exact ⟨by rw [HC.out]; rfl, by rw [HC.out]; exact H3.out⟩
  · have HC : Hid (S.write k a d = (S.ans 55, S.tick)) := hide (by unfold Ds.write; rw [← hM, hfl]; rfl)
    have hf0 : fullE S M = 55 := by unfold fullE; rw [hfl]; rfl
    rw [hf0] at hrf
    clear h hB hd ht hfl hf0 hM hA
    go_enter Tryz.func90, Tryz.ntmps90
    generalize (S.th k).shown.length = m at i2 hM2 ha hlen
    go_wp2_with (first
      | (go_at_call 83; have Ha := hrf; refine hrf.mono ?_; rintro e w1 ⟨rfl, hk1⟩; clear Ha hrf)
      | (go_at_call 84; have Ha := HS; refine (HS.out w1 55 hk1).mono ?_; rintro e w2 ⟨rfl, hP2, hk2⟩; have H2 := hide (Aft.of hP2 (HAF.out w1 w2 hk1 hP2 hk2)); clear hP2 hk2 HS Ha))
    go_ret
    exact ⟨by rw [HC.out]; rfl, by rw [HC.out]; exact H2.out⟩
end

section
open Go.RowKit Dsk
set_option linter.unusedVariables false
set_option linter.unusedSimpArgs false

set_option maxHeartbeats 1600000 in
set_option maxRecDepth 100000 in
theorem append_ok {w : World} {p : Nat} {S : Ds} {A : Nat → Nat} {o : Lab} {N : Nat} (h : PD w p S A o) (hB : S.Bd N) {n : Nat} {d : By} {ao : Option Addr} {ac : Nat} (hN : N + n ≤ 268435456) (nm : By) (hnl : nm.length ≤ 4611686018427387904) (hd : Given w o ao n d) :
    Calls Tryz.prog 40 #[.pointer (some ⟨p, 0, none⟩), encStr nm, .slice ao n ac] w fun e w' => e = .returned (.int .i64 (S.append nm d).1) ∧ Aft w w' p (S.append nm d).2 o := by
  obtain ⟨ms, mh, rv, sv, h⟩ := h
  have hfd := find_ok h nm hnl
  by_cases h0 : (S.find nm).1 = 0
  · obtain ⟨hon, hnm, hmem, hlt⟩ := Ds.find_ok h.wf h0
    have hv : findV S A nm = .pointer (some ⟨A (S.find nm).2, 0, none⟩) := by unfold findV; rw [if_pos h0]
    have HC : Hid (S.append nm d = S.write (S.find nm).2 (S.th (S.find nm).2).shown.length d) := hide (by simp [Ds.append, h0])
    rw [hv, h0] at hfd
    generalize (S.find nm).2 = k at hfd HC hlt
    have hw := write_ok h hB (ac := ac) hN hlt (Nat.le_refl _) hd
    obtain ⟨rv1, sv1, ht⟩ := h.th k hlt
    obtain ⟨so, sc, rfl, _⟩ := ht.shown.shape
    have i2 := ht.th0.c2
    clear h hB hd ht h0 hv hmem hnm hon
    go_enter Tryz.func40, Tryz.ntmps40
    go_wp2_with (first
      | (go_at_call 82; refine hfd.mono ?_; rintro e w' ⟨rfl, rfl⟩; clear hfd)
      | (go_at_call 90; refine hw.mono ?_; rintro e w1 ⟨rfl, ha⟩; have H1 := hide ha; clear ha))
    go_ret
    exact ⟨by rw [HC.out]; rfl, by rw [HC.out]; exact H1.out⟩
  · have hv : findV S A nm = .pointer none := by unfold findV; rw [if_neg h0]
    have HC : Hid (S.append nm d = ((S.find nm).1, S)) := hide (by simp [Ds.append, h0])
    have HA := hide (Aft.of h (Keep.refl _ w))
    rw [hv] at hfd
    generalize (S.find nm).1 = E at hfd h0 HC
    have e0 : (E != 0) = true := by simpa using h0
    clear h hB hd h0 hv
    go_enter Tryz.func40, Tryz.ntmps40
    go_wp2_with (go_at_call 82; refine hfd.mono ?_; rintro e w' ⟨rfl, rfl⟩; clear hfd)
    go_ret
    exact ⟨by rw [HC.out]; rfl, by rw [HC.out]; exact HA.out⟩

set_option maxHeartbeats 1600000 in
set_option maxRecDepth 100000 in
theorem remove_ok {w : World} {p : Nat} {S : Ds} {A : Nat → Nat} {o : Lab} {N : Nat} (h : PD w p S A o) (hB : S.Bd N) (hN : N ≤ 268435456) (nm : By) (hnl : nm.length ≤ 4611686018427387904) :
    Calls Tryz.prog 46 #[.pointer (some ⟨p, 0, none⟩), encStr nm] w fun e w' => e = .returned (.int .i64 (S.remove nm).1) ∧ Aft w w' p (S.remove nm).2 o := by
  obtain ⟨ms, mh, rv, sv, h⟩ := h
  have hfd := find_ok h nm hnl
  by_cases h0 : (S.find nm).1 = 0
  · obtain ⟨hon, hnm, hmem, hlt⟩ := Ds.find_ok h.wf h0
    have hv : findV S A nm = .pointer (some ⟨A (S.find nm).2, 0, none⟩) := by unfold findV; rw [if_pos h0]
    have HC : Hid (S.remove nm = (S.ans 0, S.tick.addName (.tk nm))) := hide (by simp [Ds.remove, h0])
    rw [hv, h0] at hfd
    have hwf : (S.addName (.tk nm)).Wf := h.wf.addName trivial (by simp [Nc.made]) (by simp [Nc.made]) hnm
    have hdc := dirChange_pd h (c := .tk nm) hwf trivial (isNm_len hnm) hB (by omega)
    simp only [encNc] at hdc
    have HS : Hid (∀ v rv', PDx v p (S.addName (.tk nm)) A (o.ext w v 1) ms mh rv' sv → Keep (fun b => o b = 1) w v → Calls Tryz.prog 84 #[.pointer (some ⟨p, 0, none⟩), .int .i64 0] v fun e w' => e = .returned (.int .i64 (S.ans 0)) ∧ Aft w w' p (S.tick.addName (.tk nm)) o) := fun v rv' hv hk => by
      refine (stroke_ok hv 0 (by have := hB.strokes; show S.strokes < _; omega) (by have := hB.planned; show S.planned < _; omega)).mono ?_
      rintro e w' ⟨rfl, hP, hK⟩
      exact ⟨rfl, Aft.trans (Ext_ext o w v 1) (mine_k hk) (Aft.of hP (mine_p hP hK))⟩
    generalize A (S.find nm).2 = Ak at hfd
    clear h hB h0 hv hmem hnm hon hwf hlt
    go_enter Tryz.func46, Tryz.ntmps46
    go_wp2_with (first
      | (go_at_call 82; refine hfd.mono ?_; rintro e w' ⟨rfl, rfl⟩; clear hfd)
      | (go_at_call 85; have Ha := hdc; refine hdc.mono ?_; rintro e w1 ⟨rfl, rv', hP1, hK1⟩; have hst := HS.out w1 rv' hP1 hK1; clear Ha hdc hP1 hK1)
      | (go_at_call 84; refine hst.mono ?_; rintro e w2 ⟨rfl, ha⟩; have H2 := hide ha; clear ha))
    go_ret
    exact ⟨by rw [HC.out]; rfl, by rw [HC.out]; exact H2.out⟩
  · have hv : findV S A nm = .pointer none := by unfold findV; rw [if_neg h0]
    have HC : Hid (S.remove nm = ((S.find nm).1, S)) := hide (by simp [Ds.remove, h0])
    have HA := hide (Aft.of h (Keep.refl _ w))
    rw [hv] at hfd
    generalize (S.find nm).1 = E at hfd h0 HC
    have e0 : (E != 0) = true := by simpa using h0
    clear h hB h0 hv
    go_enter Tryz.func46, Tryz.ntmps46
    go_wp2_with (go_at_call 82; refine hfd.mono ?_; rintro e w' ⟨rfl, rfl⟩; clear hfd)
    go_ret
    exact ⟨by rw [HC.out]; rfl, by rw [HC.out]; exact HA.out⟩

set_option maxHeartbeats 1600000 in
set_option maxRecDepth 100000 in
theorem rename_ok {w : World} {p : Nat} {S : Ds} {A : Nat → Nat} {o : Lab} {N : Nat} (h : PD w p S A o) (hB : S.Bd N) (hN : N ≤ 268435456) (f t : By) (hfl : f.length ≤ 4611686018427387904) (htl : t.length ≤ 4611686018427387904) :
    Calls Tryz.prog 44 #[.pointer (some ⟨p, 0, none⟩), encStr f, encStr t] w fun e w' => e = .returned (.int .i64 (S.rename f t).1) ∧ Aft w w' p (S.rename f t).2 o := by
  obtain ⟨ms, mh, rv, sv, h⟩ := h
  have hoff := off_ok h
  have hisn := isName_ok t w htl
  have hfd := find_ok h f hfl
  have HA := hide (Aft.of h (Keep.refl _ w))
  by_cases hon : S.on = true
  · rw [hon] at hoff
    by_cases hnt : isNm t = true
    · rw [hnt] at hisn
      by_cases h0 : (S.find f).1 = 0
      · obtain ⟨_, hnm, hmem, hlt⟩ := Ds.find_ok h.wf h0
        have hv : findV S A f = .pointer (some ⟨A (S.find f).2, 0, none⟩) := by unfold findV; rw [if_pos h0]
        rw [hv, h0] at hfd
        generalize A (S.find f).2 = Ak at hfd
        by_cases hft : f = t
        · have HC : Hid (S.rename f t = (S.ans 0, S.tick)) := hide (by simp [Ds.rename, hon, hnt, h0, hft]; intro h1; rw [hft] at h0; exact absurd h0 h1)
          have hst := stroke_ok h 0 (by have := hB.strokes; omega) (by have := hB.planned; omega)
          have HAF : Hid (∀ w2, PDx w2 p S.tick A o ms mh rv sv → Keep (· = p) w w2 → Aft w w2 p S.tick o) := fun w2 h2 hk => Aft.of h2 (mine_p h2 hk)
          have hne : (f == t) = true := by simpa using hft
          clear h hB h0 hv hmem hnm hlt hft
          go_enter Tryz.func44, Tryz.ntmps44
          go_wp2_with (first
            | (go_at_call 25; refine hoff.mono ?_; rintro e w' ⟨rfl, rfl⟩)
            | (go_at_call 95; refine hisn.mono ?_; rintro e w' ⟨rfl, rfl⟩)
            | (go_at_call 82; refine hfd.mono ?_; rintro e w' ⟨rfl, rfl⟩)
            | (go_at_call 84; refine hst.mono ?_; rintro e w2 ⟨rfl, hP2, hk2⟩; have H2 := hide (HAF.out w2 hP2 hk2); clear hP2 hk2))
          go_ret
          exact ⟨by rw [HC.out]; rfl, by rw [HC.out]; exact H2.out⟩
        · have HC : Hid (S.rename f t = (S.ans 0, S.tick.addName (.gv f t))) := hide (by simp [Ds.rename, hon, hnt, h0, hft])
          have hok : (Nc.gv f t).ok S.shown := ⟨hft, _, (Nm.get_some h.wf.sup).2 hmem⟩
          have hwf : (S.addName (.gv f t)).Wf := h.wf.addName hok (by simp [Nc.made]) (by simp [Nc.made]) ⟨hnm, hnt⟩
          have hdc := dirChange_pd h (c := .gv f t) hwf hok ⟨isNm_len hnm, isNm_len hnt⟩ hB (by omega)
          simp only [encNc] at hdc
          have HS : Hid (∀ v rv', PDx v p (S.addName (.gv f t)) A (o.ext w v 1) ms mh rv' sv → Keep (fun b => o b = 1) w v → Calls Tryz.prog 84 #[.pointer (some ⟨p, 0, none⟩), .int .i64 0] v fun e w' => e = .returned (.int .i64 (S.ans 0)) ∧ Aft w w' p (S.tick.addName (.gv f t)) o) := fun v rv' hv hk => by
            refine (stroke_ok hv 0 (by have := hB.strokes; show S.strokes < _; omega) (by have := hB.planned; show S.planned < _; omega)).mono ?_
            rintro e w' ⟨rfl, hP, hK⟩
            exact ⟨rfl, Aft.trans (Ext_ext o w v 1) (mine_k hk) (Aft.of hP (mine_p hP hK))⟩
          have hne : (f == t) = false := by simpa using hft
          clear h hB h0 hv hmem hnm hlt hft hok hwf
          go_enter Tryz.func44, Tryz.ntmps44
          go_wp2_with (first
            | (go_at_call 25; refine hoff.mono ?_; rintro e w' ⟨rfl, rfl⟩)
            | (go_at_call 95; refine hisn.mono ?_; rintro e w' ⟨rfl, rfl⟩)
            | (go_at_call 82; refine hfd.mono ?_; rintro e w' ⟨rfl, rfl⟩)
            | (go_at_call 85; have Ha := hdc; refine hdc.mono ?_; rintro e w1 ⟨rfl, rv', hP1, hK1⟩; have hst := HS.out w1 rv' hP1 hK1; clear Ha hdc hP1 hK1)
            | (go_at_call 84; refine hst.mono ?_; rintro e w2 ⟨rfl, ha⟩; have H2 := hide ha; clear ha))
          go_ret
          exact ⟨by rw [HC.out]; rfl, by rw [HC.out]; exact H2.out⟩
      · have hv : findV S A f = .pointer none := by unfold findV; rw [if_neg h0]
        have HC : Hid (S.rename f t = ((S.find f).1, S)) := hide (by simp [Ds.rename, hon, hnt, h0])
        rw [hv] at hfd
        generalize (S.find f).1 = E at hfd h0 HC
        have e0 : (E != 0) = true := by simpa using h0
        clear h hB h0 hv
        go_enter Tryz.func44, Tryz.ntmps44
        go_wp2_with (first
          | (go_at_call 25; refine hoff.mono ?_; rintro e w' ⟨rfl, rfl⟩)
          | (go_at_call 95; refine hisn.mono ?_; rintro e w' ⟨rfl, rfl⟩)
          | (go_at_call 82; refine hfd.mono ?_; rintro e w' ⟨rfl, rfl⟩))
        go_ret
        exact ⟨by rw [HC.out]; rfl, by rw [HC.out]; exact HA.out⟩
    · simp only [Bool.not_eq_true] at hnt
      rw [hnt] at hisn
      have HC : Hid (S.rename f t = (51, S)) := hide (by simp [Ds.rename, hon, hnt])
      clear h hB hfd
      go_enter Tryz.func44, Tryz.ntmps44
      go_wp2_with (first
        | (go_at_call 25; refine hoff.mono ?_; rintro e w' ⟨rfl, rfl⟩)
        | (go_at_call 95; refine hisn.mono ?_; rintro e w' ⟨rfl, rfl⟩))
      go_ret
      exact ⟨by rw [HC.out]; rfl, by rw [HC.out]; exact HA.out⟩
  · simp only [Bool.not_eq_true] at hon
    rw [hon] at hoff
    have HC : Hid (S.rename f t = (50, S)) := hide (by simp [Ds.rename, hon])
    clear h hB hfd hisn
    go_enter Tryz.func44, Tryz.ntmps44
    go_wp2_with (go_at_call 25; refine hoff.mono ?_; rintro e w' ⟨rfl, rfl⟩)
    go_ret
    exact ⟨by rw [HC.out]; rfl, by rw [HC.out]; exact HA.out⟩
end

end Go.Proofs.YtemlbmamcbmnjaaGreatDoor
