/-
  change and sync of names and things, at a disk. Contracts: Create, Remove, Rename.
-/
import Derived.Test.YtmoaaimjgdbelaaGreatHa
import Derived.Maps.OwnSet
namespace Go.Proofs.YtmoaaimjgdbelaaGreat
open Go.RowKit Dsk
set_option linter.unusedVariables false
set_option linter.unusedSimpArgs false

theorem isNm_len {n : By} (h : isNm n = true) : n.length ≤ 112 := by unfold isNm at h; simp at h; omega

section
variable {w : World} {p : Nat} {S : Ds} {A : Nat → Nat} {o : Lab} {ms mh : Nat} {rv sv : Value}
theorem dirChange_pd (h : PDx w p S A o ms mh rv sv) {c : Nc} (hwf : (S.addName c).Wf) (hok : c.ok S.shown) (hs : ncShort c) {N : Nat} (hB : S.Bd N) (hN : N ≤ 536870912) :
    Calls Tryz.prog 74 #[.pointer (some ⟨p, 2, none⟩), encNc A c] w fun e w' => e = .returned (.tuple #[]) ∧ ∃ rv', PDx w' p (S.addName c) A (o.ext w w' 1) ms mh rv' sv ∧ Keep (fun b => o b = 1) w w' := by
  have h1 := hB.shown h.wf
  have h2 := hB.nm
  refine (dirChange_ok c p 2 mh 70 _ rv A S.shown S.row w h.cells (by decide) rfl rfl h.row h.shown hok hs (by omega) (by omega)).mono ?_
  rintro e w' ⟨rfl, rv', h1, h2, h3, h4, h5⟩
  exact ⟨rfl, rv', h.names hwf h1 h2 h3 h4 h5⟩
theorem thingChange_pd (h : PDx w p S A o ms mh rv sv) {k : Nat} (hk : k < S.nx) {c : Ch} (hp : c.place ≤ (S.th k).shown.length) {N : Nat} (hB : S.Bd N) (hN : N + c.units < 536870912) :
    Calls Tryz.prog 95 #[.pointer (some ⟨A k, 0, none⟩), encCh c] w fun e w' => e = .returned (.tuple #[]) ∧ PDx w' p (S.addByte k c) A (o.ext w w' (k + 2)) ms mh rv sv ∧ Keep (fun b => o b = k + 2) w w' := by
  obtain ⟨rv1, sv1, ht⟩ := h.th k hk
  have h1 := hB.len h.wf hk
  have h2 := hB.th k hk
  refine (thingChange_ok c (A k) rv1 sv1 (S.th k) w ht.th0 hp (by omega)).mono ?_
  rintro e w' ⟨rfl, hm⟩
  exact ⟨rfl, h.thing hk ht hm (h.wf.addByte hp hk)⟩
theorem thingSync_pd (h : PDx w p S A o ms mh rv sv) {k : Nat} (hk : k < S.nx) (hwf : ({ S with th := upd S.th k (S.th k).sync } : Ds).Wf) :
    Calls Tryz.prog 26 #[.pointer (some ⟨A k, 0, none⟩)] w fun e w' => e = .returned (.tuple #[]) ∧ PDx w' p { S with th := upd S.th k (S.th k).sync } A (o.ext w w' (k + 2)) ms mh rv sv ∧ Keep (fun b => o b = k + 2) w w' := by
  obtain ⟨rv1, sv1, ht⟩ := h.th k hk
  refine (thingSync_ok (A k) rv1 sv1 (S.th k) w ht.th0).mono ?_
  rintro e w' ⟨rfl, hm⟩
  exact ⟨rfl, h.thing hk ht hm hwf⟩
theorem mine_k {k : Nat} {w1 w2 : World} (hk : Keep (fun b => o b = k + 1) w1 w2) : Keep o.mine w1 w2 := hk.mono (fun i e _ => by show o i ≠ 0; omega)
end

set_option maxHeartbeats 1600000 in
set_option maxRecDepth 100000 in
theorem create_ok {w : World} {p : Nat} {S : Ds} {A : Nat → Nat} {o : Lab} {N : Nat} (h : PD w p S A o) (hB : S.Bd N) (hN : N ≤ 268435456) (n : By) (hn : n.length ≤ 4611686018427387904) :
    Calls Tryz.prog 17 #[.pointer (some ⟨p, 0, none⟩), encStr n] w fun e w' => e = .returned (.int .i64 (S.create n).1) ∧ Aft w w' p (S.create n).2 o := by
  obtain ⟨ms, mh, rv, sv, h⟩ := h
  have hfd := find_ok h n hn
  by_cases h0 : (S.find n).1 = 0
  · have HC : Hid (S.create n = (52, S)) := hide (by simp [Ds.create, h0])
    have hv : findV S A n = .pointer (some ⟨A (S.find n).2, 0, none⟩) := by unfold findV; rw [if_pos h0]
    rw [hv, h0] at hfd
    have HA := hide (Aft.of h (Keep.refl _ w))
    clear h hB h0 hv
    go_enter Tryz.func17, Tryz.ntmps17
    go_wp2_with (go_at_call 71; refine hfd.mono ?_; rintro e w' ⟨rfl, rfl⟩)
    go_ret
    exact ⟨by rw [HC.out]; rfl, by rw [HC.out]; exact HA.out⟩
  have hv : findV S A n = .pointer none := by unfold findV; rw [if_neg h0]
  rw [hv] at hfd
  by_cases h53 : (S.find n).1 = 53
  · obtain ⟨hon, hnm, hget⟩ := Ds.find_none h53
    rw [h53] at hfd
    have hrf := refused_ok h hB (by omega) 0 (by omega) (by omega)
    have hf0 : fullE S 0 = if S.lacks then 55 else 0 := by unfold fullE Ds.full; simp
    rw [hf0] at hrf
    have HW : Hid (∀ v, Kept [] w v → PDx v p S A o ms mh rv sv) := fun v hv => h.keep (Keep.ofNone (F := fun _ => False) hv) (fun _ _ h => h)
    have HL : Hid (∀ v, Kept [] w v → (Builtin.len_ #[64] 3 #[.map (some mh)]).run Tryz.prog v = .ok (.int .i64 S.shown.length) v) := fun v hv => by
      have := World.ownsMap.len (HW.out v hv).shown Tryz.underlying64 3
      rw [nmD_size] at this
      exact this
    have HS : Hid (∀ v r, Kept [] w v → Calls Tryz.prog 73 #[.pointer (some ⟨p, 0, none⟩), .int .i64 r] v fun e w' => e = .returned (.int .i64 (S.ans r)) ∧ PDx w' p S.tick A o ms mh rv sv ∧ Keep (· = p) v w') := fun v r hv => stroke_ok (HW.out v hv) r (by have := hB.strokes; omega) (by have := hB.planned; omega)
    have HC4 : Hid (∀ v, Kept [] w v → v.cell? ⟨p, 4, none⟩ = some (.map (some mh))) := fun v hv => (HW.out v hv).c4
    have HAF : Hid (∀ v w2, Kept [] w v → PDx w2 p S.tick A o ms mh rv sv → Keep (· = p) v w2 → Aft w w2 p S.tick o) := fun v w2 hv h2 hk => Aft.of h2 ((Keep.ofNone hv).trans (mine_p h2 hk) (fun _ h _ => h))
    have hsl := hB.shown h.wf
    have hlp := h.lp
    by_cases hfl : 256 ≤ S.shown.length
    · have HC : Hid (S.create n = (S.ans 56, S.tick)) := hide (by
        have : S.refusedCreate = 56 := by unfold Ds.refusedCreate; rw [if_pos hfl]
        simp [Ds.create, h53, this])
      clear h hB h0 hv h53 hf0 hget
      generalize (if S.lacks = true then (55 : Int) else 0) = q at hrf
      go_enter Tryz.func17, Tryz.ntmps17
      go_wp2_with (first
        | (go_at_call 71; refine hfd.mono ?_; rintro e w' ⟨rfl, rfl⟩; clear hfd)
        | (go_at_call 72; have Ha := hrf; refine hrf.mono ?_; rintro e w1 ⟨rfl, hk1⟩; have hl := HL.out w1 hk1; have c4 := HC4.out w1 hk1; clear Ha hrf)
        | (go_at_call 73; refine (HS.out w1 56 hk1).mono ?_; rintro e w2 ⟨rfl, hP2, hk2⟩; have H2 := hide (HAF.out w1 w2 hk1 hP2 hk2); clear hP2 hk2))
      go_ret
      exact ⟨by rw [HC.out]; rfl, by rw [HC.out]; exact H2.out⟩
    · cases hlk : S.lacks
      · have hr0 : S.refusedCreate = 0 := by unfold Ds.refusedCreate; rw [if_neg hfl, hlk]; rfl
        have hcr : S.create n = (S.ans 0, ({ S.tick with th := upd S.th S.nx Th.new, nx := S.nx + 1 } : Ds).addName (.mk n S.nx)) := by simp [Ds.create, h53, hr0]
        have hwfc := h.wf.create n
        rw [hcr] at hwfc
        have HC := hide hcr
        rw [hlk] at hrf
        have HD : Hid (∀ v, PDx v p S.tick A o ms mh rv sv → Calls Tryz.prog 74 #[.pointer (some ⟨p, 2, none⟩), .iface 122 (.agg #[encStr n, .pointer (some ⟨v.heap.size, 0, none⟩)])] (v.alloc (.cells #[encStr [], .slice none 0 0, .slice none 0 0] 81)) fun e w' => e = .returned (.tuple #[]) ∧ Aft v w' p (({ S.tick with th := upd S.th S.nx Th.new, nx := S.nx + 1 } : Ds).addName (.mk n S.nx)) o) := fun v hv => by
          obtain ⟨hf, hkf⟩ := hv.fresh _ rfl
          have hBt : ({ S.tick with th := upd S.th S.nx Th.new, nx := S.nx + 1 } : Ds).Bd (N + 1) := by
            have hb := hB.create n
            rw [hcr] at hb
            exact ⟨by have := hB.nm; show S.safe.length + S.row.length ≤ _; omega, hb.th, hb.reads, hb.strokes, hb.planned⟩
          have hd := dirChange_pd hf (c := .mk n S.nx) hwfc trivial (isNm_len hnm) hBt (by omega)
          simp only [encNc, upd_same, show S.tick.nx = S.nx from rfl] at hd
          refine hd.mono ?_
          rintro e w' ⟨rfl, rv', hP, hK⟩
          refine ⟨rfl, _, _, ⟨_, _, _, _, hP⟩, ?_, ?_⟩
          · exact (Ext_ext o v _ _).trans (Ext_ext _ _ _ _) hkf.size
          · refine (Keep.ofNone hkf).trans hK (fun i hi hlt => ?_)
            rw [Lab.ext_old hlt] at hi
            show o i ≠ 0
            omega
        have HPT : Hid (∀ v w2 w3, Kept [] w v → PDx w2 p S.tick A o ms mh rv sv → Keep (· = p) v w2 → Aft w2 w3 p (({ S.tick with th := upd S.th S.nx Th.new, nx := S.nx + 1 } : Ds).addName (.mk n S.nx)) o → Aft w w3 p (({ S.tick with th := upd S.th S.nx Th.new, nx := S.nx + 1 } : Ds).addName (.mk n S.nx)) o) := fun v w2 w3 hv h2 hk ha => Aft.trans (Lab.Ext.refl _ _) ((Keep.ofNone hv).trans (mine_p h2 hk) (fun _ h _ => h)) ha
        clear h hB h0 hv h53 hf0 hget hcr hwfc hr0 hlk
        go_enter Tryz.func17, Tryz.ntmps17
        go_wp2_with (first
          | (go_at_call 71; refine hfd.mono ?_; rintro e w' ⟨rfl, rfl⟩; clear hfd)
          | (go_at_call 72; have Ha := hrf; refine hrf.mono ?_; rintro e w1 ⟨rfl, hk1⟩; have hl := HL.out w1 hk1; have c4 := HC4.out w1 hk1; clear Ha hrf)
          | (go_at_call 73; have Ha := HS; refine (HS.out w1 0 hk1).mono ?_; rintro e w2 ⟨rfl, hP2, hk2⟩; have HH2 := hide (And.intro hP2 hk2); clear hP2 hk2 HS Ha)
          | (go_at_call 74; refine (HD.out w2 HH2.out.1).mono ?_; rintro e w3 ⟨rfl, ha3⟩; have H3 := hide (HPT.out w1 w2 w3 hk1 HH2.out.1 HH2.out.2 ha3); clear ha3))
        go_ret
        exact ⟨by rw [HC.out]; rfl, by rw [HC.out]; exact H3.out⟩
      · have HC : Hid (S.create n = (S.ans 55, S.tick)) := hide (by
          have : S.refusedCreate = 55 := by unfold Ds.refusedCreate; rw [if_neg hfl, hlk]; rfl
          simp [Ds.create, h53, this])
        rw [hlk] at hrf
        clear h hB h0 hv h53 hf0 hget hlk
        go_enter Tryz.func17, Tryz.ntmps17
        go_wp2_with (first
          | (go_at_call 71; refine hfd.mono ?_; rintro e w' ⟨rfl, rfl⟩; clear hfd)
          | (go_at_call 72; have Ha := hrf; refine hrf.mono ?_; rintro e w1 ⟨rfl, hk1⟩; have hl := HL.out w1 hk1; have c4 := HC4.out w1 hk1; clear Ha hrf)
          | (go_at_call 73; refine (HS.out w1 55 hk1).mono ?_; rintro e w2 ⟨rfl, hP2, hk2⟩; have H2 := hide (HAF.out w1 w2 hk1 hP2 hk2); clear hP2 hk2))
        go_ret
        exact ⟨by rw [HC.out]; rfl, by rw [HC.out]; exact H2.out⟩
  · have HC : Hid (S.create n = ((S.find n).1, S)) := hide (by simp [Ds.create, h0, h53])
    have HA := hide (Aft.of h (Keep.refl _ w))
    generalize (S.find n).1 = E at hfd h0 h53 HC
    have e0 : (E == 0) = false := by simpa using h0
    have e53 : (E != 53) = true := by simpa using h53
    clear h hB hv h0 h53
    go_enter Tryz.func17, Tryz.ntmps17
    go_wp2_with (go_at_call 71; refine hfd.mono ?_; rintro e w' ⟨rfl, rfl⟩)
    go_ret
    exact ⟨by rw [HC.out]; rfl, by rw [HC.out]; exact HA.out⟩
end Go.Proofs.YtmoaaimjgdbelaaGreat
