import Derived.Test.YtmoaaimjgdbelaaGreatRffp
import Derived.Test.YtmoaaimjgdbelaaGreatRfhp
import Derived.Test.YtmoaaimjgdbelaaGreatRfip
import Derived.Test.YtmoaaimjgdbelaaGreatHmp
namespace Go.Proofs.YtmoaaimjgdbelaaGreat
section
open Go.RowKit Dsk
set_option linter.unusedVariables false
set_option linter.unusedSimpArgs false
/-- What a step leaves of the disk. -/
def stepP (S : Ds) (s : Stp) : Ds :=
  if s.kind = 1 then (S.create s.name).2 else
  if s.kind = 2 then (S.writeAt s.name s.at_ s.ds).2 else
  if s.kind = 3 then (S.append s.name s.ds).2 else
  if s.kind = 4 then (S.truncate s.name s.n).2 else
  if s.kind = 5 then (S.rename s.name s.to).2 else
  if s.kind = 6 then (S.remove s.name).2 else
  if s.kind = 7 then (S.sync s.name).2 else
  if s.kind = 8 then S.syncNames.2 else
  if s.kind = 9 then S.read s.name s.at_ s.n else
  if s.kind = 11 then S.setPlan s.po s.pf s.pt else
  if s.kind = 12 then S.crash s.ps else
  if s.kind = 13 then S.look else
  if s.kind = 14 then S.compact else S
/-- A step's rows are X's. -/
def StpX (X : Nat → Prop) (s : Stp) : Prop := (s.ds ≠ [] → ∀ a, s.da = some a → X a.block) ∧ (s.ps ≠ [] → ∀ a, s.pa = some a → X a.block)
theorem StpIn.kept {w w' : World} {s : Stp} (h : StpIn w s) (hk : Kept [] w w') : StpIn w' s :=
  ⟨⟨h.inb.len, h.inb.le, h.inb.max, h.inb.sl.kept hk (by simp), h.inb.nil, h.inb.spot⟩, h.nm, h.tm, h.wk, h.wa, h.wn, h.wo, h.wf, h.wt, h.pl, h.pc, h.pm, h.pr.kept (Keep.ofNone (F := fun _ => False) hk) (fun _ _ _ h => h), h.pw, h.pz⟩

set_option maxHeartbeats 3200000 in
set_option maxRecDepth 100000 in
theorem st_other {X : Nat → Prop} {w : World} {P p q D : Nat} {bo : Option Nat} {R : List UInt8} {S : Ds} {N : Nat} (h : Pq X w P p q D bo R S N S N) (kd : Int) (name tx : By) (at_ n : Int) (da : Option Addr) (dn dc : Nat) (ds : By) (po pf pt : Int) (pa : Option Addr) (pn pc : Nat) (ps : List Int) (hkd : (kd == 1) = false ∧ (kd == 2) = false ∧ (kd == 3) = false ∧ (kd == 4) = false ∧ (kd == 5) = false ∧ (kd == 6) = false ∧ (kd == 7) = false ∧ (kd == 8) = false) (Q : Ending → World → Prop)
    (ho : ∀ w1, Pq X w1 P p q D bo R S N S N → Kept [] w w1 → Calls Tryz.prog 70 #[.pointer (some ⟨P, 0, none⟩), .agg #[.int .i64 kd, encStr name, encStr tx, .int .i64 at_, .int .i64 n, .slice da dn dc, .int .i64 po, .int .i64 pf, .int .i64 pt, .slice pa pn pc]] w1 fun e w' => Q e w' ∧ e = .returned (.bool true)) :
    Calls Tryz.prog 15 #[.pointer (some ⟨P, 0, none⟩), .agg #[.int .i64 kd, encStr name, encStr tx, .int .i64 at_, .int .i64 n, .slice da dn dc, .int .i64 po, .int .i64 pf, .int .i64 pt, .slice pa pn pc]] w Q := by
  obtain ⟨w1, hw1⟩ : ∃ w1, w1 = w.alloc (.cells #[.int .i64 kd, encStr name, encStr tx, .int .i64 at_, .int .i64 n, .slice da dn dc, .int .i64 po, .int .i64 pf, .int .i64 pt, .slice pa pn pc] 52) := ⟨_, rfl⟩
  obtain ⟨h1, hR, hk1⟩ := h.box [.int .i64 kd, encStr name, encStr tx, .int .i64 at_, .int .i64 n, .slice da dn dc, .int .i64 po, .int .i64 pf, .int .i64 pt, .slice pa pn pc] 52 hw1
  have i0 := hR.bx 0 _ rfl
  have i1 := hR.bx 1 _ rfl
  have i2 := hR.bx 2 _ rfl
  have i3 := hR.bx 3 _ rfl
  have i4 := hR.bx 4 _ rfl
  have i5 := hR.bx 5 _ rfl
  have i6 := hR.bx 6 _ rfl
  have i7 := hR.bx 7 _ rfl
  have i8 := hR.bx 8 _ rfl
  have i9 := hR.bx 9 _ rfl
  have hoc := ho w1 (h1.less (fun _ h => .inl h)) hk1
  clear h hk1 h1 hR ho
  obtain ⟨k1, k2, k3, k4, k5, k6, k7, k8⟩ := hkd
  go_enter Tryz.func15, Tryz.ntmps15
  go_upto_region 1 with (fail)
  rw [← hw1]
  clear hw1
  generalize w.heap.size = bx at *
  go_wp2_with (go_at_call 70; refine hoc.mono ?_; rintro e w2 ⟨hQ, rfl⟩; have HQ := hide hQ; clear hoc hQ)
  exact HQ.out

set_option maxRecDepth 100000 in
theorem step_ok {X : Nat → Prop} {w : World} {P p q D : Nat} {bo : Option Nat} {R : List UInt8} {S : Ds} {N : Nat} (h : Pq X w P p q D bo R S N S N) (s : Stp) (hi : StpIn w s) (hx : StpX X s) (hN : N + s.dn + 5 ≤ 268435456) (hdn : s.dn ≤ 200000) (hpn : s.pn ≤ 1000000) :
    Calls Tryz.prog 15 #[.pointer (some ⟨P, 0, none⟩), .agg s.cells.toArray] w fun e w' => e = .returned (.bool true) ∧ (∃ p' q' bo' R', Pq X w' P p' q' D bo' R' (stepP S s) (N + s.dn + 3) (stepP S s) (N + s.dn + 3)) ∧ Keep (fun b => ¬ X b) w w' := by
  obtain ⟨kind, name, tx, at_, n, da, dn, dc, ds, po, pf, pt, pa, pn, pc, ps⟩ := s
  simp only at hN hdn hpn
  simp only [Stp.cells]
  by_cases h1 : kind = 1
  · subst h1
    have hs : stepP S ⟨1, name, tx, at_, n, da, dn, dc, ds, po, pf, pt, pa, pn, pc, ps⟩ = (S.create name).2 := by simp [stepP]
    rw [hs]
    refine (st_create h name tx at_ n da dn dc ds po pf pt pa pn pc ps hi (by omega)).mono ?_
    rintro e w' ⟨rfl, hq, hk⟩
    exact ⟨rfl, ⟨_, _, _, _, hq.mono (by omega) (by omega)⟩, hk⟩
  by_cases h2 : kind = 2
  · subst h2
    have hs : stepP S ⟨2, name, tx, at_, n, da, dn, dc, ds, po, pf, pt, pa, pn, pc, ps⟩ = (S.writeAt name at_ ds).2 := by simp [stepP]
    rw [hs]
    refine (st_writeAt h name tx at_ n da dn dc ds po pf pt pa pn pc ps hi hx.1 (by omega) hdn).mono ?_
    rintro e w' ⟨rfl, ⟨bo', R', hq⟩, hk⟩
    exact ⟨rfl, ⟨_, _, _, _, hq.mono (by omega) (by omega)⟩, hk⟩
  by_cases h3 : kind = 3
  · subst h3
    have hs : stepP S ⟨3, name, tx, at_, n, da, dn, dc, ds, po, pf, pt, pa, pn, pc, ps⟩ = (S.append name ds).2 := by simp [stepP]
    rw [hs]
    refine (st_append h name tx at_ n da dn dc ds po pf pt pa pn pc ps hi hx.1 (by omega) hdn).mono ?_
    rintro e w' ⟨rfl, ⟨bo', R', hq⟩, hk⟩
    exact ⟨rfl, ⟨_, _, _, _, hq.mono (by omega) (by omega)⟩, hk⟩
  by_cases h4 : kind = 4
  · subst h4
    have hs : stepP S ⟨4, name, tx, at_, n, da, dn, dc, ds, po, pf, pt, pa, pn, pc, ps⟩ = (S.truncate name n).2 := by simp [stepP]
    rw [hs]
    refine (st_truncate h name tx at_ n da dn dc ds po pf pt pa pn pc ps hi (by omega)).mono ?_
    rintro e w' ⟨rfl, hq, hk⟩
    exact ⟨rfl, ⟨_, _, _, _, hq.mono (by omega) (by omega)⟩, hk⟩
  by_cases h5 : kind = 5
  · subst h5
    have hs : stepP S ⟨5, name, tx, at_, n, da, dn, dc, ds, po, pf, pt, pa, pn, pc, ps⟩ = (S.rename name tx).2 := by simp [stepP]
    rw [hs]
    refine (st_rename h name tx at_ n da dn dc ds po pf pt pa pn pc ps hi (by omega)).mono ?_
    rintro e w' ⟨rfl, hq, hk⟩
    exact ⟨rfl, ⟨_, _, _, _, hq.mono (by omega) (by omega)⟩, hk⟩
  by_cases h6 : kind = 6
  · subst h6
    have hs : stepP S ⟨6, name, tx, at_, n, da, dn, dc, ds, po, pf, pt, pa, pn, pc, ps⟩ = (S.remove name).2 := by simp [stepP]
    rw [hs]
    refine (st_remove h name tx at_ n da dn dc ds po pf pt pa pn pc ps hi (by omega)).mono ?_
    rintro e w' ⟨rfl, hq, hk⟩
    exact ⟨rfl, ⟨_, _, _, _, hq.mono (by omega) (by omega)⟩, hk⟩
  by_cases h7 : kind = 7
  · subst h7
    have hs : stepP S ⟨7, name, tx, at_, n, da, dn, dc, ds, po, pf, pt, pa, pn, pc, ps⟩ = (S.sync name).2 := by simp [stepP]
    rw [hs]
    refine (st_sync h name tx at_ n da dn dc ds po pf pt pa pn pc ps hi (by omega)).mono ?_
    rintro e w' ⟨rfl, hq, hk⟩
    exact ⟨rfl, ⟨_, _, _, _, hq.mono (by omega) (by omega)⟩, hk⟩
  by_cases h8 : kind = 8
  · subst h8
    have hs : stepP S ⟨8, name, tx, at_, n, da, dn, dc, ds, po, pf, pt, pa, pn, pc, ps⟩ = (S.syncNames).2 := by simp [stepP]
    rw [hs]
    refine (st_syncNames h name tx at_ n da dn dc ds po pf pt pa pn pc ps hi (by omega)).mono ?_
    rintro e w' ⟨rfl, hq, hk⟩
    exact ⟨rfl, ⟨_, _, _, _, hq.mono (by omega) (by omega)⟩, hk⟩
  by_cases h9 : kind = 9
  · subst h9
    have hs : stepP S ⟨9, name, tx, at_, n, da, dn, dc, ds, po, pf, pt, pa, pn, pc, ps⟩ = S.read name at_ n := by simp [stepP]
    rw [hs]
    refine st_other h 9 name tx at_ n da dn dc ds po pf pt pa pn pc ps (by decide) _ (fun w1 g1 hk1 => (ot_read g1 name tx at_ n da dn dc ds po pf pt pa pn pc ps (hi.kept hk1) (by omega)).mono ?_)
    rintro e w' ⟨rfl, hq, hk⟩
    exact ⟨⟨rfl, ⟨_, _, _, _, hq.mono (by omega) (by omega)⟩, (Keep.ofNone hk1).trans hk (fun _ h _ => h)⟩, rfl⟩
  by_cases h10 : kind = 10
  · subst h10
    have hs : stepP S ⟨10, name, tx, at_, n, da, dn, dc, ds, po, pf, pt, pa, pn, pc, ps⟩ = S := by simp [stepP]
    rw [hs]
    refine st_other h 10 name tx at_ n da dn dc ds po pf pt pa pn pc ps (by decide) _ (fun w1 g1 hk1 => (ot_size g1 name tx at_ n da dn dc ds po pf pt pa pn pc ps (hi.kept hk1) (by omega)).mono ?_)
    rintro e w' ⟨rfl, hq, hk⟩
    exact ⟨⟨rfl, ⟨_, _, _, _, hq.mono (by omega) (by omega)⟩, (Keep.ofNone hk1).trans hk (fun _ h _ => h)⟩, rfl⟩
  by_cases h11 : kind = 11
  · subst h11
    have hs : stepP S ⟨11, name, tx, at_, n, da, dn, dc, ds, po, pf, pt, pa, pn, pc, ps⟩ = S.setPlan po pf pt := by simp [stepP]
    rw [hs]
    refine st_other h 11 name tx at_ n da dn dc ds po pf pt pa pn pc ps (by decide) _ (fun w1 g1 hk1 => (ot_plan g1 name tx at_ n da dn dc ds po pf pt pa pn pc ps (hi.kept hk1) (by omega)).mono ?_)
    rintro e w' ⟨rfl, hq, hk⟩
    exact ⟨⟨rfl, ⟨_, _, _, _, hq.mono (by omega) (by omega)⟩, (Keep.ofNone hk1).trans hk (fun _ h _ => h)⟩, rfl⟩
  by_cases h12 : kind = 12
  · subst h12
    have hs : stepP S ⟨12, name, tx, at_, n, da, dn, dc, ds, po, pf, pt, pa, pn, pc, ps⟩ = S.crash ps := by simp [stepP]
    rw [hs]
    refine st_other h 12 name tx at_ n da dn dc ds po pf pt pa pn pc ps (by decide) _ (fun w1 g1 hk1 => (ot_crash g1 name tx at_ n da dn dc ds po pf pt pa pn pc ps (hi.kept hk1) (by omega) hx.2 hpn).mono ?_)
    rintro e w' ⟨rfl, hq, hk⟩
    exact ⟨⟨rfl, ⟨_, _, _, _, hq.mono (by omega) (by omega)⟩, (Keep.ofNone hk1).trans hk (fun _ h _ => h)⟩, rfl⟩
  by_cases h13 : kind = 13
  · subst h13
    have hs : stepP S ⟨13, name, tx, at_, n, da, dn, dc, ds, po, pf, pt, pa, pn, pc, ps⟩ = S.look := by simp [stepP]
    rw [hs]
    refine st_other h 13 name tx at_ n da dn dc ds po pf pt pa pn pc ps (by decide) _ (fun w1 g1 hk1 => (ot_look g1 name tx at_ n da dn dc ds po pf pt pa pn pc ps (hi.kept hk1) (by omega)).mono ?_)
    rintro e w' ⟨rfl, hq, hk⟩
    exact ⟨⟨rfl, ⟨_, _, _, _, hq.mono (by omega) (by omega)⟩, (Keep.ofNone hk1).trans hk (fun _ h _ => h)⟩, rfl⟩
  by_cases h14 : kind = 14
  · subst h14
    have hs : stepP S ⟨14, name, tx, at_, n, da, dn, dc, ds, po, pf, pt, pa, pn, pc, ps⟩ = S.compact := by simp [stepP]
    rw [hs]
    refine st_other h 14 name tx at_ n da dn dc ds po pf pt pa pn pc ps (by decide) _ (fun w1 g1 hk1 => (ot_twin g1 name tx at_ n da dn dc ds po pf pt pa pn pc ps (hi.kept hk1) (by omega)).mono ?_)
    rintro e w' ⟨rfl, ⟨p', q', hq⟩, hk⟩
    exact ⟨⟨rfl, ⟨_, _, _, _, hq.mono (by omega) (by omega)⟩, (Keep.ofNone hk1).trans hk (fun _ h _ => h)⟩, rfl⟩
  have hs : stepP S ⟨kind, name, tx, at_, n, da, dn, dc, ds, po, pf, pt, pa, pn, pc, ps⟩ = S := by simp [stepP, h1, h2, h3, h4, h5, h6, h7, h8, h9, h10, h11, h12, h13, h14]
  rw [hs]
  refine st_other h kind name tx at_ n da dn dc ds po pf pt pa pn pc ps (by simp [h1, h2, h3, h4, h5, h6, h7, h8]) _ (fun w1 g1 hk1 => (ot_none g1 kind (by simp [h9, h10, h11, h12, h13, h14]) name tx at_ n da dn dc ds po pf pt pa pn pc ps (hi.kept hk1) (by omega)).mono ?_)
  rintro e w' ⟨rfl, hq, hk⟩
  exact ⟨⟨rfl, ⟨_, _, _, _, hq.mono (by omega) (by omega)⟩, (Keep.ofNone hk1).trans hk (fun _ h _ => h)⟩, rfl⟩
end

section
open Go.RowKit Dsk
set_option linter.unusedVariables false
set_option linter.unusedSimpArgs false
theorem size_alloc (w : World) (o : Obj) : (w.alloc o).heap.size = w.heap.size + 1 := by
  show (w.heap.push o).size = _
  simp
theorem Pq.new {X : Nat → Prop} {w w1 w2 w4 : World} {p q : Nat} {S : Ds} {A A' : Nat → Nat} {o o' : Lab} (hX : ∀ b, X b → b < w.heap.size) (hp : PD w1 p S A o) (ho : ∀ b, o b ≠ 0 → w.heap.size ≤ b) (hk1 : Kept [] w w1) (hq : RD w2 q S A' o') (ho' : ∀ b, o' b ≠ 0 → w1.heap.size ≤ b) (hk2 : Kept [] w1 w2) (hb : S.Bd 0)
    (hw4 : w4 = (w2.alloc (.cells #[.slice none 0 0, .slice none 0 0] 45)).alloc (.cells #[.pointer (some ⟨p, 0, none⟩), .pointer (some ⟨q, 0, none⟩), .pointer (some ⟨w2.heap.size, 0, none⟩)] 47)) :
    Pq X w4 (w2.heap.size + 1) p q w2.heap.size none [] S 0 S 0 ∧ Kept [] w w4 := by
  obtain ⟨w3, hw3⟩ : ∃ w3, w3 = w2.alloc (.cells #[.slice none 0 0, .slice none 0 0] 45) := ⟨_, rfl⟩
  rw [← hw3] at hw4
  have hD3 : w3.heap[w2.heap.size]? = some (.cells #[.slice none 0 0, .slice none 0 0] 45 (0, 0)) := by rw [hw3]; exact (MapKept.heap_alloc w2 _).1
  have s3 : w3.heap.size = w2.heap.size + 1 := by rw [hw3]; exact size_alloc _ _
  have hP4 : w4.heap[w3.heap.size]? = some (.cells #[.pointer (some ⟨p, 0, none⟩), .pointer (some ⟨q, 0, none⟩), .pointer (some ⟨w2.heap.size, 0, none⟩)] 47 (0, 0)) := by rw [hw4]; exact (MapKept.heap_alloc w3 _).1
  have s4 : w4.heap.size = w3.heap.size + 1 := by rw [hw4]; exact size_alloc _ _
  have k23 : Kept [] w2 w3 := by rw [hw3]; exact (Kept.refl [] w2).alloc _
  have k34 : Kept [] w3 w4 := by rw [hw4]; exact (Kept.refl [] w3).alloc _
  have k24 := k23.trans k34 (by simp)
  have k14 := hk2.trans k24 (by simp)
  have hD4 : w4.heap[w2.heap.size]? = some (.cells #[.slice none 0 0, .slice none 0 0] 45 (0, 0)) := by rw [k34.block _ (by omega) (by simp)]; exact hD3
  have z1 := hk1.size
  have z2 := hk2.size
  have hlo : ∀ b, o b ≠ 0 → b < w1.heap.size := fun b hb => hp.lim hb
  have hlo' : ∀ b, o' b ≠ 0 → b < w2.heap.size := fun b hb => hq.lim b hb
  refine ⟨⟨⟨A, o, A', o', hp.keep (Keep.ofNone (F := fun _ => False) k14) (fun _ _ h => h), hq.kept k24, fun b hb => Classical.byContradiction fun hn => ?_, fun b hb => ?_, hb, hb⟩, ?_, ⟨?_, frozen_of_row _ _ _ _ _ hD4, fun _ => rfl, fun g e => (by cases e), (by simp)⟩, ⟨.slice none 0 0, ?_⟩, frozen_of_row _ _ _ _ _ hD4, fun b hb hp => ?_, by omega, by simp⟩, hk1.trans k14 (by simp)⟩
  · have := hlo b hb; have := ho' b hn; omega
  · have e0 : ∀ b, b < w.heap.size ∨ w2.heap.size ≤ b → o b = 0 ∧ o' b = 0 := fun b hb => ⟨Classical.byContradiction fun hn => by have := ho b hn; have := hlo b hn; omega, Classical.byContradiction fun hn => by have := ho' b hn; have := hlo' b hn; omega⟩
    rcases hb with hb | hb | hb | hb
    · have := hX b hb
      exact ⟨(e0 b (.inl this)).1, (e0 b (.inl this)).2, by omega⟩
    · exact ⟨(e0 b (.inr (by omega))).1, (e0 b (.inr (by omega))).2, by omega⟩
    · exact ⟨(e0 b (.inr (by omega))).1, (e0 b (.inr (by omega))).2, by omega⟩
    · cases hb
  · rw [← s3]; exact hP4
  · rw [cell_of_row w4 _ 0 _ _ _ hD4]; rfl
  · rw [cell_of_row w4 _ 1 _ _ _ hD4]; rfl
  · have := hX b hb
    rcases hp with hp | hp | hp
    · omega
    · omega
    · cases hp
/-- What made answers. -/
def MadeE (w w' : World) (r : Int) (e : Ending) : Prop := ∃ P, e = .returned (.tuple #[.pointer (some ⟨P, 0, none⟩), .bool true]) ∧ Kept [] w w' ∧
  ((roomE r ≠ 0 ∧ w'.cell? ⟨P, 0, none⟩ = some (.pointer none)) ∨ (roomE r = 0 ∧ ∀ X : Nat → Prop, (∀ b, X b → b < w.heap.size) → ∃ p q D, Pq X w' P p q D none [] (Ds.fresh r.toNat) 0 (Ds.fresh r.toNat) 0))
set_option maxHeartbeats 1600000 in
set_option maxRecDepth 100000 in
theorem made_ok (r : Int) (w : World) (hr : (Lit.int .i64 r).wf = true) : Calls Tryz.prog 16 #[.int .i64 r] w fun e w' => MadeE w w' r e := by
  have hn1 := new_ok r w hr
  by_cases h0 : roomE r = 0
  · rw [h0] at hn1
    have HE := hide h0
    have hn1 : Calls Tryz.prog 34 #[.int .i64 r] w fun e w' => ∃ p, e = .returned (.tuple #[.pointer (some ⟨p, 0, none⟩), .int .i64 0]) ∧ ∃ A o, PD w' p (Ds.fresh r.toNat) A o ∧ (∀ b, o b ≠ 0 → w.heap.size ≤ b) ∧ Kept [] w w' := hn1.mono (by
      rintro e w' ⟨v, rfl, h1, _, h3⟩
      obtain ⟨p, A, o, rfl, h4, h5⟩ := h1 HE.out
      exact ⟨p, rfl, A, o, h4, h5, h3⟩)
    have hn2 := fun v => rnew_ok r v h0
    clear h0
    go_enter Tryz.func16, Tryz.ntmps16
    go_upto_region 3 with (first
      | (go_at_call 34; refine hn1.mono ?_; rintro e w1 ⟨p, rfl, h1⟩; have H1 := hide h1; clear hn1 h1)
      | (go_at_call 28; refine (hn2 _).mono ?_; rintro e w2 ⟨q, rfl, h2⟩; have H2 := hide h2; clear hn2 h2))
    go_wp2_with (go_at_call 11; refine (num_ok _ _).mono ?_; rintro e w' ⟨rfl, hw⟩; obtain rfl := hw.symm)
    go_ret2
    obtain ⟨A, o, h1, h2, h3⟩ := H1.out
    obtain ⟨A', o', g1, g2, g3⟩ := H2.out
    refine ⟨_, rfl, (Pq.new (X := fun _ => False) (fun _ h => h.elim) h1 h2 h3 g1 g2 g3 (Ds.Bd.fresh _) rfl).2, .inr ⟨HE.out, fun X hX => ⟨p, q, w2.heap.size, (Pq.new hX h1 h2 h3 g1 g2 g3 (Ds.Bd.fresh _) rfl).1⟩⟩⟩
  · have h1 : roomE r = 1 := by unfold roomE at h0 ⊢; split <;> simp_all
    rw [h1] at hn1
    have HE := hide h0
    have hn1 : Calls Tryz.prog 34 #[.int .i64 r] w fun e w' => e = .returned (.tuple #[.pointer none, .int .i64 1]) ∧ Kept [] w w' := hn1.mono (by
      rintro e w' ⟨v, rfl, _, h2, h3⟩
      rw [h2 HE.out]
      exact ⟨rfl, h3⟩)
    have hn2 := fun v => rnewBad_ok r v h1
    clear h0 h1
    go_enter Tryz.func16, Tryz.ntmps16
    go_upto_region 3 with (first
      | (go_at_call 34; refine hn1.mono ?_; rintro e w1 ⟨rfl, h1⟩; have H1 := hide h1; clear hn1 h1)
      | (go_at_call 28; refine (hn2 _).mono ?_; rintro e w2 ⟨rfl, hw⟩; obtain rfl := hw.symm; clear hn2))
    go_wp2_with (go_at_call 11; refine (num_ok _ _).mono ?_; rintro e w' ⟨rfl, hw⟩; obtain rfl := hw.symm)
    go_ret2
    refine ⟨_, rfl, (H1.out.alloc _).alloc _, .inl ⟨HE.out, ?_⟩⟩
    have := (MapKept.heap_alloc (w1.alloc (.cells #[.slice none 0 0, .slice none 0 0] 45)) (.cells #[.pointer none, .pointer none, .pointer (some ⟨w1.heap.size, 0, none⟩)] 47)).1
    rw [size_alloc] at this
    rw [cell_of_row _ _ 0 _ _ _ this]
    rfl
end

end Go.Proofs.YtmoaaimjgdbelaaGreat
