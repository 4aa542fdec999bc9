/-
  DiskTwin. (Written by tools/rgc.py.)
-/
import Derived.Test.YtmoaaimjgdbelaaGreatRgap
import Derived.Test.YtmoaaimjgdbelaaGreatRfjp
import Derived.Deep.CutRange
import Derived.Deep.CutBlock
import Derived.Deep.RegionHeld
namespace Go.Proofs.YtmoaaimjgdbelaaGreat
open Go.RowKit Dsk
set_option linter.unusedVariables false
set_option linter.unusedSimpArgs false
/-- A pair that was put together of a disk of the program's, one of the document's and a desk, each new since w. -/
theorem Pq.put {X : Nat → Prop} {w v : World} {P p q D : Nat} {S : Ds} {N l1 h1 l2 h2 : Nat} {A A' : Nat → Nat} {o o' : Lab} (hX : ∀ b, X b → b < w.heap.size) (hw : Kept [] w v)
    (hp : PD v p S A o) (ho : ∀ b, o b ≠ 0 → l1 ≤ b ∧ b < h1) (hq : RD v q S A' o') (ho' : ∀ b, o' b ≠ 0 → l2 ≤ b ∧ b < h2) (hb : S.Bd N) (e1 : w.heap.size ≤ l1) (eB : l1 ≤ h1) (e2 : h1 ≤ l2) (e3 : h1 ≤ v.heap.size) (e4 : h2 ≤ v.heap.size)
    (e5 : w.heap.size ≤ D) (e6 : D < l1 ∨ h1 ≤ D) (e7 : D < l2 ∨ h2 ≤ D) (e8 : h2 ≤ P) (e9 : h1 ≤ P) (eA : D < P) (e0 : w.heap.size ≤ P)
    (hD : v.heap[D]? = some (.cells #[.slice none 0 0, .slice none 0 0] 45 (0, 0)))
    (hP : v.heap[P]? = some (.cells #[.pointer (some ⟨p, 0, none⟩), .pointer (some ⟨q, 0, none⟩), .pointer (some ⟨D, 0, none⟩)] 47 (0, 0))) :
    Pq X v P p q D none [] S N S N := by
  have hDl := (Array.getElem?_eq_some_iff.1 hD).1
  have hPl := (Array.getElem?_eq_some_iff.1 hP).1
  have z := hw.size
  have n1 : ∀ b, b < l1 ∨ h1 ≤ b → o b = 0 := fun b hb => Classical.byContradiction fun hn => by have := ho b hn; omega
  have n2 : ∀ b, b < l2 ∨ h2 ≤ b → o' b = 0 := fun b hb => Classical.byContradiction fun hn => by have := ho' b hn; omega
  refine ⟨⟨A, o, A', o', hp, hq, fun b hb => n2 b (by have := ho b hb; omega), fun b hb => ?_, hb, hb⟩, hP, ⟨?_, frozen_of_row _ _ _ _ _ hD, fun _ => rfl, fun g e => (by cases e), (by simp)⟩, ⟨.slice none 0 0, ?_⟩, frozen_of_row _ _ _ _ _ hD, fun b hb hp => ?_, by omega, by simp⟩
  · rcases hb with hb | hb | hb | hb
    · have := hX b hb
      exact ⟨n1 b (by omega), n2 b (by omega), by omega⟩
    · subst hb; exact ⟨n1 _ (by omega), n2 _ (by omega), by omega⟩
    · subst hb; exact ⟨n1 _ (by omega), n2 _ (by omega), by omega⟩
    · cases hb
  · rw [cell_of_row v _ 0 _ _ _ hD]; rfl
  · rw [cell_of_row v _ 1 _ _ _ hD]; rfl
  · have := hX b hb
    rcases hp with hp | hp | hp
    · omega
    · omega
    · cases hp
theorem RD.compactOf {w : World} {q : Nat} {S : Ds} {B : Nat → Nat} {oX : Lab} {l h : Nat} (r : RD w q S B oX) (hl : ∀ b, oX b ≠ 0 → l ≤ b ∧ b < h) : ∃ B' o', RD w q S.compact B' o' ∧ ∀ b, o' b ≠ 0 → l ≤ b ∧ b < h := by
  refine ⟨_, _, r.compact, fun b hb => hl b (fun he => hb ?_)⟩
  simp [he]
/-- Two twins of a pair's disks, in a pair of their own beside it. -/
theorem Pl.pair {w wr v : World} {P N P2 p2 q2 D2 : Nat} {S : Ds} (h : Pl w wr P N) (hk : Kept [] wr v) (h2 : ∀ X : Nat → Prop, (∀ b, X b → b < wr.heap.size) → Pq X v P2 p2 q2 D2 none [] S N S N) : Tp w v P N P2 N := by
  obtain ⟨h1, p, q, D, bo, R, S', h3⟩ := h
  obtain ⟨Z, hZ, hf⟩ := h3.foot
  have hs := h1.size
  have g := h2 (fun b => b < wr.heap.size) (fun b hb => hb)
  obtain ⟨Z', hZ', hf'⟩ := g.foot
  exact ⟨h1.trans hk (by simp), Z, Z', fun b hb hz => hZ' b (hf.lt b hb) hz, ⟨fun b hb => Nat.le_of_not_lt fun hn => hZ b hn hb, p, q, D, bo, R, S', hf.keep (F := fun _ => False) (Keep.ofNone hk) (fun _ h => h.elim)⟩, ⟨fun b hb => Nat.le_of_not_lt fun hn => hZ' b (by omega) hb, p2, q2, D2, _, _, _, hf'⟩⟩
/-- The program's twin, the document's: where they lie. -/
def Tw1 (S : Ds) (N : Nat) (v v' : World) (p' : Nat) : Prop := Kept [] v v' ∧ S.compact.Bd N ∧ ∃ A o, PD v' p' S.compact A o ∧ ∀ b, o b ≠ 0 → v.heap.size ≤ b ∧ b < v'.heap.size
def Tw2 (S : Ds) (v v' : World) (q' : Nat) : Prop := Kept [] v v' ∧ ∃ A o, RD v' q' S.compact A o ∧ ∀ b, o b ≠ 0 → v.heap.size ≤ b ∧ b < v'.heap.size
theorem Pq.twin1 {X : Nat → Prop} {v : World} {P p q D : Nat} {bo : Option Nat} {R : List UInt8} {S : Ds} {N : Nat} (h : Pq X v P p q D bo R S N S N) (hN : N ≤ 268435456) : Calls Tryz.prog 20 #[.pointer (some ⟨p, 0, none⟩)] v fun e v' => ∃ p', e = .returned (.pointer (some ⟨p', 0, none⟩)) ∧ Tw1 S N v v' p' := by
  obtain ⟨A, o, A', o', hP, hRq, ap, hx, b1, b2⟩ := h.tw
  refine (twin_ok hP b1 hN).mono ?_
  rintro e v' ⟨p', rfl, A2, o2, g1, g2, g3, g4⟩
  exact ⟨p', rfl, g3, g4, A2, o2, g1, fun b hb => ⟨g2 b hb, g1.lim hb⟩⟩
theorem Pq.twin2 {X : Nat → Prop} {v : World} {P p q D : Nat} {bo : Option Nat} {R : List UInt8} {S : Ds} {N : Nat} (h : Pq X v P p q D bo R S N S N) (hN : N ≤ 268435456) : Calls Tryz.prog 21 #[.pointer (some ⟨q, 0, none⟩)] v fun e v' => ∃ q', e = .returned (.pointer (some ⟨q', 0, none⟩)) ∧ Tw2 S v v' q' := by
  obtain ⟨A, o, A', o', hP, hRq, ap, hx, b1, b2⟩ := h.tw
  obtain ⟨hwf, nv, bv, tv, sv, hr⟩ := hRq
  refine (rtwin_ok hr hwf b2 hN).mono ?_
  rintro e v' ⟨q', rfl, B, oX, g1, g2, g3⟩
  obtain ⟨B', o', g4, g5⟩ := RD.compactOf g1 (fun b hb => ⟨g2 b hb, g1.lim b hb⟩)
  exact ⟨q', rfl, g3, B', o', g4, g5⟩
theorem desk_at (v : World) : (v.alloc (.cells #[.slice none 0 0, .slice none 0 0] 45)).heap[v.heap.size]? = some (.cells #[.slice none 0 0, .slice none 0 0] 45 (0, 0)) := (MapKept.heap_alloc v _).1
/-- Both twins, in whatever place the desk was made: v1, v2 ahead of and behind the first, v3, v4 of the second. -/
theorem Tw.put {w v1 v2 v3 v4 v5 v6 : World} {p' q' D : Nat} {S : Ds} {N : Nat} {X : Nat → Prop} (hX : ∀ b, X b → b < w.heap.size) (k1 : Kept [] w v1) (t1 : Tw1 S N v1 v2 p') (k2 : Kept [] v2 v3) (t2 : Tw2 S v3 v4 q') (k3 : Kept [] v4 v5)
    (hD : v5.heap[D]? = some (.cells #[.slice none 0 0, .slice none 0 0] 45 (0, 0))) (e5 : w.heap.size ≤ D) (e6 : D < v1.heap.size ∨ v2.heap.size ≤ D) (e7 : D < v3.heap.size ∨ v4.heap.size ≤ D)
    (hv : v6 = v5.alloc (.cells #[.pointer (some ⟨p', 0, none⟩), .pointer (some ⟨q', 0, none⟩), .pointer (some ⟨D, 0, none⟩)] 47)) : Kept [] w v6 ∧ Pq X v6 v5.heap.size p' q' D none [] S.compact N S.compact N := by
  obtain ⟨a1, a2, A, o, a3, a4⟩ := t1
  obtain ⟨b1, A', o', b3, b4⟩ := t2
  have k6 : Kept [] v5 v6 := by rw [hv]; exact (Kept.refl [] v5).alloc _
  have hP : v6.heap[v5.heap.size]? = some (.cells #[.pointer (some ⟨p', 0, none⟩), .pointer (some ⟨q', 0, none⟩), .pointer (some ⟨D, 0, none⟩)] 47 (0, 0)) := by rw [hv]; exact (MapKept.heap_alloc v5 _).1
  have s6 : v6.heap.size = v5.heap.size + 1 := by rw [hv]; exact size_alloc _ _
  have hDl := (Array.getElem?_eq_some_iff.1 hD).1
  have z1 := k1.size
  have z2 := a1.size
  have z3 := k2.size
  have z4 := b1.size
  have z5 := k3.size
  have k26 : Kept [] v2 v6 := ((k2.trans b1 (by simp)).trans k3 (by simp)).trans k6 (by simp)
  have k46 : Kept [] v4 v6 := k3.trans k6 (by simp)
  have k06 : Kept [] w v6 := (k1.trans a1 (by simp)).trans k26 (by simp)
  refine ⟨k06, Pq.put hX k06 (a3.keep (Keep.ofNone (F := fun _ => False) k26) (fun _ _ h => h)) a4 (b3.kept k46) b4 a2 z1 (by omega) (by omega) (by omega) (by omega) e5 e6 e7 (by omega) (by omega) (by omega) (by omega) ?_ hP⟩
  rw [k6.block D hDl (by simp)]; exact hD

/-- Where DiskTwin stands: behind k rounds; the twin is there if its place lies ahead of j. -/
def Ts2 (w wr : World) (P : Nat) (t : Int) (L L' : List Stp) (k j : Nat) (y : Value) : Prop :=
  (y = .pointer none ∧ ¬ (0 ≤ t ∧ t < j) ∧ Hid (Pl w wr P (costs (L.take k) + 3 * k))) ∨
  (∃ P2 : Nat, y = .pointer (some ⟨P2, 0, none⟩) ∧ (0 ≤ t ∧ t < j) ∧ Hid (Tp w wr P (costs (L.take k) + 3 * k) P2 (110000 + costs (L'.take (k - t.toNat)) + 3 * (k - t.toNat))))
theorem costs_take (L : List Stp) (k : Nat) : costs (L.take k) ≤ costs L := by
  induction L generalizing k with
  | nil => simp
  | cons a l ih =>
    cases k with
    | zero => simp [costs]
    | succ k => have := ih k; simp [costs] at this ⊢; omega

theorem Scr.kept {w w' : World} {ao : Option Addr} {L : List Stp} (h : Scr w ao L) (hk : Kept [] w w') : Scr w' ao L := fun i hi => by
  obtain ⟨b, off, e, h1, h2⟩ := h i hi
  exact ⟨b, off, e, fun j v hj => hk.cellOf (h1 j v hj) (by simp), h2.kept hk⟩
theorem Pl.mono {w wr : World} {P N M : Nat} (h : Pl w wr P N) (hm : N ≤ M) : Pl w wr P M := by
  obtain ⟨h1, p, q, D, bo, R, S, h2⟩ := h
  exact ⟨h1, p, q, D, bo, R, S, h2.mono hm hm⟩
theorem Ts2.new {w v : World} {P P2 N k : Nat} {L L' : List Stp} (h : Tp w v P N P2 N) (hN : costs (L.take k) + 3 * k = N) (hb : N ≤ 101000) : Ts2 w v P (k : Int) L L' k (k + 1) (.pointer (some ⟨P2, 0, none⟩)) := by
  refine .inr ⟨P2, rfl, ⟨by omega, by omega⟩, hide (h.mono (by omega) (by omega))⟩
theorem Ts2.next {w v : World} {P k : Nat} {t : Int} {L L' : List Stp} {y : Value} (h : Ts2 w v P t L L' k k y) (hne : ¬ (k : Int) = t) : Ts2 w v P t L L' k (k + 1) y := by
  rcases h with ⟨h1, h2, h3⟩ | ⟨P2, h1, h2, h3⟩
  · exact .inl ⟨h1, by omega, h3⟩
  · exact .inr ⟨P2, h1, by omega, h3⟩
theorem costs_next {L : List Stp} {k : Nat} (h : k < L.length) : costs (L.take (k + 1)) = costs (L.take k) + ((L.getD k stp0).dn + 8 * (L.getD k stp0).pn) := by rw [stp_snoc L k h, costs_snoc]; rfl
theorem costs_over {L : List Stp} {k : Nat} (h : L.length ≤ k) : costs (L.take (k + 1)) = costs (L.take k) := by rw [List.take_of_length_le h, List.take_of_length_le (by omega)]
/-- A step of a script: what lies in memory, and its sizes. -/
structure StA (w : World) (b off : Nat) (s : Stp) (M : Nat) : Prop where
  cl : ∀ j v, s.cells[j]? = some v → w.cell? ⟨b, off + j, none⟩ = some v
  inn : StpIn w s
  dn : s.dn ≤ M
  pn : s.pn ≤ M
theorem Scr.at {w : World} {ao : Option Addr} {L : List Stp} {M k : Nat} (h : Scr w ao L) (hM : costs L ≤ M) (hk : k < L.length) : ∃ b off, ao = some ⟨b, off, none⟩ ∧ StA w b (off + k * 10) (L.getD k stp0) M := by
  obtain ⟨b, off, e, h1, h2⟩ := h k hk
  have h3 := cost_at hk
  have h4 : (L.getD k stp0).cost = (L.getD k stp0).dn + 8 * (L.getD k stp0).pn := rfl
  exact ⟨b, off, e, fun j v hj => by have := h1 j v hj; rw [Nat.mul_comm 10 k] at this; exact this, h2, by omega, by omega⟩

set_option maxHeartbeats 6400000 in
set_option maxRecDepth 100000 in
theorem twin_walk (hst : StandsOk) (r : Int) (ao : Option Addr) (n cap : Nat) (L : List Stp) (t : Int) (ao' : Option Addr) (n' cap' : Nat) (L' : List Stp) (w : World) (hl : L.length = n) (hs : Scr w ao L) (hn : n ≤ 9223372036854775807) (hrw : (Lit.int .i64 r).wf = true) (htw : (Lit.int .i64 t).wf = true) (hl' : L'.length = n') (hs' : Scr w ao' L') (hn' : n' ≤ 9223372036854775807) :
    Calls Tryz.prog 5 #[.int .i64 r, .slice ao n cap, .int .i64 t, .slice ao' n' cap'] w fun e w' => e = .returned (.bool true) ∧ Kept [] w w' := by
  have hlg := long_any ao n cap L w hl hn hs
  have hlg' := fun w1 (hk : Kept [] w w1) => long_any ao' n' cap' L' w1 hl' hn' (hs'.kept hk)
  have hmd := fun w1 hk => made_pl r w w1 hk hrw
  have HS : Hid (Scr w ao L) := hs
  have HL : Hid (L.length = n) := hl
  have HS' : Hid (Scr w ao' L') := hs'
  have HL' : Hid (L'.length = n') := hl'
  have HST := hide hst
  clear hs hl hst hs' hl'
  go_enter Tryz.func5, Tryz.ntmps5
  go_upto_region 3 with (first
    | (go_at_call 7; refine hlg.mono ?_; rintro e w1 ⟨he, hk1⟩; clear hlg; have hlh := hlg' w1 hk1; clear hlg'; rcases he with rfl | ⟨rfl, hsh⟩)
    | (go_at_call 7; refine hlh.mono ?_; rintro e w2 ⟨he, hk2⟩; clear hlh; have hk1 := hk1.trans hk2 (by simp); rcases he with rfl | ⟨rfl, hsh'⟩))
  · go_ret
    exact ⟨rfl, hk1⟩
  · go_ret
    exact ⟨rfl, hk1⟩
  have hmd := hmd w2 hk1
  go_upto_region 4 with (go_at_call 16; refine hmd.mono ?_; rintro e w3 ⟨P, rfl, hk3, hc⟩; clear hmd)
  rcases hc with ⟨_, c0⟩ | ⟨_, ⟨p, c0⟩, hP⟩
  · go_wp2_with (go_at_call 13; refine (known_ok _).mono ?_; rintro e w4 ⟨rfl, hk4⟩)
    go_ret
    exact ⟨rfl, hk3.trans hk4 (by simp)⟩
  have HC : Hid (costs L ≤ 100000) := hide hsh.2
  have hn3 : n ≤ 300 := by rw [← HL.out]; exact hsh.1
  have HC' : Hid (costs L' ≤ 100000) := hide hsh'.2
  have hn3' : n' ≤ 300 := by rw [← HL'.out]; exact hsh'.1
  have H2 := hide hP
  clear hsh hsh' hP hk1 hk2 hk3
  go_wp2
  clear c0
  go_loopw [11, 12] (fun y i wr => ∃ k : Nat, k ≤ n + 1 ∧ i = .int .i64 k ∧ Ts2 w wr P t L L' k k y) (fun y i wr => n + 1 - (intOf i).toNat)
  case atStart => exact ⟨0, Nat.zero_le _, rfl, .inl ⟨rfl, by omega, by simpa [costs] using H2⟩⟩
  case round =>
    clear H2
    obtain ⟨k, hk, rfl, HA⟩ := hrel
    by_cases hlt : k ≤ n
    · have hcc := HC.out
      have hcc' := HC'.out
      have hlk : costs (L.take k) ≤ costs L := costs_take L k
      go_upto_if 45 with (fail)
      go_cut [11] from 37 to 103 (fun y wx => Ts2 w wx P t L L' k (k + 1) y)
      case first =>
        by_cases hat : (k : Int) = t
        · have hy : u11 = .pointer none ∧ Hid (Pl w wr P (costs (L.take k) + 3 * k)) := by
            rcases HA with ⟨h1, _, h2⟩ | ⟨P2, h1, h2, _⟩
            · exact ⟨h1, h2⟩
            · omega
          obtain ⟨rfl, HP⟩ := hy
          clear HA
          obtain ⟨p, q, D, bo, R, S, hq⟩ := HP.out.2
          have HQ := hide hq
          have HRP : Hid (Rp P p q wr) := hide ⟨hq.cell 0 _ rfl, hq.cell 1 _ rfl⟩
          obtain ⟨N, hNe⟩ : ∃ N, costs (L.take k) + 3 * k = N := ⟨_, rfl⟩
          have hN9 : N ≤ 101000 := by omega
          have HNE := hide hNe
          rw [hNe] at HQ HP
          have HN : Hid (N ≤ 268435456) := hide (by omega)
          clear hq hNe
          subst hat
          go_upto_region 11 with (fail)
          refine wp_region_held_drew (S := Rp P p q) (by kernel_rfl) (HRP.out.kept ((Kept.refl [] wr).drew)) (fun h0 => ?_)
          have HQ0 : Hid (Pq (fun b => b < w.heap.size) wr.drew P p q D bo R S N S N) := hide (HQ.out.kept ((Kept.refl [] wr).drew))
          have HK0 : Hid (Kept [] wr wr.drew) := hide ((Kept.refl [] wr).drew)
          generalize World.drew wr = v0 at h0 HQ0 HK0 ⊢
          refine wpAnyH_take (i := 0) (v := .pointer (some ⟨P, 0, none⟩)) rfl (by kernel_rfl) (by kernel_rfl) (by kernel_rfl) (fun _ _ _ h => h) (Or.inl ⟨by rfl, fun w hSw => by go_simp⟩) h0 ?_
          try simp only [Act.put, List.setIfInBounds_toArray, List.set_cons_zero, List.set_cons_succ]
          refine wpAnyH_take (i := 1) (v := .pointer (some ⟨P, 0, none⟩)) rfl (by kernel_rfl) (by kernel_rfl) (by kernel_rfl) (fun _ _ _ h => h) (Or.inl ⟨by rfl, fun w hSw => by go_simp⟩) h0 ?_
          try simp only [Act.put, List.setIfInBounds_toArray, List.set_cons_zero, List.set_cons_succ]
          refine wpAnyH_take (i := 2) (v := .pointer (some ⟨P, 0, none⟩)) rfl (by kernel_rfl) (by kernel_rfl) (by kernel_rfl) (fun _ _ _ h => h) (Or.inl ⟨by rfl, fun w hSw => by go_simp⟩) h0 ?_
          try simp only [Act.put, List.setIfInBounds_toArray, List.set_cons_zero, List.set_cons_succ]
          refine wpAnyH_take (i := 3) (v := .pointer (some ⟨p, 0, none⟩)) rfl (by kernel_rfl) (by kernel_rfl) (by kernel_rfl) (fun _ _ _ h => h) (Or.inl ⟨by rfl, fun w hSw => by have c0 := hSw.p0; go_simp⟩) h0 ?_
          try simp only [Act.put, List.setIfInBounds_toArray, List.set_cons_zero, List.set_cons_succ]
          refine wpAnyH_take (i := 5) (v := .pointer (some ⟨P, 0, none⟩)) rfl (by kernel_rfl) (by kernel_rfl) (by kernel_rfl) (fun _ _ _ h => h) (Or.inl ⟨by rfl, fun w hSw => by go_simp⟩) h0 ?_
          try simp only [Act.put, List.setIfInBounds_toArray, List.set_cons_zero, List.set_cons_succ]
          refine wpAnyH_take (i := 6) (v := .pointer (some ⟨P, 0, none⟩)) rfl (by kernel_rfl) (by kernel_rfl) (by kernel_rfl) (fun _ _ _ h => h) (Or.inl ⟨by rfl, fun w hSw => by go_simp⟩) h0 ?_
          try simp only [Act.put, List.setIfInBounds_toArray, List.set_cons_zero, List.set_cons_succ]
          refine wpAnyH_take (i := 7) (v := .pointer (some ⟨P, 1, none⟩)) rfl (by kernel_rfl) (by kernel_rfl) (by kernel_rfl) (fun _ _ _ h => h) (Or.inl ⟨by rfl, fun w hSw => by go_simp⟩) h0 ?_
          try simp only [Act.put, List.setIfInBounds_toArray, List.set_cons_zero, List.set_cons_succ]
          refine wpAnyH_take (i := 8) (v := .pointer (some ⟨q, 0, none⟩)) rfl (by kernel_rfl) (by kernel_rfl) (by kernel_rfl) (fun _ _ _ h => h) (Or.inl ⟨by rfl, fun w hSw => by have c0 := hSw.p1; go_simp⟩) h0 ?_
          try simp only [Act.put, List.setIfInBounds_toArray, List.set_cons_zero, List.set_cons_succ]
          refine wpAnyH_take (i := 10) (v := .agg #[.slice none 0 0, .slice none 0 0]) rfl (by kernel_rfl) (by kernel_rfl) (by kernel_rfl) (fun _ _ _ h => h) (Or.inl ⟨by rfl, fun w hSw => by go_simp⟩) h0 ?_
          try simp only [Act.put, List.setIfInBounds_toArray, List.set_cons_zero, List.set_cons_succ]
          refine wpAnyH_ready (rs := [4, 11]) (by kernel_rfl) (by simp) (AllReadyH.cons (i := 4) rfl (fun K hK => ?_) (AllReadyH.cons (i := 11) rfl (fun K hK => ?_) AllReadyH.nil))
          · rw [if_pos (by rfl)]
            go_simp
            refine ((HQ0.out.kept (Kept.refl [] v0)).twin1 HN.out).mono ?_
            rintro e v1 ⟨p2, rfl, ht1⟩
            have HT1 := hide ht1
            clear ht1
            refine hK.out _ _ (h0.kept HT1.out.1) (fun h1 => ?_)
            clear hK K
            try simp only [Act.put, List.setIfInBounds_toArray, List.set_cons_zero, List.set_cons_succ]
            refine wpAnyH_ready (rs := [9, 11]) (by kernel_rfl) (by simp) (AllReadyH.cons (i := 9) rfl (fun K hK => ?_) (AllReadyH.cons (i := 11) rfl (fun K hK => ?_) AllReadyH.nil))
            · rw [if_pos (by rfl)]
              go_simp
              refine ((HQ0.out.kept (HT1.out.1)).twin2 HN.out).mono ?_
              rintro e v2 ⟨q2, rfl, ht2⟩
              have HT2 := hide ht2
              clear ht2
              refine hK.out _ _ (h1.kept HT2.out.1) (fun h2 => ?_)
              clear hK K
              try simp only [Act.put, List.setIfInBounds_toArray, List.set_cons_zero, List.set_cons_succ]
              refine wpAnyH_ready (rs := [11]) (by kernel_rfl) (by simp) (AllReadyH.cons (i := 11) rfl (fun K hK => ?_) AllReadyH.nil)
              rw [if_pos (by rfl)]
              go_simp
              obtain ⟨v3, hbv3⟩ : ∃ x, x = v2.alloc (.cells #[.slice none 0 0, .slice none 0 0] 45) := ⟨_, rfl⟩
              rw [← hbv3]
              have kb : Kept [] v2 v3 := by rw [hbv3]; exact (Kept.refl [] _).alloc _
              have sb : v3.heap.size = v2.heap.size + 1 := by rw [hbv3]; exact size_alloc _ _
              have db : v3.heap[v2.heap.size]? = some (.cells #[.slice none 0 0, .slice none 0 0] 45 (0, 0)) := by rw [hbv3]; exact desk_at _
              refine hK.out _ _ (h2.kept kb) (fun h3 => ?_)
              clear hK K hbv3
              try simp only [Act.put, List.setIfInBounds_toArray, List.set_cons_zero, List.set_cons_succ]
              refine wpAnyH_take (i := 12) (v := .agg #[.pointer (some ⟨p2, 0, none⟩), .pointer (some ⟨q2, 0, none⟩), .pointer (some ⟨v2.heap.size, 0, none⟩)]) rfl (by kernel_rfl) (by kernel_rfl) (by kernel_rfl) (fun _ _ _ h => h) (Or.inl ⟨by rfl, fun w hSw => by go_simp⟩) h3 ?_
              try simp only [Act.put, List.setIfInBounds_toArray, List.set_cons_zero, List.set_cons_succ]
              refine wpAnyH_ready (rs := [13]) (by kernel_rfl) (by simp) (AllReadyH.cons (i := 13) rfl (fun K hK => ?_) AllReadyH.nil)
              rw [if_pos (by rfl)]
              go_simp
              obtain ⟨v9, hv9⟩ : ∃ v9, v9 = v3.alloc (.cells #[.pointer (some ⟨p2, 0, none⟩), .pointer (some ⟨q2, 0, none⟩), .pointer (some ⟨v2.heap.size, 0, none⟩)] 47) := ⟨_, rfl⟩
              rw [← hv9]
              have HF : Hid (Kept [] wr v9 ∧ ∀ X : Nat → Prop, (∀ b, X b → b < wr.heap.size) → Pq X v9 v3.heap.size p2 q2 (v2.heap.size) none [] S.compact N S.compact N) := hide ⟨(Tw.put (X := fun _ => False) (fun _ h => h.elim) HK0.out HT1.out (Kept.refl [] v1) HT2.out kb db (by have := HK0.out.size; have := (HK0.out).size; have := (HT1.out).1.size; have := ((Kept.refl [] v1)).size; have := (HT2.out).1.size; omega) (.inr HT2.out.1.size) (.inr (Nat.le_refl _)) hv9).1, fun X hX => (Tw.put hX HK0.out HT1.out (Kept.refl [] v1) HT2.out kb db (by have := HK0.out.size; have := (HK0.out).size; have := (HT1.out).1.size; have := ((Kept.refl [] v1)).size; have := (HT2.out).1.size; omega) (.inr HT2.out.1.size) (.inr (Nat.le_refl _)) hv9).2⟩
              refine hK.out _ _ (h3.kept (by rw [hv9]; exact (Kept.refl [] _).alloc _)) (fun h9 => ?_)
              clear hK K hv9
              try simp only [Act.put, List.setIfInBounds_toArray, List.set_cons_zero, List.set_cons_succ]
              refine wpAnyH_take (i := 14) (v := .pointer (some ⟨v3.heap.size, 0, none⟩)) rfl (by kernel_rfl) (by kernel_rfl) (by kernel_rfl) (fun _ _ _ h => h) (Or.inl ⟨by rfl, fun w hSw => by go_simp⟩) h9 ?_
              try simp only [Act.put, List.setIfInBounds_toArray, List.set_cons_zero, List.set_cons_succ]
              refine wpAnyH_done (by kernel_rfl) ?_ _
              generalize v3.heap.size = P2 at HF ⊢
              have HTP := hide (HP.out.pair HF.out.1 HF.out.2)
              have c2 := (HF.out.2 (fun _ => False) (fun _ h => h.elim)).cell 0 _ rfl
              have hsd := tp_stands HST.out HTP.out.swap HN.out
              clear HF HTP HQ0 HK0 HT1 HT2 h9
              go_wp2_with (go_at_call 14; refine hsd.mono ?_; rintro e w5 ⟨rfl, hp5⟩; have H5 := hide hp5; clear hsd hp5 c2)
              go_meet
              case rel => exact Ts2.new H5.out.swap HNE.out hN9
            · rw [if_pos (by rfl)]
              go_simp
              obtain ⟨v2, hbv2⟩ : ∃ x, x = v1.alloc (.cells #[.slice none 0 0, .slice none 0 0] 45) := ⟨_, rfl⟩
              rw [← hbv2]
              have kb : Kept [] v1 v2 := by rw [hbv2]; exact (Kept.refl [] _).alloc _
              have sb : v2.heap.size = v1.heap.size + 1 := by rw [hbv2]; exact size_alloc _ _
              have db : v2.heap[v1.heap.size]? = some (.cells #[.slice none 0 0, .slice none 0 0] 45 (0, 0)) := by rw [hbv2]; exact desk_at _
              refine hK.out _ _ (h1.kept kb) (fun h2 => ?_)
              clear hK K hbv2
              try simp only [Act.put, List.setIfInBounds_toArray, List.set_cons_zero, List.set_cons_succ]
              refine wpAnyH_ready (rs := [9]) (by kernel_rfl) (by simp) (AllReadyH.cons (i := 9) rfl (fun K hK => ?_) AllReadyH.nil)
              rw [if_pos (by rfl)]
              go_simp
              refine ((HQ0.out.kept ((HT1.out.1.trans kb (by simp)))).twin2 HN.out).mono ?_
              rintro e v3 ⟨q2, rfl, ht2⟩
              have HT2 := hide ht2
              clear ht2
              refine hK.out _ _ (h2.kept HT2.out.1) (fun h3 => ?_)
              clear hK K
              try simp only [Act.put, List.setIfInBounds_toArray, List.set_cons_zero, List.set_cons_succ]
              refine wpAnyH_take (i := 12) (v := .agg #[.pointer (some ⟨p2, 0, none⟩), .pointer (some ⟨q2, 0, none⟩), .pointer (some ⟨v1.heap.size, 0, none⟩)]) rfl (by kernel_rfl) (by kernel_rfl) (by kernel_rfl) (fun _ _ _ h => h) (Or.inl ⟨by rfl, fun w hSw => by go_simp⟩) h3 ?_
              try simp only [Act.put, List.setIfInBounds_toArray, List.set_cons_zero, List.set_cons_succ]
              refine wpAnyH_ready (rs := [13]) (by kernel_rfl) (by simp) (AllReadyH.cons (i := 13) rfl (fun K hK => ?_) AllReadyH.nil)
              rw [if_pos (by rfl)]
              go_simp
              obtain ⟨v9, hv9⟩ : ∃ v9, v9 = v3.alloc (.cells #[.pointer (some ⟨p2, 0, none⟩), .pointer (some ⟨q2, 0, none⟩), .pointer (some ⟨v1.heap.size, 0, none⟩)] 47) := ⟨_, rfl⟩
              rw [← hv9]
              have HF : Hid (Kept [] wr v9 ∧ ∀ X : Nat → Prop, (∀ b, X b → b < wr.heap.size) → Pq X v9 v3.heap.size p2 q2 (v1.heap.size) none [] S.compact N S.compact N) := hide ⟨(Tw.put (X := fun _ => False) (fun _ h => h.elim) HK0.out HT1.out kb HT2.out (Kept.refl [] v3) (by rw [HT2.out.1.block _ (by omega) (by simp)]; exact db) (by have := HK0.out.size; have := (HK0.out).size; have := (HT1.out).1.size; have := (kb).size; have := (HT2.out).1.size; omega) (.inr (Nat.le_refl _)) (.inl (by omega)) hv9).1, fun X hX => (Tw.put hX HK0.out HT1.out kb HT2.out (Kept.refl [] v3) (by rw [HT2.out.1.block _ (by omega) (by simp)]; exact db) (by have := HK0.out.size; have := (HK0.out).size; have := (HT1.out).1.size; have := (kb).size; have := (HT2.out).1.size; omega) (.inr (Nat.le_refl _)) (.inl (by omega)) hv9).2⟩
              refine hK.out _ _ (h3.kept (by rw [hv9]; exact (Kept.refl [] _).alloc _)) (fun h9 => ?_)
              clear hK K hv9
              try simp only [Act.put, List.setIfInBounds_toArray, List.set_cons_zero, List.set_cons_succ]
              refine wpAnyH_take (i := 14) (v := .pointer (some ⟨v3.heap.size, 0, none⟩)) rfl (by kernel_rfl) (by kernel_rfl) (by kernel_rfl) (fun _ _ _ h => h) (Or.inl ⟨by rfl, fun w hSw => by go_simp⟩) h9 ?_
              try simp only [Act.put, List.setIfInBounds_toArray, List.set_cons_zero, List.set_cons_succ]
              refine wpAnyH_done (by kernel_rfl) ?_ _
              generalize v3.heap.size = P2 at HF ⊢
              have HTP := hide (HP.out.pair HF.out.1 HF.out.2)
              have c2 := (HF.out.2 (fun _ => False) (fun _ h => h.elim)).cell 0 _ rfl
              have hsd := tp_stands HST.out HTP.out.swap HN.out
              clear HF HTP HQ0 HK0 HT1 HT2 h9
              go_wp2_with (go_at_call 14; refine hsd.mono ?_; rintro e w5 ⟨rfl, hp5⟩; have H5 := hide hp5; clear hsd hp5 c2)
              go_meet
              case rel => exact Ts2.new H5.out.swap HNE.out hN9
          · rw [if_pos (by rfl)]
            go_simp
            obtain ⟨v1, hbv1⟩ : ∃ x, x = v0.alloc (.cells #[.slice none 0 0, .slice none 0 0] 45) := ⟨_, rfl⟩
            rw [← hbv1]
            have kb : Kept [] v0 v1 := by rw [hbv1]; exact (Kept.refl [] _).alloc _
            have sb : v1.heap.size = v0.heap.size + 1 := by rw [hbv1]; exact size_alloc _ _
            have db : v1.heap[v0.heap.size]? = some (.cells #[.slice none 0 0, .slice none 0 0] 45 (0, 0)) := by rw [hbv1]; exact desk_at _
            refine hK.out _ _ (h0.kept kb) (fun h1 => ?_)
            clear hK K hbv1
            try simp only [Act.put, List.setIfInBounds_toArray, List.set_cons_zero, List.set_cons_succ]
            refine wpAnyH_ready (rs := [4]) (by kernel_rfl) (by simp) (AllReadyH.cons (i := 4) rfl (fun K hK => ?_) AllReadyH.nil)
            rw [if_pos (by rfl)]
            go_simp
            refine ((HQ0.out.kept (kb)).twin1 HN.out).mono ?_
            rintro e v2 ⟨p2, rfl, ht1⟩
            have HT1 := hide ht1
            clear ht1
            refine hK.out _ _ (h1.kept HT1.out.1) (fun h2 => ?_)
            clear hK K
            try simp only [Act.put, List.setIfInBounds_toArray, List.set_cons_zero, List.set_cons_succ]
            refine wpAnyH_ready (rs := [9]) (by kernel_rfl) (by simp) (AllReadyH.cons (i := 9) rfl (fun K hK => ?_) AllReadyH.nil)
            rw [if_pos (by rfl)]
            go_simp
            refine ((HQ0.out.kept ((kb.trans HT1.out.1 (by simp)))).twin2 HN.out).mono ?_
            rintro e v3 ⟨q2, rfl, ht2⟩
            have HT2 := hide ht2
            clear ht2
            refine hK.out _ _ (h2.kept HT2.out.1) (fun h3 => ?_)
            clear hK K
            try simp only [Act.put, List.setIfInBounds_toArray, List.set_cons_zero, List.set_cons_succ]
            refine wpAnyH_take (i := 12) (v := .agg #[.pointer (some ⟨p2, 0, none⟩), .pointer (some ⟨q2, 0, none⟩), .pointer (some ⟨v0.heap.size, 0, none⟩)]) rfl (by kernel_rfl) (by kernel_rfl) (by kernel_rfl) (fun _ _ _ h => h) (Or.inl ⟨by rfl, fun w hSw => by go_simp⟩) h3 ?_
            try simp only [Act.put, List.setIfInBounds_toArray, List.set_cons_zero, List.set_cons_succ]
            refine wpAnyH_ready (rs := [13]) (by kernel_rfl) (by simp) (AllReadyH.cons (i := 13) rfl (fun K hK => ?_) AllReadyH.nil)
            rw [if_pos (by rfl)]
            go_simp
            obtain ⟨v9, hv9⟩ : ∃ v9, v9 = v3.alloc (.cells #[.pointer (some ⟨p2, 0, none⟩), .pointer (some ⟨q2, 0, none⟩), .pointer (some ⟨v0.heap.size, 0, none⟩)] 47) := ⟨_, rfl⟩
            rw [← hv9]
            have HF : Hid (Kept [] wr v9 ∧ ∀ X : Nat → Prop, (∀ b, X b → b < wr.heap.size) → Pq X v9 v3.heap.size p2 q2 (v0.heap.size) none [] S.compact N S.compact N) := hide ⟨(Tw.put (X := fun _ => False) (fun _ h => h.elim) (HK0.out.trans kb (by simp)) HT1.out (Kept.refl [] v2) HT2.out (Kept.refl [] v3) (by have := HT1.out.1.size; rw [HT2.out.1.block _ (by omega) (by simp), HT1.out.1.block _ (by omega) (by simp)]; exact db) (by have := HK0.out.size; have := ((HK0.out.trans kb (by simp))).size; have := (HT1.out).1.size; have := ((Kept.refl [] v2)).size; have := (HT2.out).1.size; omega) (.inl (by omega)) (.inl (by have := HT1.out.1.size; omega)) hv9).1, fun X hX => (Tw.put hX (HK0.out.trans kb (by simp)) HT1.out (Kept.refl [] v2) HT2.out (Kept.refl [] v3) (by have := HT1.out.1.size; rw [HT2.out.1.block _ (by omega) (by simp), HT1.out.1.block _ (by omega) (by simp)]; exact db) (by have := HK0.out.size; have := ((HK0.out.trans kb (by simp))).size; have := (HT1.out).1.size; have := ((Kept.refl [] v2)).size; have := (HT2.out).1.size; omega) (.inl (by omega)) (.inl (by have := HT1.out.1.size; omega)) hv9).2⟩
            refine hK.out _ _ (h3.kept (by rw [hv9]; exact (Kept.refl [] _).alloc _)) (fun h9 => ?_)
            clear hK K hv9
            try simp only [Act.put, List.setIfInBounds_toArray, List.set_cons_zero, List.set_cons_succ]
            refine wpAnyH_take (i := 14) (v := .pointer (some ⟨v3.heap.size, 0, none⟩)) rfl (by kernel_rfl) (by kernel_rfl) (by kernel_rfl) (fun _ _ _ h => h) (Or.inl ⟨by rfl, fun w hSw => by go_simp⟩) h9 ?_
            try simp only [Act.put, List.setIfInBounds_toArray, List.set_cons_zero, List.set_cons_succ]
            refine wpAnyH_done (by kernel_rfl) ?_ _
            generalize v3.heap.size = P2 at HF ⊢
            have HTP := hide (HP.out.pair HF.out.1 HF.out.2)
            have c2 := (HF.out.2 (fun _ => False) (fun _ h => h.elim)).cell 0 _ rfl
            have hsd := tp_stands HST.out HTP.out.swap HN.out
            clear HF HTP HQ0 HK0 HT1 HT2 h9
            go_wp2_with (go_at_call 14; refine hsd.mono ?_; rintro e w5 ⟨rfl, hp5⟩; have H5 := hide hp5; clear hsd hp5 c2)
            go_meet
            case rel => exact Ts2.new H5.out.swap HNE.out hN9
        · go_wp2
          go_meet
          case rel => exact HA.next hat
      case rest =>
        clear HA
        rcases hcut with ⟨rfl, hnt, HA⟩ | ⟨P2, rfl, hnt, HA⟩
        · by_cases hkn : k < n
          · have hkL : k < L.length := by rw [HL.out]; exact hkn
            obtain ⟨b, off, rfl, hst⟩ := HS.out.at hcc hkL
            have hnx := costs_next hkL
            have hlx : costs (L.take (k + 1)) ≤ costs L := costs_take L (k + 1)
            have HC := hide hst
            have hkx : Kept [] w wc := HA.out.1
            have c0 := hkx.cellOf (HC.out.cl 0 _ rfl) (by simp)
            have c1 := hkx.cellOf (HC.out.cl 1 _ rfl) (by simp)
            have c2 := hkx.cellOf (HC.out.cl 2 _ rfl) (by simp)
            have c3 := hkx.cellOf (HC.out.cl 3 _ rfl) (by simp)
            have c4 := hkx.cellOf (HC.out.cl 4 _ rfl) (by simp)
            have c5 := hkx.cellOf (HC.out.cl 5 _ rfl) (by simp)
            have c6 := hkx.cellOf (HC.out.cl 6 _ rfl) (by simp)
            have c7 := hkx.cellOf (HC.out.cl 7 _ rfl) (by simp)
            have c8 := hkx.cellOf (HC.out.cl 8 _ rfl) (by simp)
            have c9 := hkx.cellOf (HC.out.cl 9 _ rfl) (by simp)
            rw [Nat.add_zero] at c0
            clear hkx hst
            have hstp := pl_step HA.out (L.getD k stp0) HC.out.inn (by have := HC.out.dn; omega) (by have := HC.out.pn; omega)
            obtain ⟨N, hNe⟩ : ∃ N, costs (L.take k) + 3 * k = N := ⟨_, rfl⟩
            have hN2 : N + (L.getD k stp0).dn + 3 ≤ costs (L.take (k + 1)) + 3 * (k + 1) := by omega
            rw [hNe] at hstp
            generalize L.getD k stp0 = s at *
            simp only [Stp.cells] at hstp
            have HN2 := hide hN2
            clear hN2 hnx hlx hNe hkL HC
            go_upto_region 16 with (go_at_call 15; refine hstp.mono ?_; rintro e w4 ⟨rfl, hp4⟩; have HB := hide hp4; clear hstp hp4 c0 c1 c2 c3 c4 c5 c6 c7 c8 c9 HA)
            go_wp2
            go_roundw
            case rel => repeat (first | exact ⟨k + 1, by omega, by go_num, .inl ⟨rfl, by omega, hide (HB.out.mono HN2.out)⟩⟩ | exact ⟨⟨k + 1, by omega, by go_num, .inl ⟨rfl, by omega, hide (HB.out.mono HN2.out)⟩⟩, rfl⟩ | apply Exists.intro)
            case measure => simp [intOf]; omega
          · have hov : costs (L.take (k + 1)) = costs (L.take k) := costs_over (by rw [HL.out]; omega)
            have HN2 : Hid (costs (L.take k) + 3 * k ≤ costs (L.take (k + 1)) + 3 * (k + 1)) := hide (by omega)
            clear hov
            have hkf : ¬ (k : Int) < (n : Int) := by omega
            go_upto_region 16 with (fail)
            have HB := HA
            clear HA
            go_wp2
            go_roundw
            case rel => repeat (first | exact ⟨k + 1, by omega, by go_num, .inl ⟨rfl, by omega, hide (HB.out.mono HN2.out)⟩⟩ | exact ⟨⟨k + 1, by omega, by go_num, .inl ⟨rfl, by omega, hide (HB.out.mono HN2.out)⟩⟩, rfl⟩ | apply Exists.intro)
            case measure => simp [intOf]; omega
        · obtain ⟨m, rfl⟩ : ∃ m : Nat, t = m := ⟨t.toNat, by omega⟩
          obtain ⟨j, hj⟩ : ∃ j, m + j = k := ⟨k - m, by omega⟩
          rw [show k - (m : Int).toNat = j by omega] at HA
          by_cases hkn : k < n
          · by_cases hjn : j < n'
            · have hkL : k < L.length := by rw [HL.out]; exact hkn
              obtain ⟨b, off, rfl, hst⟩ := HS.out.at hcc hkL
              have hnx := costs_next hkL
              have hlx : costs (L.take (k + 1)) ≤ costs L := costs_take L (k + 1)
              have HC := hide hst
              have hkx : Kept [] w wc := HA.out.1
              have c0 := hkx.cellOf (HC.out.cl 0 _ rfl) (by simp)
              have c1 := hkx.cellOf (HC.out.cl 1 _ rfl) (by simp)
              have c2 := hkx.cellOf (HC.out.cl 2 _ rfl) (by simp)
              have c3 := hkx.cellOf (HC.out.cl 3 _ rfl) (by simp)
              have c4 := hkx.cellOf (HC.out.cl 4 _ rfl) (by simp)
              have c5 := hkx.cellOf (HC.out.cl 5 _ rfl) (by simp)
              have c6 := hkx.cellOf (HC.out.cl 6 _ rfl) (by simp)
              have c7 := hkx.cellOf (HC.out.cl 7 _ rfl) (by simp)
              have c8 := hkx.cellOf (HC.out.cl 8 _ rfl) (by simp)
              have c9 := hkx.cellOf (HC.out.cl 9 _ rfl) (by simp)
              rw [Nat.add_zero] at c0
              clear hkx hst
              have hstp := tp_step HA.out (L.getD k stp0) HC.out.inn (by omega) (by have := HC.out.dn; omega) (by have := HC.out.pn; omega)
              obtain ⟨N, hNe⟩ : ∃ N, costs (L.take k) + 3 * k = N := ⟨_, rfl⟩
              have hN2 : N + (L.getD k stp0).dn + 3 ≤ costs (L.take (k + 1)) + 3 * (k + 1) := by omega
              rw [hNe] at hstp
              generalize L.getD k stp0 = s at *
              simp only [Stp.cells] at hstp
              have HN2 := hide hN2
              clear hN2 hnx hlx hNe hkL HC
              have wsub : IntKind.i64.wrap ((k : Int) - (m : Int)) = (j : Int) := by rw [IntKind.wrap_i64]; omega
              have hjL : j < L'.length := by rw [HL'.out]; exact hjn
              obtain ⟨b', off', rfl, hsu⟩ := HS'.out.at hcc' hjL
              have hny := costs_next hjL
              have HD := hide hsu
              have HNY := hide hny
              clear hsu hny
              have hjb : costs (L'.take j) ≤ costs L' := costs_take L' j
              have HOT : Hid (∀ v A, Tp w v P2 (110000 + costs (L'.take j) + 3 * j) P A → Calls Tryz.prog 15 #[.pointer (some ⟨P2, 0, none⟩), .agg (L'.getD j stp0).cells.toArray] v fun e w' => e = .returned (.bool true) ∧ Tp w w' P2 (110000 + costs (L'.take j) + 3 * j + (L'.getD j stp0).dn + 3) P A) := hide (fun v A hv => tp_step hv (L'.getD j stp0) HD.out.inn (by omega) (by have := HD.out.dn; omega) (by have := HD.out.pn; omega))
              have HNJ : Hid (110000 + costs (L'.take j) + 3 * j + (L'.getD j stp0).dn + 3 ≤ 110000 + costs (L'.take (j + 1)) + 3 * (j + 1)) := hide (by have := HNY.out; omega)
              clear HNY hjb hjL
              generalize L'.getD j stp0 = s' at *
              generalize 110000 + costs (L'.take j) + 3 * j = M at *
              go_upto_region 16 with (go_at_call 15; refine hstp.mono ?_; rintro e w4 ⟨rfl, hp4⟩; have HB := hide hp4; clear hstp hp4 c0 c1 c2 c3 c4 c5 c6 c7 c8 c9 HA)
              have hky : Kept [] w w4 := HB.out.1
              have d0 := hky.cellOf (HD.out.cl 0 _ rfl) (by simp)
              have d1 := hky.cellOf (HD.out.cl 1 _ rfl) (by simp)
              have d2 := hky.cellOf (HD.out.cl 2 _ rfl) (by simp)
              have d3 := hky.cellOf (HD.out.cl 3 _ rfl) (by simp)
              have d4 := hky.cellOf (HD.out.cl 4 _ rfl) (by simp)
              have d5 := hky.cellOf (HD.out.cl 5 _ rfl) (by simp)
              have d6 := hky.cellOf (HD.out.cl 6 _ rfl) (by simp)
              have d7 := hky.cellOf (HD.out.cl 7 _ rfl) (by simp)
              have d8 := hky.cellOf (HD.out.cl 8 _ rfl) (by simp)
              have d9 := hky.cellOf (HD.out.cl 9 _ rfl) (by simp)
              rw [Nat.add_zero] at d0
              have hsto := HOT.out w4 _ HB.out.swap
              simp only [Stp.cells] at hsto
              clear hky
              clear HOT HD
              go_wp2_with (go_at_call 15; refine hsto.mono ?_; rintro e w5 ⟨rfl, hp5⟩; have HZ := hide hp5; clear hsto hp5 d0 d1 d2 d3 d4 d5 d6 d7 d8 d9)
              go_roundw
              case rel => repeat (first | exact ⟨k + 1, by omega, by go_num, .inr ⟨P2, rfl, by omega, hide (by rw [show k + 1 - (m : Int).toNat = j + 1 by omega]; exact HZ.out.swap.mono HN2.out HNJ.out)⟩⟩ | exact ⟨⟨k + 1, by omega, by go_num, .inr ⟨P2, rfl, by omega, hide (by rw [show k + 1 - (m : Int).toNat = j + 1 by omega]; exact HZ.out.swap.mono HN2.out HNJ.out)⟩⟩, rfl⟩ | apply Exists.intro)
              case measure => simp [intOf]; omega
            · have hkL : k < L.length := by rw [HL.out]; exact hkn
              obtain ⟨b, off, rfl, hst⟩ := HS.out.at hcc hkL
              have hnx := costs_next hkL
              have hlx : costs (L.take (k + 1)) ≤ costs L := costs_take L (k + 1)
              have HC := hide hst
              have hkx : Kept [] w wc := HA.out.1
              have c0 := hkx.cellOf (HC.out.cl 0 _ rfl) (by simp)
              have c1 := hkx.cellOf (HC.out.cl 1 _ rfl) (by simp)
              have c2 := hkx.cellOf (HC.out.cl 2 _ rfl) (by simp)
              have c3 := hkx.cellOf (HC.out.cl 3 _ rfl) (by simp)
              have c4 := hkx.cellOf (HC.out.cl 4 _ rfl) (by simp)
              have c5 := hkx.cellOf (HC.out.cl 5 _ rfl) (by simp)
              have c6 := hkx.cellOf (HC.out.cl 6 _ rfl) (by simp)
              have c7 := hkx.cellOf (HC.out.cl 7 _ rfl) (by simp)
              have c8 := hkx.cellOf (HC.out.cl 8 _ rfl) (by simp)
              have c9 := hkx.cellOf (HC.out.cl 9 _ rfl) (by simp)
              rw [Nat.add_zero] at c0
              clear hkx hst
              have hstp := tp_step HA.out (L.getD k stp0) HC.out.inn (by omega) (by have := HC.out.dn; omega) (by have := HC.out.pn; omega)
              obtain ⟨N, hNe⟩ : ∃ N, costs (L.take k) + 3 * k = N := ⟨_, rfl⟩
              have hN2 : N + (L.getD k stp0).dn + 3 ≤ costs (L.take (k + 1)) + 3 * (k + 1) := by omega
              rw [hNe] at hstp
              generalize L.getD k stp0 = s at *
              simp only [Stp.cells] at hstp
              have HN2 := hide hN2
              clear hN2 hnx hlx hNe hkL HC
              have wsub : IntKind.i64.wrap ((k : Int) - (m : Int)) = (j : Int) := by rw [IntKind.wrap_i64]; omega
              have hov' : costs (L'.take (j + 1)) = costs (L'.take j) := costs_over (by rw [HL'.out]; omega)
              have HNJ : Hid (110000 + costs (L'.take j) + 3 * j ≤ 110000 + costs (L'.take (j + 1)) + 3 * (j + 1)) := hide (by omega)
              clear hov'
              have hjf : ¬ (j : Int) < (n' : Int) := by omega
              generalize 110000 + costs (L'.take j) + 3 * j = M at *
              go_upto_region 16 with (go_at_call 15; refine hstp.mono ?_; rintro e w4 ⟨rfl, hp4⟩; have HB := hide hp4; clear hstp hp4 c0 c1 c2 c3 c4 c5 c6 c7 c8 c9 HA)
              go_wp2
              go_roundw
              case rel => repeat (first | exact ⟨k + 1, by omega, by go_num, .inr ⟨P2, rfl, by omega, hide (by rw [show k + 1 - (m : Int).toNat = j + 1 by omega]; exact HB.out.mono HN2.out HNJ.out)⟩⟩ | exact ⟨⟨k + 1, by omega, by go_num, .inr ⟨P2, rfl, by omega, hide (by rw [show k + 1 - (m : Int).toNat = j + 1 by omega]; exact HB.out.mono HN2.out HNJ.out)⟩⟩, rfl⟩ | apply Exists.intro)
              case measure => simp [intOf]; omega
          · by_cases hjn : j < n'
            · have hov : costs (L.take (k + 1)) = costs (L.take k) := costs_over (by rw [HL.out]; omega)
              have HOV := hide hov
              have HN2 : Hid (costs (L.take k) + 3 * k ≤ costs (L.take (k + 1)) + 3 * (k + 1)) := hide (by omega)
              clear hov
              have hkf : ¬ (k : Int) < (n : Int) := by omega
              have wsub : IntKind.i64.wrap ((k : Int) - (m : Int)) = (j : Int) := by rw [IntKind.wrap_i64]; omega
              have hjL : j < L'.length := by rw [HL'.out]; exact hjn
              obtain ⟨b', off', rfl, hsu⟩ := HS'.out.at hcc' hjL
              have hny := costs_next hjL
              have HD := hide hsu
              have HNY := hide hny
              clear hsu hny
              have hjb : costs (L'.take j) ≤ costs L' := costs_take L' j
              have HOT : Hid (∀ v A, Tp w v P2 (110000 + costs (L'.take j) + 3 * j) P A → Calls Tryz.prog 15 #[.pointer (some ⟨P2, 0, none⟩), .agg (L'.getD j stp0).cells.toArray] v fun e w' => e = .returned (.bool true) ∧ Tp w w' P2 (110000 + costs (L'.take j) + 3 * j + (L'.getD j stp0).dn + 3) P A) := hide (fun v A hv => tp_step hv (L'.getD j stp0) HD.out.inn (by omega) (by have := HD.out.dn; omega) (by have := HD.out.pn; omega))
              have HNJ : Hid (110000 + costs (L'.take j) + 3 * j + (L'.getD j stp0).dn + 3 ≤ 110000 + costs (L'.take (j + 1)) + 3 * (j + 1)) := hide (by have := HNY.out; omega)
              clear HNY hjb hjL
              generalize L'.getD j stp0 = s' at *
              generalize 110000 + costs (L'.take j) + 3 * j = M at *
              go_upto_region 16 with (fail)
              have HB := HA
              clear HA
              have hky : Kept [] w wc := HB.out.1
              have d0 := hky.cellOf (HD.out.cl 0 _ rfl) (by simp)
              have d1 := hky.cellOf (HD.out.cl 1 _ rfl) (by simp)
              have d2 := hky.cellOf (HD.out.cl 2 _ rfl) (by simp)
              have d3 := hky.cellOf (HD.out.cl 3 _ rfl) (by simp)
              have d4 := hky.cellOf (HD.out.cl 4 _ rfl) (by simp)
              have d5 := hky.cellOf (HD.out.cl 5 _ rfl) (by simp)
              have d6 := hky.cellOf (HD.out.cl 6 _ rfl) (by simp)
              have d7 := hky.cellOf (HD.out.cl 7 _ rfl) (by simp)
              have d8 := hky.cellOf (HD.out.cl 8 _ rfl) (by simp)
              have d9 := hky.cellOf (HD.out.cl 9 _ rfl) (by simp)
              rw [Nat.add_zero] at d0
              have hsto := HOT.out wc _ HB.out.swap
              simp only [Stp.cells] at hsto
              clear hky
              clear HOT HD
              go_wp2_with (go_at_call 15; refine hsto.mono ?_; rintro e w5 ⟨rfl, hp5⟩; have HZ := hide hp5; clear hsto hp5 d0 d1 d2 d3 d4 d5 d6 d7 d8 d9)
              go_roundw
              case rel => repeat (first | exact ⟨k + 1, by omega, by go_num, .inr ⟨P2, rfl, by omega, hide (by rw [show k + 1 - (m : Int).toNat = j + 1 by omega]; exact HZ.out.swap.mono HN2.out HNJ.out)⟩⟩ | exact ⟨⟨k + 1, by omega, by go_num, .inr ⟨P2, rfl, by omega, hide (by rw [show k + 1 - (m : Int).toNat = j + 1 by omega]; exact HZ.out.swap.mono HN2.out HNJ.out)⟩⟩, rfl⟩ | apply Exists.intro)
              case measure => simp [intOf]; omega
            · have hov : costs (L.take (k + 1)) = costs (L.take k) := costs_over (by rw [HL.out]; omega)
              have HN2 : Hid (costs (L.take k) + 3 * k ≤ costs (L.take (k + 1)) + 3 * (k + 1)) := hide (by omega)
              clear hov
              have hkf : ¬ (k : Int) < (n : Int) := by omega
              have wsub : IntKind.i64.wrap ((k : Int) - (m : Int)) = (j : Int) := by rw [IntKind.wrap_i64]; omega
              have hov' : costs (L'.take (j + 1)) = costs (L'.take j) := costs_over (by rw [HL'.out]; omega)
              have HNJ : Hid (110000 + costs (L'.take j) + 3 * j ≤ 110000 + costs (L'.take (j + 1)) + 3 * (j + 1)) := hide (by omega)
              clear hov'
              have hjf : ¬ (j : Int) < (n' : Int) := by omega
              generalize 110000 + costs (L'.take j) + 3 * j = M at *
              go_upto_region 16 with (fail)
              have HB := HA
              clear HA
              go_wp2
              go_roundw
              case rel => repeat (first | exact ⟨k + 1, by omega, by go_num, .inr ⟨P2, rfl, by omega, hide (by rw [show k + 1 - (m : Int).toNat = j + 1 by omega]; exact HB.out.mono HN2.out HNJ.out)⟩⟩ | exact ⟨⟨k + 1, by omega, by go_num, .inr ⟨P2, rfl, by omega, hide (by rw [show k + 1 - (m : Int).toNat = j + 1 by omega]; exact HB.out.mono HN2.out HNJ.out)⟩⟩, rfl⟩ | apply Exists.intro)
              case measure => simp [intOf]; omega
    · have hkn : k = n + 1 := by omega
      subst hkn
      rcases HA with ⟨rfl, hnt, HA⟩ | ⟨P2, rfl, hnt, HA⟩
      · have hcc := HC.out
        have hlk : costs (L.take (n + 1)) ≤ costs L := costs_take L (n + 1)
        have hsd := pl_stands HST.out HA.out (by omega)
        clear hcc hlk
        go_wp2_with (first
          | (go_at_call 14; refine hsd.mono ?_; rintro e w5 ⟨rfl, hp5⟩; have H5 := hide hp5; clear hsd hp5)
          | (go_at_call 13; refine (known_ok _).mono ?_; rintro e w3 ⟨rfl, hk3⟩; have HK3 := hide hk3; clear hk3))
        go_ret
        exact ⟨rfl, H5.out.1.trans HK3.out (by simp)⟩
      · have hcc := HC.out
        have hcc' := HC'.out
        have hlk : costs (L.take (n + 1)) ≤ costs L := costs_take L (n + 1)
        have hlk' : costs (L'.take (n + 1 - t.toNat)) ≤ costs L' := costs_take L' _
        have hsd := tp_stands HST.out HA.out (by omega)
        have HB : Hid (110000 + costs (L'.take (n + 1 - t.toNat)) + 3 * (n + 1 - t.toNat) ≤ 268435456) := hide (by omega)
        clear hcc hlk hcc' hlk'
        go_wp2_with (first
          | (go_at_call 14; refine hsd.mono ?_; rintro e w5 ⟨rfl, hp5⟩; clear hsd; have hse := tp_stands HST.out hp5.swap HB.out; clear hp5)
          | (go_at_call 14; refine hse.mono ?_; rintro e w6 ⟨rfl, hp6⟩; clear hse; have H5 := hide hp6; clear hp6)
          | (go_at_call 13; refine (known_ok _).mono ?_; rintro e w3 ⟨rfl, hk3⟩; have HK3 := hide hk3; clear hk3))
        go_ret
        exact ⟨rfl, H5.out.1.trans HK3.out (by simp)⟩
end Go.Proofs.YtmoaaimjgdbelaaGreat
