/-
  The walk: freightlaw4.PressSpoilt. (Written by tools/xf.py.)
-/
import Derived.Test.YtcgkjdchkpnldaaXe
namespace Go.Proofs.Ytcgkjdchkpnldaa
open Go.RowKit
set_option linter.unusedVariables false
set_option linter.unusedSimpArgs false

theorem tmod_in (a : Int) (L : Nat) (h : 0 < L) : -(L : Int) < Int.tmod a L ∧ Int.tmod a L < (L : Int) := by
  have h1 := Int.tmod_lt_of_pos a (show (0 : Int) < L by omega)
  have h2 := Int.lt_tmod_of_pos a (show (0 : Int) < L by omega)
  omega

/-- A byte of a row of its own is turned; its first ones. -/
theorem spoil_set {w W : World} {g N bc a c : Nat} {p T q : List UInt8} {x : UInt8} (ho : W.ownsRow w.heap.size 5 1 (.slice (some ⟨g, 0, none⟩) N bc) N (bys p)) (hb : Below w.heap.size w W) (hg : w.heap.size ≤ g) (hT : p.set a x = T) (hq : T.take c = q) (hN : p.length = N) (hc : c ≤ N) :
    Sl (W.setCell ⟨g, a, none⟩ (.int .u8 x.toNat)) (some ⟨g, 0, none⟩) q ∧ Below w.heap.size w (W.setCell ⟨g, a, none⟩ (.int .u8 x.toNat)) ∧ c ≤ bc := by
  have h1 := (ho.stored a (.int .u8 x.toNat)).1
  rw [bys_set, hT] at h1
  have hTl : T.length = N := by rw [← hT]; simpa using hN
  rw [← hTl] at h1
  obtain ⟨h2, h3, _, _⟩ := own_slc h1
  refine ⟨by rw [← hq]; exact h2.take c, ?_, by omega⟩
  have hk : Kept [g] W (W.setCell ⟨g, a, none⟩ (.int .u8 x.toNat)) := (Kept.refl [g] W).setCell (by simp) _
  exact hb.trans (hk.below hb.size (by simp; exact hg))

set_option maxHeartbeats 2000000 in
set_option maxRecDepth 100000 in
theorem spoilt_walk (ao : Option Addr) (n cap : Nat) (at_ to_ cut off : Int) (xs : List UInt8) (w : World) (hi : InB w ao n cap xs) (h1 : (Lit.int .i64 at_).wf = true) (h2 : (Lit.int .u8 to_).wf = true) (h3 : (Lit.int .i64 cut).wf = true) (h4 : (Lit.int .i64 off).wf = true) :
    Calls Try.prog 5 #[.slice ao n cap, .int .i64 at_, .int .u8 to_, .int .i64 cut, .int .i64 off] w fun e w' => e = .returned (.bool true) ∧ Below w.heap.size w w' := by
  obtain ⟨p, k, hp⟩ : ∃ p k, Prs.packed xs = (p, k) := ⟨_, _, rfl⟩
  have HP : Hid (Calls Try.prog 11 #[.slice ao n cap] w fun e w' => ∃ bo bc, e = .returned (.tuple #[.slice bo p.length bc, .int .i64 k]) ∧ w'.ownsRow w.heap.size 5 1 (.slice bo p.length bc) p.length (bys p) ∧ Below w.heap.size w w') := refpack_at hi.len hi.sl w (Below.refl _ _) p k hp
  have hpl : p.length ≤ 8192 := by have := Prs.packed_len xs; rw [hp] at this; exact this
  have hnm : n ≤ 140737488351232 := by have := hi.le; have := hi.max; omega
  clear hp hi h1 h3 h4
  by_cases hp0 : p = []
  · subst hp0
    go_enter Try.func5, Try.ntmps5
    go_wp2_with (first
      | (go_at_call 11; refine HP.out.mono ?_; rintro e w1 ⟨bo, bc, rfl, _, hb1⟩; have HB1 := hide hb1; clear hb1 HP)
      | (go_at_call 14; refine (awake_ok _).mono ?_; rintro e w3 ⟨rfl, hb3⟩; have HB3 := hide (HB1.out.trans (Below.less hb3 HB1.out.size)); clear hb3)
      | go_in)
    go_ret
    exact ⟨rfl, HB3.out⟩
  · obtain ⟨x, rfl⟩ : ∃ x : UInt8, to_ = ((x.toNat : Nat) : Int) := by
      have := bounds_u8 h2
      exact ⟨UInt8.ofNat to_.toNat, by rw [UInt8.toNat_ofNat', Nat.mod_eq_of_lt (by omega)]; omega⟩
    obtain ⟨N, hN⟩ : ∃ N, p.length = N := ⟨_, rfl⟩
    have hN0 : 0 < N := by rw [← hN]; exact List.length_pos_iff.2 hp0
    have hN8 : N ≤ 8192 := by omega
    obtain ⟨q1, hq1⟩ : ∃ q1, Int.tmod at_ (N : Int) = q1 := ⟨_, rfl⟩
    have b1 := tmod_in at_ N hN0
    rw [hq1] at b1
    obtain ⟨s1, hs1⟩ : ∃ s1, wrap64 (q1 + (N : Int)) = s1 := ⟨_, rfl⟩
    have hs1' : s1 = q1 + (N : Int) := by rw [← hs1]; unfold wrap64; omega
    obtain ⟨a, ha⟩ : ∃ a : Nat, Int.tmod s1 (N : Int) = (a : Int) := ⟨(Int.tmod s1 (N : Int)).toNat, by rw [Int.toNat_of_nonneg (Int.tmod_nonneg _ (by omega))]⟩
    have ba := tmod_in s1 N hN0
    rw [ha] at ba
    obtain ⟨N1, hN1⟩ : ∃ N1, wrap64 ((N : Int) + 1) = N1 := ⟨_, rfl⟩
    have hN1' : N1 = (N : Int) + 1 := by rw [← hN1]; unfold wrap64; omega
    obtain ⟨q2, hq2⟩ : ∃ q2, Int.tmod cut N1 = q2 := ⟨_, rfl⟩
    have b2 := tmod_in cut (N + 1) (by omega)
    rw [show ((N + 1 : Nat) : Int) = N1 by omega, hq2] at b2
    obtain ⟨t2, ht2⟩ : ∃ t2, wrap64 (q2 + (N : Int)) = t2 := ⟨_, rfl⟩
    have ht2' : t2 = q2 + (N : Int) := by rw [← ht2]; unfold wrap64; omega
    obtain ⟨t3, ht3⟩ : ∃ t3, wrap64 (t2 + 1) = t3 := ⟨_, rfl⟩
    have ht3' : t3 = t2 + 1 := by rw [← ht3]; unfold wrap64; omega
    obtain ⟨c, hc⟩ : ∃ c : Nat, Int.tmod t3 N1 = (c : Int) := ⟨(Int.tmod t3 N1).toNat, by rw [Int.toNat_of_nonneg (Int.tmod_nonneg _ (by omega))]⟩
    have bc' := tmod_in t3 (N + 1) (by omega)
    rw [show ((N + 1 : Nat) : Int) = N1 by omega, hc] at bc'
    have haN : a < N := by omega
    have hcN : c ≤ N := by omega
    obtain ⟨m, hm⟩ : ∃ m, wrap64 ((n : Int) + off) = m := ⟨_, rfl⟩
    obtain ⟨T, hT⟩ : ∃ T, p.set a x = T := ⟨_, rfl⟩
    obtain ⟨q, hq⟩ : ∃ q, T.take c = q := ⟨_, rfl⟩
    have hql : q.length = c := by rw [← hq, ← hT]; simp; omega
    obtain ⟨r, kr, hr⟩ : ∃ r kr, Prs.unpack q m = (r, kr) := ⟨_, _, rfl⟩
    have hrl : r.length ≤ 4096 := by have := Prs.unpack_len q m; rw [hr] at this; exact this
    have HR := hide hr
    have HT : Hid (p.set a x = T ∧ T.take c = q ∧ q.length = c ∧ p.length = N) := ⟨hT, hq, hql, hN⟩
    have g0 : ((N : Int) == 0) = false := by simp; omega
    have g1 : ¬ ((N : Int) = 0) := by omega
    have g2 : ¬ (N1 = 0) := by omega
    have g3 : ¬ ((N : Int) ≤ (a : Int)) := by omega
    rw [hN] at HP
    have HNN := hide (And.intro hN8 hN0)
    clear hr hT hq hql hN hp0 h2 ba bc' hs1' hN1' ht2' ht3' b1 b2 hN8 hpl
    go_enter Try.func5, Try.ntmps5
    go_wp2_with (first
      | (go_at_call 11; refine HP.out.mono ?_; rintro e w1 ⟨bo, bc, rfl, ho1, hb1⟩; obtain ⟨g, gcap, hbo, hgb, hgl, hgc, _⟩ := own_sl ho1 (by intro e; injection e with _ e _; omega); injection hbo with hbo _ hbc; subst hbo; subst hbc; have H1 : Hid (w1.ownsRow w.heap.size 5 1 (.slice (some ⟨g, 0, none⟩) N bc) N (bys p) ∧ Below w.heap.size w w1 ∧ w.heap.size ≤ g) := ⟨ho1, hb1, hgb⟩; clear ho1 hb1 HP hgb; have t0 : w1.cell? ⟨g, a, none⟩ = some (.int .u8 (p.getD a 0).toNat) := (by rw [H1.out.1.cellAt a (by omega), bys_at (by rw [HT.out.2.2.2]; exact haN)]); generalize (p.getD a 0).toNat = old at t0; have tf : w1.frozen? ⟨g, a, none⟩ = false := H1.out.1.frozenAt a; have hcut := fun W => Try.cutTo W (some ⟨g, 0, none⟩) N bc c (by omega))
      | (go_at_call 15; have H2 : Hid (Sl (w1.setCell ⟨g, a, none⟩ (.int .u8 x.toNat)) (some ⟨g, 0, none⟩) q ∧ Below w.heap.size w (w1.setCell ⟨g, a, none⟩ (.int .u8 x.toNat)) ∧ c ≤ bc) := spoil_set H1.out.1 H1.out.2.1 H1.out.2.2 HT.out.1 HT.out.2.1 HT.out.2.2.2 (by omega); clear H1 t0 tf; generalize w1.setCell ⟨g, a, none⟩ (.int .u8 x.toNat) = w2 at H2 ⊢; refine (unpack_at HT.out.2.2.1 H2.out.2.2 H2.out.1 m w2 (Below.refl _ _) r kr HR.out).mono ?_; rintro e w3 ⟨bo3, bc3, rfl, ho3, hb3⟩; have H3 : Hid (Sl w3 (some ⟨g, 0, none⟩) q ∧ Below w.heap.size w w3 ∧ Rw w3 bo3 r w2.heap.size w3.heap.size) := ⟨H2.out.1.later hb3, H2.out.2.1.trans (Below.less hb3 H2.out.2.1.size), Rw.of ho3 hb3⟩; clear H2 ho3 hb3)
      | (go_at_call 16; refine (refunpack_at HT.out.2.2.1 (by have := HNN.out.1; omega) H3.out.1 m w3 (Below.refl _ _) r kr HR.out).mono ?_; rintro e w4 ⟨bo4, bc4, rfl, ho4, hb4⟩; have H4 : Hid (Below w.heap.size w w4 ∧ Sl w4 bo3 r ∧ Sl w4 bo4 r) := ⟨H3.out.2.1.trans (Below.less hb4 H3.out.2.1.size), H3.out.2.2.sl.later hb4, (Rw.of ho4 hb4).sl⟩; clear H3 ho4 hb4)
      | (go_at_call 12; refine (same_yes bo3 bo4 r.length bc3 bc4 r w4 rfl (by omega) H4.out.2.1 H4.out.2.2).mono ?_; rintro e w5' ⟨rfl, j5, rfl⟩; have H5 : Hid (Below w.heap.size w (w4.drewN j5)) := Below.drewN H4.out.1 j5; clear H4; generalize w4.drewN j5 = w5 at H5 ⊢)
      | (go_at_call 14; refine (awake_ok _).mono ?_; rintro e w6 ⟨rfl, hb6⟩; have H6 := hide (H5.out.trans (Below.less hb6 H5.out.size)); clear hb6 H5)
      | go_in)
    go_ret
    exact ⟨rfl, H6.out⟩

end Go.Proofs.Ytcgkjdchkpnldaa
