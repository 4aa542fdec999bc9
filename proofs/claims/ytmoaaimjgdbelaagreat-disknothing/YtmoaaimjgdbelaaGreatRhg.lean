/-
  Pair.step of a pair of nothing, whole.
-/
import Derived.Test.YtmoaaimjgdbelaaGreatRhf
namespace Go.Proofs.YtmoaaimjgdbelaaGreat
open Go.RowKit Dsk
set_option linter.unusedVariables false
set_option linter.unusedSimpArgs false
set_option maxRecDepth 100000 in
theorem nstep_ok {X : Nat → Prop} {w : World} {P D : Nat} {dv rv : Value} {bo : Option Nat} {R : List UInt8} (h : Nq X w P dv rv D bo R) (s : Stp) (hi : StpIn w s) (hx : StpX X s) (h14 : s.kind ≠ 14) (hdn : s.dn ≤ 200000) (hpn : s.pn ≤ 1000000) :
    Calls Tryz.prog 15 #[.pointer (some ⟨P, 0, none⟩), .agg s.cells.toArray] w fun e w' => e = .returned (.bool true) ∧ (∃ bo' R', Nq X w' P dv rv D bo' R') ∧ Keep (fun b => ¬ X b) w w' := by
  obtain ⟨kind, name, tx, at_, n, da, dn, dc, ds, po, pf, pt, pa, pn, pc, ps⟩ := s
  simp only at h14 hdn hpn
  simp only [Stp.cells]
  by_cases h1 : kind = 1
  · subst h1
    refine (nst_create h name tx at_ n da dn dc ds po pf pt pa pn pc ps hi).mono ?_
    rintro e w' ⟨rfl, hq, hk⟩
    exact ⟨rfl, ⟨_, _, hq⟩, hk⟩
  by_cases h2 : kind = 2
  · subst h2
    refine (nst_writeAt h name tx at_ n da dn dc ds po pf pt pa pn pc ps hi hx.1 hdn).mono ?_
    rintro e w' ⟨rfl, hq, hk⟩
    exact ⟨rfl, hq, hk⟩
  by_cases h3 : kind = 3
  · subst h3
    refine (nst_append h name tx at_ n da dn dc ds po pf pt pa pn pc ps hi hx.1 hdn).mono ?_
    rintro e w' ⟨rfl, hq, hk⟩
    exact ⟨rfl, hq, hk⟩
  by_cases h4 : kind = 4
  · subst h4
    refine (nst_truncate h name tx at_ n da dn dc ds po pf pt pa pn pc ps hi).mono ?_
    rintro e w' ⟨rfl, hq, hk⟩
    exact ⟨rfl, ⟨_, _, hq⟩, hk⟩
  by_cases h5 : kind = 5
  · subst h5
    refine (nst_rename h name tx at_ n da dn dc ds po pf pt pa pn pc ps hi).mono ?_
    rintro e w' ⟨rfl, hq, hk⟩
    exact ⟨rfl, ⟨_, _, hq⟩, hk⟩
  by_cases h6 : kind = 6
  · subst h6
    refine (nst_remove h name tx at_ n da dn dc ds po pf pt pa pn pc ps hi).mono ?_
    rintro e w' ⟨rfl, hq, hk⟩
    exact ⟨rfl, ⟨_, _, hq⟩, hk⟩
  by_cases h7 : kind = 7
  · subst h7
    refine (nst_sync h name tx at_ n da dn dc ds po pf pt pa pn pc ps hi).mono ?_
    rintro e w' ⟨rfl, hq, hk⟩
    exact ⟨rfl, ⟨_, _, hq⟩, hk⟩
  by_cases h8 : kind = 8
  · subst h8
    refine (nst_syncNames h name tx at_ n da dn dc ds po pf pt pa pn pc ps hi).mono ?_
    rintro e w' ⟨rfl, hq, hk⟩
    exact ⟨rfl, ⟨_, _, hq⟩, hk⟩
  by_cases h9 : kind = 9
  · subst h9
    refine nst_other h 9 name tx at_ n da dn dc ds po pf pt pa pn pc ps (by decide) _ (fun w1 g1 hk1 => (not_read g1 name tx at_ n da dn dc ds po pf pt pa pn pc ps (hi.kept hk1)).mono ?_)
    rintro e w' ⟨rfl, hq, hk⟩
    exact ⟨⟨rfl, ⟨_, _, hq⟩, (Keep.ofNone hk1).trans hk (fun _ h _ => h)⟩, rfl⟩
  by_cases h10 : kind = 10
  · subst h10
    refine nst_other h 10 name tx at_ n da dn dc ds po pf pt pa pn pc ps (by decide) _ (fun w1 g1 hk1 => (not_size g1 name tx at_ n da dn dc ds po pf pt pa pn pc ps (hi.kept hk1)).mono ?_)
    rintro e w' ⟨rfl, hq, hk⟩
    exact ⟨⟨rfl, ⟨_, _, hq⟩, (Keep.ofNone hk1).trans hk (fun _ h _ => h)⟩, rfl⟩
  by_cases h11 : kind = 11
  · subst h11
    refine nst_other h 11 name tx at_ n da dn dc ds po pf pt pa pn pc ps (by decide) _ (fun w1 g1 hk1 => (not_plan g1 name tx at_ n da dn dc ds po pf pt pa pn pc ps (hi.kept hk1)).mono ?_)
    rintro e w' ⟨rfl, hq, hk⟩
    exact ⟨⟨rfl, ⟨_, _, hq⟩, (Keep.ofNone hk1).trans hk (fun _ h _ => h)⟩, rfl⟩
  by_cases h12 : kind = 12
  · subst h12
    refine nst_other h 12 name tx at_ n da dn dc ds po pf pt pa pn pc ps (by decide) _ (fun w1 g1 hk1 => (not_crash g1 name tx at_ n da dn dc ds po pf pt pa pn pc ps (hi.kept hk1) hx.2 hpn).mono ?_)
    rintro e w' ⟨rfl, hq, hk⟩
    exact ⟨⟨rfl, ⟨_, _, hq⟩, (Keep.ofNone hk1).trans hk (fun _ h _ => h)⟩, rfl⟩
  by_cases h13 : kind = 13
  · subst h13
    refine nst_other h 13 name tx at_ n da dn dc ds po pf pt pa pn pc ps (by decide) _ (fun w1 g1 hk1 => (not_look g1 name tx at_ n da dn dc ds po pf pt pa pn pc ps (hi.kept hk1)).mono ?_)
    rintro e w' ⟨rfl, hq, hk⟩
    exact ⟨⟨rfl, ⟨_, _, hq⟩, (Keep.ofNone hk1).trans hk (fun _ h _ => h)⟩, rfl⟩
  refine nst_other h kind name tx at_ n da dn dc ds po pf pt pa pn pc ps (by simp [h1, h2, h3, h4, h5, h6, h7, h8]) _ (fun w1 g1 hk1 => (not_none g1 kind (by simp [h9, h10, h11, h12, h13, h14]) name tx at_ n da dn dc ds po pf pt pa pn pc ps (hi.kept hk1)).mono ?_)
  rintro e w' ⟨rfl, hq, hk⟩
  exact ⟨⟨rfl, ⟨_, _, hq⟩, (Keep.ofNone hk1).trans hk (fun _ h _ => h)⟩, rfl⟩
end Go.Proofs.YtmoaaimjgdbelaaGreat
