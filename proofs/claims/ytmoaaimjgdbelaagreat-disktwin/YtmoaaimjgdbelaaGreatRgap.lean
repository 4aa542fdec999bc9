/-
  A pair's own blocks; two pairs side by side.
-/
import Derived.Test.YtmoaaimjgdbelaaGreatRfpp
namespace Go.Proofs.YtmoaaimjgdbelaaGreat
open Go.RowKit Dsk
set_option linter.unusedVariables false
set_option linter.unusedSimpArgs false
/-- Z are the blocks of what A speaks of: A holds wherever these are as they are now, beside whatever lies elsewhere. -/
structure Foot (Z : Nat → Prop) (w : World) (A : (Nat → Prop) → World → Prop) : Prop where
  lt : ∀ b, Z b → b < w.heap.size
  on : ∀ (X : Nat → Prop) (w' : World), Keep (fun b => ¬ Z b) w w' → (∀ b, X b → ¬ Z b ∧ b < w'.heap.size) → A X w'
theorem Foot.keep {Z F : Nat → Prop} {w w' : World} {A : (Nat → Prop) → World → Prop} (h : Foot Z w A) (hk : Keep F w w') (hF : ∀ b, F b → ¬ Z b) : Foot Z w' A :=
  ⟨fun b hb => Nat.lt_of_lt_of_le (h.lt b hb) hk.size, fun X w'' h1 h2 => h.on X w'' ((hk.mono (G := fun b => ¬ Z b) (fun b hb _ => hF b hb)).trans h1 (fun _ h _ => h)) h2⟩
section
variable {X : Nat → Prop} {w w' : World} {P p q D : Nat} {bo : Option Nat} {R : List UInt8} {S : Ds} {N : Nat} {T : Ds} {M : Nat}
theorem Pq.foot (h : Pq X w P p q D bo R S N T M) : ∃ Z : Nat → Prop, (∀ b, X b → ¬ Z b) ∧ Foot Z w (fun X w => Pq X w P p q D bo R S N T M) := by
  obtain ⟨A, o, A', o', h1, h2, h3, h4, h5, h6⟩ := h.tw
  refine ⟨fun b => o b ≠ 0 ∨ o' b ≠ 0 ∨ prB P D bo b, fun b hb hz => ?_, ⟨fun b hb => ?_, fun Y w' hk hY => ?_⟩⟩
  · rcases hz with hz | hz | hz
    · exact hz (h4 b (.inl hb)).1
    · exact hz (h4 b (.inl hb)).2.1
    · exact h.far b hb hz
  · rcases hb with hb | hb | hb
    · exact h1.lim hb
    · exact h2.lim b hb
    · exact (h4 b (.inr hb)).2.2
  · refine (h.less (Y := fun _ => False) (fun _ h => h.elim)).stepY (Y := Y) ⟨A, o, A', o', h1.keep hk (fun b hb hn => hn (.inl hb)), h2.keep hk (fun b hb hn => hn (.inr (.inl hb))), h3, fun b hb => ?_, h5, h6⟩ (hk.mono (fun b hb _ hx => hb (hx.elim False.elim (fun h => .inr (.inr h))))) (fun b hb hp => (hY b hb).1 (.inr (.inr hp)))
    rcases hb with hb | hb
    · obtain ⟨g1, g2⟩ := hY b hb
      exact ⟨Classical.byContradiction fun hn => g1 (.inl hn), Classical.byContradiction fun hn => g1 (.inr (.inl hn)), g2⟩
    · exact ⟨(h4 b (.inr hb)).1, (h4 b (.inr hb)).2.1, Nat.lt_of_lt_of_le (h4 b (.inr hb)).2.2 hk.size⟩
end
/-- A pair of its own blocks Z, made behind w. -/
def PlF (w wr : World) (P N : Nat) (Z : Nat → Prop) : Prop := (∀ b, Z b → w.heap.size ≤ b) ∧ ∃ p q D bo R S, Foot Z wr (fun X w => Pq X w P p q D bo R S N S N)
/-- Two pairs, in the middle of a script. -/
def Tp (w wr : World) (P N P' N' : Nat) : Prop := Kept [] w wr ∧ ∃ Z Z' : Nat → Prop, (∀ b, Z b → ¬ Z' b) ∧ PlF w wr P N Z ∧ PlF w wr P' N' Z'
theorem Tp.swap {w wr : World} {P N P' N' : Nat} (h : Tp w wr P N P' N') : Tp w wr P' N' P N := by
  obtain ⟨h1, Z, Z', h2, h3, h4⟩ := h
  exact ⟨h1, Z', Z, fun b hb hn => h2 b hn hb, h4, h3⟩
theorem PlF.keep {w wr w' : World} {P N : Nat} {Z F : Nat → Prop} (h : PlF w wr P N Z) (hk : Keep F wr w') (hF : ∀ b, F b → ¬ Z b) : PlF w w' P N Z := by
  obtain ⟨h1, p, q, D, bo, R, S, h2⟩ := h
  exact ⟨h1, p, q, D, bo, R, S, h2.keep hk hF⟩
theorem Tp.kept {w wr w' : World} {P N P' N' : Nat} (h : Tp w wr P N P' N') (hk : Kept [] wr w') : Tp w w' P N P' N' := by
  obtain ⟨h1, Z, Z', h2, h3, h4⟩ := h
  have hk' : Keep (fun _ => False) wr w' := Keep.ofNone hk
  exact ⟨h1.trans hk (by simp), Z, Z', h2, h3.keep hk' (fun _ h => h.elim), h4.keep hk' (fun _ h => h.elim)⟩
theorem Tp.mono {w wr : World} {P N P' N' M M' : Nat} (h : Tp w wr P N P' N') (hm : N ≤ M) (hm' : N' ≤ M') : Tp w wr P M P' M' := by
  obtain ⟨h1, Z, Z', h2, ⟨a1, p, q, D, bo, R, S, a2⟩, ⟨b1, p', q', D', bo', R', S', b2⟩⟩ := h
  exact ⟨h1, Z, Z', h2, ⟨a1, p, q, D, bo, R, S, a2.lt, fun X v g1 g2 => (a2.on X v g1 g2).mono hm hm⟩, ⟨b1, p', q', D', bo', R', S', b2.lt, fun X v g1 g2 => (b2.on X v g1 g2).mono hm' hm'⟩⟩
/-- The one pair beside the other: what lies ahead of w and the other's blocks. -/
theorem Tp.one {w wr : World} {P N P' N' : Nat} (h : Tp w wr P N P' N') : ∃ X : Nat → Prop, (∀ b, b < w.heap.size → X b) ∧ (∃ p q D bo R S, Pq X wr P p q D bo R S N S N) ∧
    ∀ w' p q D bo R S M, Pq X w' P p q D bo R S M S M → Keep (fun b => ¬ X b) wr w' → Tp w w' P M P' N' := by
  obtain ⟨h1, Z, Z', h2, ⟨a1, p, q, D, bo, R, S, a2⟩, h4⟩ := h
  have hs := h1.size
  refine ⟨fun b => b < w.heap.size ∨ Z' b, fun b hb => .inl hb, ⟨p, q, D, bo, R, S, a2.on _ wr (Keep.refl _ _) (fun b hb => ?_)⟩, fun w' p q D bo R S M hq hk => ?_⟩
  · obtain ⟨b1, _, _, _, _, _, _, b2⟩ := h4
    rcases hb with hb | hb
    · exact ⟨fun hz => by have := a1 b hz; omega, by omega⟩
    · exact ⟨fun hz => h2 b hz hb, b2.lt b hb⟩
  · obtain ⟨Y, hY, hf⟩ := hq.foot
    refine ⟨kept_of_keep ((Keep.ofNone h1).trans hk (fun b hn _ hb => hn (.inl hb))), Y, Z', fun b hb hz => hY b (.inr hz) hb, ⟨fun b hb => Nat.le_of_not_lt fun hn => hY b (.inl hn) hb, p, q, D, bo, R, S, hf⟩, h4.keep hk (fun b hn hz => hn (.inr hz))⟩
theorem tp_step {w wr : World} {P N P' N' : Nat} (h : Tp w wr P N P' N') (s : Stp) (hi : StpIn w s) (hN : N ≤ 1000000) (hd : s.dn ≤ 200000) (hp : s.pn ≤ 1000000) : Calls Tryz.prog 15 #[.pointer (some ⟨P, 0, none⟩), .agg s.cells.toArray] wr fun e w' => e = .returned (.bool true) ∧ Tp w w' P (N + s.dn + 3) P' N' := by
  obtain ⟨X, hX, ⟨p, q, D, bo, R, S, h2⟩, hb⟩ := h.one
  have hx := stpX_old hi
  refine (step_ok h2 s (hi.kept h.1) ⟨fun hd a ha => hX _ (hx.1 hd a ha), fun hd a ha => hX _ (hx.2 hd a ha)⟩ (by omega) (by omega) hp).mono ?_
  rintro e w' ⟨rfl, ⟨p', q', bo', R', hq⟩, hk⟩
  exact ⟨rfl, hb w' _ _ _ _ _ _ _ hq hk⟩
theorem tp_stands (hst : StandsOk) {w wr : World} {P N P' N' : Nat} (h : Tp w wr P N P' N') (hN : N ≤ 268435456) : Calls Tryz.prog 14 #[.pointer (some ⟨P, 0, none⟩)] wr fun e w' => e = .returned (.bool true) ∧ Tp w w' P N P' N' := by
  obtain ⟨X, hX, ⟨p, q, D, bo, R, S, h2⟩, hb⟩ := h.one
  refine (hst _ _ _ _ _ _ _ _ _ _ h2 hN).mono ?_
  rintro e w' ⟨rfl, hk⟩
  exact ⟨rfl, h.kept hk⟩
/-- The second pair is new beside the first. -/
theorem Pl.two {w wr w' : World} {P N P' : Nat} (h : Pl w wr P N) (hk : Kept [] wr w') {r : Nat} (h2 : ∀ X : Nat → Prop, (∀ b, X b → b < wr.heap.size) → ∃ p q D, Pq X w' P' p q D none [] (Ds.fresh r) 0 (Ds.fresh r) 0) : Tp w w' P N P' 0 := by
  obtain ⟨h1, p, q, D, bo, R, S, h3⟩ := h
  obtain ⟨Z, hZ, hf⟩ := h3.foot
  have hs := h1.size
  obtain ⟨p', q', D', g⟩ := h2 (fun b => b < wr.heap.size) (fun b hb => hb)
  obtain ⟨Z', hZ', hf'⟩ := g.foot
  refine ⟨h1.trans hk (by simp), Z, Z', fun b hb hz => hZ' b (hf.lt b hb) hz, ⟨fun b hb => Nat.le_of_not_lt fun hn => hZ b hn hb, p, q, D, bo, R, S, hf.keep (F := fun _ => False) (Keep.ofNone hk) (fun _ h => h.elim)⟩, ⟨fun b hb => Nat.le_of_not_lt fun hn => hZ' b (by omega) hb, p', q', D', _, _, _, hf'⟩⟩
end Go.Proofs.YtmoaaimjgdbelaaGreat
