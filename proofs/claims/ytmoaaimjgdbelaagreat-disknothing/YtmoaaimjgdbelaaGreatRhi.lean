/-
  Two pairs of nothing side by side; how they are made.
-/
import Derived.Test.YtmoaaimjgdbelaaGreatRhg
import Derived.Test.YtmoaaimjgdbelaaGreatRhh
namespace Go.Proofs.YtmoaaimjgdbelaaGreat
open Go.RowKit Dsk
set_option linter.unusedVariables false
set_option linter.unusedSimpArgs false
section
variable {X : Nat → Prop} {w w' : World} {P D : Nat} {dv rv : Value} {bo : Option Nat} {R : List UInt8}
theorem Nq.foot (h : Nq X w P dv rv D bo R) : ∃ Z : Nat → Prop, (∀ b, X b → ¬ Z b) ∧ Foot Z w (fun X w => Nq X w P dv rv D bo R) := by
  refine ⟨fun b => prB P D bo b ∨ dv = .pointer (some ⟨b, 0, none⟩) ∨ rv = .pointer (some ⟨b, 0, none⟩), fun b hb hz => ?_, ⟨fun b hb => ?_, fun Y w' hk hY => ?_⟩⟩
  · rcases hz with hz | hz | hz
    · exact h.far b hb hz
    · exact (h.dz b hz).1 hb
    · exact (h.ez b hz).1 hb
  · rcases hb with hb | hb | hb
    · exact h.prlt hb
    · exact h.od.lt hb
    · exact h.oe.lt hb
  · have g : Nq (fun _ => False) w' P dv rv D bo R := (h.less (Y := fun _ => False) (fun _ h => h.elim)).keep hk (fun b hb hn => hn (.inl hb)) (fun b hb hn => hn (.inr (.inl hb))) (fun b hb hn => hn (.inr (.inr hb))) (fun b hb => hb.elim)
    exact ⟨g.od, g.oe, g.cells, g.dk, g.dp, g.df, fun b hb hp => (hY b hb).1 (.inl hp), fun b hb => (hY b hb).2, fun b e => ⟨fun hb => (hY b hb).1 (.inr (.inl e)), (h.dz b e).2⟩, fun b e => ⟨fun hb => (hY b hb).1 (.inr (.inr e)), (h.ez b e).2⟩, h.pD, h.pb⟩
theorem Nq.put {v : World} (hX : ∀ b, X b → b < w.heap.size) (hs : w.heap.size ≤ v.heap.size) (od : OffD dv v) (oe : OffR rv v) (e1 : ∀ b, dv = .pointer (some ⟨b, 0, none⟩) → w.heap.size ≤ b ∧ b ≠ P ∧ b ≠ D) (e2 : ∀ b, rv = .pointer (some ⟨b, 0, none⟩) → w.heap.size ≤ b ∧ b ≠ P ∧ b ≠ D)
    (e3 : w.heap.size ≤ D) (e4 : w.heap.size ≤ P) (e5 : P ≠ D)
    (hD : v.heap[D]? = some (.cells #[.slice none 0 0, .slice none 0 0] 45 (0, 0)))
    (hP : v.heap[P]? = some (.cells #[dv, rv, .pointer (some ⟨D, 0, none⟩)] 47 (0, 0))) : Nq X v P dv rv D none [] := by
  have hno : ∀ b, b ≠ P → b ≠ D → ¬ prB P D none b := fun b h1 h2 hp => by
    rcases hp with hp | hp | hp
    · exact h1 hp
    · exact h2 hp
    · cases hp
  refine ⟨od, oe, hP, ⟨?_, frozen_of_row _ _ _ _ _ hD, fun _ => rfl, fun g e => (by cases e), (by simp)⟩, ⟨.slice none 0 0, ?_⟩, frozen_of_row _ _ _ _ _ hD, fun b hb => hno b (by have := hX b hb; omega) (by have := hX b hb; omega), fun b hb => Nat.lt_of_lt_of_le (hX b hb) hs, fun b e => ⟨fun hb => by have := hX b hb; have := (e1 b e).1; omega, hno b (e1 b e).2.1 (e1 b e).2.2⟩, fun b e => ⟨fun hb => by have := hX b hb; have := (e2 b e).1; omega, hno b (e2 b e).2.1 (e2 b e).2.2⟩, e5, by simp⟩
  · rw [cell_of_row v _ 0 _ _ _ hD]; rfl
  · rw [cell_of_row v _ 1 _ _ _ hD]; rfl
end
def NpF (w wr : World) (P : Nat) (dv rv : Value) (Z : Nat → Prop) : Prop := (∀ b, Z b → w.heap.size ≤ b) ∧ ∃ D bo R, Foot Z wr (fun X w => Nq X w P dv rv D bo R)
/-- Two pairs of nothing. -/
def Np (w wr : World) (P : Nat) (dv rv : Value) (P' : Nat) (dv' rv' : Value) : Prop := Kept [] w wr ∧ ∃ Z Z' : Nat → Prop, (∀ b, Z b → ¬ Z' b) ∧ NpF w wr P dv rv Z ∧ NpF w wr P' dv' rv' Z'
section
variable {w wr w' : World} {P P' : Nat} {dv rv dv' rv' : Value}
theorem Np.swap (h : Np w wr P dv rv P' dv' rv') : Np w wr P' dv' rv' P dv rv := by
  obtain ⟨h1, Z, Z', h2, h3, h4⟩ := h
  exact ⟨h1, Z', Z, fun b hb hn => h2 b hn hb, h4, h3⟩
theorem NpF.keep {Z F : Nat → Prop} (h : NpF w wr P dv rv Z) (hk : Keep F wr w') (hF : ∀ b, F b → ¬ Z b) : NpF w w' P dv rv Z := by
  obtain ⟨h1, D, bo, R, h2⟩ := h
  exact ⟨h1, D, bo, R, h2.keep hk hF⟩
theorem Np.kept (h : Np w wr P dv rv P' dv' rv') (hk : Kept [] wr w') : Np w w' P dv rv P' dv' rv' := by
  obtain ⟨h1, Z, Z', h2, h3, h4⟩ := h
  have hk' : Keep (fun _ => False) wr w' := Keep.ofNone hk
  exact ⟨h1.trans hk (by simp), Z, Z', h2, h3.keep hk' (fun _ h => h.elim), h4.keep hk' (fun _ h => h.elim)⟩
theorem Np.one (h : Np w wr P dv rv P' dv' rv') : ∃ X : Nat → Prop, (∀ b, b < w.heap.size → X b) ∧ (∃ D bo R, Nq X wr P dv rv D bo R) ∧
    ∀ w' D bo R, Nq X w' P dv rv D bo R → Keep (fun b => ¬ X b) wr w' → Np w w' P dv rv P' dv' rv' := by
  obtain ⟨h1, Z, Z', h2, ⟨a1, D, bo, R, a2⟩, h4⟩ := h
  have hs := h1.size
  refine ⟨fun b => b < w.heap.size ∨ Z' b, fun b hb => .inl hb, ⟨D, bo, R, a2.on _ wr (Keep.refl _ _) (fun b hb => ?_)⟩, fun w' D bo R hq hk => ?_⟩
  · obtain ⟨b1, _, _, _, b2⟩ := h4
    rcases hb with hb | hb
    · exact ⟨fun hz => by have := a1 b hz; omega, by omega⟩
    · exact ⟨fun hz => h2 b hz hb, b2.lt b hb⟩
  · obtain ⟨Y, hY, hf⟩ := hq.foot
    exact ⟨kept_of_keep ((Keep.ofNone h1).trans hk (fun b hn _ hb => hn (.inl hb))), Y, Z', fun b hb hz => hY b (.inr hz) hb, ⟨fun b hb => Nat.le_of_not_lt fun hn => hY b (.inl hn) hb, D, bo, R, hf⟩, h4.keep hk (fun b hn hz => hn (.inr hz))⟩
theorem np_step (h : Np w wr P dv rv P' dv' rv') (s : Stp) (hi : StpIn w s) (h14 : s.kind ≠ 14) (hd : s.dn ≤ 200000) (hp : s.pn ≤ 1000000) : Calls Tryz.prog 15 #[.pointer (some ⟨P, 0, none⟩), .agg s.cells.toArray] wr fun e w' => e = .returned (.bool true) ∧ Np w w' P dv rv P' dv' rv' := by
  obtain ⟨X, hX, ⟨D, bo, R, h2⟩, hb⟩ := h.one
  have hx := stpX_old hi
  refine (nstep_ok h2 s (hi.kept h.1) ⟨fun hd a ha => hX _ (hx.1 hd a ha), fun hd a ha => hX _ (hx.2 hd a ha)⟩ h14 hd hp).mono ?_
  rintro e w' ⟨rfl, ⟨bo', R', hq⟩, hk⟩
  exact ⟨rfl, hb w' _ _ _ hq hk⟩
theorem np_stands (h : Np w wr P dv rv P' dv' rv') : Calls Tryz.prog 14 #[.pointer (some ⟨P, 0, none⟩)] wr fun e w' => e = .returned (.bool true) ∧ Np w w' P dv rv P' dv' rv' := by
  obtain ⟨X, hX, ⟨D, bo, R, h2⟩, hb⟩ := h.one
  refine (nstands_ok h2.od h2.oe ⟨h2.cell 0 _ rfl, h2.cell 1 _ rfl⟩).mono ?_
  rintro e w' ⟨rfl, hk⟩
  exact ⟨rfl, h.kept hk⟩
theorem Np.cell (h : Np w wr P dv rv P' dv' rv') : wr.cell? ⟨P, 0, none⟩ = some dv ∧ OffD dv wr := by
  obtain ⟨X, hX, ⟨D, bo, R, h2⟩, hb⟩ := h.one
  exact ⟨h2.cell 0 _ rfl, h2.od⟩
end
set_option maxRecDepth 100000 in
theorem twin_z {dv : Value} {w : World} (h : OffD dv w) : Calls Tryz.prog 20 #[dv] w fun e w' => ∃ q, e = .returned (.pointer (some ⟨q, 0, none⟩)) ∧ OffD (.pointer (some ⟨q, 0, none⟩)) w' ∧ Kept [] w w' := by
  have k0 := isNone_z h
  clear h
  go_enter Tryz.func20, Tryz.ntmps20
  go_wp2_with (go_at_call 76; refine k0.mono ?_; rintro e w' ⟨rfl, hww⟩; obtain rfl := hww.symm; clear k0)
  go_ret
  exact ⟨_, rfl, .inr ⟨_, rfl, (MapKept.heap_alloc w _).1⟩, (Kept.refl [] w).alloc _⟩
end Go.Proofs.YtmoaaimjgdbelaaGreat
