/-
  The pair in the middle of a script.
-/
import Derived.Test.YtmoaaimjgdbelaaGreatRfkp
import Derived.Test.YtmoaaimjgdbelaaGreatIbp
namespace Go.Proofs.YtmoaaimjgdbelaaGreat
open Go.RowKit Dsk
set_option linter.unusedVariables false
set_option linter.unusedSimpArgs false
/-- Pair.stands answers true wherever the pair stands. -/
def StandsOk : Prop := ∀ (X : Nat → Prop) (w : World) (P p q D : Nat) (bo : Option Nat) (R : List UInt8) (S : Ds) (N : Nat), Pq X w P p q D bo R S N S N → N ≤ 268435456 →
  Calls Tryz.prog 14 #[.pointer (some ⟨P, 0, none⟩)] w fun e w' => e = .returned (.bool true) ∧ Kept [] w w'
/-- The pair, in the middle of a script. -/
def Pl (w wr : World) (P N : Nat) : Prop := Kept [] w wr ∧ ∃ p q D bo R S, Pq (fun b => b < w.heap.size) wr P p q D bo R S N S N
theorem kept_of_keep {w wr : World} (h : Keep (fun b => ¬ b < w.heap.size) w wr) : Kept [] w wr := ⟨h.os, h.tape, h.output, h.size, fun k hk _ => h.block k hk (fun hn => hn hk)⟩
theorem Pl.kept {w wr w' : World} {P N : Nat} (h : Pl w wr P N) (hk : Kept [] wr w') : Pl w w' P N := by
  obtain ⟨h1, p, q, D, bo, R, S, h2⟩ := h
  exact ⟨h1.trans hk (by simp), p, q, D, bo, R, S, h2.kept hk⟩
theorem stpX_old {w : World} {s : Stp} (h : StpIn w s) : StpX (fun b => b < w.heap.size) s := by
  refine ⟨fun hd a ha => ?_, fun hp a ha => ?_⟩
  · obtain ⟨b, off, e, hb, _⟩ := h.inb.sl.open hd
    rw [e] at ha
    cases ha
    exact hb
  · obtain ⟨b, off, e, hc⟩ := h.pr 0 (List.length_pos_iff.2 hp)
    rw [e] at ha
    cases ha
    exact World.block_lt_of_cell? _ _ hc
theorem pl_step {w wr : World} {P N : Nat} (h : Pl w wr P N) (s : Stp) (hi : StpIn w s) (hN : N + s.dn ≤ 200000) (hp : s.pn ≤ 1000000) : Calls Tryz.prog 15 #[.pointer (some ⟨P, 0, none⟩), .agg s.cells.toArray] wr fun e w' => e = .returned (.bool true) ∧ Pl w w' P (N + s.dn + 3) := by
  obtain ⟨h1, p, q, D, bo, R, S, h2⟩ := h
  refine (step_ok h2 s (hi.kept h1) (stpX_old hi) (by omega) (by omega) hp).mono ?_
  rintro e w' ⟨rfl, ⟨p', q', bo', R', hq⟩, hk⟩
  refine ⟨rfl, kept_of_keep ((Keep.ofNone h1).trans hk (fun _ h _ => h)), p', q', D, bo', R', _, hq⟩
theorem pl_stands (hst : StandsOk) {w wr : World} {P N : Nat} (h : Pl w wr P N) (hN : N ≤ 268435456) : Calls Tryz.prog 14 #[.pointer (some ⟨P, 0, none⟩)] wr fun e w' => e = .returned (.bool true) ∧ Pl w w' P N := by
  obtain ⟨h1, p, q, D, bo, R, S, h2⟩ := h
  refine (hst _ _ _ _ _ _ _ _ _ _ h2 hN).mono ?_
  rintro e w' ⟨rfl, hk⟩
  exact ⟨rfl, Pl.kept ⟨h1, p, q, D, bo, R, S, h2⟩ hk⟩
theorem made_pl (r : Int) (w w1 : World) (hk : Kept [] w w1) (hr : (Lit.int .i64 r).wf = true) : Calls Tryz.prog 16 #[.int .i64 r] w1 fun e w' => ∃ P, e = .returned (.tuple #[.pointer (some ⟨P, 0, none⟩), .bool true]) ∧ Kept [] w w' ∧
    ((roomE r ≠ 0 ∧ w'.cell? ⟨P, 0, none⟩ = some (.pointer none)) ∨ (roomE r = 0 ∧ (∃ p, w'.cell? ⟨P, 0, none⟩ = some (.pointer (some ⟨p, 0, none⟩))) ∧ Pl w w' P 0)) := (made_ok r w1 hr).mono (by
  rintro e w' ⟨P, rfl, h1, h2⟩
  refine ⟨P, rfl, hk.trans h1 (by simp), ?_⟩
  rcases h2 with h2 | ⟨h2, h3⟩
  · exact .inl h2
  · obtain ⟨p, q, D, h4⟩ := h3 (fun b => b < w.heap.size) (fun b hb => Nat.lt_of_lt_of_le hb hk.size)
    exact .inr ⟨h2, ⟨p, h4.cell 0 _ rfl⟩, hk.trans h1 (by simp), p, q, D, _, _, _, h4⟩)

end Go.Proofs.YtmoaaimjgdbelaaGreat
