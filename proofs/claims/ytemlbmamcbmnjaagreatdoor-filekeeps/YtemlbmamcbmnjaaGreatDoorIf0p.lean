import Derived.Test.YtemlbmamcbmnjaaGreatDoorId1p
import Derived.Test.YtemlbmamcbmnjaaGreatDoorFnfp
namespace Go.Proofs.YtemlbmamcbmnjaaGreatDoor
section
open Go.RowKit Dsk
set_option linter.unusedVariables false
set_option linter.unusedSimpArgs false
theorem Fls.keep {F : Nat → Prop} {w w' : World} {B : Nat} {v : Value} {L : List (By × By)} {vs : List Value} (h : Fls w B v L vs) (hk : Keep F w w') (h1 : ∀ g, v.ownBlock = some g → ¬ F g) (h2 : ∀ u ∈ vs, ∀ g, u.ownBlock = some g → ¬ F g) : Fls w' B v L vs :=
  ⟨h.len, own_keeps h.row hk h1, fun i f u hf hu => (h.own i f u hf hu).keep hk (h2 u (List.mem_of_getElem? hu)), h.new, h.apart⟩
theorem Fls.base {w : World} {B B' : Nat} {v : Value} {L : List (By × By)} {vs : List Value} (h : Fls w B v L vs) (hb : B' ≤ B) : Fls w B' v L vs :=
  ⟨h.len, ownsRow_base_a h.row hb, h.own, fun u hu g hg => Nat.le_trans hb (h.new u hu g hg), h.apart⟩
theorem PD.lim {w : World} {p : Nat} {S : Ds} {A : Nat → Nat} {o : Lab} (h : PD w p S A o) {b : Nat} (hb : o b ≠ 0) : b < w.heap.size := by
  obtain ⟨_, _, _, _, hx⟩ := h
  exact hx.lim b hb
theorem keep0 {w0 wr : World} {w' : World} {o : Lab} (hn : ∀ b, o b ≠ 0 → w0.heap.size ≤ b) (hk : Kept [] w0 wr) (hK : Keep o.mine wr w') : Kept [] w0 w' :=
  ⟨hK.os.trans hk.os, hK.tape.trans hk.tape, hK.output.trans hk.output, Nat.le_trans hk.size hK.size, fun i hi _ => (hK.block i (Nat.lt_of_lt_of_le hi hk.size) (fun hm => by have := hn i hm; omega)).trans (hk.block i hi (by simp))⟩
end

section
open Go.RowKit Dsk
set_option linter.unusedVariables false
set_option linter.unusedSimpArgs false

theorem ErrV.keep {F : Nat → Prop} {w w' : World} {v : Value} {op name : By} {n : Int} (h : ErrV w v op name n) (hk : Keep F w w') (hn : ∀ t a, v = .iface t (.pointer (some a)) → ¬ F a.block) : ErrV w' v op name n := by
  rcases h with h | ⟨h1, eb, h2, h3⟩
  · exact .inl h
  · exact .inr ⟨h1, eb, h2, hk.heapOf h3 (hn _ _ h2)⟩
theorem ErrV.lt {w : World} {v : Value} {op name : By} {n : Int} (h : ErrV w v op name n) {t : TypeId} {a : Addr} (he : v = .iface t (.pointer (some a))) : a.block < w.heap.size := by
  rcases h with ⟨_, h⟩ | ⟨_, eb, h2, h3⟩
  · rw [h] at he; cases he
  · rw [h2] at he
    cases he
    exact (Array.getElem?_eq_some_iff.1 h3).1
theorem Dsk.AllSafe.plan {S : Ds} (h : AllSafe S) (a b c : Int) : AllSafe (S.setPlan a b c) := by
  unfold Ds.setPlan
  split
  · exact ⟨h.row, h.safe, h.th⟩
  · exact h
/-- What is known once the disk has been loaded. -/
structure Got (w w1 : World) (B p : Nat) (S : Ds) (vo : Option Addr) (vc : Nat) : Prop where
  ax : Ax (fun b => b < w.heap.size ∨ (B ≤ b ∧ b < w1.heap.size)) w1 w1 p S 1048576
  was : ∀ w', Keep (fun b => ¬ (b < w.heap.size ∨ (B ≤ b ∧ b < w1.heap.size))) w1 w' → Fis w' vo S.files
  kept : Kept [] w w1
theorem Got.old {w w1 w' : World} {B p : Nat} {S S' : Ds} {vo : Option Addr} {vc N : Nat} (h : Got w w1 B p S vo vc) (ha : Ax (fun b => b < w.heap.size ∨ (B ≤ b ∧ b < w1.heap.size)) w1 w' p S' N) : Kept [] w w' := by
  have k := ha.old
  have h1 := h.kept
  exact ⟨k.os.trans h1.os, k.tape.trans h1.tape, k.output.trans h1.output, Nat.le_trans h1.size k.size, fun i hi _ => (k.block i (Nat.lt_of_lt_of_le hi h1.size) (fun hn => hn (.inl hi))).trans (h1.block i hi (by simp))⟩
theorem got_of {w w1 : World} {p B vc : Nat} {S : Ds} {A : Nat → Nat} {o : Lab} {vo : Option Addr} {m : Nat} {vs : List Value} (hP : PD w1 p S A o) (hb : S.Bd 1048576) (hl : ∀ b, o b ≠ 0 → w.heap.size ≤ b ∧ b < B) (hF : Fls w1 B (.slice vo m vc) S.files vs) (hk : Kept [] w w1) : Got w w1 B p S vo vc := by
  have hs := hk.size
  refine ⟨⟨A, o, hP, fun b hx => ⟨Classical.byContradiction fun hn => ?_, ?_⟩, Keep.refl _ _, hb⟩, fun w' hK => ?_, hk⟩
  · have := hl b hn
    omega
  · omega
  · refine (Fis.of (hF.keep hK (fun g hg hn => hn (.inr ?_)) (fun u hu g hg hn => hn (.inr ⟨hF.new u hu g hg, hF.val_lt hu hg⟩)))).1
    exact hF.row.lt g hg
theorem files_small {S : Ds} {N : Nat} (hw : S.Wf) (hb : S.Bd N) : S.files.length ≤ N ∧ ∀ f ∈ S.files, f.2.length ≤ N + N := by
  refine ⟨by have := hb.shown hw; simpa [Ds.files] using this, fun f hf => ?_⟩
  obtain ⟨q, hq, rfl⟩ := List.mem_map.1 hf
  have := hb.len hw (hw.slt hq)
  show (S.th q.2).shown.length ≤ N + N
  omega
end

end Go.Proofs.YtemlbmamcbmnjaaGreatDoor
