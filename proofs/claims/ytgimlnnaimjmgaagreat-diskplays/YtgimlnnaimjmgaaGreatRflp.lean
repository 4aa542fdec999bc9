/-
  freightlaw5.made: the pair is new.
-/
import Derived.Test.YtgimlnnaimjmgaaGreatRfkp
import Derived.Test.YtgimlnnaimjmgaaGreatHmp
namespace Go.Proofs.YtgimlnnaimjmgaaGreat
open Go.RowKit Dsk
set_option linter.unusedVariables false
set_option linter.unusedSimpArgs false
theorem size_alloc (w : World) (o : Obj) : (w.alloc o).heap.size = w.heap.size + 1 := by
  show (w.heap.push o).size = _
  simp
theorem Pq.new {X : Nat → Prop} {w w1 w2 w4 : World} {p q : Nat} {S : Ds} {A A' : Nat → Nat} {o o' : Lab} (hX : ∀ b, X b → b < w.heap.size) (hp : PD w1 p S A o) (ho : ∀ b, o b ≠ 0 → w.heap.size ≤ b) (hk1 : Kept [] w w1) (hq : RD w2 q S A' o') (ho' : ∀ b, o' b ≠ 0 → w1.heap.size ≤ b) (hk2 : Kept [] w1 w2) (hb : S.Bd 0)
    (hw4 : w4 = (w2.alloc (.cells #[.slice none 0 0, .slice none 0 0] 48)).alloc (.cells #[.pointer (some ⟨p, 0, none⟩), .pointer (some ⟨q, 0, none⟩), .pointer (some ⟨w2.heap.size, 0, none⟩)] 33)) :
    Pq X w4 (w2.heap.size + 1) p q w2.heap.size none [] S 0 S 0 ∧ Kept [] w w4 := by
  obtain ⟨w3, hw3⟩ : ∃ w3, w3 = w2.alloc (.cells #[.slice none 0 0, .slice none 0 0] 48) := ⟨_, rfl⟩
  rw [← hw3] at hw4
  have hD3 : w3.heap[w2.heap.size]? = some (.cells #[.slice none 0 0, .slice none 0 0] 48 (0, 0)) := by rw [hw3]; exact (MapKept.heap_alloc w2 _).1
  have s3 : w3.heap.size = w2.heap.size + 1 := by rw [hw3]; exact size_alloc _ _
  have hP4 : w4.heap[w3.heap.size]? = some (.cells #[.pointer (some ⟨p, 0, none⟩), .pointer (some ⟨q, 0, none⟩), .pointer (some ⟨w2.heap.size, 0, none⟩)] 33 (0, 0)) := by rw [hw4]; exact (MapKept.heap_alloc w3 _).1
  have s4 : w4.heap.size = w3.heap.size + 1 := by rw [hw4]; exact size_alloc _ _
  have k23 : Kept [] w2 w3 := by rw [hw3]; exact (Kept.refl [] w2).alloc _
  have k34 : Kept [] w3 w4 := by rw [hw4]; exact (Kept.refl [] w3).alloc _
  have k24 := k23.trans k34 (by simp)
  have k14 := hk2.trans k24 (by simp)
  have hD4 : w4.heap[w2.heap.size]? = some (.cells #[.slice none 0 0, .slice none 0 0] 48 (0, 0)) := by rw [k34.block _ (by omega) (by simp)]; exact hD3
  have z1 := hk1.size
  have z2 := hk2.size
  have hlo : ∀ b, o b ≠ 0 → b < w1.heap.size := fun b hb => hp.lim hb
  have hlo' : ∀ b, o' b ≠ 0 → b < w2.heap.size := fun b hb => hq.lim b hb
  refine ⟨⟨⟨A, o, A', o', hp.keep (Keep.ofNone (F := fun _ => False) k14) (fun _ _ h => h), hq.kept k24, fun b hb => Classical.byContradiction fun hn => ?_, fun b hb => ?_, hb, hb⟩, ?_, ⟨?_, frozen_of_row _ _ _ _ _ hD4, fun _ => rfl, fun g e => (by cases e), (by simp)⟩, ⟨.slice none 0 0, ?_⟩, frozen_of_row _ _ _ _ _ hD4, fun b hb hp => ?_, by omega, by simp⟩, hk1.trans k14 (by simp)⟩
  · have := hlo b hb; have := ho' b hn; omega
  · have e0 : ∀ b, b < w.heap.size ∨ w2.heap.size ≤ b → o b = 0 ∧ o' b = 0 := fun b hb => ⟨Classical.byContradiction fun hn => by have := ho b hn; have := hlo b hn; omega, Classical.byContradiction fun hn => by have := ho' b hn; have := hlo' b hn; omega⟩
    rcases hb with hb | hb | hb | hb
    · have := hX b hb
      exact ⟨(e0 b (.inl this)).1, (e0 b (.inl this)).2, by omega⟩
    · exact ⟨(e0 b (.inr (by omega))).1, (e0 b (.inr (by omega))).2, by omega⟩
    · exact ⟨(e0 b (.inr (by omega))).1, (e0 b (.inr (by omega))).2, by omega⟩
    · cases hb
  · rw [← s3]; exact hP4
  · rw [cell_of_row w4 _ 0 _ _ _ hD4]; rfl
  · rw [cell_of_row w4 _ 1 _ _ _ hD4]; rfl
  · have := hX b hb
    rcases hp with hp | hp | hp
    · omega
    · omega
    · cases hp
/-- What made answers. -/
def MadeE (w w' : World) (r : Int) (e : Ending) : Prop := ∃ P, e = .returned (.tuple #[.pointer (some ⟨P, 0, none⟩), .bool true]) ∧ Kept [] w w' ∧
  ((roomE r ≠ 0 ∧ w'.cell? ⟨P, 0, none⟩ = some (.pointer none)) ∨ (roomE r = 0 ∧ ∀ X : Nat → Prop, (∀ b, X b → b < w.heap.size) → ∃ p q D, Pq X w' P p q D none [] (Ds.fresh r.toNat) 0 (Ds.fresh r.toNat) 0))
set_option maxHeartbeats 1600000 in
set_option maxRecDepth 100000 in
theorem made_ok (r : Int) (w : World) (hr : (Lit.int .i64 r).wf = true) : Calls Tryz.prog 11 #[.int .i64 r] w fun e w' => MadeE w w' r e := by
  have hn1 := new_ok r w hr
  by_cases h0 : roomE r = 0
  · rw [h0] at hn1
    have HE := hide h0
    have hn1 : Calls Tryz.prog 15 #[.int .i64 r] w fun e w' => ∃ p, e = .returned (.tuple #[.pointer (some ⟨p, 0, none⟩), .int .i64 0]) ∧ ∃ A o, PD w' p (Ds.fresh r.toNat) A o ∧ (∀ b, o b ≠ 0 → w.heap.size ≤ b) ∧ Kept [] w w' := hn1.mono (by
      rintro e w' ⟨v, rfl, h1, _, h3⟩
      obtain ⟨p, A, o, rfl, h4, h5⟩ := h1 HE.out
      exact ⟨p, rfl, A, o, h4, h5, h3⟩)
    have hn2 := fun v => rnew_ok r v h0
    clear h0
    go_enter Tryz.func11, Tryz.ntmps11
    go_upto_region 3 with (first
      | (go_at_call 15; refine hn1.mono ?_; rintro e w1 ⟨p, rfl, h1⟩; have H1 := hide h1; clear hn1 h1)
      | (go_at_call 16; refine (hn2 _).mono ?_; rintro e w2 ⟨q, rfl, h2⟩; have H2 := hide h2; clear hn2 h2))
    go_wp2_with (go_at_call 17; refine (num_ok _ _).mono ?_; rintro e w' ⟨rfl, hw⟩; obtain rfl := hw.symm)
    go_ret2
    obtain ⟨A, o, h1, h2, h3⟩ := H1.out
    obtain ⟨A', o', g1, g2, g3⟩ := H2.out
    refine ⟨_, rfl, (Pq.new (X := fun _ => False) (fun _ h => h.elim) h1 h2 h3 g1 g2 g3 (Ds.Bd.fresh _) rfl).2, .inr ⟨HE.out, fun X hX => ⟨p, q, w2.heap.size, (Pq.new hX h1 h2 h3 g1 g2 g3 (Ds.Bd.fresh _) rfl).1⟩⟩⟩
  · have h1 : roomE r = 1 := by unfold roomE at h0 ⊢; split <;> simp_all
    rw [h1] at hn1
    have HE := hide h0
    have hn1 : Calls Tryz.prog 15 #[.int .i64 r] w fun e w' => e = .returned (.tuple #[.pointer none, .int .i64 1]) ∧ Kept [] w w' := hn1.mono (by
      rintro e w' ⟨v, rfl, _, h2, h3⟩
      rw [h2 HE.out]
      exact ⟨rfl, h3⟩)
    have hn2 := fun v => rnewBad_ok r v h1
    clear h0 h1
    go_enter Tryz.func11, Tryz.ntmps11
    go_upto_region 3 with (first
      | (go_at_call 15; refine hn1.mono ?_; rintro e w1 ⟨rfl, h1⟩; have H1 := hide h1; clear hn1 h1)
      | (go_at_call 16; refine (hn2 _).mono ?_; rintro e w2 ⟨rfl, hw⟩; obtain rfl := hw.symm; clear hn2))
    go_wp2_with (go_at_call 17; refine (num_ok _ _).mono ?_; rintro e w' ⟨rfl, hw⟩; obtain rfl := hw.symm)
    go_ret2
    refine ⟨_, rfl, (H1.out.alloc _).alloc _, .inl ⟨HE.out, ?_⟩⟩
    have := (MapKept.heap_alloc (w1.alloc (.cells #[.slice none 0 0, .slice none 0 0] 48)) (.cells #[.pointer none, .pointer none, .pointer (some ⟨w1.heap.size, 0, none⟩)] 33)).1
    rw [size_alloc] at this
    rw [cell_of_row _ _ 0 _ _ _ this]
    rfl
end Go.Proofs.YtgimlnnaimjmgaaGreat
