/-
  freightlaw6.others.
-/
import Derived.Test.YtoiogpcmndlpcaaGreatDoorFobp
namespace Go.Proofs.YtoiogpcmndlpcaaGreatDoor
open Go.RowKit Dsk
set_option linter.unusedVariables false
set_option linter.unusedSimpArgs false

/-- A list of files, made behind w, whose bytes lie where they lay in w. -/
structure Rowf (w wr : World) (v : Value) (L : List (By × By)) (vs : List Value) : Prop where
  len : vs.length = L.length
  row : wr.ownsRow w.heap.size 42 2 v L.length (fcells L vs)
  sl : ∀ (i : Nat) (f : By × By) (u : Value), L[i]? = some f → vs[i]? = some u → ∃ bo bc, u = .slice bo f.2.length bc ∧ Sl w bo f.2
  kept : Kept [] w wr
theorem Rowf.start (w : World) : Rowf w w (.slice none 0 0) [] [] := ⟨rfl, World.ownsRow_nil _ _ _ _, by simp, Kept.refl [] w⟩
theorem Rowf.step {w wr w5 : World} {v v' u : Value} {L : List (By × By)} {vs : List Value} {f : By × By} {bo : Option Addr} {bc : Nat} (h : Rowf w wr v L vs) (hu : u = .slice bo f.2.length bc) (hs : Sl w bo f.2)
    (ho : w5.ownsRow 0 42 2 v' (L.length + 1) (fcells L vs ++ [encStr f.1, u])) (hK : ∀ F : Nat → Prop, (∀ k, v.ownBlock = some k → F k) → Keep F wr w5) (hl : ∀ g, v'.ownBlock = some g → v.ownBlock = some g ∨ wr.heap.size ≤ g) : Rowf w w5 v' (L ++ [f]) (vs ++ [u]) := by
  have hsz := h.kept.size
  refine ⟨by simp [h.len], ?_, fun i f' u' hf hu' => ?_, ?_⟩
  · rw [fcells_snoc h.len]
    refine ⟨by have := ho.1; simpa using this, ?_⟩
    rcases ho.2 with ⟨rfl, h0⟩ | ⟨g, cap, cur, rfl, _, r⟩
    · omega
    · refine .inr ⟨g, cap, cur, by simp, ?_, by simpa using r⟩
      rcases hl g rfl with e | e
      · exact (h.row.lt g e).1
      · omega
  · by_cases hi : i < L.length
    · rw [List.getElem?_append_left hi] at hf
      rw [List.getElem?_append_left (by rw [h.len]; exact hi)] at hu'
      exact h.sl i f' u' hf hu'
    · have hi2 : i = L.length := by
        have := (List.getElem?_eq_some_iff.1 hf).1
        simp at this
        omega
      subst hi2
      rw [List.getElem?_append_right (Nat.le_refl _)] at hf
      rw [List.getElem?_append_right (by rw [h.len]; exact Nat.le_refl _), h.len] at hu'
      simp at hf hu'
      subst hf hu'
      exact ⟨bo, bc, hu, hs⟩
  · have h1 := h.kept
    have hK5 := hK (fun k => w.heap.size ≤ k) (fun k e => (h.row.lt k e).1)
    exact ⟨hK5.os.trans h1.os, hK5.tape.trans h1.tape, hK5.output.trans h1.output, Nat.le_trans h1.size hK5.size, fun i hi _ => (hK5.block i (Nat.lt_of_lt_of_le hi h1.size) (by omega)).trans (h1.block i hi (by simp))⟩
theorem Rowf.fis {w wr w' : World} {ao : Option Addr} {n c : Nat} {L : List (By × By)} {vs : List Value} (h : Rowf w wr (.slice ao n c) L vs) (hk : Kept [] wr w') : Fis w' ao L ∧ n = L.length := by
  have hn : n = L.length := by
    rcases h.row.2 with ⟨e, e2⟩ | ⟨g, cap, cur, e, _⟩
    · injection e with _ e _; omega
    · injection e
  refine ⟨fun i hi => ?_, hn⟩
  have hv : i < vs.length := by rw [h.len]; exact hi
  obtain ⟨q1, q2⟩ := fcells_get L vs i _ _ h.len (List.getElem?_eq_getElem hi) (List.getElem?_eq_getElem hv)
  obtain ⟨bo, bc, e, hs⟩ := h.sl i _ _ (List.getElem?_eq_getElem hi) (List.getElem?_eq_getElem hv)
  rw [e] at q2
  rcases h.row.2 with ⟨e, e2⟩ | ⟨g, cap, cur, e, _⟩
  · omega
  · injection e with e _ _
    subst e
    refine ⟨g, rfl, _, List.getElem?_eq_getElem hi, ?_, bo, bc, ?_, hs.kept (h.kept.trans hk (by simp)) (by simp)⟩
    · have := h.row.cells (g := g) rfl _ _ q1
      rw [add0] at this
      exact hk.cellOf this (by simp)
    · have := h.row.cells (g := g) rfl _ _ q2
      rw [add0] at this
      exact hk.cellOf this (by simp)
/-- The files but two. -/
def flt (one two : By) (L : List (By × By)) : List (By × By) := L.filter (fun f => !(f.1 == one) && !(f.1 == two))
theorem flt_take (one two : By) (L : List (By × By)) (k : Nat) (f : By × By) (h : L[k]? = some f) : flt one two (L.take (k + 1)) = flt one two (L.take k) ++ (if f.1 = one ∨ f.1 = two then [] else [f]) := by
  rw [List.take_add_one, h]
  unfold flt
  rw [List.filter_append]
  congr 1
  by_cases h1 : f.1 = one
  · simp [h1]
  · by_cases h2 : f.1 = two
    · simp [h2]
    · simp [h1, h2]
theorem Rowf.app {w wr : World} {fo : Option Addr} {m fc : Nat} {L : List (By × By)} {vs : List Value} {x d : By} {bo : Option Addr} {bc : Nat} (h : Rowf w wr (.slice fo m fc) L vs) (hm : m ≤ 2097152) (hs : Sl w bo d) :
    ∃ g c w5, (Builtin.append_ #[36, 36] 36 #[.slice fo m fc, .slice (some ⟨wr.heap.size, 0, none⟩) 1 1]).run Tryz.prog (wr.alloc (.cells #[encStr x, .slice bo d.length bc] 42)) = .ok (.slice (some ⟨g, 0, none⟩) (m + 1) c) w5 ∧ Hid (∃ vs', Rowf w w5 (.slice (some ⟨g, 0, none⟩) (m + 1) c) (L ++ [(x, d)]) vs') := by
  have hn : m = L.length := (h.fis (Kept.refl [] wr)).2
  have hr4 := ownsRow_base_a h.row (Nat.zero_le _)
  rw [← hn] at hr4
  obtain ⟨g, c, w', e1, e2, e3, e4, _⟩ := run_app (P := Tryz.prog) wr 36 36 42 Tryz.underlying36 Tryz.infoFile rfl (by decide) _ m _ hr4 [encStr x, .slice bo d.length bc] rfl (fun z hz => by simp only [List.mem_cons, List.not_mem_nil, or_false] at hz; rcases hz with rfl | rfl <;> rfl) (by unfold maxLen; omega) (by omega)
  refine ⟨g, c, w', e1, hide ⟨_, h.step (f := (x, d)) rfl hs (by rw [← hn]; exact e2) e3 (fun g' hg' => ?_)⟩⟩
  simp only [Value.ownBlock, Option.some.injEq] at hg'
  subst hg'
  rcases e4 with e | e
  · exact .inl e.symm
  · exact .inr e