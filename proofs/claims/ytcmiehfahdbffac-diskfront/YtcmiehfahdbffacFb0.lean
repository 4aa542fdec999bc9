/-
  Arguments: rows of texts, rows of Moves.
-/
import Derived.Test.YtcmiehfahdbffacIa
import Derived.Test.YtcmiehfahdbffacFa
import Derived.Deep.MidRow
import Derived.Lib.SmallJoins
import Derived.Deep.Slices
import Derived.OpenShut
import Derived.ProofKit
namespace Go.Proofs.Ytcmiehfahdbffac
open Go.ChangeShapes Go.WideShapes Go.ChangeAt Go.RowKit Go.Deep Go.Joins Dsk
set_option linter.unusedVariables false
set_option linter.unusedSimpArgs false
def Tls (w : World) (ao : Option Addr) (L : List By) : Prop := ∀ i, i < L.length → ∃ b off, ao = some ⟨b, off, none⟩ ∧ w.cell? ⟨b, off + i, none⟩ = some (encStr (L.getD i [])) ∧ (L.getD i []).length ≤ 4611686018427387904
def Movs (w : World) (ao : Option Addr) (L : List Mov) : Prop := ∀ i, i < L.length → ∃ b off, ao = some ⟨b, off, none⟩ ∧ (w.cell? ⟨b, off + i * 2, none⟩ = some (encStr (L.getD i ([], [])).1) ∧ w.cell? ⟨b, off + i * 2 + 1, none⟩ = some (encStr (L.getD i ([], [])).2)) ∧ (L.getD i ([], [])).1.length ≤ 4611686018427387904 ∧ (L.getD i ([], [])).2.length ≤ 4611686018427387904
section
variable {H : Type} {enc : TypeId × Value → H} {w : World}
set_option maxRecDepth 100000 in
theorem open_text1 {n : Nat} {cs : List Value} {x : DataW H × List MemPlace} (h : DataW.trod enc Try.prog w 0 (fun _ => true) true n 9 cs = some x) (hw : ∀ n ∈ x.1.weights Try.prog 9, n ≤ reachBytes) :
    ∃ s : By, cs = [encStr s] ∧ s.length ≤ 4611686018427387904 := by
  have hcs : Try.prog.cellsOf 9 = 1 := by kernel_rfl
  obtain ⟨s1, e1, hy1, _⟩ := DataW.trod_string Try.underlying9 h
  obtain ⟨⟨L1⟩⟩ := s1
  exact ⟨L1, e1, str_small (y := (x.1, _)) (by rw [hy1]) hw⟩
set_option maxRecDepth 100000 in
theorem open_texts {fuel : Nat} {v : Value} {x : DataW H × List MemPlace} (h : DataW.trod enc Try.prog w 0 (fun _ => true) true fuel 48 [v] = some x) (hw : ∀ n ∈ x.1.weights Try.prog 48, n ≤ reachBytes) :
    ∃ ao n cap L, v = .slice ao n cap ∧ L.length = n ∧ Tls w ao L ∧ n ≤ 9223372036854775807 := by
  rcases open_slice Try.underlying48 h with ⟨hcs, _⟩ | ⟨a, len, cap, m, n, D, Pl, hcs, _, hl, hm, hmm, hxx, hx⟩
  · cases hcs
    exact ⟨none, 0, 0, [], rfl, rfl, fun i hi => by simp at hi, by omega⟩
  · cases hcs
    have hcl : Try.prog.cellsOf 9 = 1 := by kernel_rfl
    simp only [if_true] at hmm
    subst hmm
    rw [hcl] at hx
    unfold maxLen at hm
    obtain ⟨b, off, spot⟩ := a
    have hwD : ∀ i, i < len → ∀ n ∈ (D i).weights Try.prog 9, n ≤ reachBytes := by
      intro i hi n hn
      refine hw n ?_
      rw [hxx]
      simp only [DataW.weights, Try.underlying48, List.mem_cons, List.mem_append]
      exact .inr (.inl (weights_all (List.mem_map_of_mem (List.mem_range.2 hi)) hn))
    have hel : ∀ i, i < len → ∃ c : By, spot = none ∧ w.cell? ⟨b, off + i, none⟩ = some (encStr c) ∧ c.length ≤ 4611686018427387904 := by
      intro i hi
      obtain ⟨cs', h1, h2⟩ := hx i (by omega)
      obtain ⟨s, rfl, hin⟩ := open_text1 h2 (hwD i hi)
      obtain ⟨_, _, h3⟩ := World.cells?_some h1
      have hsp : spot = none := by
        obtain ⟨cs0, g1, g2⟩ := hx 0 (by omega)
        obtain ⟨s0, rfl, _⟩ := open_text1 g2 (hwD 0 (by omega))
        obtain ⟨_, _, g3⟩ := World.cells?_some g1
        have h5 := g3 0 (by omega)
        rw [show (((⟨b, off, spot⟩ : Addr).add (0 * 1)).add 0) = ⟨b, off, spot⟩ by simp [Addr.add]] at h5
        exact World.cell?_spot (a := ⟨b, off, spot⟩) h5
      subst hsp
      refine ⟨s, rfl, ?_, hin⟩
      have g := h3 0 (by omega)
      rw [Addr.add_mid, Addr.add_mid, Nat.mul_one, Nat.add_zero] at g
      rw [g]
      rfl
    obtain ⟨f, hf⟩ := choose_lt (α := By) hel
    refine ⟨_, len, _, (List.range len).map f, rfl, by simp, fun i hi => ?_, by omega⟩
    have hi' : i < len := by simpa using hi
    obtain ⟨hsp, hc, hin⟩ := hf i hi'
    subst hsp
    have e : ((List.range len).map f).getD i [] = f i := by simp [hi']
    rw [e]
    exact ⟨b, off, rfl, hc, hin⟩
set_option maxRecDepth 100000 in
theorem open_move {n : Nat} {cs : List Value} {x : DataW H × List MemPlace} (h : DataW.trod enc Try.prog w 0 (fun _ => true) true n 52 cs = some x) (hw : ∀ n ∈ x.1.weights Try.prog 52, n ≤ reachBytes) :
    ∃ s : Mov, cs = [encStr s.1, encStr s.2] ∧ s.1.length ≤ 4611686018427387904 ∧ s.2.length ≤ 4611686018427387904 := by
  obtain ⟨xs, m, rfl, hx, hl, hlen, hf⟩ := DataW.trod_struct Try.underlying52 h
  have hcl : Try.prog.cellsOf 52 = 2 := by kernel_rfl
  have hcs : Try.prog.cellsOf 9 = 1 := by kernel_rfl
  rw [hcl] at hl
  match cs, hl with
  | [a0, a1], _ =>
  match xs, hlen with
  | [y0, y1], _ =>
    have h0 := hf 0 _ rfl
    have h1 := hf 1 _ rfl
    simp only [hcs, List.drop_zero, List.drop_succ_cons, List.take_succ_cons, List.take_zero, List.getElem?_cons_zero, List.getElem?_cons_succ] at h0 h1
    have hwy : ∀ (t : TypeId) (y : DataW H × List MemPlace), (∀ k ∈ y.1.weights Try.prog t, k ∈ x.1.weights Try.prog 52) → ∀ k ∈ y.1.weights Try.prog t, k ≤ reachBytes := fun t y hy k hk => hw k (hy k hk)
    obtain ⟨s1, e1, hy1, _⟩ := DataW.trod_string Try.underlying9 h0
    obtain ⟨s2, e2, hy2, _⟩ := DataW.trod_string Try.underlying9 h1
    have wt1 := hwy 9 y0 (fun j hj => by
      rw [hx]
      simp only [DataW.weights, Try.underlying52, DataW.weightsEach, List.mem_append, List.map_cons, List.map_nil]
      simp [DataW.weightsEach, hj])
    have wt2 := hwy 9 y1 (fun j hj => by
      rw [hx]
      simp only [DataW.weights, Try.underlying52, DataW.weightsEach, List.mem_append, List.map_cons, List.map_nil]
      simp [DataW.weightsEach, hj])
    cases e1; cases e2
    obtain ⟨⟨L1⟩⟩ := s1
    obtain ⟨⟨L2⟩⟩ := s2
    exact ⟨(L1, L2), rfl, str_small hy1 wt1, str_small hy2 wt2⟩
set_option maxRecDepth 100000 in
theorem open_moves {fuel : Nat} {v : Value} {x : DataW H × List MemPlace} (h : DataW.trod enc Try.prog w 0 (fun _ => true) true fuel 49 [v] = some x) (hw : ∀ n ∈ x.1.weights Try.prog 49, n ≤ reachBytes) :
    ∃ ao n cap L, v = .slice ao n cap ∧ L.length = n ∧ Movs w ao L ∧ n ≤ 9223372036854775807 := by
  rcases open_slice Try.underlying49 h with ⟨hcs, _⟩ | ⟨a, len, cap, m, n, D, Pl, hcs, _, hl, hm, hmm, hxx, hx⟩
  · cases hcs
    exact ⟨none, 0, 0, [], rfl, rfl, fun i hi => by simp at hi, by omega⟩
  · cases hcs
    have hcl : Try.prog.cellsOf 52 = 2 := by kernel_rfl
    simp only [if_true] at hmm
    subst hmm
    rw [hcl] at hx
    unfold maxLen at hm
    obtain ⟨b, off, spot⟩ := a
    have hwD : ∀ i, i < len → ∀ n ∈ (D i).weights Try.prog 52, n ≤ reachBytes := by
      intro i hi n hn
      refine hw n ?_
      rw [hxx]
      simp only [DataW.weights, Try.underlying49, List.mem_cons, List.mem_append]
      exact .inr (.inl (weights_all (List.mem_map_of_mem (List.mem_range.2 hi)) hn))
    have hel : ∀ i, i < len → ∃ c : Mov, spot = none ∧ (w.cell? ⟨b, off + i * 2, none⟩ = some (encStr c.1) ∧ w.cell? ⟨b, off + i * 2 + 1, none⟩ = some (encStr c.2)) ∧ c.1.length ≤ 4611686018427387904 ∧ c.2.length ≤ 4611686018427387904 := by
      intro i hi
      obtain ⟨cs', h1, h2⟩ := hx i (by omega)
      obtain ⟨s, rfl, hin⟩ := open_move h2 (hwD i hi)
      obtain ⟨_, _, h3⟩ := World.cells?_some h1
      have hsp : spot = none := by
        obtain ⟨cs0, g1, g2⟩ := hx 0 (by omega)
        obtain ⟨s0, rfl, _⟩ := open_move g2 (hwD 0 (by omega))
        obtain ⟨_, _, g3⟩ := World.cells?_some g1
        have h5 := g3 0 (by omega)
        rw [show (((⟨b, off, spot⟩ : Addr).add (0 * 2)).add 0) = ⟨b, off, spot⟩ by simp [Addr.add]] at h5
        exact World.cell?_spot (a := ⟨b, off, spot⟩) h5
      subst hsp
      have g0 := h3 0 (by omega)
      have g1 := h3 1 (by omega)
      rw [Addr.add_mid, Addr.add_mid, Nat.add_zero] at g0
      rw [Addr.add_mid, Addr.add_mid] at g1
      exact ⟨s, rfl, ⟨by rw [g0]; rfl, by rw [g1]; rfl⟩, hin⟩
    obtain ⟨f, hf⟩ := choose_lt (α := Mov) hel
    refine ⟨_, len, _, (List.range len).map f, rfl, by simp, fun i hi => ?_, by omega⟩
    have hi' : i < len := by simpa using hi
    obtain ⟨hsp, hc, hin⟩ := hf i hi'
    subst hsp
    have e : ((List.range len).map f).getD i ([], []) = f i := by simp [hi']
    rw [e]
    exact ⟨b, off, rfl, hc, hin⟩
end
end Go.Proofs.Ytcmiehfahdbffac
