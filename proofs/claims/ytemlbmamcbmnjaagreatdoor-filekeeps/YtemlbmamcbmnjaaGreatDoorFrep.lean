/-
  Arguments: rows of texts. (After Fb0.)
-/
import Derived.Test.YtemlbmamcbmnjaaGreatDoorHpp
import Derived.Test.YtemlbmamcbmnjaaGreatDoorFap
import Derived.Deep.MidRow
import Derived.Lib.SmallJoins
import Derived.Deep.Slices
import Derived.OpenShut
import Derived.ProofKit
namespace Go.Proofs.YtemlbmamcbmnjaaGreatDoor
open Go.ChangeShapes Go.WideShapes Go.ChangeAt Go.RowKit Go.Deep Go.Joins Dsk
set_option linter.unusedVariables false
set_option linter.unusedSimpArgs false

theorem str_smallk {H : Type} {y : DataW H × List MemPlace} {L : List UInt8} {P : Program} {t : TypeId} {q : List MemPlace} (hy : y = (.lit (.string (ByteArray.mk L.toArray).data.toList), q)) (h : ∀ k ∈ y.1.weights P t, k ≤ reachBytes) : L.length ≤ 4611686018427387900 := by
  subst hy
  have := h _ (by simp only [DataW.weights]; exact List.mem_singleton.2 rfl)
  have hr : reachBytes = 140737488351232 := rfl
  rw [hr] at this
  have h2 : L.length ≤ 140737488351232 := this
  omega

def Tlk (w : World) (ao : Option Addr) (L : List By) : Prop := ∀ i, i < L.length → ∃ b off, ao = some ⟨b, off, none⟩ ∧ w.cell? ⟨b, off + i, none⟩ = some (encStr (L.getD i [])) ∧ (L.getD i []).length ≤ 4611686018427387900

section

variable {H : Type} {enc : TypeId × Value → H} {w : World}

set_option maxRecDepth 100000 in
theorem open_textk1 {n : Nat} {cs : List Value} {x : DataW H × List MemPlace} (h : DataW.trod enc Tryz.prog w 0 (fun _ => true) true n 9 cs = some x) (hw : ∀ n ∈ x.1.weights Tryz.prog 9, n ≤ reachBytes) :
    ∃ s : By, cs = [encStr s] ∧ s.length ≤ 4611686018427387900 := by
  have hcs : Tryz.prog.cellsOf 9 = 1 := by kernel_rfl
  obtain ⟨s1, e1, hy1, _⟩ := DataW.trod_string Tryz.underlying9 h
  obtain ⟨⟨L1⟩⟩ := s1
  exact ⟨L1, e1, str_smallk (y := (x.1, _)) (by rw [hy1]) hw⟩

set_option maxRecDepth 100000 in
theorem open_textsk {fuel : Nat} {v : Value} {x : DataW H × List MemPlace} (h : DataW.trod enc Tryz.prog w 0 (fun _ => true) true fuel 57 [v] = some x) (hw : ∀ n ∈ x.1.weights Tryz.prog 57, n ≤ reachBytes) :
    ∃ ao n cap L, v = .slice ao n cap ∧ L.length = n ∧ Tlk w ao L ∧ n ≤ 9223372036854775807 := by
  rcases open_slice Tryz.underlying57 h with ⟨hcs, _⟩ | ⟨a, len, cap, m, n, D, Pl, hcs, _, hl, hm, hmm, hxx, hx⟩
  · cases hcs
    exact ⟨none, 0, 0, [], rfl, rfl, fun i hi => by simp at hi, by omega⟩
  · cases hcs
    have hcl : Tryz.prog.cellsOf 9 = 1 := by kernel_rfl
    simp only [if_true] at hmm
    subst hmm
    rw [hcl] at hx
    unfold maxLen at hm
    obtain ⟨b, off, spot⟩ := a
    have hwD : ∀ i, i < len → ∀ n ∈ (D i).weights Tryz.prog 9, n ≤ reachBytes := by
      intro i hi n hn
      refine hw n ?_
      rw [hxx]
      simp only [DataW.weights, Tryz.underlying57, List.mem_cons, List.mem_append]
      exact .inr (.inl (weights_all (List.mem_map_of_mem (List.mem_range.2 hi)) hn))
    have hel : ∀ i, i < len → ∃ c : By, spot = none ∧ w.cell? ⟨b, off + i, none⟩ = some (encStr c) ∧ c.length ≤ 4611686018427387900 := by
      intro i hi
      obtain ⟨cs', h1, h2⟩ := hx i (by omega)
      obtain ⟨s, rfl, hin⟩ := open_textk1 h2 (hwD i hi)
      obtain ⟨_, _, h3⟩ := World.cells?_some h1
      have hsp : spot = none := by
        obtain ⟨cs0, g1, g2⟩ := hx 0 (by omega)
        obtain ⟨s0, rfl, _⟩ := open_textk1 g2 (hwD 0 (by omega))
        obtain ⟨_, _, g3⟩ := World.cells?_some g1
        have h5 := g3 0 (by omega)
        rw [show (((⟨b, off, spot⟩ : Addr).add (0 * 1)).add 0) = ⟨b, off, spot⟩ by simp [Addr.add]] at h5
        exact World.cell?_spot (a := ⟨b, off, spot⟩) h5
      subst hsp
      refine ⟨s, rfl, ?_, hin⟩
      have g := h3 0 (by omega)
      rw [Addr.add_mid, Addr.add_mid, Nat.mul_one, Nat.add_zero] at g
      rw [g]
      rfl
    obtain ⟨f, hf⟩ := choose_lt (α := By) hel
    refine ⟨_, len, _, (List.range len).map f, rfl, by simp, fun i hi => ?_, by omega⟩
    have hi' : i < len := by simpa using hi
    obtain ⟨hsp, hc, hin⟩ := hf i hi'
    subst hsp
    have e : ((List.range len).map f).getD i [] = f i := by simp [hi']
    rw [e]
    exact ⟨b, off, rfl, hc, hin⟩

end

end Go.Proofs.YtemlbmamcbmnjaaGreatDoor
