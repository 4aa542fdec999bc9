/-
  Chapter 3's arguments: lists of rows.
-/
import Derived.Test.YtcgkjdchkpnldabProg
import Derived.Test.YtcgkjdchkpnldabEa
import Derived.ProofKit
import Derived.OpenShut
import Derived.Deep.Slices
import Derived.Lib.SmallJoins
import Derived.Deep.MidRow
namespace Go.Proofs.Ytcgkjdchkpnldab
open Go.ChangeShapes Go.WideShapes Go.ChangeAt Go.RowKit Go.Deep Go.Joins
set_option linter.unusedVariables false
set_option linter.unusedSimpArgs false

section
variable {H : Type} {enc : TypeId × Value → H} {w : World}
theorem weights_all {P : Program} {e : TypeId} {l : List (DataW H)} {d : DataW H} (h : d ∈ l) {n : Nat} (hn : n ∈ d.weights P e) : n ∈ DataW.weightsAll P e l := by
  induction l with
  | nil => simp at h
  | cons x l ih =>
    simp only [DataW.weightsAll, List.mem_append]
    simp only [List.mem_cons] at h
    rcases h with rfl | h
    · exact .inl hn
    · exact .inr (ih h)


/-- A row among rows. -/
structure Bx where
  da : Option Addr
  dn : Nat
  dc : Nat
  ds : List UInt8
def bx0 : Bx := ⟨none, 0, 0, []⟩
instance : Inhabited Bx := ⟨bx0⟩
def RowsAt (w : World) (ao : Option Addr) (L : List Bx) : Prop :=
  ∀ i, i < L.length → ∃ b off, ao = some ⟨b, off, none⟩ ∧ w.cell? ⟨b, off + i, none⟩ = some (.slice (L.getD i bx0).da (L.getD i bx0).dn (L.getD i bx0).dc) ∧ InB w (L.getD i bx0).da (L.getD i bx0).dn (L.getD i bx0).dc (L.getD i bx0).ds

theorem open_rows {H : Type} {enc : TypeId × Value → H} {w : World} {fuel : Nat} {v : Value} {x : DataW H × List MemPlace} (h : DataW.trod enc Try.prog w 0 (fun _ => true) true fuel 31 [v] = some x) (hw : ∀ n ∈ x.1.weights Try.prog 31, n ≤ reachBytes) :
    ∃ ao n cap L, v = .slice ao n cap ∧ L.length = n ∧ RowsAt w ao L ∧ (n ≤ 9223372036854775807 ∧ n ≤ cap) := by
  rcases open_slice1 Try.underlying31 (by kernel_rfl) h with ⟨hcs, _⟩ | ⟨a, len, cap, m, n, V, D, Pl, hcs, _, hl, hm, hmm, hxx, hx⟩
  · cases hcs
    exact ⟨none, 0, 0, [], rfl, rfl, fun i hi => by simp at hi, by omega, by omega⟩
  · cases hcs
    simp only [if_true] at hmm
    subst hmm
    unfold maxLen at hm
    obtain ⟨b, off, spot⟩ := a
    have hwD : ∀ i, i < len → ∀ n ∈ (D i).weights Try.prog 22, n ≤ reachBytes := by
      intro i hi n hn
      refine hw n ?_
      rw [hxx]
      simp only [DataW.weights, Try.underlying31, List.mem_cons, List.mem_append]
      exact .inr (.inl (weights_all (List.mem_map_of_mem (List.mem_range.2 hi)) hn))
    have hel : ∀ i, i < len → ∃ c : Bx, spot = none ∧ w.cell? ⟨b, off + i, none⟩ = some (.slice c.da c.dn c.dc) ∧ InB w c.da c.dn c.dc c.ds := by
      intro i hi
      obtain ⟨h1, h2⟩ := hx i (by omega)
      obtain ⟨ao, nn, cp, xs, e, hin⟩ := open_bytes h2 (hwD i hi)
      have hsp : spot = none := by
        have h5 := (hx 0 (by omega)).1
        rw [show ((⟨b, off, spot⟩ : Addr).add 0) = ⟨b, off, spot⟩ by simp [Addr.add]] at h5
        exact World.cell?_spot (a := ⟨b, off, spot⟩) h5
      subst hsp
      rw [Addr.add_mid, e] at h1
      exact ⟨⟨ao, nn, cp, xs⟩, rfl, h1, hin⟩
    obtain ⟨f, hf⟩ := choose_lt (α := Bx) hel
    refine ⟨_, len, _, (List.range len).map f, rfl, by simp, fun i hi => ?_, by omega, by omega⟩
    have hi' : i < len := by simpa using hi
    obtain ⟨hsp, hc⟩ := hf i hi'
    subst hsp
    have e : ((List.range len).map f).getD i bx0 = f i := by simp [hi']
    rw [e]
    exact ⟨b, off, rfl, hc⟩


end
end Go.Proofs.Ytcgkjdchkpnldab
