/-
  Arguments opened: an id, a result, a list of results, as the frames want them.
-/
import Derived.Test.YtdeneflgldagpaaZx
namespace Go.Proofs.Ytdeneflgldagpaa
open Go.ChangeShapes Go.WideShapes Go.ChangeAt Go.RowKit Go.Deep Go.Joins
set_option linter.unusedVariables false
set_option linter.unusedSimpArgs false

/-- A list of results that came in. -/
structure InR (w : World) (ao : Option Addr) (n cap : Nat) (L : List Res) : Prop where
  len : L.length = n
  le : n ≤ cap
  max : cap * 72 ≤ 140737488351232
  ress : Ress w ao L
  nil : ao = none → n = 0 ∧ cap = 0
theorem open_inr {H : Type} {enc : TypeId × Value → H} {w : World} {fuel : Nat} {v : Value} {x : DataW H × List MemPlace} (h : DataW.trod enc Try.prog w 0 (fun _ => true) true fuel 22 [v] = some x) (hw : ∀ n ∈ x.1.weights Try.prog 22, n ≤ reachBytes) :
    ∃ ao n cap L, v = .slice ao n cap ∧ InR w ao n cap L := by
  obtain ⟨ao, n, cap, L, e, h1, h2, h3, h4, h5⟩ := open_results h hw
  exact ⟨ao, n, cap, L, e, h1, h3, h4, h2, h5⟩

set_option maxRecDepth 100000 in
theorem Try.open_idv {H : Type} {enc : TypeId × Value → H} {w : World} {r : Reach} {b0 : Nat} {v : Value} {d : DataW H} {p : List MemPlace} (hv : Value.okWide Try.prog w r b0 37 v) (h : DataW.Trod enc Try.prog w 0 (fun _ => true) true 37 v d p) :
    ∃ L : List UInt8, L.length = 32 ∧ v = .agg (bys L).toArray := by
  have hv' : ∃ cs, v = .agg cs ∧ cs.size = Try.prog.cellsOf 37 ∧ Row.okWide Try.prog w r b0 37 cs := by
    unfold Value.okWide at hv
    rw [Try.underlying37] at hv
    exact hv
  obtain ⟨cs, rfl, hs, _⟩ := hv'
  obtain ⟨fuel, hf⟩ := h
  obtain ⟨L, hl, e⟩ := open_id32 hf
  have e' : cs.toList = bys L := e
  exact ⟨L, hl, by rw [← e']⟩

set_option maxRecDepth 100000 in
theorem Try.open_resv {H : Type} {enc : TypeId × Value → H} {w : World} {r : Reach} {b0 : Nat} {v : Value} {d : DataW H} {p : List MemPlace} (hv : Value.okWide Try.prog w r b0 39 v) (h : DataW.Trod enc Try.prog w 0 (fun _ => true) true 39 v d p) :
    ∃ e : Res, v = .agg e.cells.toArray := by
  have hv' : ∃ cs, v = .agg cs ∧ cs.size = Try.prog.cellsOf 39 ∧ Row.okWide Try.prog w r b0 39 cs := by
    unfold Value.okWide at hv
    rw [Try.underlying39] at hv
    exact hv
  obtain ⟨cs, rfl, hs, _⟩ := hv'
  obtain ⟨fuel, hf⟩ := h
  obtain ⟨e, h2⟩ := open_result hf
  have e' : cs.toList = e.cells := h2
  exact ⟨e, by rw [← e']⟩
end Go.Proofs.Ytdeneflgldagpaa
