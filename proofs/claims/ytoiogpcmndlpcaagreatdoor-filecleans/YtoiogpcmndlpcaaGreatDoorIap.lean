/-
  Chapter 5's arguments: scripts of steps.
-/
import Derived.Test.YtoiogpcmndlpcaaGreatDoorProg
import Derived.Test.YtoiogpcmndlpcaaGreatDoorEap
import Derived.Test.YtoiogpcmndlpcaaGreatDoorGnp
import Derived.ProofKit
import Derived.OpenShut
import Derived.Deep.Slices
import Derived.Lib.SmallJoins
import Derived.Deep.MidRow
namespace Go.Proofs.YtoiogpcmndlpcaaGreatDoor
open Go.ChangeShapes Go.WideShapes Go.ChangeAt Go.RowKit Go.Deep Go.Joins Dsk
set_option linter.unusedVariables false
set_option linter.unusedSimpArgs false

/-- A step of a script. -/
structure Stp where
  kind : Int
  name : By
  to : By
  at_ : Int
  n : Int
  da : Option Addr
  dn : Nat
  dc : Nat
  ds : By
  po : Int
  pf : Int
  pt : Int
  pa : Option Addr
  pn : Nat
  pc : Nat
  ps : List Int
def stp0 : Stp := ⟨0, [], [], 0, 0, none, 0, 0, [], 0, 0, 0, none, 0, 0, []⟩
instance : Inhabited Stp := ⟨stp0⟩
def Stp.cells (s : Stp) : List Value := [.int .i64 s.kind, encStr s.name, encStr s.to, .int .i64 s.at_, .int .i64 s.n, .slice s.da s.dn s.dc, .int .i64 s.po, .int .i64 s.pf, .int .i64 s.pt, .slice s.pa s.pn s.pc]
/-- What holds of one that came in. -/
structure StpIn (w : World) (s : Stp) : Prop where
  inb : InB w s.da s.dn s.dc s.ds
  nm : s.name.length ≤ 4611686018427387904
  tm : s.to.length ≤ 4611686018427387904
  wk : (Lit.int .i64 s.kind).wf = true
  wa : (Lit.int .i64 s.at_).wf = true
  wn : (Lit.int .i64 s.n).wf = true
  wo : (Lit.int .i64 s.po).wf = true
  wf : (Lit.int .i64 s.pf).wf = true
  wt : (Lit.int .i64 s.pt).wf = true
  pl : s.ps.length = s.pn
  pc : s.pn ≤ s.pc
  pm : s.pn ≤ 17592186044416
  pr : Ints w s.pa s.ps
  pw : ∀ i, (Lit.int .i64 (s.ps.getD i 0)).wf = true
  pz : s.pa = none → s.pn = 0 ∧ s.pc = 0
def Scr (w : World) (ao : Option Addr) (L : List Stp) : Prop :=
  ∀ i, i < L.length → ∃ b off, ao = some ⟨b, off, none⟩ ∧ (∀ j v, (L.getD i stp0).cells[j]? = some v → w.cell? ⟨b, off + 10 * i + j, none⟩ = some v) ∧ StpIn w (L.getD i stp0)

section
variable {H : Type} {enc : TypeId × Value → H} {w : World}
theorem weights_all {P : Program} {e : TypeId} {l : List (DataW H)} {d : DataW H} (h : d ∈ l) {n : Nat} (hn : n ∈ d.weights P e) : n ∈ DataW.weightsAll P e l := by
  induction l with
  | nil => simp at h
  | cons x l ih =>
    simp only [DataW.weightsAll, List.mem_append]
    simp only [List.mem_cons] at h
    rcases h with rfl | h
    · exact .inl hn
    · exact .inr (ih h)

theorem str_small {y : DataW H × List MemPlace} {L : List UInt8} {P : Program} {t : TypeId} {q : List MemPlace} (hy : y = (.lit (.string (ByteArray.mk L.toArray).data.toList), q)) (h : ∀ k ∈ y.1.weights P t, k ≤ reachBytes) : L.length ≤ 4611686018427387904 := by
  subst hy
  have := h _ (by simp only [DataW.weights]; exact List.mem_singleton.2 rfl)
  have hr : reachBytes = 140737488351232 := rfl
  rw [hr] at this
  have h2 : L.length ≤ 140737488351232 := this
  omega
set_option maxRecDepth 100000 in
theorem open_picks {fuel : Nat} {v : Value} {x : DataW H × List MemPlace} (h : DataW.trod enc Tryz.prog w 0 (fun _ => true) true fuel 31 [v] = some x) (hw : ∀ n ∈ x.1.weights Tryz.prog 31, n ≤ reachBytes) :
    ∃ ao n cap ps, v = .slice ao n cap ∧ ps.length = n ∧ n ≤ cap ∧ n ≤ 17592186044416 ∧ Ints w ao ps ∧ (∀ i, (Lit.int .i64 (ps.getD i 0)).wf = true) ∧ (ao = none → n = 0 ∧ cap = 0) := by
  rcases open_ints Tryz.underlying31 Tryz.underlying3 (by kernel_rfl) h with ⟨hcs, _⟩ | ⟨a, l, c, zs, hcs, _, hl, hm, hz, hx, hcell, hwz⟩
  · cases hcs
    exact ⟨none, 0, 0, [], rfl, rfl, Nat.le_refl _, by omega, fun i hi => by simp at hi, fun i => by simp; decide, fun _ => ⟨rfl, rfl⟩⟩
  · cases hcs
    have hb1 : Tryz.prog.bytesOf 3 = 8 := by kernel_rfl
    have hz' : zs.length = c := by simpa using hz
    have hsz : c * 8 ≤ 140737488351232 := by
      have := hw (((zs.take l).length + (zs.drop l).length) * 8) (by
        rw [hx]
        simp only [DataW.weights, Tryz.underlying31, hb1, lits, List.length_map, List.mem_cons, true_or])
      have hr : reachBytes = 140737488351232 := rfl
      rw [hr] at this
      simp at this
      omega
    obtain ⟨b, off, spot⟩ := a
    have hlen : (zs.take l).length = l := by simp; omega
    refine ⟨_, l, c, zs.take l, rfl, hlen, hl, by omega, fun i hi => ?_, fun i => ?_, by simp⟩
    · have hi' : i < l := by omega
      have hsp : spot = none := by simpa [Addr.add] using World.cell?_spot (hcell 0 (by omega))
      subst hsp
      refine ⟨b, off, rfl, ?_⟩
      have hc := hcell i (by omega)
      rw [Addr.add_mid] at hc
      rw [hc]
      simp [List.getElem?_take, hi']
    · by_cases hi : i < l
      · have hzi : i < zs.length := by omega
        have e : (zs.take l).getD i 0 = zs[i] := by simp [List.getElem?_take, hi, List.getElem?_eq_getElem hzi]
        rw [e]
        exact hwz _ (List.getElem_mem _)
      · have e : (zs.take l).getD i 0 = 0 := by simp [List.getElem?_take, hi]
        rw [e]
        decide