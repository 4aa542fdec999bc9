import Derived.Test.YtemlbmamcbmnjaaGreatDoorIf0p
import Derived.Test.YtemlbmamcbmnjaaGreatDoorHpp
import Derived.ProofKit
import Derived.OpenShut
import Derived.Deep.Slices
import Derived.Lib.SmallJoins
import Derived.Deep.MidRow
import Derived.Test.YtemlbmamcbmnjaaGreatDoorFqhp
namespace Go.Proofs.YtemlbmamcbmnjaaGreatDoor
section
open Go.ChangeShapes Go.WideShapes Go.ChangeAt Go.RowKit Go.Deep Go.Joins Dsk
set_option linter.unusedVariables false
set_option linter.unusedSimpArgs false
structure Fm where
  f : By × By
  da : Option Addr
  dc : Nat
def fm0 : Fm := ⟨([], []), none, 0⟩
instance : Inhabited Fm := ⟨fm0⟩
def Fm.cells (s : Fm) : List Value := [encStr s.f.1, .slice s.da s.f.2.length s.dc]
structure FmIn (w : World) (s : Fm) : Prop where
  sl : Sl w s.da s.f.2
  nul : s.da = none → s.f.2.length = 0 ∧ s.dc = 0
  small : s.f.1.length ≤ 4611686018427387900 ∧ s.f.2.length ≤ 4611686018427387900
theorem ints_lt {w : World} {po : Option Addr} {ps : List Int} (h : Ints w po ps) : ps ≠ [] → ∀ a, po = some a → a.block < w.heap.size := by
  intro hn a ha
  obtain ⟨b, off, e, hc⟩ := h 0 (List.length_pos_iff.2 hn)
  rw [ha] at e
  injection e with e
  subst e
  exact World.block_lt_of_cell? _ _ hc
section
variable {H : Type} {enc : TypeId × Value → H} {w : World}
theorem str_less {y : DataW H × List MemPlace} {L : List UInt8} {P : Program} {t : TypeId} {q : List MemPlace} (hy : y = (.lit (.string (ByteArray.mk L.toArray).data.toList), q)) (h : ∀ k ∈ y.1.weights P t, k ≤ reachBytes) : L.length ≤ 4611686018427387900 := by
  subst hy
  have := h _ (by simp only [DataW.weights]; exact List.mem_singleton.2 rfl)
  have hr : reachBytes = 140737488351232 := rfl
  rw [hr] at this
  have h2 : L.length ≤ 140737488351232 := this
  omega
set_option maxRecDepth 100000 in
theorem open_file {n : Nat} {cs : List Value} {x : DataW H × List MemPlace} (h : DataW.trod enc Tryz.prog w 0 (fun _ => true) true n 88 cs = some x) (hw : ∀ n ∈ x.1.weights Tryz.prog 88, n ≤ reachBytes) :
    ∃ s : Fm, cs = s.cells ∧ FmIn w s := by
  obtain ⟨xs, m, rfl, hx, hl, hlen, hf⟩ := DataW.trod_struct Tryz.underlying88 h
  have hcl : Tryz.prog.cellsOf 88 = 2 := by kernel_rfl
  have hcs : Tryz.prog.cellsOf 9 = 1 := by kernel_rfl
  have hcd : Tryz.prog.cellsOf 28 = 1 := by kernel_rfl
  rw [hcl] at hl
  match cs, hl with
  | [a0, a1], _ =>
  match xs, hlen with
  | [y0, y1], _ =>
    have h0 := hf 0 _ rfl
    have h1 := hf 1 _ rfl
    simp only [hcs, hcd, List.drop_zero, List.drop_succ_cons, List.take_succ_cons, List.take_zero, List.getElem?_cons_zero, List.getElem?_cons_succ] at h0 h1
    obtain ⟨s1, e0, hy0, _⟩ := DataW.trod_string Tryz.underlying9 h0
    have wt0 : ∀ k ∈ y0.1.weights Tryz.prog 9, k ≤ reachBytes := fun j hj => hw j (by
      rw [hx]
      simp only [DataW.weights, Tryz.underlying88, DataW.weightsEach, List.mem_append, List.map_cons, List.map_nil]
      simp [DataW.weightsEach, hj])
    obtain ⟨ao, mm, cap, xs5, e1, i1, i2, i3, i4, i5, _⟩ := open_bytes h1 (fun j hj => hw j (by
      rw [hx]
      simp only [DataW.weights, Tryz.underlying88, DataW.weightsEach, List.mem_append, List.map_cons, List.map_nil]
      simp [DataW.weightsEach, hj]))
    cases e0; cases e1
    obtain ⟨⟨L1⟩⟩ := s1
    subst i1
    exact ⟨⟨(L1, xs5), ao, cap⟩, rfl, ⟨i4, fun h => by obtain ⟨q1, q2⟩ := i5 h; exact ⟨by show xs5.length = 0; first | exact q1 | (rw [q1]; rfl), q2⟩, str_less hy0 wt0, by show xs5.length ≤ _; omega⟩⟩
set_option maxRecDepth 100000 in
theorem open_files {fuel : Nat} {v : Value} {x : DataW H × List MemPlace} (h : DataW.trod enc Tryz.prog w 0 (fun _ => true) true fuel 36 [v] = some x) (hw : ∀ n ∈ x.1.weights Tryz.prog 36, n ≤ reachBytes) :
    ∃ ao n cap L, v = .slice ao n cap ∧ L.length = n ∧ n ≤ 4611686018427387900 ∧ (∀ f ∈ L, f.1.length ≤ 4611686018427387900 ∧ f.2.length ≤ 4611686018427387900) ∧ Fio w ao L := by
  rcases open_slice Tryz.underlying36 h with ⟨hcs, _⟩ | ⟨a, len, cap, m, n, D, Pl, hcs, _, hl, hm, hmm, hxx, hx⟩
  · cases hcs
    exact ⟨none, 0, 0, [], rfl, rfl, by omega, by simp, fun i hi => by simp at hi⟩
  · cases hcs
    have hcl : Tryz.prog.cellsOf 88 = 2 := by kernel_rfl
    simp only [if_true] at hmm
    subst hmm
    rw [hcl] at hx
    unfold maxLen at hm
    obtain ⟨b, off, spot⟩ := a
    have hwt : (len : Nat) * 40 ≤ 140737488351232 ∨ True := .inr trivial
    have hwD : ∀ i, i < len → ∀ n ∈ (D i).weights Tryz.prog 88, n ≤ reachBytes := by
      intro i hi n hn
      refine hw n ?_
      rw [hxx]
      simp only [DataW.weights, Tryz.underlying36, List.mem_cons, List.mem_append]
      exact .inr (.inl (weights_all (List.mem_map_of_mem (List.mem_range.2 hi)) hn))
    have hel : ∀ i, i < len → ∃ c : Fm, spot = none ∧ (∀ j v, c.cells[j]? = some v → w.cell? ⟨b, off + i * 2 + j, none⟩ = some v) ∧ FmIn w c := by
      intro i hi
      obtain ⟨cs', h1, h2⟩ := hx i (by omega)
      obtain ⟨s, rfl, hin⟩ := open_file h2 (hwD i hi)
      obtain ⟨_, _, h3⟩ := World.cells?_some h1
      have hsp : spot = none := by
        obtain ⟨cs0, g1, g2⟩ := hx 0 (by omega)
        obtain ⟨s0, rfl, _⟩ := open_file g2 (hwD 0 (by omega))
        obtain ⟨_, _, g3⟩ := World.cells?_some g1
        have h5 := g3 0 (by omega)
        rw [show (((⟨b, off, spot⟩ : Addr).add (0 * 2)).add 0) = ⟨b, off, spot⟩ by simp [Addr.add]] at h5
        exact World.cell?_spot (a := ⟨b, off, spot⟩) h5
      subst hsp
      refine ⟨s, rfl, fun j v hv => ?_, hin⟩
      have hj : j < 2 := by have := (List.getElem?_eq_some_iff.1 hv).1; simpa [Fm.cells] using this
      have g := h3 j hj
      rw [Addr.add_mid, Addr.add_mid] at g
      rw [g]
      exact hv
    have hlen : len ≤ 4611686018427387900 := by
      have hb1 : Tryz.prog.bytesOf 88 = 40 := by kernel_rfl
      have := hw (((List.range len).map D ++ (List.range (m - len)).map fun j => D (len + j)).length * 40) (by
        rw [hxx]
        simp only [DataW.weights, Tryz.underlying36, hb1]
        simp)
      have hr : reachBytes = 140737488351232 := rfl
      rw [hr] at this
      simp at this
      omega
    obtain ⟨f, hf⟩ := choose_lt (α := Fm) hel
    refine ⟨_, len, _, (List.range len).map (fun i => (f i).f), rfl, by simp, hlen, fun g hg => ?_, fun i hi => ?_⟩
    · obtain ⟨i, hi, rfl⟩ := List.mem_map.1 hg
      exact (hf i (List.mem_range.1 hi)).2.2.small
    · have hi' : i < len := by simpa using hi
      obtain ⟨hsp, hc, hin⟩ := hf i hi'
      subst hsp
      exact ⟨b, off, rfl, (f i).f, by simp [hi'], hc 0 _ rfl, (f i).da, (f i).dc, hc 1 _ rfl, hin.sl, hin.nul⟩
end
end

section
open Go.RowKit Dsk
set_option linter.unusedVariables false
theorem sl_lt {w : World} {ao : Option Addr} {xs : List UInt8} (h : Sl w ao xs) : xs ≠ [] → ∀ a, ao = some a → a.block < w.heap.size := fun hn a ha => by
  obtain ⟨b, off, e, hc⟩ := h 0 (List.length_pos_iff.2 hn)
  rw [e] at ha
  cases ha
  exact World.block_lt_of_cell? _ _ hc
theorem cut_law (room : Int) (ao : Option Addr) (n c : Nat) (name : By) (da : Option Addr) (dn dc : Nat) (off : Int) (po : Option Addr) (pn pc : Nat) (L : List (By × By)) (d : By) (ps : List Int) (w : World) (hg : Gl w) (hrw : (Lit.int .i64 room).wf = true) (hx : L.length = n) (hn : n ≤ 4611686018427387900) (hM : ∀ f ∈ L, f.1.length ≤ 4611686018427387900 ∧ f.2.length ≤ 4611686018427387900) (h1 : Fio w ao L) (hm : name.length ≤ 4611686018427387900) (hdl : d.length = dn) (hdc : dn ≤ dc) (hdc2 : dc ≤ 140737488351232) (hsd : Sl w da d) (hnl : da = none → d = [] ∧ dc = 0) (ho : (Lit.int .i64 off).wf = true)
    (hpl : ps.length = pn) (hpn : pn ≤ 17592186044416) (hpi : Ints w po ps) (hpw : ∀ i, (Lit.int .i64 (ps.getD i 0)).wf = true) (hpb : ps ≠ [] → ∀ a, po = some a → a.block < w.heap.size) :
    Calls Tryz.prog 5 #[.int .i64 room, .slice ao n c, .string ⟨name.toArray⟩, .slice da dn dc, .int .i64 off, .slice po pn pc] w fun e w' => e = .returned (.bool true) ∧ Below w.heap.size w w' :=
  cut_walk room ao n c name da dn dc off po pn pc L d ps w hg hrw hx hn hM h1 hm hdl (by omega) hsd (fun h => by rw [← hdl, (hnl h).1]; rfl) (sl_lt hsd) ho hpl hpn hpi hpw hpb hdc hdc2 (fun h => (hnl h).2)
end

end Go.Proofs.YtemlbmamcbmnjaaGreatDoor
