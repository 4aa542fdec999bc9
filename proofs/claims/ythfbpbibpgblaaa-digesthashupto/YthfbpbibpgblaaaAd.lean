/-
  Chapter 2's arguments: rows of bytes, lists of rows, ids, texts.
-/
import Derived.Test.YthfbpbibpgblaaaProg
import Derived.Test.YthfbpbibpgblaaaMem
import Derived.Test.YthfbpbibpgblaaaDf1
import Derived.ProofKit
import Derived.OpenShut
import Derived.Deep.Slices
import Derived.Lib.SmallJoins
import Derived.Deep.MidRow
namespace Go.Proofs.Ythfbpbibpgblaaa
open Go.ChangeShapes Go.WideShapes Go.ChangeAt Go.RowKit Go.Deep Go.Joins
set_option linter.unusedVariables false
set_option linter.unusedSimpArgs false

/-- A row of bytes that came in. -/
structure InB (w : World) (ao : Option Addr) (n cap : Nat) (xs : List UInt8) : Prop where
  len : xs.length = n
  le : n ≤ cap
  max : cap ≤ 140737488351232
  sl : Sl w ao xs
  nil : ao = none → xs = [] ∧ cap = 0
  spot : n ≠ 0 → ∀ a, ao = some a → a.spot = none

theorem inb_of_ints {w : World} {a : Addr} {len cap : Nat} {zs : List Int} (hl : len ≤ cap) (hm : cap ≤ 140737488351232) (hz : zs.length = cap) (hcell : ∀ i, i < zs.length → w.cell? (a.add i) = some (.int .u8 (zs.getD i 0))) (hwz : ∀ n ∈ zs, (Lit.int .u8 n).wf = true) :
    ∃ xs, InB w (some a) len cap xs := by
  obtain ⟨b, off, spot⟩ := a
  have hsp : len ≠ 0 → spot = none := fun h => by simpa [Addr.add] using World.cell?_spot (hcell 0 (by omega))
  refine ⟨(zs.take len).map (fun z => UInt8.ofNat z.toNat), by simp; omega, hl, by omega, ?_, by simp, fun h a ha => by cases ha; exact hsp h⟩
  intro i hi
  have hi' : i < len := by simp at hi; omega
  have hc := hcell i (by omega)
  obtain rfl := hsp (by omega)
  refine ⟨b, off, rfl, ?_⟩
  rw [Addr.add_mid] at hc
  rw [hc]
  have hzi : i < zs.length := by omega
  have hb := bounds_u8 (hwz (zs.getD i 0) (by simp [List.getElem?_eq_getElem hzi]))
  have e : ((zs.take len).map (fun z => UInt8.ofNat z.toNat)).getD i 0 = UInt8.ofNat (zs.getD i 0).toNat := by
    simp [List.getElem?_eq_getElem hzi, hi']
  rw [e, UInt8.toNat_ofNat', Nat.mod_eq_of_lt (by omega)]
  congr 2
  omega

section
variable {H : Type} {enc : TypeId × Value → H} {w : World}

theorem open_bytes {fuel : Nat} {v : Value} {x : DataW H × List MemPlace} (h : DataW.trod enc Try.prog w 0 (fun _ => true) true fuel 31 [v] = some x) (hw : ∀ n ∈ x.1.weights Try.prog 31, n ≤ reachBytes) :
    ∃ ao n cap xs, v = .slice ao n cap ∧ InB w ao n cap xs := by
  rcases open_ints Try.underlying31 Try.underlying5 (by kernel_rfl) h with ⟨hcs, _⟩ | ⟨a, l, c, zs, hcs, _, hl, hm, hz, hx, hcell, hwz⟩
  · cases hcs
    exact ⟨none, 0, 0, [], rfl, rfl, Nat.le_refl _, by omega, Sl.nil _ _, fun _ => ⟨rfl, rfl⟩, by simp⟩
  · cases hcs
    have hb1 : Try.prog.bytesOf 5 = 1 := by kernel_rfl
    have hz' : zs.length = c := by simpa using hz
    have hsz : c ≤ 140737488351232 := by
      have := hw ((zs.take l).length + (zs.drop l).length) (by
        rw [hx]
        simp only [DataW.weights, Try.underlying31, hb1, Nat.mul_one, lits, List.length_map, List.mem_cons, true_or])
      have hr : reachBytes = 140737488351232 := rfl
      rw [hr] at this
      simp at this
      omega
    obtain ⟨xs, h⟩ := inb_of_ints hl hsz hz' hcell hwz
    exact ⟨some a, l, c, xs, rfl, h⟩

theorem weights_all {P : Program} {e : TypeId} {l : List (DataW H)} {d : DataW H} (h : d ∈ l) {n : Nat} (hn : n ∈ d.weights P e) : n ∈ DataW.weightsAll P e l := by
  induction l with
  | nil => simp at h
  | cons x l ih =>
    simp only [DataW.weightsAll, List.mem_append]
    simp only [List.mem_cons] at h
    rcases h with rfl | h
    · exact .inl hn
    · exact .inr (ih h)


/-- A row among rows. -/
structure Bx where
  da : Option Addr
  dn : Nat
  dc : Nat
  ds : List UInt8
def bx0 : Bx := ⟨none, 0, 0, []⟩
instance : Inhabited Bx := ⟨bx0⟩
def RowsAt (w : World) (ao : Option Addr) (L : List Bx) : Prop :=
  ∀ i, i < L.length → ∃ b off, ao = some ⟨b, off, none⟩ ∧ w.cell? ⟨b, off + i, none⟩ = some (.slice (L.getD i bx0).da (L.getD i bx0).dn (L.getD i bx0).dc) ∧ InB w (L.getD i bx0).da (L.getD i bx0).dn (L.getD i bx0).dc (L.getD i bx0).ds

theorem open_rows {H : Type} {enc : TypeId × Value → H} {w : World} {fuel : Nat} {v : Value} {x : DataW H × List MemPlace} (h : DataW.trod enc Try.prog w 0 (fun _ => true) true fuel 44 [v] = some x) (hw : ∀ n ∈ x.1.weights Try.prog 44, n ≤ reachBytes) :
    ∃ ao n cap L, v = .slice ao n cap ∧ L.length = n ∧ RowsAt w ao L ∧ n ≤ 9223372036854775807 := by
  rcases open_slice1 Try.underlying44 (by kernel_rfl) h with ⟨hcs, _⟩ | ⟨a, len, cap, m, n, V, D, Pl, hcs, _, hl, hm, hmm, hxx, hx⟩
  · cases hcs
    exact ⟨none, 0, 0, [], rfl, rfl, fun i hi => by simp at hi, by omega⟩
  · cases hcs
    simp only [if_true] at hmm
    subst hmm
    unfold maxLen at hm
    obtain ⟨b, off, spot⟩ := a
    have hwD : ∀ i, i < len → ∀ n ∈ (D i).weights Try.prog 31, n ≤ reachBytes := by
      intro i hi n hn
      refine hw n ?_
      rw [hxx]
      simp only [DataW.weights, Try.underlying44, List.mem_cons, List.mem_append]
      exact .inr (.inl (weights_all (List.mem_map_of_mem (List.mem_range.2 hi)) hn))
    have hel : ∀ i, i < len → ∃ c : Bx, spot = none ∧ w.cell? ⟨b, off + i, none⟩ = some (.slice c.da c.dn c.dc) ∧ InB w c.da c.dn c.dc c.ds := by
      intro i hi
      obtain ⟨h1, h2⟩ := hx i (by omega)
      obtain ⟨ao, nn, cp, xs, e, hin⟩ := open_bytes h2 (hwD i hi)
      have hsp : spot = none := by
        have h5 := (hx 0 (by omega)).1
        rw [show ((⟨b, off, spot⟩ : Addr).add 0) = ⟨b, off, spot⟩ by simp [Addr.add]] at h5
        exact World.cell?_spot (a := ⟨b, off, spot⟩) h5
      subst hsp
      rw [Addr.add_mid, e] at h1
      exact ⟨⟨ao, nn, cp, xs⟩, rfl, h1, hin⟩
    obtain ⟨f, hf⟩ := choose_lt (α := Bx) hel
    refine ⟨_, len, _, (List.range len).map f, rfl, by simp, fun i hi => ?_, by omega⟩
    have hi' : i < len := by simpa using hi
    obtain ⟨hsp, hc⟩ := hf i hi'
    subst hsp
    have e : ((List.range len).map f).getD i bx0 = f i := by simp [hi']
    rw [e]
    exact ⟨b, off, rfl, hc⟩


theorem Try.open_id {H : Type} {enc : TypeId × Value → H} {w : World} {r : Reach} {b0 : Nat} {v : Value} {d : DataW H} {p : List MemPlace} (hv : Value.okWide Try.prog w r b0 46 v) (h : DataW.Trod enc Try.prog w 0 (fun _ => true) true 46 v d p) :
    ∃ L : List UInt8, L.length = 32 ∧ v = .agg (bys L).toArray := by
  have hv' : ∃ cs, v = .agg cs ∧ cs.size = Try.prog.cellsOf 46 ∧ Row.okWide Try.prog w r b0 46 cs := by
    unfold Value.okWide at hv
    rw [Try.underlying46] at hv
    exact hv
  obtain ⟨cs, rfl, hs, _⟩ := hv'
  have hc : Try.prog.cellsOf 46 = 32 := by kernel_rfl
  have hc1 : Try.prog.cellsOf 5 = 1 := by kernel_rfl
  rw [hc] at hs
  obtain ⟨fuel, hf⟩ := h
  obtain ⟨xs, m, _, _, _, hl, hx⟩ := DataW.trod_array Try.underlying46 hf
  have hz : ∀ i, i < 32 → ∃ u : UInt8, cs[i]? = some (.int .u8 u.toNat) := by
    intro i hi
    have h1 := hx i hi
    rw [hc1, Nat.mul_one, List.getElem?_eq_getElem (by omega)] at h1
    obtain ⟨z, e, _, wz⟩ := DataW.trod_int Try.underlying5 h1
    have hb := bounds_u8 wz
    refine ⟨UInt8.ofNat z.toNat, ?_⟩
    have h2 : ((Value.agg cs).cells.toList.drop i).take 1 = [cs[i]'(by omega)] := by
      show ((cs.toList).drop i).take 1 = _
      rw [List.drop_eq_getElem_cons (by simpa using (by omega : i < cs.size))]
      simp
    rw [h2] at e
    rw [Array.getElem?_eq_getElem (by omega)]
    injection e with e _
    rw [e, UInt8.toNat_ofNat', Nat.mod_eq_of_lt (by omega)]
    congr 2
    omega
  obtain ⟨f, hf⟩ := choose_lt (α := UInt8) hz
  refine ⟨(List.range 32).map f, by simp, ?_⟩
  congr 1
  apply Array.ext_getElem?
  intro i
  by_cases hi : i < 32
  · rw [hf i hi, List.getElem?_toArray, bys_at (by simpa using hi)]
    simp [hi]
  · rw [Array.getElem?_eq_none (by omega), List.getElem?_toArray, List.getElem?_eq_none (by rw [bys_length]; simp; omega)]
end
end Go.Proofs.Ythfbpbibpgblaaa
