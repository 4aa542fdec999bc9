/-
  What is handed in: rows of bytes, scripts of calls, as the walks are told of them.
-/
import Derived.Test.YtjmameknbnflaabProg
import Derived.Test.YtjmameknbnflaabMem
import Derived.ProofKit
import Derived.OpenShut
import Derived.Deep.Slices
import Derived.Lib.SmallJoins
import Derived.Deep.MidRow
namespace Go.Proofs.Ytjmameknbnflaab
open Go.ChangeShapes Go.WideShapes Go.ChangeAt Go.RowKit Go.Deep Go.Joins
set_option linter.unusedVariables false
set_option linter.unusedSimpArgs false

/-- A row of bytes that came in. -/
structure InB (w : World) (ao : Option Addr) (n cap : Nat) (xs : List UInt8) : Prop where
  len : xs.length = n
  le : n ≤ cap
  max : cap ≤ 140737488351232
  sl : Sl w ao xs
  nil : ao = none → xs = [] ∧ cap = 0
  spot : n ≠ 0 → ∀ a, ao = some a → a.spot = none

theorem inb_of_ints {w : World} {a : Addr} {len cap : Nat} {zs : List Int} (hl : len ≤ cap) (hm : cap ≤ 140737488351232) (hz : zs.length = cap) (hcell : ∀ i, i < zs.length → w.cell? (a.add i) = some (.int .u8 (zs.getD i 0))) (hwz : ∀ n ∈ zs, (Lit.int .u8 n).wf = true) :
    ∃ xs, InB w (some a) len cap xs := by
  obtain ⟨b, off, spot⟩ := a
  have hsp : len ≠ 0 → spot = none := fun h => by simpa [Addr.add] using World.cell?_spot (hcell 0 (by omega))
  refine ⟨(zs.take len).map (fun z => UInt8.ofNat z.toNat), by simp; omega, hl, by omega, ?_, by simp, fun h a ha => by cases ha; exact hsp h⟩
  intro i hi
  have hi' : i < len := by simp at hi; omega
  have hc := hcell i (by omega)
  obtain rfl := hsp (by omega)
  refine ⟨b, off, rfl, ?_⟩
  rw [Addr.add_mid] at hc
  rw [hc]
  have hzi : i < zs.length := by omega
  have hb := bounds_u8 (hwz (zs.getD i 0) (by simp [List.getElem?_eq_getElem hzi]))
  have e : ((zs.take len).map (fun z => UInt8.ofNat z.toNat)).getD i 0 = UInt8.ofNat (zs.getD i 0).toNat := by
    simp [List.getElem?_eq_getElem hzi, hi']
  rw [e, UInt8.toNat_ofNat', Nat.mod_eq_of_lt (by omega)]
  congr 2
  omega

section
variable {H : Type} {enc : TypeId × Value → H} {w : World}

theorem open_bytes {fuel : Nat} {v : Value} {x : DataW H × List MemPlace} (h : DataW.trod enc Try.prog w 0 (fun _ => true) true fuel 32 [v] = some x) (hw : ∀ n ∈ x.1.weights Try.prog 32, n ≤ reachBytes) :
    ∃ ao n cap xs, v = .slice ao n cap ∧ InB w ao n cap xs := by
  rcases open_ints Try.underlying32 Try.underlying5 (by kernel_rfl) h with ⟨hcs, _⟩ | ⟨a, l, c, zs, hcs, _, hl, hm, hz, hx, hcell, hwz⟩
  · cases hcs
    exact ⟨none, 0, 0, [], rfl, rfl, Nat.le_refl _, by omega, Sl.nil _ _, fun _ => ⟨rfl, rfl⟩, by simp⟩
  · cases hcs
    have hb1 : Try.prog.bytesOf 5 = 1 := by kernel_rfl
    have hz' : zs.length = c := by simpa using hz
    have hsz : c ≤ 140737488351232 := by
      have := hw ((zs.take l).length + (zs.drop l).length) (by
        rw [hx]
        simp only [DataW.weights, Try.underlying32, hb1, Nat.mul_one, lits, List.length_map, List.mem_cons, true_or])
      have hr : reachBytes = 140737488351232 := rfl
      rw [hr] at this
      simp at this
      omega
    obtain ⟨xs, h⟩ := inb_of_ints hl hsz hz' hcell hwz
    exact ⟨some a, l, c, xs, rfl, h⟩

theorem weights_all {P : Program} {e : TypeId} {l : List (DataW H)} {d : DataW H} (h : d ∈ l) {n : Nat} (hn : n ∈ d.weights P e) : n ∈ DataW.weightsAll P e l := by
  induction l with
  | nil => simp at h
  | cons x l ih =>
    simp only [DataW.weightsAll, List.mem_append]
    simp only [List.mem_cons] at h
    rcases h with rfl | h
    · exact .inl hn
    · exact .inr (ih h)

/-- One call of a script. -/
structure Cl where
  kind : Int
  v : Int
  width : Int
  da : Option Addr
  dn : Nat
  dc : Nat
  ds : List UInt8

/-- The cells of a call. -/
structure ClAt (w : World) (b off : Nat) (c : Cl) : Prop where
  c0 : w.cell? ⟨b, off, none⟩ = some (.int .i64 c.kind)
  c1 : w.cell? ⟨b, off + 1, none⟩ = some (.int .i64 c.v)
  c2 : w.cell? ⟨b, off + 2, none⟩ = some (.int .i64 c.width)
  c3 : w.cell? ⟨b, off + 3, none⟩ = some (.slice c.da c.dn c.dc)
  inb : InB w c.da c.dn c.dc c.ds
  wk : (Lit.int .i64 c.kind).wf = true
  wv : (Lit.int .i64 c.v).wf = true
  ww : (Lit.int .i64 c.width).wf = true

def cl0 : Cl := ⟨0, 0, 0, none, 0, 0, []⟩

/-- A script that came in. -/
def Scr (w : World) (ao : Option Addr) (L : List Cl) : Prop :=
  ∀ i, i < L.length → ∃ b off, ao = some ⟨b, off, none⟩ ∧ ClAt w b (off + 4 * i) (L.getD i cl0)

instance : Inhabited Cl := ⟨cl0⟩

theorem open_call {n : Nat} {cs : List Value} {x : DataW H × List MemPlace} (h : DataW.trod enc Try.prog w 0 (fun _ => true) true n 34 cs = some x) (hw : ∀ n ∈ x.1.weights Try.prog 34, n ≤ reachBytes) :
    ∃ k v wd ao m cap xs, cs = [.int .i64 k, .int .i64 v, .int .i64 wd, .slice ao m cap] ∧ InB w ao m cap xs ∧ (Lit.int .i64 k).wf = true ∧ (Lit.int .i64 v).wf = true ∧ (Lit.int .i64 wd).wf = true := by
  obtain ⟨y0, y1, y2, y3, m, hx, hl, h0, h1, h2, h3⟩ := trod_struct4 Try.underlying34 h
  have hcl : Try.prog.cellsOf 34 = 4 := by kernel_rfl
  have hci : Try.prog.cellsOf 3 = 1 := by kernel_rfl
  have hcb : Try.prog.cellsOf 32 = 1 := by kernel_rfl
  rw [hcl] at hl
  match cs, hl with
  | [a, b, c, d], _ =>
    simp only [hci, hcb, List.drop_zero, List.drop_succ_cons, List.take_succ_cons, List.take_zero] at h0 h1 h2 h3
    obtain ⟨k, e0, _, w0⟩ := DataW.trod_int Try.underlying3 h0
    obtain ⟨v, e1, _, w1⟩ := DataW.trod_int Try.underlying3 h1
    obtain ⟨wd, e2, _, w2⟩ := DataW.trod_int Try.underlying3 h2
    obtain ⟨ao, mm, cap, xs, e3, hin⟩ := open_bytes h3 (fun n hn => hw n (by
      rw [hx]
      simp only [DataW.weights, Try.underlying34, DataW.weightsEach, List.mem_append]
      simp [DataW.weightsEach, hn]))
    cases e0; cases e1; cases e2; cases e3
    exact ⟨k, v, wd, ao, mm, cap, xs, rfl, hin, w0, w1, w2⟩

theorem open_calls {fuel : Nat} {v : Value} {x : DataW H × List MemPlace} (h : DataW.trod enc Try.prog w 0 (fun _ => true) true fuel 22 [v] = some x) (hw : ∀ n ∈ x.1.weights Try.prog 22, n ≤ reachBytes) :
    ∃ ao n cap L, v = .slice ao n cap ∧ L.length = n ∧ Scr w ao L ∧ n ≤ 9223372036854775807 := by
  rcases open_slice Try.underlying22 h with ⟨hcs, _⟩ | ⟨a, len, cap, m, n, D, Pl, hcs, _, hl, hm, hmm, hxx, hx⟩
  · cases hcs
    exact ⟨none, 0, 0, [], rfl, rfl, fun i hi => by simp at hi, by omega⟩
  · cases hcs
    have hcl : Try.prog.cellsOf 34 = 4 := by kernel_rfl
    simp only [if_true] at hmm
    subst hmm
    rw [hcl] at hx
    unfold maxLen at hm
    obtain ⟨b, off, spot⟩ := a
    have hwD : ∀ i, i < len → ∀ n ∈ (D i).weights Try.prog 34, n ≤ reachBytes := by
      intro i hi n hn
      refine hw n ?_
      rw [hxx]
      simp only [DataW.weights, Try.underlying22, List.mem_cons, List.mem_append]
      exact .inr (.inl (weights_all (List.mem_map_of_mem (List.mem_range.2 hi)) hn))
    have hel : ∀ i, i < len → ∃ c : Cl, spot = none ∧ ClAt w b (off + 4 * i) c := by
      intro i hi
      obtain ⟨cs', h1, h2⟩ := hx i (by omega)
      obtain ⟨k, vv, wd, ao, mm, cp, xs, rfl, hin, w0, w1, w2⟩ := open_call h2 (hwD i hi)
      obtain ⟨_, _, h3⟩ := World.cells?_some h1
      have hsp : spot = none := by
        obtain ⟨cs0, g1, g2⟩ := hx 0 (by omega)
        obtain ⟨_, _, _, _, _, _, _, rfl, _⟩ := open_call g2 (hwD 0 (by omega))
        obtain ⟨_, _, g3⟩ := World.cells?_some g1
        have h5 := g3 0 (by omega)
        rw [show (((⟨b, off, spot⟩ : Addr).add (0 * 4)).add 0) = ⟨b, off, spot⟩ by simp [Addr.add]] at h5
        exact World.cell?_spot (a := ⟨b, off, spot⟩) h5
      subst hsp
      refine ⟨⟨k, vv, wd, ao, mm, cp, xs⟩, rfl, ?_⟩
      have g0 := h3 0 (by omega)
      have g1 := h3 1 (by omega)
      have g2 := h3 2 (by omega)
      have g3 := h3 3 (by omega)
      rw [Addr.add_mid, Addr.add_mid, Nat.mul_comm] at g0 g1 g2 g3
      exact ⟨by simpa using g0, by simpa using g1, by simpa using g2, by simpa using g3, hin, w0, w1, w2⟩
    obtain ⟨f, hf⟩ := choose_lt (α := Cl) hel
    refine ⟨_, len, _, (List.range len).map f, rfl, by simp, fun i hi => ?_, by omega⟩
    have hi' : i < len := by simpa using hi
    obtain ⟨hsp, hc⟩ := hf i hi'
    subst hsp
    refine ⟨b, off, rfl, ?_⟩
    have e : ((List.range len).map f).getD i cl0 = f i := by simp [hi']
    rw [e]
    exact hc

end

end Go.Proofs.Ytjmameknbnflaab
