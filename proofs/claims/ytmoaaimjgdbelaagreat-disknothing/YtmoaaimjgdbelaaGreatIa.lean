/-
  Chapter 5's arguments: scripts of steps.
-/
import Derived.Test.YtmoaaimjgdbelaaGreatProg
import Derived.Test.YtmoaaimjgdbelaaGreatEa
import Derived.Test.YtmoaaimjgdbelaaGreatGn
import Derived.ProofKit
import Derived.OpenShut
import Derived.Deep.Slices
import Derived.Lib.SmallJoins
import Derived.Deep.MidRow
namespace Go.Proofs.YtmoaaimjgdbelaaGreat
open Go.ChangeShapes Go.WideShapes Go.ChangeAt Go.RowKit Go.Deep Go.Joins Dsk
set_option linter.unusedVariables false
set_option linter.unusedSimpArgs false

/-- A step of a script. -/
structure Stp where
  kind : Int
  name : By
  to : By
  at_ : Int
  n : Int
  da : Option Addr
  dn : Nat
  dc : Nat
  ds : By
  po : Int
  pf : Int
  pt : Int
  pa : Option Addr
  pn : Nat
  pc : Nat
  ps : List Int
def stp0 : Stp := ⟨0, [], [], 0, 0, none, 0, 0, [], 0, 0, 0, none, 0, 0, []⟩
instance : Inhabited Stp := ⟨stp0⟩
def Stp.cells (s : Stp) : List Value := [.int .i64 s.kind, encStr s.name, encStr s.to, .int .i64 s.at_, .int .i64 s.n, .slice s.da s.dn s.dc, .int .i64 s.po, .int .i64 s.pf, .int .i64 s.pt, .slice s.pa s.pn s.pc]
/-- What holds of one that came in. -/
structure StpIn (w : World) (s : Stp) : Prop where
  inb : InB w s.da s.dn s.dc s.ds
  nm : s.name.length ≤ 4611686018427387904
  tm : s.to.length ≤ 4611686018427387904
  wk : (Lit.int .i64 s.kind).wf = true
  wa : (Lit.int .i64 s.at_).wf = true
  wn : (Lit.int .i64 s.n).wf = true
  wo : (Lit.int .i64 s.po).wf = true
  wf : (Lit.int .i64 s.pf).wf = true
  wt : (Lit.int .i64 s.pt).wf = true
  pl : s.ps.length = s.pn
  pc : s.pn ≤ s.pc
  pm : s.pn ≤ 17592186044416
  pr : Ints w s.pa s.ps
  pw : ∀ i, (Lit.int .i64 (s.ps.getD i 0)).wf = true
  pz : s.pa = none → s.pn = 0 ∧ s.pc = 0
def Scr (w : World) (ao : Option Addr) (L : List Stp) : Prop :=
  ∀ i, i < L.length → ∃ b off, ao = some ⟨b, off, none⟩ ∧ (∀ j v, (L.getD i stp0).cells[j]? = some v → w.cell? ⟨b, off + 10 * i + j, none⟩ = some v) ∧ StpIn w (L.getD i stp0)

section
variable {H : Type} {enc : TypeId × Value → H} {w : World}
theorem weights_all {P : Program} {e : TypeId} {l : List (DataW H)} {d : DataW H} (h : d ∈ l) {n : Nat} (hn : n ∈ d.weights P e) : n ∈ DataW.weightsAll P e l := by
  induction l with
  | nil => simp at h
  | cons x l ih =>
    simp only [DataW.weightsAll, List.mem_append]
    simp only [List.mem_cons] at h
    rcases h with rfl | h
    · exact .inl hn
    · exact .inr (ih h)

theorem str_small {y : DataW H × List MemPlace} {L : List UInt8} {P : Program} {t : TypeId} {q : List MemPlace} (hy : y = (.lit (.string (ByteArray.mk L.toArray).data.toList), q)) (h : ∀ k ∈ y.1.weights P t, k ≤ reachBytes) : L.length ≤ 4611686018427387904 := by
  subst hy
  have := h _ (by simp only [DataW.weights]; exact List.mem_singleton.2 rfl)
  have hr : reachBytes = 140737488351232 := rfl
  rw [hr] at this
  have h2 : L.length ≤ 140737488351232 := this
  omega
set_option maxRecDepth 100000 in
theorem open_picks {fuel : Nat} {v : Value} {x : DataW H × List MemPlace} (h : DataW.trod enc Tryz.prog w 0 (fun _ => true) true fuel 43 [v] = some x) (hw : ∀ n ∈ x.1.weights Tryz.prog 43, n ≤ reachBytes) :
    ∃ ao n cap ps, v = .slice ao n cap ∧ ps.length = n ∧ n ≤ cap ∧ n ≤ 17592186044416 ∧ Ints w ao ps ∧ (∀ i, (Lit.int .i64 (ps.getD i 0)).wf = true) ∧ (ao = none → n = 0 ∧ cap = 0) := by
  rcases open_ints Tryz.underlying43 Tryz.underlying3 (by kernel_rfl) h with ⟨hcs, _⟩ | ⟨a, l, c, zs, hcs, _, hl, hm, hz, hx, hcell, hwz⟩
  · cases hcs
    exact ⟨none, 0, 0, [], rfl, rfl, Nat.le_refl _, by omega, fun i hi => by simp at hi, fun i => by simp; decide, fun _ => ⟨rfl, rfl⟩⟩
  · cases hcs
    have hb1 : Tryz.prog.bytesOf 3 = 8 := by kernel_rfl
    have hz' : zs.length = c := by simpa using hz
    have hsz : c * 8 ≤ 140737488351232 := by
      have := hw (((zs.take l).length + (zs.drop l).length) * 8) (by
        rw [hx]
        simp only [DataW.weights, Tryz.underlying43, hb1, lits, List.length_map, List.mem_cons, true_or])
      have hr : reachBytes = 140737488351232 := rfl
      rw [hr] at this
      simp at this
      omega
    obtain ⟨b, off, spot⟩ := a
    have hlen : (zs.take l).length = l := by simp; omega
    refine ⟨_, l, c, zs.take l, rfl, hlen, hl, by omega, fun i hi => ?_, fun i => ?_, by simp⟩
    · have hi' : i < l := by omega
      have hsp : spot = none := by simpa [Addr.add] using World.cell?_spot (hcell 0 (by omega))
      subst hsp
      refine ⟨b, off, rfl, ?_⟩
      have hc := hcell i (by omega)
      rw [Addr.add_mid] at hc
      rw [hc]
      simp [List.getElem?_take, hi']
    · by_cases hi : i < l
      · have hzi : i < zs.length := by omega
        have e : (zs.take l).getD i 0 = zs[i] := by simp [List.getElem?_take, hi, List.getElem?_eq_getElem hzi]
        rw [e]
        exact hwz _ (List.getElem_mem _)
      · have e : (zs.take l).getD i 0 = 0 := by simp [List.getElem?_take, hi]
        rw [e]
        decide

set_option maxRecDepth 100000 in
theorem open_step {n : Nat} {cs : List Value} {x : DataW H × List MemPlace} (h : DataW.trod enc Tryz.prog w 0 (fun _ => true) true n 52 cs = some x) (hw : ∀ n ∈ x.1.weights Tryz.prog 52, n ≤ reachBytes) :
    ∃ s : Stp, cs = s.cells ∧ StpIn w s := by
  obtain ⟨xs, m, rfl, hx, hl, hlen, hf⟩ := DataW.trod_struct Tryz.underlying52 h
  have hcl : Tryz.prog.cellsOf 52 = 10 := by kernel_rfl
  have hci : Tryz.prog.cellsOf 3 = 1 := by kernel_rfl
  have hcs : Tryz.prog.cellsOf 9 = 1 := by kernel_rfl
  have hcb : Tryz.prog.cellsOf 24 = 1 := by kernel_rfl
  have hcp : Tryz.prog.cellsOf 50 = 3 := by kernel_rfl
  have hck : Tryz.prog.cellsOf 43 = 1 := by kernel_rfl
  rw [hcl] at hl
  match cs, hl with
  | [a0, a1, a2, a3, a4, a5, a6, a7, a8, a9], _ =>
  match xs, hlen with
  | [y0, y1, y2, y3, y4, y5, y6, y7], _ =>
    have h0 := hf 0 _ rfl
    have h1 := hf 1 _ rfl
    have h2 := hf 2 _ rfl
    have h3 := hf 3 _ rfl
    have h4 := hf 4 _ rfl
    have h5 := hf 5 _ rfl
    have h6 := hf 6 _ rfl
    have h7 := hf 7 _ rfl
    simp only [hci, hcs, hcb, hcp, hck, List.drop_zero, List.drop_succ_cons, List.take_succ_cons, List.take_zero, List.getElem?_cons_zero, List.getElem?_cons_succ] at h0 h1 h2 h3 h4 h5 h6 h7
    have hwy : ∀ (t : TypeId) (y : DataW H × List MemPlace), (∀ k ∈ y.1.weights Tryz.prog t, k ∈ x.1.weights Tryz.prog 52) → ∀ k ∈ y.1.weights Tryz.prog t, k ≤ reachBytes := fun t y hy k hk => hw k (hy k hk)
    obtain ⟨k, e0, _, w0⟩ := DataW.trod_int Tryz.underlying3 h0
    obtain ⟨s1, e1, hy1, _⟩ := DataW.trod_string Tryz.underlying9 h1
    obtain ⟨s2, e2, hy2, _⟩ := DataW.trod_string Tryz.underlying9 h2
    have wt1 := hwy 9 y1 (fun j hj => by
      rw [hx]
      simp only [DataW.weights, Tryz.underlying52, DataW.weightsEach, List.mem_append, List.map_cons, List.map_nil]
      simp [DataW.weightsEach, hj])
    have wt2 := hwy 9 y2 (fun j hj => by
      rw [hx]
      simp only [DataW.weights, Tryz.underlying52, DataW.weightsEach, List.mem_append, List.map_cons, List.map_nil]
      simp [DataW.weightsEach, hj])
    obtain ⟨at_, e3, _, w3⟩ := DataW.trod_int Tryz.underlying3 h3
    obtain ⟨nn, e4, _, w4⟩ := DataW.trod_int Tryz.underlying3 h4
    obtain ⟨ao, mm, cap, xs5, e5, hin⟩ := open_bytes h5 (hwy _ y5 (fun j hj => by
      rw [hx]
      simp only [DataW.weights, Tryz.underlying52, DataW.weightsEach, List.mem_append, List.map_cons, List.map_nil]
      simp [DataW.weightsEach, hj]))
    obtain ⟨pa, pn, pc, ps, e7, q1, q2, q3, q4, q5, q6⟩ := open_picks h7 (hwy _ y7 (fun j hj => by
      rw [hx]
      simp only [DataW.weights, Tryz.underlying52, DataW.weightsEach, List.mem_append, List.map_cons, List.map_nil]
      simp [DataW.weightsEach, hj]))
    obtain ⟨zs, m', rfl, _, _, hlz, hg⟩ := DataW.trod_struct Tryz.underlying50 h6
    match zs, hlz with
    | [z0, z1, z2], _ =>
      have g0 := hg 0 _ rfl
      have g1 := hg 1 _ rfl
      have g2 := hg 2 _ rfl
      simp only [hci, List.drop_zero, List.drop_succ_cons, List.take_succ_cons, List.take_zero, List.getElem?_cons_zero, List.getElem?_cons_succ] at g0 g1 g2
      obtain ⟨p0, f0, _, v0⟩ := DataW.trod_int Tryz.underlying3 g0
      obtain ⟨p1, f1, _, v1⟩ := DataW.trod_int Tryz.underlying3 g1
      obtain ⟨p2, f2, _, v2⟩ := DataW.trod_int Tryz.underlying3 g2
      cases e0; cases e1; cases e2; cases e3; cases e4; cases e5; cases e7; cases f0; cases f1; cases f2
      obtain ⟨⟨L1⟩⟩ := s1
      obtain ⟨⟨L2⟩⟩ := s2
      exact ⟨⟨k, L1, L2, at_, nn, ao, mm, cap, xs5, p0, p1, p2, pa, pn, pc, ps⟩, rfl, ⟨hin, str_small hy1 wt1, str_small hy2 wt2, w0, w3, w4, v0, v1, v2, q1, q2, q3, q4, q5, q6⟩⟩

set_option maxRecDepth 100000 in
theorem open_script {fuel : Nat} {v : Value} {x : DataW H × List MemPlace} (h : DataW.trod enc Tryz.prog w 0 (fun _ => true) true fuel 23 [v] = some x) (hw : ∀ n ∈ x.1.weights Tryz.prog 23, n ≤ reachBytes) :
    ∃ ao n cap L, v = .slice ao n cap ∧ L.length = n ∧ Scr w ao L ∧ n ≤ 9223372036854775807 := by
  rcases open_slice Tryz.underlying23 h with ⟨hcs, _⟩ | ⟨a, len, cap, m, n, D, Pl, hcs, _, hl, hm, hmm, hxx, hx⟩
  · cases hcs
    exact ⟨none, 0, 0, [], rfl, rfl, fun i hi => by simp at hi, by omega⟩
  · cases hcs
    have hcl : Tryz.prog.cellsOf 52 = 10 := by kernel_rfl
    simp only [if_true] at hmm
    subst hmm
    rw [hcl] at hx
    unfold maxLen at hm
    obtain ⟨b, off, spot⟩ := a
    have hwD : ∀ i, i < len → ∀ n ∈ (D i).weights Tryz.prog 52, n ≤ reachBytes := by
      intro i hi n hn
      refine hw n ?_
      rw [hxx]
      simp only [DataW.weights, Tryz.underlying23, List.mem_cons, List.mem_append]
      exact .inr (.inl (weights_all (List.mem_map_of_mem (List.mem_range.2 hi)) hn))
    have hel : ∀ i, i < len → ∃ c : Stp, spot = none ∧ (∀ j v, c.cells[j]? = some v → w.cell? ⟨b, off + 10 * i + j, none⟩ = some v) ∧ StpIn w c := by
      intro i hi
      obtain ⟨cs', h1, h2⟩ := hx i (by omega)
      obtain ⟨s, rfl, hin⟩ := open_step h2 (hwD i hi)
      obtain ⟨_, _, h3⟩ := World.cells?_some h1
      have hsp : spot = none := by
        obtain ⟨cs0, g1, g2⟩ := hx 0 (by omega)
        obtain ⟨s0, rfl, _⟩ := open_step g2 (hwD 0 (by omega))
        obtain ⟨_, _, g3⟩ := World.cells?_some g1
        have h5 := g3 0 (by omega)
        rw [show (((⟨b, off, spot⟩ : Addr).add (0 * 10)).add 0) = ⟨b, off, spot⟩ by simp [Addr.add]] at h5
        exact World.cell?_spot (a := ⟨b, off, spot⟩) h5
      subst hsp
      refine ⟨s, rfl, fun j v hv => ?_, hin⟩
      have hj : j < 10 := by have := (List.getElem?_eq_some_iff.1 hv).1; simpa [Stp.cells] using this
      have g := h3 j hj
      rw [Addr.add_mid, Addr.add_mid, Nat.mul_comm i 10] at g
      rw [g]
      exact hv
    obtain ⟨f, hf⟩ := choose_lt (α := Stp) hel
    refine ⟨_, len, _, (List.range len).map f, rfl, by simp, fun i hi => ?_, by omega⟩
    have hi' : i < len := by simpa using hi
    obtain ⟨hsp, hc, hin⟩ := hf i hi'
    subst hsp
    have e : ((List.range len).map f).getD i stp0 = f i := by simp [hi']
    rw [e]
    exact ⟨b, off, rfl, hc, hin⟩
end
end Go.Proofs.YtmoaaimjgdbelaaGreat
