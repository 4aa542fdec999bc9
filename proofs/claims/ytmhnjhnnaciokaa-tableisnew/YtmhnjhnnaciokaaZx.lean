/-
  Arguments opened: ids, results.
-/
import Derived.Test.YtmhnjhnnaciokaaZg
import Derived.Test.YtmhnjhnnaciokaaEa
namespace Go.Proofs.Ytmhnjhnnaciokaa
open Go.ChangeShapes Go.WideShapes Go.ChangeAt Go.RowKit Go.Deep Go.Joins
set_option linter.unusedVariables false
set_option linter.unusedSimpArgs false
section
variable {H : Type} {enc : TypeId × Value → H} {w : World}
theorem weights_all {P : Program} {e : TypeId} {l : List (DataW H)} {d : DataW H} (h : d ∈ l) {n : Nat} (hn : n ∈ d.weights P e) : n ∈ DataW.weightsAll P e l := by
  induction l with
  | nil => simp at h
  | cons x l ih =>
    simp only [DataW.weightsAll, List.mem_append]
    simp only [List.mem_cons] at h
    rcases h with rfl | h
    · exact .inl hn
    · exact .inr (ih h)
set_option maxRecDepth 100000 in
theorem open_id32 {n : Nat} {cs : List Value} {x : DataW H × List MemPlace} (h : DataW.trod enc Try.prog w 0 (fun _ => true) true n 24 cs = some x) : ∃ L : List UInt8, L.length = 32 ∧ cs = bys L := by
  have hc1 : Try.prog.cellsOf 5 = 1 := by kernel_rfl
  have hc : Try.prog.cellsOf 24 = 32 := by kernel_rfl
  obtain ⟨xs, m, _, _, hlen, hl, hx⟩ := DataW.trod_array Try.underlying24 h
  have hcs : cs.length = 32 := by first | (rw [hc] at hlen; exact hlen) | (simpa [hc, hc1] using hlen)
  have hz : ∀ i, i < 32 → ∃ u : UInt8, cs[i]? = some (.int .u8 u.toNat) := by
    intro i hi
    have h1 := hx i hi
    rw [hc1, Nat.mul_one, List.getElem?_eq_getElem (by omega)] at h1
    obtain ⟨z, e, _, wz⟩ := DataW.trod_int Try.underlying5 h1
    have hb := bounds_u8 wz
    refine ⟨UInt8.ofNat z.toNat, ?_⟩
    have h2 : (cs.drop i).take 1 = [cs[i]'(by omega)] := by
      rw [List.drop_eq_getElem_cons (by omega)]
      rfl
    rw [h2] at e
    rw [List.getElem?_eq_getElem (by omega)]
    injection e with e _
    rw [e, UInt8.toNat_ofNat', Nat.mod_eq_of_lt (by omega)]
    congr 2
    omega
  obtain ⟨f, hf⟩ := choose_lt (α := UInt8) hz
  refine ⟨(List.range 32).map f, by simp, ?_⟩
  apply List.ext_getElem?
  intro i
  by_cases hi : i < 32
  · rw [hf i hi]
    simp [bys, hi]
  · rw [List.getElem?_eq_none (by omega), List.getElem?_eq_none (by simp [bys]; omega)]

set_option maxRecDepth 100000 in
theorem open_result {n : Nat} {cs : List Value} {x : DataW H × List MemPlace} (h : DataW.trod enc Try.prog w 0 (fun _ => true) true n 26 cs = some x) :
    ∃ e : Res, cs = e.cells := by
  obtain ⟨xs, m, rfl, hx, hl, hlen, hf⟩ := DataW.trod_struct Try.underlying26 h
  have hcl : Try.prog.cellsOf 26 = 65 := by kernel_rfl
  have hci : Try.prog.cellsOf 3 = 1 := by kernel_rfl
  have hcd : Try.prog.cellsOf 24 = 32 := by kernel_rfl
  rw [hcl] at hl
  match xs, hlen with
  | [y0, y1, y2], _ =>
    have h0 : DataW.trod enc Try.prog w 0 (fun _ => true) true m 24 ((cs.drop 0).take (Try.prog.cellsOf 24)) = some y0 := hf 0 _ rfl
    have h1 : DataW.trod enc Try.prog w 0 (fun _ => true) true m 24 ((cs.drop 32).take (Try.prog.cellsOf 24)) = some y1 := hf 1 _ rfl
    have h2 : DataW.trod enc Try.prog w 0 (fun _ => true) true m 3 ((cs.drop 64).take (Try.prog.cellsOf 3)) = some y2 := hf 2 _ rfl
    rw [hcd] at h0 h1
    rw [hci] at h2
    obtain ⟨A, hA, e0⟩ := open_id32 h0
    obtain ⟨R, hR, e1⟩ := open_id32 h1
    obtain ⟨k, e2, _, w2⟩ := DataW.trod_int Try.underlying3 h2
    refine ⟨⟨A, R, k, hA, hR, w2⟩, ?_⟩
    show cs = bys A ++ (bys R ++ [.int .i64 k])
    rw [← e0, ← e1, ← e2, List.drop_zero]
    have t2 : (cs.drop 64).take 1 = cs.drop 64 := List.take_of_length_le (by rw [List.length_drop]; omega)
    rw [t2]
    have : (cs.drop 32).take 32 ++ cs.drop 64 = cs.drop 32 := by
      have := List.take_append_drop 32 (cs.drop 32)
      rwa [List.drop_drop] at this
    rw [this, List.take_append_drop]
set_option maxRecDepth 100000 in
theorem open_results {fuel : Nat} {v : Value} {x : DataW H × List MemPlace} (h : DataW.trod enc Try.prog w 0 (fun _ => true) true fuel 22 [v] = some x) (hw : ∀ n ∈ x.1.weights Try.prog 22, n ≤ reachBytes) :
    ∃ ao n cap L, v = .slice ao n cap ∧ L.length = n ∧ Ress w ao L ∧ n ≤ cap ∧ cap * 72 ≤ 140737488351232 ∧ (ao = none → n = 0 ∧ cap = 0) := by
  rcases open_slice Try.underlying22 h with ⟨hcs, _⟩ | ⟨a, len, cap, m, n, D, Pl, hcs, _, hl, hm, hmm, hxx, hx⟩
  · cases hcs
    exact ⟨none, 0, 0, [], rfl, rfl, Ress.nil _ _, Nat.le_refl _, by omega, fun _ => ⟨rfl, rfl⟩⟩
  · cases hcs
    have hcl : Try.prog.cellsOf 26 = 65 := by kernel_rfl
    simp only [if_true] at hmm
    have hcap : cap * 72 ≤ 140737488351232 := by
      have hb1 : Try.prog.bytesOf 26 = 72 := by kernel_rfl
      have := hw (((List.range len).map D).length + ((List.range (m - len)).map fun j => D (len + j)).length |>.mul 72) (by
        rw [hxx]
        simp only [DataW.weights, Try.underlying22, hb1, List.mem_cons]
        exact .inl rfl)
      have hr : reachBytes = 140737488351232 := rfl
      rw [hr] at this
      have e1 : (((List.range len).map D).length + ((List.range (m - len)).map fun j => D (len + j)).length).mul 72 = (len + (m - len)) * 72 := by simp
      rw [e1] at this
      rw [hmm] at this
      omega
    subst hmm
    rw [hcl] at hx
    obtain ⟨b, off, spot⟩ := a
    have hel : ∀ i, i < len → ∃ c : Res, spot = none ∧ w.rangeAt b (off + i * 65) c.cells := by
      intro i hi
      obtain ⟨cs', h1, h2⟩ := hx i (by omega)
      obtain ⟨s, rfl⟩ := open_result h2
      obtain ⟨_, _, h3⟩ := World.cells?_some h1
      have hsp : spot = none := by
        obtain ⟨cs0, g1, g2⟩ := hx 0 (by omega)
        obtain ⟨s0, rfl⟩ := open_result g2
        obtain ⟨_, _, g3⟩ := World.cells?_some g1
        have h5 := g3 0 (by omega)
        rw [show (((⟨b, off, spot⟩ : Addr).add (0 * 65)).add 0) = ⟨b, off, spot⟩ by simp [Addr.add]] at h5
        rw [Res.act (by omega)] at h5
        exact World.cell?_spot (a := ⟨b, off, spot⟩) h5
      subst hsp
      refine ⟨s, rfl, fun j v hv => ?_⟩
      have hj : j < 65 := by have := (List.getElem?_eq_some_iff.1 hv).1; rw [Res.len] at this; exact this
      have g := h3 j hj
      rw [Addr.add_mid, Addr.add_mid] at g
      rw [g]
      exact hv
    obtain ⟨f, hf⟩ := choose_lt (α := Res) hel
    refine ⟨_, len, _, (List.range len).map f, rfl, by simp, fun i hi => ?_, hl, hcap, by simp⟩
    have hi' : i < len := by simpa using hi
    obtain ⟨hsp, hc⟩ := hf i hi'
    subst hsp
    have e : ((List.range len).map f).getD i res0 = f i := by simp [hi']
    rw [e]
    exact ⟨b, off, rfl, hc⟩
end

/-- A list of results that came in. -/
structure InR (w : World) (ao : Option Addr) (n cap : Nat) (L : List Res) : Prop where
  len : L.length = n
  le : n ≤ cap
  max : cap * 72 ≤ 140737488351232
  ress : Ress w ao L
  nil : ao = none → n = 0 ∧ cap = 0
theorem open_inr {H : Type} {enc : TypeId × Value → H} {w : World} {fuel : Nat} {v : Value} {x : DataW H × List MemPlace} (h : DataW.trod enc Try.prog w 0 (fun _ => true) true fuel 22 [v] = some x) (hw : ∀ n ∈ x.1.weights Try.prog 22, n ≤ reachBytes) :
    ∃ ao n cap L, v = .slice ao n cap ∧ InR w ao n cap L := by
  obtain ⟨ao, n, cap, L, e, h1, h2, h3, h4, h5⟩ := open_results h hw
  exact ⟨ao, n, cap, L, e, h1, h3, h4, h2, h5⟩

set_option maxRecDepth 100000 in
theorem Try.open_idv {H : Type} {enc : TypeId × Value → H} {w : World} {r : Reach} {b0 : Nat} {v : Value} {d : DataW H} {p : List MemPlace} (hv : Value.okWide Try.prog w r b0 24 v) (h : DataW.Trod enc Try.prog w 0 (fun _ => true) true 24 v d p) :
    ∃ L : List UInt8, L.length = 32 ∧ v = .agg (bys L).toArray := by
  have hv' : ∃ cs, v = .agg cs ∧ cs.size = Try.prog.cellsOf 24 ∧ Row.okWide Try.prog w r b0 24 cs := by
    unfold Value.okWide at hv
    rw [Try.underlying24] at hv
    exact hv
  obtain ⟨cs, rfl, hs, _⟩ := hv'
  obtain ⟨fuel, hf⟩ := h
  obtain ⟨L, hl, e⟩ := open_id32 hf
  have e' : cs.toList = bys L := e
  exact ⟨L, hl, by rw [← e']⟩

set_option maxRecDepth 100000 in
theorem Try.open_resv {H : Type} {enc : TypeId × Value → H} {w : World} {r : Reach} {b0 : Nat} {v : Value} {d : DataW H} {p : List MemPlace} (hv : Value.okWide Try.prog w r b0 26 v) (h : DataW.Trod enc Try.prog w 0 (fun _ => true) true 26 v d p) :
    ∃ e : Res, v = .agg e.cells.toArray := by
  have hv' : ∃ cs, v = .agg cs ∧ cs.size = Try.prog.cellsOf 26 ∧ Row.okWide Try.prog w r b0 26 cs := by
    unfold Value.okWide at hv
    rw [Try.underlying26] at hv
    exact hv
  obtain ⟨cs, rfl, hs, _⟩ := hv'
  obtain ⟨fuel, hf⟩ := h
  obtain ⟨e, h2⟩ := open_result hf
  have e' : cs.toList = e.cells := h2
  exact ⟨e, by rw [← e']⟩
end Go.Proofs.Ytmhnjhnnaciokaa
