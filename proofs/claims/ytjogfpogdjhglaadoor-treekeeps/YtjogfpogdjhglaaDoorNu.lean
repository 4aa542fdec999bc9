/-
  Arguments opened: texts, entries.
-/
import Derived.Test.YtjogfpogdjhglaaDoorNf
import Derived.Test.YtjogfpogdjhglaaDoorEa
namespace Go.Proofs.YtjogfpogdjhglaaDoor
open Go.ChangeShapes Go.WideShapes Go.ChangeAt Go.RowKit Go.Deep Go.Joins
set_option linter.unusedVariables false
set_option linter.unusedSimpArgs false
instance : Inhabited Ent := ⟨ent0⟩
section
variable {H : Type} {enc : TypeId × Value → H} {w : World}
theorem weights_all {P : Program} {e : TypeId} {l : List (DataW H)} {d : DataW H} (h : d ∈ l) {n : Nat} (hn : n ∈ d.weights P e) : n ∈ DataW.weightsAll P e l := by
  induction l with
  | nil => simp at h
  | cons x l ih =>
    simp only [DataW.weightsAll, List.mem_append]
    simp only [List.mem_cons] at h
    rcases h with rfl | h
    · exact .inl hn
    · exact .inr (ih h)
theorem str_small {y : DataW H × List MemPlace} {L : List UInt8} {P : Program} {t : TypeId} {q : List MemPlace} (hy : y = (.lit (.string (ByteArray.mk L.toArray).data.toList), q)) (h : ∀ k ∈ y.1.weights P t, k ≤ reachBytes) : L.length ≤ 4611686018427387904 := by
  subst hy
  have := h _ (by simp only [DataW.weights]; exact List.mem_singleton.2 rfl)
  have hr : reachBytes = 140737488351232 := rfl
  rw [hr] at this
  have h2 : L.length ≤ 140737488351232 := this
  omega
theorem open_id32 {n : Nat} {cs : List Value} {x : DataW H × List MemPlace} (h : DataW.trod enc Tryd.prog w 0 (fun _ => true) true n 40 cs = some x) : ∃ L : List UInt8, L.length = 32 ∧ cs = bys L := by
  have hc1 : Tryd.prog.cellsOf 5 = 1 := by kernel_rfl
  have hc : Tryd.prog.cellsOf 40 = 32 := by kernel_rfl
  obtain ⟨xs, m, _, _, hlen, hl, hx⟩ := DataW.trod_array Tryd.underlying40 h
  have hcs : cs.length = 32 := by first | (rw [hc] at hlen; exact hlen) | (simpa [hc, hc1] using hlen)
  have hz : ∀ i, i < 32 → ∃ u : UInt8, cs[i]? = some (.int .u8 u.toNat) := by
    intro i hi
    have h1 := hx i hi
    rw [hc1, Nat.mul_one, List.getElem?_eq_getElem (by omega)] at h1
    obtain ⟨z, e, _, wz⟩ := DataW.trod_int Tryd.underlying5 h1
    have hb := bounds_u8 wz
    refine ⟨UInt8.ofNat z.toNat, ?_⟩
    have h2 : (cs.drop i).take 1 = [cs[i]'(by omega)] := by
      rw [List.drop_eq_getElem_cons (by omega)]
      rfl
    rw [h2] at e
    rw [List.getElem?_eq_getElem (by omega)]
    injection e with e _
    rw [e, UInt8.toNat_ofNat', Nat.mod_eq_of_lt (by omega)]
    congr 2
    omega
  obtain ⟨f, hf⟩ := choose_lt (α := UInt8) hz
  refine ⟨(List.range 32).map f, by simp, ?_⟩
  apply List.ext_getElem?
  intro i
  by_cases hi : i < 32
  · rw [hf i hi]
    simp [bys, hi]
  · rw [List.getElem?_eq_none (by omega), List.getElem?_eq_none (by simp [bys]; omega)]

set_option maxRecDepth 100000 in
theorem open_entry {n : Nat} {cs : List Value} {x : DataW H × List MemPlace} (h : DataW.trod enc Tryd.prog w 0 (fun _ => true) true n 42 cs = some x) (hw : ∀ n ∈ x.1.weights Tryd.prog 42, n ≤ reachBytes) :
    ∃ e : Ent, cs = e.cells ∧ EntOk e := by
  obtain ⟨xs, m, rfl, hx, hl, hlen, hf⟩ := DataW.trod_struct Tryd.underlying42 h
  have hcl : Tryd.prog.cellsOf 42 = 34 := by kernel_rfl
  have hcs : Tryd.prog.cellsOf 9 = 1 := by kernel_rfl
  have hci : Tryd.prog.cellsOf 3 = 1 := by kernel_rfl
  have hcd : Tryd.prog.cellsOf 40 = 32 := by kernel_rfl
  rw [hcl] at hl
  match cs, hl with
  | a0 :: a1 :: rest, hl =>
  match xs, hlen with
  | [y0, y1, y2], _ =>
    have h0 := hf 0 _ rfl
    have h1 := hf 1 _ rfl
    have h2 : DataW.trod enc Tryd.prog w 0 (fun _ => true) true m 40 (rest.take (Tryd.prog.cellsOf 40)) = some y2 := hf 2 _ rfl
    rw [hcd] at h2
    simp only [hcs, hci, List.drop_zero, List.drop_succ_cons, List.take_succ_cons, List.take_zero, List.getElem?_cons_zero, List.getElem?_cons_succ] at h0 h1
    have hrl : rest.length = 32 := by simpa using hl
    rw [List.take_of_length_le (by omega)] at h2
    obtain ⟨s, e0, q0, _⟩ := DataW.trod_string Tryd.underlying9 h0
    obtain ⟨k, e1, _, w1⟩ := DataW.trod_int Tryd.underlying3 h1
    obtain ⟨I, hI, e2⟩ := open_id32 h2
    obtain ⟨⟨L⟩⟩ := s
    cases e0; cases e1; subst e2
    have hsm : L.length ≤ 4611686018427387904 := by
      refine str_small (P := Tryd.prog) (t := 9) q0 (fun j hj => hw j ?_)
      rw [hx]
      simp only [DataW.weights, Tryd.underlying42, DataW.weightsEach, List.mem_append, List.map_cons, List.map_nil]
      simp [DataW.weightsEach, hj]
    exact ⟨⟨L, k, I⟩, rfl, ⟨hI, hsm, w1⟩⟩
set_option maxRecDepth 100000 in
theorem open_entries {fuel : Nat} {v : Value} {x : DataW H × List MemPlace} (h : DataW.trod enc Tryd.prog w 0 (fun _ => true) true fuel 22 [v] = some x) (hw : ∀ n ∈ x.1.weights Tryd.prog 22, n ≤ reachBytes) :
    ∃ ao n cap L, v = .slice ao n cap ∧ L.length = n ∧ Ents w ao L ∧ n ≤ cap ∧ cap * 56 ≤ 140737488351232 ∧ (ao = none → n = 0 ∧ cap = 0) := by
  rcases open_slice Tryd.underlying22 h with ⟨hcs, _⟩ | ⟨a, len, cap, m, n, D, Pl, hcs, _, hl, hm, hmm, hxx, hx⟩
  · cases hcs
    exact ⟨none, 0, 0, [], rfl, rfl, Ents.nil _ _, Nat.le_refl _, by omega, fun _ => ⟨rfl, rfl⟩⟩
  · cases hcs
    have hcl : Tryd.prog.cellsOf 42 = 34 := by kernel_rfl
    simp only [if_true] at hmm
    have hcap : cap * 56 ≤ 140737488351232 := by
      have hb1 : Tryd.prog.bytesOf 42 = 56 := by kernel_rfl
      have := hw (((List.range len).map D).length + ((List.range (m - len)).map fun j => D (len + j)).length |>.mul 56) (by
        rw [hxx]
        simp only [DataW.weights, Tryd.underlying22, hb1, List.mem_cons]
        exact .inl rfl)
      have hr : reachBytes = 140737488351232 := rfl
      rw [hr] at this
      have e1 : (((List.range len).map D).length + ((List.range (m - len)).map fun j => D (len + j)).length).mul 56 = (len + (m - len)) * 56 := by simp
      rw [e1] at this
      rw [hmm] at this
      omega
    subst hmm
    rw [hcl] at hx
    obtain ⟨b, off, spot⟩ := a
    have hwD : ∀ i, i < len → ∀ n ∈ (D i).weights Tryd.prog 42, n ≤ reachBytes := by
      intro i hi n hn
      refine hw n ?_
      rw [hxx]
      simp only [DataW.weights, Tryd.underlying22, List.mem_cons, List.mem_append]
      exact .inr (.inl (weights_all (List.mem_map_of_mem (List.mem_range.2 hi)) hn))
    have hel : ∀ i, i < len → ∃ c : Ent, spot = none ∧ w.rangeAt b (off + i * 34) c.cells ∧ EntOk c := by
      intro i hi
      obtain ⟨cs', h1, h2⟩ := hx i (by omega)
      obtain ⟨s, rfl, hin⟩ := open_entry h2 (hwD i hi)
      obtain ⟨_, _, h3⟩ := World.cells?_some h1
      have hsp : spot = none := by
        obtain ⟨cs0, g1, g2⟩ := hx 0 (by omega)
        obtain ⟨s0, rfl, _⟩ := open_entry g2 (hwD 0 (by omega))
        obtain ⟨_, _, g3⟩ := World.cells?_some g1
        have h5 := g3 0 (by omega)
        rw [show (((⟨b, off, spot⟩ : Addr).add (0 * 34)).add 0) = ⟨b, off, spot⟩ by simp [Addr.add]] at h5
        exact World.cell?_spot (a := ⟨b, off, spot⟩) h5
      subst hsp
      refine ⟨s, rfl, fun j v hv => ?_, hin⟩
      have hj : j < 34 := by have := (List.getElem?_eq_some_iff.1 hv).1; rw [hin.len] at this; exact this
      have g := h3 j hj
      rw [Addr.add_mid, Addr.add_mid] at g
      rw [g]
      exact hv
    obtain ⟨f, hf⟩ := choose_lt (α := Ent) hel
    refine ⟨_, len, _, (List.range len).map f, rfl, by simp, fun i hi => ?_, hl, hcap, by simp⟩
    have hi' : i < len := by simpa using hi
    obtain ⟨hsp, hc, hin⟩ := hf i hi'
    subst hsp
    have e : ((List.range len).map f).getD i ent0 = f i := by simp [hi']
    rw [e]
    exact ⟨b, off, rfl, hc, hin⟩
end
end Go.Proofs.YtjogfpogdjhglaaDoor
