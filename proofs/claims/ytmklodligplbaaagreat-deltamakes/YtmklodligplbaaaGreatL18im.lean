import Derived.Test.YtmklodligplbaaaGreatL18gm
open Go.RowKit
set_option linter.unusedVariables false
set_option linter.unusedSimpArgs false
set_option maxRecDepth 100000
set_option maxHeartbeats 51200000
namespace Go.Proofs.YtmklodligplbaaaGreat
open Go.ChangeShapes Go.WideShapes Go.ChangeAt Go.RowKit Go.Deep Go.Joins
open Dlt
instance : Inhabited Wk := ⟨wk0⟩
section
variable {H : Type} {enc : TypeId × Value -> H} {w : World}
theorem open_id32 {n : Nat} {cs : List Value} {x : DataW H × List MemPlace} (h : DataW.trod enc Tryz.prog w 0 (fun _ => true) true n 26 cs = some x) : ∃ L : List UInt8, L.length = 32 ∧ cs = bys L := by
 have hc1 : Tryz.prog.cellsOf 5 = 1 := by kernel_rfl
 have hc : Tryz.prog.cellsOf 26 = 32 := by kernel_rfl
 obtain ⟨xs, m, _, _, hlen, hl, hx⟩ := DataW.trod_array Tryz.underlying26 h
 have hcs : cs.length = 32 := by first | (rw [hc] at hlen; exact hlen) | (simpa [hc, hc1] using hlen)
 have hz : ∀ i, i < 32 -> ∃ u : UInt8, cs[i]? = some (.int .u8 u.toNat) := by
  intro i hi
  have h1 := hx i hi
  rw [hc1, Nat.mul_one, List.getElem?_eq_getElem (by omega)] at h1
  obtain ⟨z, e, _, wz⟩ := DataW.trod_int Tryz.underlying5 h1
  have hb := bounds_u8 wz
  refine ⟨UInt8.ofNat z.toNat, ?_⟩
  have h2 : (cs.drop i).take 1 = [cs[i]'(by omega)] := by
   rw [List.drop_eq_getElem_cons (by omega)]
   rfl
  rw [h2] at e
  rw [List.getElem?_eq_getElem (by omega)]
  injection e with e _
  rw [e, UInt8.toNat_ofNat', Nat.mod_eq_of_lt (by omega)]
  congr 2
  omega
 obtain ⟨f, hf⟩ := choose_lt (α := UInt8) hz
 refine ⟨(List.range 32).map f, by simp, ?_⟩
 apply List.ext_getElem?
 intro i
 by_cases hi : i < 32
 ·rw [hf i hi]
  simp [bys, hi]
 ·rw [List.getElem?_eq_none (by omega), List.getElem?_eq_none (by simp [bys]; omega)]
theorem open_weak {n : Nat} {cs : List Value} {x : DataW H × List MemPlace} (h : DataW.trod enc Tryz.prog w 0 (fun _ => true) true n 45 cs = some x) :
  ∃ e : Wk, cs = e.cells := by
 obtain ⟨xs, m, rfl, hx, hl, hlen, hf⟩ := DataW.trod_struct Tryz.underlying45 h
 have hcl : Tryz.prog.cellsOf 45 = 33 := by kernel_rfl
 have hci : Tryz.prog.cellsOf 3 = 1 := by kernel_rfl
 have hcd : Tryz.prog.cellsOf 26 = 32 := by kernel_rfl
 rw [hcl] at hl
 match xs, hlen with
 | [y0, y1], _ =>
  have h0 : DataW.trod enc Tryz.prog w 0 (fun _ => true) true m 3 ((cs.drop 0).take (Tryz.prog.cellsOf 3)) = some y0 := hf 0 _ rfl
  have h1 : DataW.trod enc Tryz.prog w 0 (fun _ => true) true m 26 ((cs.drop 1).take (Tryz.prog.cellsOf 26)) = some y1 := hf 1 _ rfl
  rw [hcd] at h1
  rw [hci] at h0
  obtain ⟨R, hR, e1⟩ := open_id32 h1
  obtain ⟨k, e0, _, w0⟩ := DataW.trod_int Tryz.underlying3 h0
  refine ⟨⟨k, R, hR, w0⟩, ?_⟩
  show cs = [.int .i64 k] ++ bys R
  rw [<-e0, <-e1, List.drop_zero]
  have t2 : (cs.drop 1).take 32 = cs.drop 1 := List.take_of_length_le (by rw [List.length_drop]; omega)
  rw [t2, List.take_append_drop]
theorem open_weaks {fuel : Nat} {v : Value} {x : DataW H × List MemPlace} (h : DataW.trod enc Tryz.prog w 0 (fun _ => true) true fuel 27 [v] = some x) (hw : ∀ n ∈ x.1.weights Tryz.prog 27, n <= reachBytes) :
  ∃ ao n cap L, v = .slice ao n cap ∧ L.length = n ∧ Wks w ao L ∧ n <= cap ∧ cap * 40 <= 140737488351232 ∧ (ao = none -> n = 0 ∧ cap = 0) := by
 rcases open_slice Tryz.underlying27 h with ⟨hcs, _⟩ | ⟨a, len, cap, m, n, D, Pl, hcs, _, hl, hm, hmm, hxx, hx⟩
 ·cases hcs
  exact ⟨none, 0, 0, [], rfl, rfl, Wks.nil _ _, Nat.le_refl _, by omega, fun _ => ⟨rfl, rfl⟩⟩
 ·cases hcs
  have hcl : Tryz.prog.cellsOf 45 = 33 := by kernel_rfl
  simp only [if_true] at hmm
  have hcap : cap * 40 <= 140737488351232 := by
   have hb1 : Tryz.prog.bytesOf 45 = 40 := by kernel_rfl
   have := hw (((List.range len).map D).length + ((List.range (m - len)).map fun j => D (len + j)).length |>.mul 40) (by
    rw [hxx]
    simp only [DataW.weights, Tryz.underlying27, hb1, List.mem_cons]
    exact .inl rfl)
   have hr : reachBytes = 140737488351232 := rfl
   rw [hr] at this
   have e1 : (((List.range len).map D).length + ((List.range (m - len)).map fun j => D (len + j)).length).mul 40 = (len + (m - len)) * 40 := by simp
   rw [e1] at this
   rw [hmm] at this
   omega
  subst hmm
  rw [hcl] at hx
  obtain ⟨b, off, spot⟩ := a
  have hel : ∀ i, i < len -> ∃ c : Wk, spot = none ∧ w.rangeAt b (off + i * 33) c.cells := by
   intro i hi
   obtain ⟨cs', h1, h2⟩ := hx i (by omega)
   obtain ⟨s, rfl⟩ := open_weak h2
   obtain ⟨_, _, h3⟩ := World.cells?_some h1
   have hsp : spot = none := by
    obtain ⟨cs0, g1, g2⟩ := hx 0 (by omega)
    obtain ⟨s0, rfl⟩ := open_weak g2
    obtain ⟨_, _, g3⟩ := World.cells?_some g1
    have h5 := g3 0 (by omega)
    rw [show (((⟨b, off, spot⟩ : Addr).add (0 * 33)).add 0) = ⟨b, off, spot⟩ by simp [Addr.add]] at h5
    rw [s0.su] at h5
    exact World.cell?_spot (a := ⟨b, off, spot⟩) h5
   subst hsp
   refine ⟨s, rfl, fun j v hv => ?_⟩
   have hj : j < 33 := by have := (List.getElem?_eq_some_iff.1 hv).1; rw [Wk.len] at this; exact this
   have g := h3 j hj
   rw [Addr.add_mid, Addr.add_mid] at g
   rw [g]
   exact hv
  obtain ⟨f, hf⟩ := choose_lt (α := Wk) hel
  refine ⟨_, len, _, (List.range len).map f, rfl, by simp, fun i hi => ?_, hl, hcap, by simp⟩
  have hi' : i < len := by simpa using hi
  obtain ⟨hsp, hc⟩ := hf i hi'
  subst hsp
  have e : ((List.range len).map f).getD i wk0 = f i := by simp [hi']
  rw [e]
  exact ⟨b, off, rfl, hc⟩
theorem open_sig {n : Nat} {cs : List Value} {x : DataW H × List MemPlace} (h : DataW.trod enc Tryz.prog w 0 (fun _ => true) true n 29 cs = some x) (hw : ∀ n ∈ x.1.weights Tryz.prog 29, n <= reachBytes) :
  ∃ (s : Sig) (ao : Option Addr) (n cap : Nat), cs = s.cells (.slice ao n cap) ∧ SigIn w s ao n cap ∧ (ao = none -> n = 0 ∧ cap = 0) ∧ n <= 3518437208782 := by
 obtain ⟨xs, m, rfl, hx, hl, hlen, hf⟩ := DataW.trod_struct Tryz.underlying29 h
 have hcl : Tryz.prog.cellsOf 29 = 36 := by kernel_rfl
 have hci : Tryz.prog.cellsOf 3 = 1 := by kernel_rfl
 have hcs : Tryz.prog.cellsOf 27 = 1 := by kernel_rfl
 have hcd : Tryz.prog.cellsOf 26 = 32 := by kernel_rfl
 rw [hcl] at hl
 match xs, hlen with
 | [y0, y1, y2, y3, y4], _ =>
  have h0 : DataW.trod enc Tryz.prog w 0 (fun _ => true) true m 3 ((cs.drop 0).take (Tryz.prog.cellsOf 3)) = some y0 := hf 0 _ rfl
  have h1 : DataW.trod enc Tryz.prog w 0 (fun _ => true) true m 3 ((cs.drop 1).take (Tryz.prog.cellsOf 3)) = some y1 := hf 1 _ rfl
  have h2 : DataW.trod enc Tryz.prog w 0 (fun _ => true) true m 3 ((cs.drop 2).take (Tryz.prog.cellsOf 3)) = some y2 := hf 2 _ rfl
  have h3 : DataW.trod enc Tryz.prog w 0 (fun _ => true) true m 26 ((cs.drop 3).take (Tryz.prog.cellsOf 26)) = some y3 := hf 3 _ rfl
  have h4 : DataW.trod enc Tryz.prog w 0 (fun _ => true) true m 27 ((cs.drop 35).take (Tryz.prog.cellsOf 27)) = some y4 := hf 4 _ rfl
  rw [hci] at h0 h1 h2
  rw [hcd] at h3
  rw [hcs] at h4
  obtain ⟨a0, e0, _, _⟩ := DataW.trod_int Tryz.underlying3 h0
  obtain ⟨a1, e1, _, _⟩ := DataW.trod_int Tryz.underlying3 h1
  obtain ⟨a2, e2, _, _⟩ := DataW.trod_int Tryz.underlying3 h2
  obtain ⟨R, hR, e3⟩ := open_id32 h3
  have t4 : (cs.drop 35).take 1 = [cs[35]'(by omega)] := by rw [List.drop_eq_getElem_cons (by omega)]; rfl
  rw [t4] at h4
  obtain ⟨ao, n, cap, L, e4, hL, hW, hle, hcap, h00⟩ := open_weaks h4 (fun j hj => hw j (by
   rw [hx]
   simp only [DataW.weights, Tryz.underlying29, DataW.weightsEach, List.mem_append, List.map_cons, List.map_nil]
   simp [DataW.weightsEach, hj]))
  refine ⟨⟨a0, a1, a2, R, L, hR⟩, ao, n, cap, ?_, ⟨hL, hle, by omega, hW⟩, h00, by omega⟩
  show cs = [.int .i64 a0] ++ ([.int .i64 a1] ++ ([.int .i64 a2] ++ (bys R ++ [.slice ao n cap])))
  rw [<-e0, <-e1, <-e2, <-e3, <-e4, <-t4, List.drop_zero]
  have t5 : (cs.drop 35).take 1 = cs.drop 35 := List.take_of_length_le (by rw [List.length_drop]; omega)
  have j : ∀ a b : Nat, (cs.drop a).take b ++ cs.drop (a + b) = cs.drop a := fun a b => by
   have := List.take_append_drop b (cs.drop a)
   rwa [List.drop_drop] at this
  rw [t5, j 3 32, j 2 1, j 1 1, List.take_append_drop]
end
theorem Tryz.open_sigv {H : Type} {enc : TypeId × Value -> H} {w : World} {r : Reach} {b0 : Nat} {v : Value} {d : DataW H} {p : List MemPlace} (hv : Value.okWide Tryz.prog w r b0 29 v) (h : DataW.Trod enc Tryz.prog w 0 (fun _ => true) true 29 v d p) (hw : ∀ n ∈ d.weights Tryz.prog 29, n <= reachBytes) :
  ∃ (s : Sig) (ao : Option Addr) (n cap : Nat), v = .agg (s.cells (.slice ao n cap)).toArray ∧ SigIn w s ao n cap ∧ (ao = none -> n = 0 ∧ cap = 0) ∧ n <= 3518437208782 := by
 have hv' : ∃ cs, v = .agg cs ∧ cs.size = Tryz.prog.cellsOf 29 ∧ Row.okWide Tryz.prog w r b0 29 cs := by
  unfold Value.okWide at hv
  rw [Tryz.underlying29] at hv
  exact hv
 obtain ⟨cs, rfl, hs, _⟩ := hv'
 obtain ⟨fuel, hf⟩ := h
 obtain ⟨s, ao, n, cap, h2, h3, h4, h5⟩ := open_sig hf hw
 have e' : cs.toList = s.cells (.slice ao n cap) := h2
 exact ⟨s, ao, n, cap, by rw [<-e'], h3, h4, h5⟩
end Go.Proofs.YtmklodligplbaaaGreat
