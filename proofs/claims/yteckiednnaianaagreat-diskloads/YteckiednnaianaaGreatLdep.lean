import Derived.Test.YteckiednnaianaaGreatLddp
import Derived.Test.YteckiednnaianaaGreatRfap
import Derived.Deep.CutRange
import Derived.Deep.CutBlock
namespace Go.Proofs.YteckiednnaianaaGreat
open Go.RowKit Dsk
set_option linter.unusedVariables false
set_option linter.unusedSimpArgs false
namespace Dsk
def mrk : By := [109, 97, 114, 107]
def fl (L : List (By × By)) (i : Nat) : By × By := L.getD i (mrk, [])
def rmD (d : By) : By := d ++ List.replicate 5 171
theorem rmD_len (d : By) : (rmD d).length = d.length + 5 := by simp [rmD]
theorem rmD_lo {d : By} {k : Nat} (h : k < d.length) : (rmD d).getD k 0 = d.getD k 0 := by
 unfold rmD
 simp only [List.getD_eq_getElem?_getD]
 rw [List.getElem?_append_left h]
theorem rmD_hi {d : By} {k : Nat} (h : ¬ k < d.length) (h2 : k < d.length + 5) : (rmD d).getD k 0 = 171 := by
 unfold rmD
 simp only [List.getD_eq_getElem?_getD]
 rw [List.getElem?_append_right (by omega), List.getElem?_replicate, if_pos (by omega)]; rfl
theorem fl_in {L : List (By × By)} {i : Nat} {f : By × By} (h : L[i]? = some f) : fl L i = f := by unfold fl; rw [List.getD_eq_getElem?_getD, h]; rfl
theorem fl_out {L : List (By × By)} {i : Nat} (h : ¬ i < L.length) : fl L i = (mrk, []) := by unfold fl; rw [List.getD_eq_getElem?_getD, List.getElem?_eq_none (by omega)]; rfl
end Dsk
def rsl (b n : Nat) : Value := .slice (some ⟨b, 0, none⟩) n n
structure Rmy (w wr : World) (G : Nat) (B : Nat → Nat) (rv : Value) (L : List (By × By)) (N m : Nat) : Prop where
 out : ∃ cs, wr.heap[G]? = some (.cells cs 26 (0, 0)) ∧ cs.size = N * 2 ∧ ∀ j, j < m → cs[j * 2]? = some (encStr (fl L j).1) ∧ cs[j * 2 + 1]? = some (.slice (some ⟨B j, 0, none⟩) (fl L j).2.length ((fl L j).2.length + 5))
 rows : wr.ownsRow 0 24 1 rv m ((List.range m).map fun j => rsl (B j) ((fl L j).2.length + 5))
 blk : ∀ j, j < m → wr.heap[B j]? = some (.cells (bys (rmD (fl L j).2)).toArray 5 (0, 0)) ∧ w.heap.size ≤ B j
 inj : ∀ i j, i < j → j < m → B i < B j
 g : w.heap.size ≤ G
 rnew : ∀ g, rv.ownBlock = some g → w.heap.size ≤ g
 kept : Kept [] w wr
structure Fil (w3 wr : World) (bb : Nat) (d : By) (k : Nat) : Prop where
 row : ∃ cs, wr.heap[bb]? = some (.cells cs 5 (0, 0)) ∧ cs.size = d.length + 5 ∧ ∀ j, j < k → cs[j]? = some (.int .u8 ((rmD d).getD j 0).toNat)
 kept : Kept [bb] w3 wr
theorem Fil.cell {w3 wr : World} {bb k j : Nat} {d : By} (h : Fil w3 wr bb d k) (hj : j < d.length + 5) : (∃ u, wr.cell? ⟨bb, j, none⟩ = some u) ∧ wr.frozen? ⟨bb, j, none⟩ = false := by
 obtain ⟨cs, h1, h2, _⟩ := h.row
 refine ⟨⟨cs[j]'(by omega), ?_⟩, frozen_of_row _ _ _ _ _ h1⟩
 rw [cell_of_row wr bb j _ _ _ h1]
 exact Array.getElem?_eq_getElem _
theorem Fil.put {w3 wr w' : World} {bb k : Nat} {d : By} {v : Value} (h : Fil w3 wr bb d k) (hk : k < d.length + 5) (hw : w' = wr.setCell ⟨bb, k, none⟩ v) : Fil w3 w' bb d k ∧ (v = .int .u8 ((rmD d).getD k 0).toNat → Fil w3 w' bb d (k + 1)) := by
 obtain ⟨cs, h1, h2, h3⟩ := h.row
 have h4 : w'.heap[bb]? = some (.cells (cs.setIfInBounds k v) 5 (0, 0)) := by rw [hw, heap_setCell_same _ _ _ _ _ _ h1]
 have hK : Kept [bb] w3 w' := by rw [hw]; exact h.kept.setCell (by simp) _
 have h5 : ∀ j, j < k → (cs.setIfInBounds k v)[j]? = some (.int .u8 ((rmD d).getD j 0).toNat) := fun j hj => by
  rw [Array.getElem?_setIfInBounds, if_neg (by omega)]; exact h3 j hj
 refine ⟨⟨⟨_, h4, by simpa using h2, h5⟩, hK⟩, fun hv => ⟨⟨_, h4, by simpa using h2, fun j hj => ?_⟩, hK⟩⟩
 by_cases e : j = k
 ·rw [e, Array.getElem?_setIfInBounds, if_pos rfl, if_pos (by omega), hv]
 ·exact h5 j (by omega)
theorem Fil.done {w3 wr : World} {bb : Nat} {d : By} (h : Fil w3 wr bb d (d.length + 5)) : wr.heap[bb]? = some (.cells (bys (rmD d)).toArray 5 (0, 0)) := by
 obtain ⟨cs, h1, h2, h3⟩ := h.row
 rw [h1]
 have : cs = (bys (rmD d)).toArray := by
  apply Array.ext
  ·rw [h2]; simp [bys_length, rmD_len]
  ·intro i hi hi2
   have h4 := h3 i (by omega)
   have h5 := bys_at (xs := rmD d) (j := i) (by rw [rmD_len]; omega)
   rw [Array.getElem?_eq_getElem hi] at h4
   rw [List.getElem?_eq_getElem (by rw [bys_length, rmD_len]; omega)] at h5
   simp only [List.getElem_toArray]
   exact Option.some.inj (h4.trans h5.symm)
 rw [this]
section
variable {w wr : World} {G : Nat} {B : Nat → Nat} {rv : Value} {L : List (By × By)} {N m : Nat}
theorem Rmy.glt (h : Rmy w wr G B rv L N m) : G < wr.heap.size := by
 obtain ⟨cs, h1, _⟩ := h.out
 exact (Array.getElem?_eq_some_iff.1 h1).1
theorem Rmy.blt (h : Rmy w wr G B rv L N m) {j : Nat} (hj : j < m) : B j < wr.heap.size := (Array.getElem?_eq_some_iff.1 (h.blk j hj).1).1
theorem Rmy.keeps {w' : World} (h : Rmy w wr G B rv L N m) (hk : Kept [] wr w') : Rmy w w' G B rv L N m := by
 obtain ⟨cs, h1, h2, h3⟩ := h.out
 refine ⟨⟨cs, (hk.block G h.glt (by simp)).trans h1, h2, h3⟩, own_keeps h.rows (Keep.ofNone (F := fun _ => False) hk) (fun _ _ h => h), fun j hj => ⟨(hk.block _ (h.blt hj) (by simp)).trans (h.blk j hj).1, (h.blk j hj).2⟩, h.inj, h.g, h.rnew, h.kept.trans hk (by simp)⟩
theorem Rmy.bne (h : Rmy w wr G B rv L N m) {j : Nat} (hj : j < m) : B j ≠ G := fun e => by
 obtain ⟨cs, h1, _⟩ := h.out
 have h2 := (h.blk j hj).1
 rw [e, h1] at h2
 injection h2 with h2
 injection h2 with _ h2 _
 exact absurd h2 (by decide)
theorem Rmy.rne (h : Rmy w wr G B rv L N m) (hv : rv.ownBlock = some G) : False := by
 obtain ⟨cs, h1, _⟩ := h.out
 rcases h.rows.2 with ⟨e, _⟩ | ⟨g, cap, cur, e, _, hg, _⟩
 ·rw [e] at hv; cases hv
 ·rw [e] at hv
  cases hv
  rw [h1] at hg
  injection hg with hg
  injection hg with _ hg _
  exact absurd hg (by decide)
theorem Rmy.cell (h : Rmy w wr G B rv L N m) {j : Nat} (hj : j < N * 2) : (∃ u, wr.cell? ⟨G, j, none⟩ = some u) ∧ wr.frozen? ⟨G, j, none⟩ = false := by
 obtain ⟨cs, h1, h2, _⟩ := h.out
 refine ⟨⟨cs[j]'(by omega), ?_⟩, frozen_of_row _ _ _ _ _ h1⟩
 rw [cell_of_row wr G j _ _ _ h1]
 exact Array.getElem?_eq_getElem _
theorem Rmy.put {w' : World} {j : Nat} {v : Value} (h : Rmy w wr G B rv L N m) (hj : m * 2 ≤ j) (hw : w' = wr.setCell ⟨G, j, none⟩ v) : Rmy w w' G B rv L N m := by
 obtain ⟨cs, h1, h2, h3⟩ := h.out
 have hK : Keep (· = G) wr w' := by rw [hw]; exact (Keep.refl (· = G) wr).setCell (p := ⟨G, j, none⟩) (fun _ => rfl) _
 refine ⟨⟨cs.setIfInBounds j v, by rw [hw, heap_setCell_same _ _ _ _ _ _ h1], by simpa using h2, fun i hi => ?_⟩, own_keeps h.rows hK (fun g hg e => h.rne (by rw [hg]; exact congrArg some e)), fun i hi => ⟨hK.heapOf (h.blk i hi).1 (h.bne hi), (h.blk i hi).2⟩, h.inj, h.g, h.rnew, ?_⟩
 ·rw [Array.getElem?_setIfInBounds, if_neg (by omega), Array.getElem?_setIfInBounds, if_neg (by omega)]
  exact h3 i hi
 ·have hk := h.kept
  have := h.g
  exact ⟨hK.os.trans hk.os, hK.tape.trans hk.tape, hK.output.trans hk.output, Nat.le_trans hk.size hK.size, fun i hi _ => (hK.block i (Nat.lt_of_lt_of_le hi hk.size) (by omega)).trans (hk.block i hi (by simp))⟩
theorem Rmy.step {w3 w4 w5 : World} {bb : Nat} {x d : By} {rv' : Value} (h : Rmy w wr G B rv L N m) (hm : m < N) (hf : fl L m = (x, d)) (hk : Kept [] wr w3) (hb : w3.heap[bb]? = some (.cells (bys (rmD d)).toArray 5 (0, 0))) (hbn : wr.heap.size ≤ bb)
  (hx : wr.cell? ⟨G, m * 2, none⟩ = some (encStr x)) (hw4 : w4 = w3.setCell ⟨G, m * 2 + 1, none⟩ (.slice (some ⟨bb, 0, none⟩) d.length (d.length + 5)))
  (hr : w5.ownsRow 0 24 1 rv' (m + 1) (((List.range m).map fun j => rsl (B j) ((fl L j).2.length + 5)) ++ [rsl bb (d.length + 5)])) (hK : ∀ F : Nat → Prop, (∀ k, rv.ownBlock = some k → F k) → Keep F w4 w5) (hn : ∀ g, rv'.ownBlock = some g → rv.ownBlock = some g ∨ w4.heap.size ≤ g) : Rmy w w5 G (upd B m bb) rv' L N (m + 1) := by
 have h3 := h.keeps hk
 have h4 := h3.put (j := m * 2 + 1) (by omega) hw4
 obtain ⟨cs, o1, o2, o3⟩ := h3.out
 have z3 : w4.heap.size = w3.heap.size := by rw [hw4]; simp [World.setCell]
 have hbl : bb < w3.heap.size := (Array.getElem?_eq_some_iff.1 hb).1
 have hgl := h.glt
 have hbG : bb ≠ G := by omega
 have k5 := hK (fun k => rv.ownBlock = some k) (fun _ h => h)
 have rG : rv.ownBlock ≠ some G := fun e => h.rne e
 have hx3 : cs[m * 2]? = some (encStr x) := by rw [← cell_of_row w3 G (m * 2) _ _ _ o1]; exact hk.cellOf hx (by simp)
 have hb4 : w4.heap[bb]? = some (.cells (bys (rmD d)).toArray 5 (0, 0)) := by rw [hw4, heap_setCell_other _ _ _ _ (by simpa using hbG)]; exact hb
 have rb : ∀ k, w4.heap[k]? = some (.cells (bys (rmD d)).toArray 5 (0, 0)) ∨ (∃ j, j < m ∧ k = B j) → rv.ownBlock ≠ some k := fun k hk e => by
  have ht : ∃ cs, w4.heap[k]? = some (.cells cs 5 (0, 0)) := by
   rcases hk with hk | ⟨j, hj, rfl⟩
   ·exact ⟨_, hk⟩
   ·exact ⟨_, (h4.blk j hj).1⟩
  obtain ⟨cs', ht⟩ := ht
  rcases h4.rows.2 with ⟨e2, _⟩ | ⟨g, cap, cur, e2, _, hg, _⟩
  ·rw [e2] at e; cases e
  ·rw [e2] at e
   cases e
   rw [ht] at hg
   injection hg with hg
   injection hg with _ hg _
   exact absurd hg (by decide)
 have zw : w.heap.size ≤ wr.heap.size := h.kept.size
 refine ⟨⟨cs.setIfInBounds (m * 2 + 1) (.slice (some ⟨bb, 0, none⟩) d.length (d.length + 5)), ?_, by simpa using o2, fun j hj => ?_⟩, ?_, fun j hj => ?_, fun i j hij hj => ?_, h.g, fun g hg => ?_, ?_⟩
 ·refine k5.heapOf ?_ rG
  rw [hw4, heap_setCell_same _ _ _ _ _ _ o1]
 ·by_cases e : j = m
  ·subst e
   rw [upd_same, hf]
   exact ⟨by rw [Array.getElem?_setIfInBounds, if_neg (by omega)]; exact hx3, by rw [Array.getElem?_setIfInBounds, if_pos rfl, if_pos (by omega)]⟩
  ·rw [upd_other _ _ e, Array.getElem?_setIfInBounds, if_neg (by omega), Array.getElem?_setIfInBounds, if_neg (by omega)]
   exact o3 j (by omega)
 ·have e : ((List.range (m + 1)).map fun j => rsl (upd B m bb j) ((fl L j).2.length + 5)) = ((List.range m).map fun j => rsl (B j) ((fl L j).2.length + 5)) ++ [rsl bb (d.length + 5)] := by
   rw [List.range_succ, List.map_append]
   congr 1
   ·refine List.map_congr_left fun j hj => ?_
    rw [upd_other _ _ (by have := List.mem_range.1 hj; omega)]
   ·simp [upd_same, hf]
  rw [e]; exact hr
 ·by_cases e : j = m
  ·subst e
   rw [upd_same, hf]
   exact ⟨k5.heapOf hb4 (rb bb (.inl hb4)), by omega⟩
  ·rw [upd_other _ _ e]
   exact ⟨k5.heapOf (h4.blk j (by omega)).1 (rb _ (.inr ⟨j, by omega, rfl⟩)), (h4.blk j (by omega)).2⟩
 ·by_cases e : j = m
  ·subst e
   rw [upd_same, upd_other _ _ (by omega)]
   have := h.blt hij
   omega
  ·rw [upd_other _ _ e, upd_other _ _ (by omega)]
   exact h.inj i j hij (by omega)
 ·rcases hn g hg with h1 | h1
  ·exact h.rnew g h1
  ·omega
 ·have hk := h4.kept
  exact ⟨k5.os.trans hk.os, k5.tape.trans hk.tape, k5.output.trans hk.output, Nat.le_trans hk.size k5.size, fun i hi _ => (k5.block i (Nat.lt_of_lt_of_le hi hk.size) (fun e => by have := h.rnew i e; omega)).trans (hk.block i hi (by simp))⟩
end
theorem Rmy.start {w w1 : World} {N : Nat} {L : List (By × By)} {z : Array Value} (ho : w1.ownsRow w.heap.size 26 2 (.slice (some ⟨w.heap.size, 0, none⟩) N N) N (madeCells z (N * 2)).toList) (hg : w.grownBy w1 none) : Rmy w w1 w.heap.size (fun _ => 0) (.slice none 0 0) L N 0 := by
 refine ⟨?_, World.ownsRow_nil _ _ _ _, (fun j hj => by omega), (fun i j _ hj => by omega), Nat.le_refl _, (fun g hg => by cases hg), (Kept.refl _ _).grown hg (by simp)⟩
 rcases ho.2 with ⟨h, _⟩ | ⟨g', cap', cur, hv, _, hg', _, _, hsz, htk⟩
 ·cases h
 ·cases hv
  exact ⟨cur, hg', by simpa using hsz, fun j hj => by omega⟩
theorem Tryz.infoRow5 : (Tryz.prog.info? 24).map (fun i => (i.zero, i.size, i.bytes)) = some (some (.slice none 0 0), 1, 24) := by kernel_rfl
theorem made_fil {w w1 : World} {d : By} (ho : w1.ownsRow w.heap.size 5 1 (.slice (some ⟨w.heap.size, 0, none⟩) (d.length + 5) (d.length + 5)) (d.length + 5) (madeCells #[.int .u8 0] (d.length + 5)).toList) (hg : w.grownBy w1 none) : Fil w1 w1 w.heap.size d 0 := by
 refine ⟨?_, Kept.refl _ _⟩
 rcases ho.2 with ⟨h, _⟩ | ⟨g', cap', cur, hv, _, hg', _, _, hsz, htk⟩
 ·cases h
 ·cases hv
  exact ⟨cur, hg', by simpa using hsz, fun j hj => by omega⟩
set_option maxHeartbeats 6400000 in
set_option maxRecDepth 100000 in
theorem roomy5_ok (ao : Option Addr) (n c : Nat) (L : List (By × By)) (w : World) (hx : L.length = n) (hn : n ≤ 100000) (hM : ∀ f ∈ L, f.1.length ≤ 4611686018427387900 ∧ f.2.length ≤ 100000) (h1 : Fio w ao L) :
  Calls Tryz.prog 5 #[.slice ao n c] w fun e w' => ∃ G rv B, e = .returned (.tuple #[.slice (some ⟨G, 0, none⟩) (n + 5) (n + 5), rv]) ∧ Rmy w w' G B rv L (n + 5) (n + 5) := by
 obtain ⟨i0, hi, hz0, hz1, hz2⟩ := info_parts Tryz.infoFile
 have HX := hide hx
 have H1 := hide h1
 have HM := hide hM
 clear hx h1 hM
 go_enter Tryz.func5, Tryz.ntmps5
 go_wp2_with (at_make; refine wpList_make_full _ rfl _ _ 22 rfl w.heap.size 26 i0 (.agg #[.string ⟨#[]⟩, .slice none 0 0]) 2 Tryz.underlying22 hi hz0 hz1 .i64 .i64 ((n : Int) + 5) ((n : Int) + 5) (n + 5) rfl rfl (by omega) (by omega) ?c1 ?c2 ?c3 ?_)
 case c1 => rw [hz2]; omega
 case c2 => unfold maxLen; omega
 case c3 => exact Nat.le_refl _
 intro w1 hown hgrow
 have HS : Hid (Rmy w w1 w.heap.size (fun _ => 0) (.slice none 0 0) L (n + 5) 0) := hide (Rmy.start hown hgrow)
 obtain ⟨G, hG⟩ : ∃ G, G = w.heap.size := ⟨_, rfl⟩
 obtain ⟨N, hN⟩ : ∃ N, N = n + 5 := ⟨_, rfl⟩
 rw [← hG, ← hN] at HS
 rw [← hG, ← hN]
 have hN1 : N ≤ n + 5 := by omega
 have hN2 : n + 5 ≤ N := by omega
 clear hown hgrow hG hN hi hz0 hz1 hz2
 go_wp2
 go_loopw [4, 6] (fun rv i wr => ∃ k : Nat, k ≤ N ∧ i = .int .i64 k ∧ ∃ rv', rv = rv' ∧ Hid (∃ B, Rmy w wr G B rv' L N k)) (fun rv i wr => N - (intOf i).toNat)
 case atStart => exact ⟨0, Nat.zero_le _, rfl, _, rfl, hide ⟨_, HS.out⟩⟩
 case round =>
  clear HS
  obtain ⟨i, hi, rfl, rv, rfl, HRR⟩ := hrel
  by_cases hiN : i < N
  ·obtain ⟨B, hR0⟩ := HRR.out
   obtain ⟨ro, rc, rfl, _⟩ := own_shape hR0.rows
   obtain ⟨⟨u0, hc0⟩, hf0⟩ := hR0.cell (j := i * 2) (by omega)
   have hRA := hR0.put (w' := wr.setCell ⟨G, i * 2, none⟩ (.string { data := #[109, 97, 114, 107] })) (j := i * 2) (by omega) rfl
   have hcA : (wr.setCell ⟨G, i * 2, none⟩ (.string { data := #[109, 97, 114, 107] })).cell? ⟨G, i * 2, none⟩ = some (.string { data := #[109, 97, 114, 107] }) := World.cell?_setCell_same _ _ _ hc0
   have hfA : (wr.setCell ⟨G, i * 2, none⟩ (.string { data := #[109, 97, 114, 107] })).frozen? ⟨G, i * 2, none⟩ = false := by rw [World.frozen?_setCell]; exact hf0
   have HRA := hide hRA
   clear HRR hR0 hRA
   have hN9 := hide hN1
   go_upto_if 27 with (fail)
   generalize wr.setCell ⟨G, i * 2, none⟩ (.string { data := #[109, 97, 114, 107] }) = wA at HRA hcA hfA ⊢
   clear hc0 hf0
   go_cut [7] from 24 to 42 (fun y wx => ∃ (x d : By) (z : Nat), z ≤ 100000 ∧ y = .int .i64 z ∧ Hid (d.length = z) ∧ Hid (fl L i = (x, d)) ∧ Hid (Rmy w wx G B (.slice ro i rc) L N i) ∧ Hid (wx.cell? ⟨G, i * 2, none⟩ = some (encStr x)) ∧ Hid (z ≠ 0 → i < n ∧ ∃ b1 off bo1 bc1, ao = some ⟨b1, off, none⟩ ∧ wx.cell? ⟨b1, off + i * 2 + 1, none⟩ = some (.slice bo1 z bc1) ∧ Sl wx bo1 d))
   case first =>
    by_cases hin : i < n
    ·obtain ⟨b1, off, hao, ⟨x, d⟩, hs, e1w, bo1, bc1, e2w, s1, hzn⟩ := H1.out i (by rw [HX.out]; exact hin)
     have hdl := (HM.out _ (List.mem_of_getElem? hs)).2
     dsimp only at e1w e2w s1 hdl
     subst hao
     have hbl := World.block_lt_of_cell? _ _ e1w
     have hGw := HRA.out.g
     have hbG : b1 ≠ G := by show b1 ≠ G; have h9 : b1 < w.heap.size := hbl; omega
     have e1 := HRA.out.kept.cellOf e1w (by simp)
     have HFL : Hid (fl L i = (x, d)) := hide (fl_in hs)
     obtain ⟨z, hzd⟩ : ∃ z, d.length = z := ⟨_, rfl⟩
     have HZ := hide hzd
     rw [hzd] at hdl e2w
     have hRB := HRA.out.put (w' := wA.setCell ⟨G, i * 2, none⟩ (encStr x)) (j := i * 2) (by omega) rfl
     have HXC0 : Hid ((wA.setCell ⟨G, i * 2, none⟩ (encStr x)).cell? ⟨G, i * 2, none⟩ = some (encStr x)) := hide (World.cell?_setCell_same _ _ _ hcA)
     have e2 := hRB.kept.cellOf e2w (by simp)
     have HS1 := hide (s1.kept hRB.kept (by simp))
     have HRB := hide hRB
     clear hzd hs e1w e2w s1 hzn hRB hbl
     go_upto_region 10 with (fail)
     generalize wA.setCell ⟨G, i * 2, none⟩ (encStr x) = wB at HRB HXC0 HS1 e2 ⊢
     clear e1 hcA hfA HRA
     have HE2 := hide e2
     go_wp2
     go_meet
     case rel => exact ⟨x, d, z, hdl, rfl, HZ, HFL, HRB, HXC0, hide (fun _ => ⟨hin, b1, off, bo1, bc1, rfl, HE2.out, HS1.out⟩)⟩
    ·go_wp2
     go_meet
     case rel => exact ⟨mrk, [], 0, by omega, rfl, hide rfl, hide (fl_out (by rw [HX.out]; exact hin)), HRA, hide hcA, hide (fun h => absurd rfl h)⟩
   case rest =>
    clear HRA hcA hfA
    obtain ⟨x, d, z, hz100, rfl, HZ, HFL, HR, HXC, HDA⟩ := hcut
    obtain ⟨i5, hi5, hz50, hz51, hz52⟩ := info_parts Tryz.infoByte
    go_wp2_with (at_make; refine wpList_make_full _ rfl _ _ 24 rfl wc.heap.size 5 i5 (.int .u8 0) 1 Tryz.underlying24 hi5 hz50 hz51 .i64 .i64 ((z : Int) + 5) ((z : Int) + 5) (z + 5) rfl rfl (by omega) (by omega) ?c1 ?c2 ?c3 ?_)
    case c1 => rw [hz52]; omega
    case c2 => unfold maxLen; omega
    case c3 => exact Nat.le_refl _
    intro w3 hown hgrow
    have hk23 : Kept [] wc w3 := (Kept.refl _ _).grown hgrow (by simp)
    have HFI : Hid (Fil w3 w3 wc.heap.size d 0) := hide (made_fil (by rw [HZ.out]; exact hown) hgrow)
    have HK23 := hide hk23
    obtain ⟨bb, hbb⟩ : ∃ bb, bb = wc.heap.size := ⟨_, rfl⟩
    have hbb2 : wc.heap.size ≤ bb := by omega
    rw [← hbb] at HFI
    rw [← hbb]
    obtain ⟨zz, hzz⟩ : ∃ zz, zz = z + 5 := ⟨_, rfl⟩
    rw [← hzz]
    have hzz2 : z + 5 ≤ zz := by omega
    have hzz3 : zz ≤ z + 5 := by omega
    clear hown hgrow hk23 hbb hzz hi5 hz50 hz51 hz52
    go_wp2
    go_loopw [9] (fun i wr => ∃ k : Nat, k ≤ zz ∧ i = .int .i64 k ∧ Hid (Fil w3 wr bb d k)) (fun i wr => zz - (intOf i).toNat)
    case atStart => exact ⟨0, Nat.zero_le _, rfl, HFI⟩
    case round =>
     clear HFI
     obtain ⟨k, hk, rfl, HF⟩ := hrel
     by_cases hkm : k < zz
     ·obtain ⟨⟨u, hcg⟩, hfz⟩ := HF.out.cell (j := k) (by rw [HZ.out]; omega)
      by_cases hkz : k < z
      ·obtain ⟨hin, b1, off, bo1, bc1, hao, e2w, hsd⟩ := HDA.out (by omega)
       subst hao
       obtain ⟨b2, off2, rfl, hcd⟩ := hsd k (by rw [HZ.out]; exact hkz)
       have hA := HF.out.put (v := .int .u8 171) (by rw [HZ.out]; omega) rfl
       have hk2A : Kept [] wc (wr.setCell ⟨bb, k, none⟩ (.int .u8 171)) := HK23.out.trans hA.1.kept (fun b hb => by simp only [List.mem_singleton] at hb; subst hb; intro h; omega)
       have cA1 := hk2A.cellOf e2w (by simp)
       have cA2 := hk2A.cellOf hcd (by simp)
       obtain ⟨⟨uA, cA3⟩, fA3⟩ := hA.1.cell (j := k) (by rw [HZ.out]; omega)
       have HF2 : Hid (∀ w', w' = (wr.setCell ⟨bb, k, none⟩ (.int .u8 171)).setCell ⟨bb, k, none⟩ (.int .u8 (d.getD k 0).toNat) → Fil w3 w' bb d (k + 1)) := hide (fun w' hw' => (hA.1.put (v := .int .u8 (d.getD k 0).toNat) (by rw [HZ.out]; omega) hw').2 (by rw [rmD_lo (by rw [HZ.out]; exact hkz)]))
       clear HF hA hk2A hcd e2w hsd
       go_upto_region 17 with (fail)
       generalize wr.setCell ⟨bb, k, none⟩ (.int .u8 171) = wA at cA1 cA2 cA3 fA3 HF2 ⊢
       clear hcg hfz
       go_wp2
       go_roundw
       case rel => exact ⟨k + 1, by omega, by go_num, hide (HF2.out _ rfl)⟩
       case measure => simp [intOf]; omega
      ·have HF2 : Hid (Fil w3 (wr.setCell ⟨bb, k, none⟩ (.int .u8 171)) bb d (k + 1)) := hide ((HF.out.put (v := .int .u8 171) (by rw [HZ.out]; omega) rfl).2 (by rw [rmD_hi (by rw [HZ.out]; omega) (by rw [HZ.out]; omega)]; rfl))
       have hkz : ¬ (k : Int) < (z : Int) := by omega
       clear HF
       go_wp2
       go_roundw
       case rel => exact ⟨k + 1, by omega, by go_num, HF2⟩
       case measure => simp [intOf]; omega
     ·have HF5 : Hid (Fil w3 wr bb d (d.length + 5)) := hide (by rw [HZ.out]; rw [show z + 5 = k by omega]; exact HF.out)
      have hk25 : Kept [] wc wr := HK23.out.trans HF5.out.kept (fun b hb => by simp only [List.mem_singleton] at hb; subst hb; intro h; omega)
      have hst := fun w6 rv' w4 hw4 hr hK hn => HR.out.step (w3 := wr) (bb := bb) (x := x) (d := d) (w4 := w4) (w5 := w6) (rv' := rv') hiN HFL.out hk25 HF5.out.done hbb2 HXC.out hw4 hr hK hn
      have hput := fun w4 hw4 => (HR.out.keeps hk25).put (w' := w4) (j := i * 2 + 1) (v := .slice (some ⟨bb, 0, none⟩) d.length (d.length + 5)) (by omega) hw4
      have hzz : z + 5 = zz := by omega
      rw [HZ.out, hzz] at hput hst
      obtain ⟨⟨u, hcd⟩, hfd⟩ := (HR.out.keeps hk25).cell (j := i * 2 + 1) (by omega)
      obtain ⟨w4, hw4⟩ : ∃ x, x = wr.setCell ⟨G, i * 2 + 1, none⟩ (.slice (some ⟨bb, 0, none⟩) z zz) := ⟨_, rfl⟩
      have hrs := (hput w4 hw4).rows
      obtain ⟨g, c', w6, e1, e2, e3, e4, _⟩ := run_app (P := Tryz.prog) w4 28 28 24 Tryz.underlying28 Tryz.infoRow5 rfl (by decide) _ i _ hrs [rsl bb zz] rfl (fun z hz => by simp only [List.mem_singleton] at hz; rw [hz]; rfl) (by unfold maxLen; omega) (by omega)
      have HS6 : Hid (∃ B, Rmy w w6 G B (.slice (some ⟨g, 0, none⟩) (i + 1) c') L N (i + 1)) := hide ⟨_, hst w6 _ w4 hw4 e2 e3 (fun g' hg' => by cases hg'; rcases e4 with e | e; exact .inl e.symm; exact .inr e)⟩
      have HW4 := hide hw4
      unfold rsl at e1
      clear hst hput hrs e2 e3 e4 HXC HK23 HR hk25 hbb2 HF HF5 hw4 HDA HFL hzz
      go_upto_region 19 with (fail)
      rw [← HW4.out]
      clear HW4 hcd hfd
      go_wp2_with (at_builtin; refine wpList_app_run rfl _ _ 28 28 rfl _ _ rfl rfl _ _ e1 ?_)
      go_roundw
      case rel => exact ⟨i + 1, by omega, by go_num, ⟨_, rfl, HS6⟩⟩
      case measure => simp [intOf]; omega
  ·obtain rfl : i = N := by omega
   obtain ⟨B, hR⟩ := HRR.out
   have HR := hide hR
   clear HRR hR
   go_wp2
   go_ret2
   obtain rfl : i = n + 5 := by omega
   exact ⟨G, _, B, rfl, HR.out⟩
end Go.Proofs.YteckiednnaianaaGreat
