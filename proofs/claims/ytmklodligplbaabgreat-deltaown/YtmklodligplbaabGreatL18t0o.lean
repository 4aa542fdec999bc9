import Derived.Test.YtmklodligplbaabGreatL18so
import Derived.ProofKit
import Derived.OpenShut
import Derived.Deep.Slices
import Derived.Lib.SmallJoins
open Go.RowKit
set_option linter.unusedVariables false
set_option linter.unusedSimpArgs false
set_option maxRecDepth 100000
set_option maxHeartbeats 0
namespace Go.Proofs.YtmklodligplbaabGreat
section
open Dlt
def z32 : List UInt8 := List.replicate 32 0
theorem z32_len : z32.length = 32 := by simp [z32]
def zeroD : Array Value := (dltC 0 0 0 0 z32 z32 (.slice none 0 0)).toArray
theorem Tryz.zeroDlt (W : World) : (zeroValue 34).run Tryz.prog W = .ok (.agg zeroD) W := by kernel_rfl
theorem Tryz.builtDltZ (W : World) : (Instr.build 34 #[]).run Tryz.prog W = .ok (.agg zeroD) W := by kernel_rfl
theorem Tryz.infoDltS : (Tryz.prog.info? 34).map (·.size) = some 69 := by kernel_rfl
theorem dltC_len {W Z L N : Int} {bid tid : List UInt8} {v : Value} (hb : bid.length = 32) (ht : tid.length = 32) : (dltC W Z L N bid tid v).length = 69 := by simp [dltC, bys_length, hb, ht]
theorem Tryz.infoDlt {W Z L N : Int} {bid tid : List UInt8} {v : Value} (hb : bid.length = 32) (ht : tid.length = 32) : (Tryz.prog.info? 34).map (·.size) = some (dltC W Z L N bid tid v).length := by rw [dltC_len hb ht]; exact Tryz.infoDltS
theorem dltC_size {W Z L N : Int} {bid tid : List UInt8} {v : Value} (hb : bid.length = 32) (ht : tid.length = 32) : (dltC W Z L N bid tid v).toArray.size = 69 := by rw [List.size_toArray, dltC_len hb ht]
theorem Tryz.infoDltA {W Z L N : Int} {bid tid : List UInt8} {v : Value} (hb : bid.length = 32) (ht : tid.length = 32) : (Tryz.prog.info? 34).map (·.size) = some (dltC W Z L N bid tid v).toArray.size := by rw [dltC_size hb ht]; exact Tryz.infoDltS
theorem dltC_one {W Z L N : Int} {bid tid : List UInt8} {v : Value} (hv : v.oneCell' = true) : (dltC W Z L N bid tid v).toArray.all (·.oneCell') = true := by
 refine Array.all_eq_true_iff_forall_mem.2 fun u hu => ?_
 simp only [dltC, List.mem_toArray, List.mem_cons, List.mem_append, List.not_mem_nil, or_false] at hu
 rcases hu with rfl | rfl | rfl | rfl | hu | hu | rfl
 ·rfl
 ·rfl
 ·rfl
 ·rfl
 ·exact bys_oneCell _ u hu
 ·exact bys_oneCell _ u hu
 ·exact hv
structure DltAt (w : World) (D : Nat) (W Z L N : Int) (bid tid : List UInt8) (v : Value) : Prop where
 row : w.heap[D]? = some (.cells (dltC W Z L N bid tid v).toArray 34 (0, 0))
 hb : bid.length = 32
 ht : tid.length = 32
theorem DltAt.kept {l : List Nat} {w w' : World} {D : Nat} {W Z L N : Int} {bid tid : List UInt8} {v : Value} (h : DltAt w D W Z L N bid tid v) (hk : Kept l w w') (hn : D ∉ l) : DltAt w' D W Z L N bid tid v := ⟨(hk.block D (heap_lt h.row) hn).trans h.row, h.hb, h.ht⟩
theorem DltAt.c {w : World} {D : Nat} {W Z L N : Int} {bid tid : List UInt8} {v : Value} (h : DltAt w D W Z L N bid tid v) {j : Nat} {u : Value} (hu : (dltC W Z L N bid tid v)[j]? = some u) : w.cell? ⟨D, j, none⟩ = some u := by
 rw [cell_of_row _ _ _ _ _ _ h.row, List.getElem?_toArray]; exact hu
theorem DltAt.fr {w : World} {D : Nat} {W Z L N : Int} {bid tid : List UInt8} {v : Value} (h : DltAt w D W Z L N bid tid v) (i : Nat) : w.frozen? ⟨D, i, none⟩ = false := frozen_of_row _ _ _ _ _ h.row
theorem DltAt.range {w : World} {D : Nat} {W Z L N : Int} {bid tid : List UInt8} {v : Value} (h : DltAt w D W Z L N bid tid v) : w.rangeAt D 0 (dltC W Z L N bid tid v) := range_row h.row
theorem DltAt.cv {w : World} {D : Nat} {W Z L N : Int} {bid tid : List UInt8} {v : Value} (h : DltAt w D W Z L N bid tid v) : w.cell? ⟨D, 68, none⟩ = some v := by
 refine h.c ?_
 unfold dltC
 rw [show 68 = 64 + 1 + 1 + 1 + 1 by omega, List.getElem?_cons_succ, List.getElem?_cons_succ, List.getElem?_cons_succ, List.getElem?_cons_succ, List.getElem?_append_right (by rw [bys_length, h.hb]; omega), bys_length, h.hb, List.getElem?_append_right (by rw [bys_length, h.ht]; omega), bys_length, h.ht]
 rfl
theorem DltAt.sb {w : World} {D : Nat} {W Z L N : Int} {bid tid : List UInt8} {v : Value} (h : DltAt w D W Z L N bid tid v) : w.rangeAt D 4 (bys bid) := fun j u hu => by
 refine h.c ?_
 unfold dltC
 rw [show 4 + j = j + 1 + 1 + 1 + 1 by omega, List.getElem?_cons_succ, List.getElem?_cons_succ, List.getElem?_cons_succ, List.getElem?_cons_succ, List.getElem?_append_left (List.getElem?_eq_some_iff.1 hu).1]
 exact hu
theorem DltAt.st {w : World} {D : Nat} {W Z L N : Int} {bid tid : List UInt8} {v : Value} (h : DltAt w D W Z L N bid tid v) : w.rangeAt D 36 (bys tid) := fun j u hu => by
 refine h.c ?_
 unfold dltC
 rw [show 36 + j = (32 + j) + 1 + 1 + 1 + 1 by omega, List.getElem?_cons_succ, List.getElem?_cons_succ, List.getElem?_cons_succ, List.getElem?_cons_succ, List.getElem?_append_right (by rw [bys_length, h.hb]; omega), bys_length, h.hb, show 32 + j - 32 = j by omega, List.getElem?_append_left (List.getElem?_eq_some_iff.1 hu).1]
 exact hu
theorem DltAt.setI {w : World} {D : Nat} {W Z L N : Int} {bid tid : List UInt8} {v : Value} (h : DltAt w D W Z L N bid tid v) (i : Nat) (x : Int) (W' Z' L' N' : Int) (he : (dltC W Z L N bid tid v).set i (.int .i64 x) = dltC W' Z' L' N' bid tid v) : DltAt (w.setCell ⟨D, i, none⟩ (.int .i64 x)) D W' Z' L' N' bid tid v := by
 refine ⟨?_, h.hb, h.ht⟩
 rw [heap_setCell_same _ _ _ _ _ _ h.row, List.setIfInBounds_toArray, he]
theorem DltAt.setV {w : World} {D : Nat} {W Z L N : Int} {bid tid : List UInt8} {v : Value} (h : DltAt w D W Z L N bid tid v) (u : Value) : DltAt (w.setCell ⟨D, 68, none⟩ u) D W Z L N bid tid u := by
 refine ⟨?_, h.hb, h.ht⟩
 rw [heap_setCell_same _ _ _ _ _ _ h.row, List.setIfInBounds_toArray]
 congr 3
 unfold dltC
 rw [List.set_cons_succ, List.set_cons_succ, List.set_cons_succ, List.set_cons_succ, List.set_append_right _ _ (by rw [bys_length, h.hb]; omega), bys_length, h.hb, List.set_append_right _ _ (by rw [bys_length, h.ht]; omega), bys_length, h.ht]
 rfl
theorem DltAt.there {w : World} {D : Nat} {W Z L N : Int} {bid tid : List UInt8} {v : Value} (h : DltAt w D W Z L N bid tid v) (o m : Nat) (ho : o + m <= 69) : w.there D o m := there_row h.row _ _ (by rw [dltC_size h.hb h.ht]; exact ho)
theorem DltAt.setB {w : World} {D : Nat} {W Z L N : Int} {bid tid : List UInt8} {v : Value} (h : DltAt w D W Z L N bid tid v) (id : List UInt8) (hl : id.length = 32) : DltAt (w.setCells D 4 (bys id)) D W Z L N id tid v := by
 refine ⟨?_, hl, h.ht⟩
 have hb := h.hb
 rw [setCells_row _ _ _ _ _ _ h.row (by rw [bys_length, hl, dltC_len h.hb h.ht]; omega), setRow_heap _ _ _ _ _ _ h.row, bys_length, hl]
 congr 3
 unfold dltC
 show [Value.int .i64 W, .int .i64 Z, .int .i64 L, .int .i64 N] ++ (bys id ++ (bys bid ++ (bys tid ++ [v])).drop 32) = _
 rw [List.drop_append, List.drop_of_length_le (by rw [bys_length, hb]; exact Nat.le_refl _), bys_length, hb]
 rfl
theorem DltAt.setT {w : World} {D : Nat} {W Z L N : Int} {bid tid : List UInt8} {v : Value} (h : DltAt w D W Z L N bid tid v) (id : List UInt8) (hl : id.length = 32) : DltAt (w.setCells D 36 (bys id)) D W Z L N bid id v := by
 refine ⟨?_, h.hb, hl⟩
 have hb := h.hb
 have ht := h.ht
 rw [setCells_row _ _ _ _ _ _ h.row (by rw [bys_length, hl, dltC_len h.hb h.ht]; omega), setRow_heap _ _ _ _ _ _ h.row, bys_length, hl]
 congr 3
 have l1 : ([Value.int .i64 W, Value.int .i64 Z, Value.int .i64 L, Value.int .i64 N] ++ bys bid).length = 36 := by rw [List.length_append, bys_length, hb]; rfl
 have e1 : dltC W Z L N bid tid v = ([Value.int .i64 W, Value.int .i64 Z, Value.int .i64 L, Value.int .i64 N] ++ bys bid) ++ (bys tid ++ [v]) := by simp [dltC]
 have e2 : dltC W Z L N bid id v = ([Value.int .i64 W, Value.int .i64 Z, Value.int .i64 L, Value.int .i64 N] ++ bys bid) ++ (bys id ++ [v]) := by simp [dltC]
 rw [e1, e2, List.take_append_of_le_length (by omega), List.take_of_length_le (by omega), List.drop_append, List.drop_of_length_le (by omega), List.nil_append, l1, show 36 + 32 - 36 = 32 by omega, List.drop_append, List.drop_of_length_le (by rw [bys_length, ht]; omega), List.nil_append, bys_length, ht]
 simp
structure Rst (w wr : World) (b R D : Nat) (W Z L N : Int) (bid tid : List UInt8) (v : Value) : Prop where
 kept : Kept [] w wr
 rAt : wr.heap[R]? = some (.cells zeroD 34 (0, 0))
 dAt : DltAt wr D W Z L N bid tid v
 ps : w.heap.size = R ∧ R < b ∧ b < D
theorem Rst.move {l : List Nat} {w wr w' : World} {b R D : Nat} {W Z L N : Int} {bid tid : List UInt8} {v : Value} (h : Rst w wr b R D W Z L N bid tid v) (hk : Kept l wr w') (hl : ∀ i, i ∈ l -> R < i ∧ i ≠ D) : Rst w w' b R D W Z L N bid tid v := by
 have := h.ps
 refine ⟨h.kept.trans hk (fun i hi hlt => by have := hl i hi; omega), (hk.block R (heap_lt h.rAt) (fun hm => by have := hl R hm; omega)).trans h.rAt, h.dAt.kept hk (fun hm => (hl D hm).2 rfl), h.ps⟩
theorem Rst.call {w wr w' : World} {b R D : Nat} {W Z L N : Int} {bid tid : List UInt8} {v : Value} (h : Rst w wr b R D W Z L N bid tid v) (hk : Kept [b] wr w') : Rst w w' b R D W Z L N bid tid v :=
 h.move hk (fun i hi => by simp only [List.mem_singleton] at hi; have := h.ps; omega)
theorem Rst.put {w wr w' : World} {b R D : Nat} {W Z L N W' Z' L' N' : Int} {bid tid bid' tid' : List UInt8} {v v' : Value} (h : Rst w wr b R D W Z L N bid tid v) (hk : Kept [D] wr w') (hd : DltAt w' D W' Z' L' N' bid' tid' v') : Rst w w' b R D W' Z' L' N' bid' tid' v' := by
 have := h.ps
 exact ⟨h.kept.trans hk (fun i hi hlt => by simp only [List.mem_singleton] at hi; omega), (hk.block R (heap_lt h.rAt) (by simp; omega)).trans h.rAt, hd, h.ps⟩
def ReadE (w w' : World) (e : Ending) : Option Dta -> Prop
 | none => ∃ W Z L N bid tid v, bid.length = 32 ∧ tid.length = 32 ∧ v.oneCell' = true ∧ e = .returned (.tuple #[.agg (dltC W Z L N bid tid v).toArray, .bool false])
 | some d => ∃ T lo lc, T.map Stc.s = d.steps ∧ StepsAt w.heap.size w' (.slice lo d.steps.length lc) T ∧ e = .returned (.tuple #[.agg (dltC (d.width : Nat) (d.size : Nat) (d.blen : Nat) (d.tlen : Nat) d.bid d.tid (.slice lo d.steps.length lc)).toArray, .bool true])
theorem ReadE.zero (w w' : World) {o : Option Dta} (h : o = none) : ReadE w w' (.returned (.tuple #[.agg zeroD, .bool false])) o := by
 subst h
 exact ⟨0, 0, 0, 0, z32, z32, .slice none 0 0, z32_len, z32_len, rfl, rfl⟩
theorem Tryz.builtS1 (f c : Int) (ao : Option Addr) (n cap : Nat) (W : World) : (Instr.buildSlice 32 1 #[(0, .agg (stp3 f c (.slice ao n cap)).toArray)]).run Tryz.prog W = .ok (.slice (some ⟨W.heap.size, 0, none⟩) 1 1) (W.alloc (.cells (stp3 f c (.slice ao n cap)).toArray 39)) := by kernel_rfl
theorem rdI_e {xs : List UInt8} {n : Nat} {s : Rs} {q : Stp × Rs} (h : rdI xs n s = some q) : q.2.e = 0 := by
 unfold rdI at h
 split at h
 ·split at h; · cases h
  split at h; · cases h
  rename_i h1 h2
  injection h with h
  subst h
  rw [Bool.not_eq_false, Dlt.within_iff] at h2
  exact num_e (by omega)
 ·split at h
  ·split at h; · cases h
   rename_i h1
   injection h with h
   subst h
   exact text_e h1
  ·cases h
theorem rdIs_e {xs : List UInt8} {n : Nat} {s : Rs} (h0 : s.e = 0) : ∀ {k : Nat} {p : List Stp × Rs}, rdIs xs n s k = some p -> p.2.e = 0
 | 0, p, h => by cases h; exact h0
 | k + 1, p, h => by
  simp only [rdIs] at h
  cases hq : rdIs xs n s k with
  | none => rw [hq] at h; cases h
  | some r =>
   rw [hq, Option.bind_some] at h
   cases hi : rdI xs n r.2 with
   | none => rw [hi] at h; cases h
   | some t =>
    rw [hi] at h
    cases h
    exact rdI_e hi
end

section
open Dlt
theorem Pure.enc_inj (a b : Nat) (xs ys : List UInt8) (h : Pure.enc a ++ xs = Pure.enc b ++ ys) : a = b ∧ xs = ys := by
 induction a using Nat.strongRecOn generalizing b with
 | ind a ih =>
  have hof : ∀ x y : Nat, x < 256 -> y < 256 -> UInt8.ofNat x = UInt8.ofNat y -> x = y := fun x y hx hy e => by
   have := congrArg UInt8.toNat e
   rw [UInt8.toNat_ofNat_of_lt' (by simpa [UInt8.size] using hx), UInt8.toNat_ofNat_of_lt' (by simpa [UInt8.size] using hy)] at this
   exact this
  by_cases ha : a < 128
  ·by_cases hb : b < 128
   ·rw [Pure.enc_small ha, Pure.enc_small hb] at h
    simp only [List.cons_append, List.nil_append, List.cons.injEq] at h
    exact ⟨hof a b (by omega) (by omega) h.1, h.2⟩
   ·rw [Pure.enc_small ha, Pure.enc_more hb] at h
    simp only [List.cons_append, List.nil_append, List.cons.injEq] at h
    have := hof a (b % 128 + 128) (by omega) (by omega) h.1
    omega
  ·by_cases hb : b < 128
   ·rw [Pure.enc_more ha, Pure.enc_small hb] at h
    simp only [List.cons_append, List.nil_append, List.cons.injEq] at h
    have := hof (a % 128 + 128) b (by omega) (by omega) h.1
    omega
   ·rw [Pure.enc_more ha, Pure.enc_more hb] at h
    simp only [List.cons_append, List.cons.injEq] at h
    have h1 := hof (a % 128 + 128) (b % 128 + 128) (by omega) (by omega) h.1
    obtain ⟨h2, h3⟩ := ih (a / 128) (by omega) (b / 128) h.2
    exact ⟨by omega, h3⟩
namespace Dlt
theorem sealed_inj {xs ys : List UInt8} (h : sealed xs = sealed ys) : xs = ys := by
 have hl : xs.length = ys.length := by
  have := congrArg List.length h
  rw [sealed_len, sealed_len] at this
  omega
 unfold sealed at h
 exact (List.append_inj h hl).1
theorem id_same {W : Nat} {a b : List UInt8} (ha : a.length = 32) (hb : b.length = 32) (h : a.take W = b.take W) (na : nought W a = true) (nb : nought W b = true) : a = b := by
 rw [<-List.take_append_drop W a, <-List.take_append_drop W b, h]
 congr 1
 unfold nought at na nb
 apply List.ext_getElem
 ·rw [List.length_drop, List.length_drop, ha, hb]
 ·intro i h1 h2
  have e1 := (List.all_eq_true.1 na) _ (List.getElem_mem h1)
  have e2 := (List.all_eq_true.1 nb) _ (List.getElem_mem h2)
  simp only [beq_iff_eq] at e1 e2
  rw [e1, e2]
theorem decD_written {W Z N M : Nat} {bid tid : List UInt8} {T : List Tr} {d : Dta} (hb : bid.length = 32) (ht : tid.length = 32) (hW : W <= 32) (h : decD (writtenB W Z N bid M tid T) = some d) (nt : nought W tid = true) : d.width = W ∧ d.tlen = M ∧ d.tid = tid := by
 obtain ⟨hok, he, _⟩ := decD_some h
 unfold writtenB encD at he
 have h1 := sealed_inj he
 unfold bodyD headD at h1
 rw [show Pure.fix 68 1 = [68] from rfl] at h1
 simp only [List.append_assoc, List.cons_append, List.nil_append, List.cons.injEq, true_and] at h1
 obtain ⟨e1, h2⟩ := Pure.enc_inj _ _ _ _ h1
 obtain ⟨e2, h3⟩ := Pure.enc_inj _ _ _ _ h2
 obtain ⟨e3, h4⟩ := Pure.enc_inj _ _ _ _ h3
 subst e1
 obtain ⟨e4, h5⟩ := List.append_inj h4 (by rw [List.length_take, List.length_take, hb, d.hb])
 obtain ⟨e5, h6⟩ := Pure.enc_inj _ _ _ _ h5
 obtain ⟨e6, _⟩ := List.append_inj h6 (by rw [List.length_take, List.length_take, ht, d.ht])
 exact ⟨rfl, e5.symm, (id_same ht d.ht e6 nt hok.nt).symm⟩
theorem own_done {W Z N M : Nat} {bid tid : List UInt8} {T : List Tr} {bs : List UInt8} (hb : bid.length = 32) (ht : tid.length = 32) (hW : W <= 32) (nt : nought W tid = true) (h : applyE bs (writtenB W Z N bid M tid T) = 0) : (applyB bs (writtenB W Z N bid M tid T)).length = M ∧ Sha.ident (W : Int) (applyB bs (writtenB W Z N bid M tid T)) = tid := by
 have hB : applyB bs (writtenB W Z N bid M tid T) = match decD (writtenB W Z N bid M tid T) with | none => [] | some d => doIs d.size bs d.steps := by
  unfold applyB
  rw [if_pos h]
  rfl
 rw [hB]
 unfold applyE at h
 split at h
 ·cases h
 ·cases hd : decD (writtenB W Z N bid M tid T) with
  | none => rw [hd] at h; cases h
  | some d =>
   rw [hd] at h
   obtain ⟨e1, e2, e3⟩ := decD_written hb ht hW hd nt
   have hok := (decD_some hd).1
   simp only at h ⊢
   split at h
   ·rename_i hbb
    split at h
    ·rename_i htt
     refine ⟨?_, ?_⟩
     ·rw [doIs_len (by rw [hbb.1]; exact hok.ins), hok.sum, e2]
     ·rw [<-e1, htt, e3]
    ·cases h
   ·cases h
theorem ident_nought (W : Nat) (xs : List UInt8) : nought W (Sha.ident (W : Int) xs) = true := by
 have := nought_ident (W : Int) xs
 rwa [Int.toNat_natCast] at this
theorem zero_nought (W : Nat) : nought W z32 = true := by
 unfold nought z32
 rw [List.all_eq_true]
 intro x hx
 have := List.mem_of_mem_drop hx
 simp at this
 simp [this]
end Dlt
end

section
open Go.ChangeShapes Go.WideShapes Go.ChangeAt Go.RowKit Go.Deep Go.Joins
structure InB (w : World) (ao : Option Addr) (n cap : Nat) (xs : List UInt8) : Prop where
 len : xs.length = n
 le : n <= cap
 max : cap <= 140737488351232
 sl : Sl w ao xs
 nil : ao = none -> xs = [] ∧ cap = 0
 spot : n ≠ 0 -> ∀ a, ao = some a -> a.spot = none
theorem inb_of_ints {w : World} {a : Addr} {len cap : Nat} {zs : List Int} (hl : len <= cap) (hm : cap <= 140737488351232) (hz : zs.length = cap) (hcell : ∀ i, i < zs.length -> w.cell? (a.add i) = some (.int .u8 (zs.getD i 0))) (hwz : ∀ n ∈ zs, (Lit.int .u8 n).wf = true) :
  ∃ xs, InB w (some a) len cap xs := by
 obtain ⟨b, off, spot⟩ := a
 have hsp : len ≠ 0 -> spot = none := fun h => by simpa [Addr.add] using World.cell?_spot (hcell 0 (by omega))
 refine ⟨(zs.take len).map (fun z => UInt8.ofNat z.toNat), by simp; omega, hl, by omega, ?_, by simp, fun h a ha => by cases ha; exact hsp h⟩
 intro i hi
 have hi' : i < len := by simp at hi; omega
 have hc := hcell i (by omega)
 obtain rfl := hsp (by omega)
 refine ⟨b, off, rfl, ?_⟩
 rw [Addr.add_mid] at hc
 rw [hc]
 have hzi : i < zs.length := by omega
 have hb := bounds_u8 (hwz (zs.getD i 0) (by simp [List.getElem?_eq_getElem hzi]))
 have e : ((zs.take len).map (fun z => UInt8.ofNat z.toNat)).getD i 0 = UInt8.ofNat (zs.getD i 0).toNat := by
  simp [List.getElem?_eq_getElem hzi, hi']
 rw [e, UInt8.toNat_ofNat', Nat.mod_eq_of_lt (by omega)]
 congr 2
 omega
section
variable {H : Type} {enc : TypeId × Value -> H} {w : World}
theorem open_bytes {fuel : Nat} {v : Value} {x : DataW H × List MemPlace} (h : DataW.trod enc Tryz.prog w 0 (fun _ => true) true fuel 27 [v] = some x) (hw : ∀ n ∈ x.1.weights Tryz.prog 27, n <= reachBytes) :
  ∃ ao n cap xs, v = .slice ao n cap ∧ InB w ao n cap xs := by
 rcases open_ints Tryz.underlying27 Tryz.underlying5 (by kernel_rfl) h with ⟨hcs, _⟩ | ⟨a, l, c, zs, hcs, _, hl, hm, hz, hx, hcell, hwz⟩
 ·cases hcs
  exact ⟨none, 0, 0, [], rfl, rfl, Nat.le_refl _, by omega, Sl.nil _ _, fun _ => ⟨rfl, rfl⟩, by simp⟩
 ·cases hcs
  have hb1 : Tryz.prog.bytesOf 5 = 1 := by kernel_rfl
  have hz' : zs.length = c := by simpa using hz
  have hsz : c <= 140737488351232 := by
   have := hw ((zs.take l).length + (zs.drop l).length) (by
    rw [hx]
    simp only [DataW.weights, Tryz.underlying27, hb1, Nat.mul_one, lits, List.length_map, List.mem_cons, true_or])
   have hr : reachBytes = 140737488351232 := rfl
   rw [hr] at this
   simp at this
   omega
  obtain ⟨xs, h⟩ := inb_of_ints hl hsz hz' hcell hwz
  exact ⟨some a, l, c, xs, rfl, h⟩
end
end

section
open Dlt
theorem InB.in8 {w : World} {ao : Option Addr} {n cap : Nat} {xs : List UInt8} (h : InB w ao n cap xs) : InB8 w ao n cap xs := ⟨h.len, h.le, by have := h.le; have := h.max; omega, h.sl, h.nil⟩
theorem TellS.open {w w' : World} {e : Ending} {c : Int} {s : Sig} (h : TellS w w' e c s) : ∃ so sc, e = .returned (.tuple #[.agg (s.cells (.slice so s.blocks.length sc)).toArray, .int .i64 c]) ∧ SigIn w' s so s.blocks.length sc ∧ (s.blocks ≠ [] -> ∀ a, so = some a -> w.heap.size <= a.block) := by
 obtain ⟨v, rfl, ho⟩ := h
 obtain ⟨so, sc, rfl, hsc, hwk, hb, hm⟩ := OwnW.wks ho
 refine ⟨so, sc, rfl, ⟨rfl, hsc, hm, hwk⟩, fun _ a ha => ?_⟩
 obtain ⟨g, rfl, hg, _⟩ := hb a ha
 exact hg
theorem SigIn.row {w : World} {s : Sig} {so : Option Addr} {n sc O : Nat} {cs : Array Value} (h : SigIn w s so n sc) (hO : s.blocks ≠ [] -> ∀ a, so = some a -> a.block ≠ O) : SigIn (w.setRow O cs) s so n sc := ⟨h.len, h.le, h.max, h.at_.kept (kept_row w O cs) (fun hn a ha => by simpa using hO hn a ha)⟩
end

section
open Go.ChangeShapes Go.WideShapes Go.ChangeAt Go.RowKit Go.Deep Go.Joins
open Dlt
theorem weights_allS {H : Type} {P : Program} {e : TypeId} {l : List (DataW H)} {d : DataW H} (h : d ∈ l) {n : Nat} (hn : n ∈ d.weights P e) : n ∈ DataW.weightsAll P e l := by
 induction l with
 | nil => simp at h
 | cons x l ih =>
  simp only [DataW.weightsAll, List.mem_append]
  simp only [List.mem_cons] at h
  rcases h with rfl | h
  ·exact .inl hn
  ·exact .inr (ih h)
theorem open_structsS {H : Type} {enc : TypeId × Value -> H} {w : World} {α : Type} [Inhabited α] (t e : TypeId) (sz : Nat) (ht : Tryz.prog.underlying t = some (.slice e)) (hcl : Tryz.prog.cellsOf e = sz) (h0 : 0 < sz) (cells : α -> List Value) (hlen : ∀ a, (cells a).length = sz) (OK : α -> Prop)
  (op : ∀ (n : Nat) (cs : List Value) (x : DataW H × List MemPlace), DataW.trod enc Tryz.prog w 0 (fun _ => true) true n e cs = some x -> (∀ n ∈ x.1.weights Tryz.prog e, n <= reachBytes) -> ∃ s, cs = cells s ∧ OK s)
  {fuel : Nat} {v : Value} {x : DataW H × List MemPlace} (h : DataW.trod enc Tryz.prog w 0 (fun _ => true) true fuel t [v] = some x) (hw : ∀ n ∈ x.1.weights Tryz.prog t, n <= reachBytes) :
  ∃ (ao : Option Addr) (n cap : Nat) (L : List α), v = .slice ao n cap ∧ L.length = n ∧ (∀ i, i < L.length -> ∃ b off, ao = some ⟨b, off, none⟩ ∧ (∀ j v, (cells (L.getD i default))[j]? = some v -> w.cell? ⟨b, off + i * sz + j, none⟩ = some v) ∧ OK (L.getD i default)) ∧ n <= cap ∧ cap <= 9223372036854775807 := by
 rcases open_slice ht h with ⟨hcs, _⟩ | ⟨a, len, cap, m, n, D, Pl, hcs, _, hl, hm, hmm, hxx, hx⟩
 ·cases hcs
  exact ⟨none, 0, 0, [], rfl, rfl, fun i hi => by simp at hi, by omega, by omega⟩
 ·cases hcs
  simp only [if_true] at hmm
  subst hmm
  rw [hcl] at hx
  unfold maxLen at hm
  obtain ⟨b, off, spot⟩ := a
  have hwD : ∀ i, i < len -> ∀ n ∈ (D i).weights Tryz.prog e, n <= reachBytes := by
   intro i hi n hn
   refine hw n ?_
   rw [hxx]
   simp only [DataW.weights, ht, List.mem_cons, List.mem_append]
   exact .inr (.inl (weights_allS (List.mem_map_of_mem (List.mem_range.2 hi)) hn))
  have hel : ∀ i, i < len -> ∃ c : α, spot = none ∧ (∀ j v, (cells c)[j]? = some v -> w.cell? ⟨b, off + i * sz + j, none⟩ = some v) ∧ OK c := by
   intro i hi
   obtain ⟨cs', h1, h2⟩ := hx i (by omega)
   obtain ⟨s, rfl, hin⟩ := op _ _ _ h2 (hwD i hi)
   obtain ⟨_, _, h3⟩ := World.cells?_some h1
   have hsp : spot = none := by
    obtain ⟨cs0, g1, g2⟩ := hx 0 (by omega)
    obtain ⟨s0, rfl, _⟩ := op _ _ _ g2 (hwD 0 (by omega))
    obtain ⟨_, _, g3⟩ := World.cells?_some g1
    have h5 := g3 0 h0
    rw [show (((⟨b, off, spot⟩ : Addr).add (0 * sz)).add 0) = ⟨b, off, spot⟩ by simp [Addr.add]] at h5
    obtain ⟨u, hu⟩ : ∃ u, (cells s0)[0]? = some u := ⟨_, List.getElem?_eq_getElem (by rw [hlen]; exact h0)⟩
    rw [hu] at h5
    exact World.cell?_spot (a := ⟨b, off, spot⟩) h5
   subst hsp
   refine ⟨s, rfl, fun j v hv => ?_, hin⟩
   have hj : j < sz := by have := (List.getElem?_eq_some_iff.1 hv).1; rw [hlen] at this; exact this
   have g := h3 j hj
   rw [Addr.add_mid, Addr.add_mid] at g
   rw [g]
   exact hv
  obtain ⟨f, hf⟩ := choose_lt (α := α) hel
  refine ⟨_, len, _, (List.range len).map f, rfl, by simp, fun i hi => ?_, by omega, by omega⟩
  have hi' : i < len := by simpa using hi
  obtain ⟨hsp, hc, hin⟩ := hf i hi'
  subst hsp
  have e : ((List.range len).map f).getD i default = f i := by simp [hi']
  rw [e]
  exact ⟨b, off, rfl, hc, hin⟩
structure Ta where
 f : Int
 c : Int
 ao : Option Addr
 n : Nat
 cap : Nat
 bs : List UInt8
def ta0 : Ta := ⟨0, 0, none, 0, 0, []⟩
instance : Inhabited Ta := ⟨ta0⟩
def Ta.cells (x : Ta) : List Value := stp3 x.f x.c (.slice x.ao x.n x.cap)
structure TaIn (w : World) (x : Ta) : Prop where
 inb : InB w x.ao x.n x.cap x.bs
 wf : (Lit.int .i64 x.f).wf = true
 wc : (Lit.int .i64 x.c).wf = true
def TasAt (w : World) (lo : Option Addr) (L : List Ta) : Prop := ∀ i x, L[i]? = some x -> (∃ b off, lo = some ⟨b, off, none⟩ ∧ w.rangeAt b (off + i * 3) x.cells) ∧ TaIn w x
section
variable {H : Type} {enc : TypeId × Value -> H} {w : World}
theorem open_step18 {n : Nat} {cs : List Value} {x : DataW H × List MemPlace} (h : DataW.trod enc Tryz.prog w 0 (fun _ => true) true n 39 cs = some x) (hw : ∀ n ∈ x.1.weights Tryz.prog 39, n <= reachBytes) : ∃ s : Ta, cs = s.cells ∧ TaIn w s := by
 obtain ⟨xs, m, rfl, hx, hl, hlen, hf⟩ := DataW.trod_struct Tryz.underlying39 h
 have hcl : Tryz.prog.cellsOf 39 = 3 := by kernel_rfl
 have hci : Tryz.prog.cellsOf 3 = 1 := by kernel_rfl
 have hcd : Tryz.prog.cellsOf 27 = 1 := by kernel_rfl
 rw [hcl] at hl
 match cs, hl with
 | [a0, a1, a2], _ =>
 match xs, hlen with
 | [y0, y1, y2], _ =>
  have h0 := hf 0 _ rfl
  have h1 := hf 1 _ rfl
  have h2 := hf 2 _ rfl
  simp only [hci, hcd, List.drop_zero, List.drop_succ_cons, List.take_succ_cons, List.take_zero, List.getElem?_cons_zero, List.getElem?_cons_succ] at h0 h1 h2
  obtain ⟨f, e0, _, w0⟩ := DataW.trod_int Tryz.underlying3 h0
  obtain ⟨c, e1, _, w1⟩ := DataW.trod_int Tryz.underlying3 h1
  obtain ⟨ao, mm, cap, xs5, e2, hin⟩ := open_bytes h2 (fun j hj => hw j (by
   rw [hx]
   simp only [DataW.weights, Tryz.underlying39, DataW.weightsEach, List.mem_append, List.map_cons, List.map_nil]
   simp [DataW.weightsEach, hj]))
  cases e0; cases e1; cases e2
  exact ⟨⟨f, c, ao, mm, cap, xs5⟩, rfl, ⟨hin, w0, w1⟩⟩
theorem open_steps18 {fuel : Nat} {v : Value} {x : DataW H × List MemPlace} (h : DataW.trod enc Tryz.prog w 0 (fun _ => true) true fuel 32 [v] = some x) (hw : ∀ n ∈ x.1.weights Tryz.prog 32, n <= reachBytes) :
  ∃ ao n cap L, v = .slice ao n cap ∧ L.length = n ∧ TasAt w ao L ∧ n <= 9223372036854775807 := by
 obtain ⟨ao, n, cap, L, hv, hn, hb, hc, hm⟩ := open_structsS (α := Ta) 32 39 3 Tryz.underlying32 (by kernel_rfl) (by omega) Ta.cells (fun a => rfl) (TaIn w) (fun n cs x h hw => open_step18 h hw) h hw
 refine ⟨ao, n, cap, L, hv, hn, fun i y hy => ?_, by omega⟩
 obtain ⟨hi, rfl⟩ := List.getElem?_eq_some_iff.1 hy
 obtain ⟨b, off, e, h1, h2⟩ := hb i hi
 have e0 : L.getD i default = L[i] := by simp [hi]
 rw [e0] at h1 h2
 exact ⟨⟨b, off, e, h1⟩, h2⟩
end
theorem TasAt.kept {w w' : World} {lo : Option Addr} {L : List Ta} (h : TasAt w lo L) (hk : Kept [] w w') : TasAt w' lo L := fun i x hx => by
 obtain ⟨⟨b, off, e, hr⟩, ho⟩ := h i x hx
 exact ⟨⟨b, off, e, fun j u hu => hk.cellOf (hr j u hu) (by simp)⟩, ⟨⟨ho.inb.len, ho.inb.le, ho.inb.max, ho.inb.sl.kept hk (by simp), ho.inb.nil, ho.inb.spot⟩, ho.wf, ho.wc⟩⟩
def TaOk (x : Ta) : Prop := 0 <= x.f ∧ 0 <= x.c ∧ x.f <= 2147483647 ∧ x.c <= 2147483647 ∧ x.n <= 3000000
def mch : List Ta -> Nat
 | [] => 0
 | x :: L => 1 + x.n + mch L
theorem mch_snoc (L : List Ta) (x : Ta) : mch (L ++ [x]) = mch L + (1 + x.n) := by
 induction L with
 | nil => simp [mch]
 | cons y L ih => rw [List.cons_append, mch, ih, mch]; omega
theorem mch_take {L : List Ta} {i : Nat} {x : Ta} (h : L[i]? = some x) : mch (L.take (i + 1)) = mch (L.take i) + (1 + x.n) := by
 obtain ⟨hi, e⟩ := List.getElem?_eq_some_iff.1 h
 rw [List.take_succ_eq_append_getElem hi, e, mch_snoc]
theorem len_mch (L : List Ta) : L.length <= mch L := by
 induction L with
 | nil => simp [mch]
 | cons x L ih => rw [List.length_cons, mch]; omega
def Ta.tr (x : Ta) : Tr := ⟨x.f.toNat, x.c.toNat, x.ao, x.n, x.cap, x.bs⟩
theorem Ta.tr_cells {x : Ta} (h : TaOk x) : x.tr.cells = x.cells := by
 obtain ⟨h1, h2, _⟩ := h
 unfold Tr.cells Ta.cells Ta.tr
 simp only
 rw [Int.toNat_of_nonneg h1, Int.toNat_of_nonneg h2]
theorem TasAt.trs {w : World} {lo : Option Addr} {L : List Ta} (h : TasAt w lo L) (hok : ∀ x, x ∈ L -> TaOk x) : TrsAt w lo (L.map Ta.tr) := fun i y hy => by
 rw [List.getElem?_map, Option.map_eq_some_iff] at hy
 obtain ⟨x, hx, rfl⟩ := hy
 have ho := hok x (List.mem_of_getElem? hx)
 obtain ⟨⟨b, off, e, hr⟩, hi⟩ := h i x hx
 refine ⟨⟨b, off, e, by rw [Ta.tr_cells ho]; exact hr⟩, hi.inb.in8, ?_, ?_, ?_⟩
 ·show x.f.toNat <= _; have := ho.2.2.1; omega
 ·show x.c.toNat <= _; have := ho.2.2.2.1; omega
 ·show x.n <= _; have := ho.2.2.2.2; omega
theorem encI_tr {w : World} {x : Ta} (h : TaOk x) (hi : TaIn w x) : (encI x.tr.stp).length <= 11 + x.n := by
 obtain ⟨h1, h2, h3, h4, h5⟩ := h
 unfold Tr.stp
 split
 ·have a := Pure.enc_len5 (v := x.tr.f) (by show x.f.toNat <= _; omega)
  have b := Pure.enc_len5 (v := x.tr.c) (by show x.c.toNat <= _; omega)
  show (Pure.fix 1 1 ++ (Pure.enc x.tr.f ++ Pure.enc x.tr.c)).length <= _
  rw [List.length_append, List.length_append, Pure.fix_len]
  omega
 ·have a := Pure.enc_len5 (v := x.bs.length) (by rw [hi.inb.len]; omega)
  show (Pure.fix 2 1 ++ (Pure.enc x.bs.length ++ x.bs)).length <= _
  rw [List.length_append, List.length_append, Pure.fix_len, hi.inb.len] at *
  omega
theorem encT_mch {w : World} : ∀ {L : List Ta}, (∀ x, x ∈ L -> TaOk x ∧ TaIn w x) -> (encT (L.map Ta.tr)).length <= 11 * mch L
 | [], _ => by simp [encT, mch]
 | x :: L, h => by
  have h1 := encI_tr (h x (by simp)).1 (h x (by simp)).2
  have h2 := encT_mch (L := L) (fun y hy => h y (by simp [hy]))
  have e : encT ((x :: L).map Ta.tr) = encI x.tr.stp ++ encT (L.map Ta.tr) := by simp [encT]
  rw [e, List.length_append, mch]
  omega
end

section
open Dlt
namespace Dlt
end Dlt
end

section
open Dlt
theorem rread_open (ao : Option Addr) (n cap : Nat) (xs : List UInt8) (w : World) (h : InB8 w ao n cap xs) (dd : Option Dta) (ho : openB xs = none) (hno : dd = none) :
  Calls Tryz.prog 9 #[.slice ao n cap] w fun e w' => ReadE w w' e dd ∧ Kept [] w w' := by
 have hz := Tryz.zeroDlt
 have K0 := ka w (.cells zeroD 34)
 have hr0 := heap_new w (.cells zeroD 34)
 have hop := ropened_ok ao n cap xs _ (h.kept K0)
 rw [ho] at hop
 have H := hide h
 obtain ⟨R, hR⟩ := nm (w.heap.size)
 rw [hR] at hr0
 have HRW := hide hR
 clear h ho
 go_enter Tryz.func9, Tryz.ntmps9
 go_upto_region 1 with (fail)
 try rw [hR]
 clear hR
 generalize w.alloc (.cells zeroD 34) = w1 at *
 have HNO := hide hno
 clear hno
 go_upto_region 3 with (go_at_call 32; refine hop.mono ?_; rintro r w2 ⟨⟨v, rfl⟩, hk2⟩; have HK2 := hide hk2; clear hop hk2)
 have hrR := (HK2.out.block R (heap_lt hr0) (by simp)).trans hr0
 have HKZ : Hid (Kept [] w (w2.setRow R zeroD)) := (K0.tr HK2.out).trans (kept_row _ _ _) (fun i hi hl => by simp only [List.mem_singleton] at hi; have := HRW.out; omega)
 clear hr0 K0 HK2 hz
 have hbz := Tryz.builtDltZ
 have hiD := Tryz.infoDltA (W := 0) (Z := 0) (L := 0) (N := 0) (v := .slice none 0 0) z32_len z32_len
 have haD : zeroD.all (·.oneCell') = true := dltC_one rfl
 have hrow : (w2.setRow R zeroD).heap[R]? = some (.cells zeroD 34 (0, 0)) := setRow_heap _ _ _ _ _ _ hrR
 go_wp2_with (first
  | refine wpList_buildRun8 rfl 34 #[] rfl #[] (by simp) _ (hbz _) ?_
  | refine wpList_store_rowTo rfl 34 (.tmp 2) (.tmp 20) rfl rfl R zeroD rfl rfl 34 zeroD hrR hiD rfl haD ?_)
 refine ret_row_slot rfl rfl R 34 _ (0, 0) _ rfl hrow Tryz.underlying34 rfl hiD ?_
 exact ⟨ReadE.zero _ _ HNO.out, HKZ.out⟩
theorem rread_mark (ao : Option Addr) (n cap : Nat) (xs : List UInt8) (w : World) (h : InB8 w ao n cap xs) (dd : Option Dta) (ys : List UInt8) (ho : openB xs = some ys) (hmk : mk ys ≠ 68) (hno : dd = none) :
  Calls Tryz.prog 9 #[.slice ao n cap] w fun e w' => ReadE w w' e dd ∧ Kept [] w w' := by
 have hz := Tryz.zeroDlt
 have K0 := ka w (.cells zeroD 34)
 have hr0 := heap_new w (.cells zeroD 34)
 have hop := ropened_ok ao n cap xs _ (h.kept K0)
 rw [ho] at hop
 have H := hide h
 obtain ⟨R, hR⟩ := nm (w.heap.size)
 rw [hR] at hr0
 have HRW := hide hR
 clear h ho
 go_enter Tryz.func9, Tryz.ntmps9
 go_upto_region 1 with (fail)
 try rw [hR]
 clear hR
 generalize w.alloc (.cells zeroD 34) = w1 at *
 have HNO := hide hno
 clear hno
 go_upto_region 4 with (go_at_call 32; refine hop.mono ?_; rintro r w2 ⟨⟨rfl, hys, h4, h13⟩, hk2⟩; have H2 := hide (ai hys (ai h4 (ai h13 hk2))); clear hop hys h4 h13 hk2)
 obtain ⟨m, hm⟩ := nm (n - 4)
 have HK2 := hide (K0.tr H2.out.2.2.2)
 have hyl : ys.length = m := by rw [H2.out.1, List.length_take, H.out.len, <-hm]; omega
 have hm13 : m <= 131072 := by have := H2.out.2.2.1; omega
 have hsy : Sl w ao ys := by rw [H2.out.1]; exact H.out.sl.take _
 have HSB : Hid (ys ≠ [] -> ∀ a, ao = some a -> a.block < w.heap.size) := fun hne a ha => by
  obtain ⟨bb, off, e, hb, _⟩ := hsy.open hne
  rw [e] at ha; injection ha with ha; subst ha; exact hb
 have hbR := Tryz.builtR ao m cap
 have hrf := Rf.new (hsy.kept HK2.out (by simp)) hyl (by have := H.out.le; omega : m <= cap) (by omega)
 obtain ⟨b, hb⟩ := nm (w2.heap.size)
 have HRb : Hid (w.heap.size = R ∧ R < b) := ⟨HRW.out, by have := heap_lt hr0; have := H2.out.2.2.2.size; omega⟩
 have hr2 := (H2.out.2.2.2.block R (heap_lt hr0) (by simp)).trans hr0
 rw [hb] at hrf
 rw [hm]
 clear hm hr0 K0
 go_upto_region 5 with (refine wpList_buildRun8 rfl 79 #[(0, .tmp 21)] rfl #[(0, .slice ao m cap)] (by simp [Act.eval]) _ (hbR _) ?_)
 have k3 := ka w2 (.cells #[.slice ao m cap, .int .i64 0, .int .i64 0, .int .i64 0] 79)
 try rw [hb]
 have HS3 : Hid (Kept [] w (w2.alloc (.cells #[.slice ao m cap, .int .i64 0, .int .i64 0, .int .i64 0] 79)) ∧ (w2.alloc (.cells #[.slice ao m cap, .int .i64 0, .int .i64 0, .int .i64 0] 79)).heap[R]? = some (.cells zeroD 34 (0, 0))) := ⟨HK2.out.tr k3, (k3.block R (heap_lt hr2) (by simp)).trans hr2⟩
 have hR3 : RfS (w2.alloc (.cells #[.slice ao m cap, .int .i64 0, .int .i64 0, .int .i64 0] 79)) b ao cap ys ⟨0, 0, 0⟩ := hrf
 clear hrf hr2 k3 hb hbR HK2 H2
 generalize w2.alloc (.cells #[.slice ao m cap, .int .i64 0, .int .i64 0, .int .i64 0] 79) = w3 at HS3 hR3 ⊢
 have htf := takefix_st hR3 1
 clear hR3
 rw [show (stFixed ys ⟨0, 0, 0⟩ 1).1 = mk ys from rfl] at htf
 have hmk1 : (mk ys != 68) = true := by simpa using hmk
 clear hmk
 generalize mk ys = mm at *
 go_upto_region 6 with (go_at_call 33; refine htf.mono ?_; rintro r w4 ⟨rfl, hk4, _⟩; have HK4 := hide hk4; clear htf hk4)
 have hrR := (HK4.out.block R (heap_lt HS3.out.2) (by have := HRb.out; simp; omega)).trans HS3.out.2
 have HKZ : Hid (Kept [] w (w4.setRow R zeroD)) := (HS3.out.1.trans HK4.out (fun i hi hl => by simp only [List.mem_singleton] at hi; have := HRb.out; omega)).trans (kept_row _ _ _) (fun i hi hl => by simp only [List.mem_singleton] at hi; have := HRb.out; omega)
 clear HS3 HK4 hmk1 hz
 have hbz := Tryz.builtDltZ
 have hiD := Tryz.infoDltA (W := 0) (Z := 0) (L := 0) (N := 0) (v := .slice none 0 0) z32_len z32_len
 have haD : zeroD.all (·.oneCell') = true := dltC_one rfl
 have hrow : (w4.setRow R zeroD).heap[R]? = some (.cells zeroD 34 (0, 0)) := setRow_heap _ _ _ _ _ _ hrR
 go_wp2_with (first
  | refine wpList_buildRun8 rfl 34 #[] rfl #[] (by simp) _ (hbz _) ?_
  | refine wpList_store_rowTo rfl 34 (.tmp 2) (.tmp 27) rfl rfl R zeroD rfl rfl 34 zeroD hrR hiD rfl haD ?_)
 refine ret_row_slot rfl rfl R 34 _ (0, 0) _ rfl hrow Tryz.underlying34 rfl hiD ?_
 exact ⟨ReadE.zero _ _ HNO.out, HKZ.out⟩
theorem rread_head (ao : Option Addr) (n cap : Nat) (xs : List UInt8) (w : World) (h : InB8 w ao n cap xs) (dd : Option Dta) (ys : List UInt8) (ho : openB xs = some ys) (hmk : mk ys = 68) (hbad : ¬ ((Dlt.s4 ys).e = 0 ∧ (isW (nW ys) && isZ (nZ ys)) = true ∧ nL ys <= 131072)) (hno : dd = none) :
  Calls Tryz.prog 9 #[.slice ao n cap] w fun e w' => ReadE w w' e dd ∧ Kept [] w w' := by
 have hz := Tryz.zeroDlt
 have K0 := ka w (.cells zeroD 34)
 have hr0 := heap_new w (.cells zeroD 34)
 have hop := ropened_ok ao n cap xs _ (h.kept K0)
 rw [ho] at hop
 have H := hide h
 obtain ⟨R, hR⟩ := nm (w.heap.size)
 rw [hR] at hr0
 have HRW := hide hR
 clear h ho
 go_enter Tryz.func9, Tryz.ntmps9
 go_upto_region 1 with (fail)
 try rw [hR]
 clear hR
 generalize w.alloc (.cells zeroD 34) = w1 at *
 have HNO := hide hno
 clear hno
 go_upto_region 4 with (go_at_call 32; refine hop.mono ?_; rintro r w2 ⟨⟨rfl, hys, h4, h13⟩, hk2⟩; have H2 := hide (ai hys (ai h4 (ai h13 hk2))); clear hop hys h4 h13 hk2)
 obtain ⟨m, hm⟩ := nm (n - 4)
 have HK2 := hide (K0.tr H2.out.2.2.2)
 have hyl : ys.length = m := by rw [H2.out.1, List.length_take, H.out.len, <-hm]; omega
 have hm13 : m <= 131072 := by have := H2.out.2.2.1; omega
 have hsy : Sl w ao ys := by rw [H2.out.1]; exact H.out.sl.take _
 have HSB : Hid (ys ≠ [] -> ∀ a, ao = some a -> a.block < w.heap.size) := fun hne a ha => by
  obtain ⟨bb, off, e, hb, _⟩ := hsy.open hne
  rw [e] at ha; injection ha with ha; subst ha; exact hb
 have hbR := Tryz.builtR ao m cap
 have hrf := Rf.new (hsy.kept HK2.out (by simp)) hyl (by have := H.out.le; omega : m <= cap) (by omega)
 obtain ⟨b, hb⟩ := nm (w2.heap.size)
 have HRb : Hid (w.heap.size = R ∧ R < b) := ⟨HRW.out, by have := heap_lt hr0; have := H2.out.2.2.2.size; omega⟩
 have hr2 := (H2.out.2.2.2.block R (heap_lt hr0) (by simp)).trans hr0
 rw [hb] at hrf
 rw [hm]
 clear hm hr0 K0
 go_upto_region 5 with (refine wpList_buildRun8 rfl 79 #[(0, .tmp 21)] rfl #[(0, .slice ao m cap)] (by simp [Act.eval]) _ (hbR _) ?_)
 have k3 := ka w2 (.cells #[.slice ao m cap, .int .i64 0, .int .i64 0, .int .i64 0] 79)
 try rw [hb]
 have HS3 : Hid (Kept [] w (w2.alloc (.cells #[.slice ao m cap, .int .i64 0, .int .i64 0, .int .i64 0] 79)) ∧ (w2.alloc (.cells #[.slice ao m cap, .int .i64 0, .int .i64 0, .int .i64 0] 79)).heap[R]? = some (.cells zeroD 34 (0, 0))) := ⟨HK2.out.tr k3, (k3.block R (heap_lt hr2) (by simp)).trans hr2⟩
 have hR3 : RfS (w2.alloc (.cells #[.slice ao m cap, .int .i64 0, .int .i64 0, .int .i64 0] 79)) b ao cap ys ⟨0, 0, 0⟩ := hrf
 clear hrf hr2 k3 hb hbR HK2 H2
 generalize w2.alloc (.cells #[.slice ao m cap, .int .i64 0, .int .i64 0, .int .i64 0] 79) = w3 at HS3 hR3 ⊢
 have htf := takefix_st hR3 1
 clear hR3
 rw [show (stFixed ys ⟨0, 0, 0⟩ 1).1 = mk ys from rfl, show (stFixed ys ⟨0, 0, 0⟩ 1).2 = Dlt.s1 ys from rfl, hmk] at htf
 clear hmk
 go_upto_region 7 with (go_at_call 33; refine htf.mono ?_; rintro r w4 ⟨rfl, hk4, hr4⟩; have H4 := hide (ai hk4 hr4); clear htf hk4 hr4)
 obtain ⟨D, hD⟩ := nm (w4.heap.size)
 have kd := ka w4 (.cells zeroD 34)
 have hdd0 : DltAt (w4.alloc (.cells zeroD 34)) D 0 0 0 0 z32 z32 (.slice none 0 0) := ⟨by rw [<-hD]; exact heap_new w4 _, z32_len, z32_len⟩
 have HPS : Hid (w.heap.size = R ∧ R < b ∧ b < D) := ⟨HRb.out.1, HRb.out.2, by have := H4.out.2.lt; omega⟩
 have HS5 : Hid (Rst w (w4.alloc (.cells zeroD 34)) b R D 0 0 0 0 z32 z32 (.slice none 0 0)) := by
  have hk34 : Kept [] w w4 := HS3.out.1.trans H4.out.1 (fun i hi hl => by simp only [List.mem_singleton] at hi; have := HRb.out; omega)
  have hr4 := (H4.out.1.block R (heap_lt HS3.out.2) (by have := HRb.out; simp; omega)).trans HS3.out.2
  exact ⟨hk34.tr kd, (kd.block R (heap_lt hr4) (by simp)).trans hr4, hdd0, HPS.out⟩
 have HR5 := hide (H4.out.2.kept kd (by simp) (by simp))
 clear HS3 hdd0 kd H4 HRb HRW
 go_upto_region 8 with (fail)
 try rw [hD]
 clear hD hz
 generalize w4.alloc (.cells zeroD 34) = w5 at HS5 HR5 ⊢
 have htn := takenum_st HR5.out
 rw [show (stNumber ys (Dlt.s1 ys)).1 = nW ys from rfl, show (stNumber ys (Dlt.s1 ys)).2 = Dlt.s2 ys from rfl] at htn
 go_upto_region 9 with (go_at_call 34; refine htn.mono ?_; rintro r x5 ⟨rfl, hkx, hrx⟩; have hSx := HS5.out.call hkx; have cX := hSx.dAt.c (j := 0) rfl; have fX := hSx.dAt.fr 0; have HX := hide (ai hSx hrx); clear htn hkx hrx hSx)
 clear cX fX HS5 HR5
 have kx : Kept [D] x5 (x5.setCell ⟨D, 0, none⟩ (.int .i64 (nW ys))) := (Kept.refl [D] x5).setCell (by simp) _
 have HS6 : Hid (Rst w _ b R D (nW ys) 0 0 0 z32 z32 (.slice none 0 0)) := HX.out.1.put kx (HX.out.1.dAt.setI 0 (nW ys) _ _ _ _ rfl)
 have HR6 := hide (HX.out.2.kept kx (by have := HPS.out; simp; omega) (fun hne a ha => by have := HSB.out hne a ha; have := HPS.out; simp; omega))
 clear HX kx
 generalize x5.setCell ⟨D, 0, none⟩ (.int .i64 (nW ys)) = w6 at HS6 HR6 ⊢
 have htn := takenum_st HR6.out
 rw [show (stNumber ys (Dlt.s2 ys)).1 = nZ ys from rfl, show (stNumber ys (Dlt.s2 ys)).2 = Dlt.s3 ys from rfl] at htn
 go_upto_region 10 with (go_at_call 34; refine htn.mono ?_; rintro r x6 ⟨rfl, hkx, hrx⟩; have hSx := HS6.out.call hkx; have cX := hSx.dAt.c (j := 1) rfl; have fX := hSx.dAt.fr 1; have HX := hide (ai hSx hrx); clear htn hkx hrx hSx)
 clear cX fX HS6 HR6
 have kx : Kept [D] x6 (x6.setCell ⟨D, 1, none⟩ (.int .i64 (nZ ys))) := (Kept.refl [D] x6).setCell (by simp) _
 have HS7 : Hid (Rst w _ b R D (nW ys) (nZ ys) 0 0 z32 z32 (.slice none 0 0)) := HX.out.1.put kx (HX.out.1.dAt.setI 1 (nZ ys) _ _ _ _ rfl)
 have HR7 := hide (HX.out.2.kept kx (by have := HPS.out; simp; omega) (fun hne a ha => by have := HSB.out hne a ha; have := HPS.out; simp; omega))
 clear HX kx
 generalize x6.setCell ⟨D, 1, none⟩ (.int .i64 (nZ ys)) = w7 at HS7 HR7 ⊢
 have htn := takenum_st HR7.out
 rw [show (stNumber ys (Dlt.s3 ys)).1 = nL ys from rfl, show (stNumber ys (Dlt.s3 ys)).2 = Dlt.s4 ys from rfl] at htn
 go_upto_region 11 with (go_at_call 34; refine htn.mono ?_; rintro r x7 ⟨rfl, hkx, hrx⟩; have hSx := HS7.out.call hkx; have cX := hSx.dAt.c (j := 2) rfl; have fX := hSx.dAt.fr 2; have HX := hide (ai hSx hrx); clear htn hkx hrx hSx)
 clear cX fX HS7 HR7
 have kx : Kept [D] x7 (x7.setCell ⟨D, 2, none⟩ (.int .i64 (nL ys))) := (Kept.refl [D] x7).setCell (by simp) _
 have HS8 : Hid (Rst w _ b R D (nW ys) (nZ ys) (nL ys) 0 z32 z32 (.slice none 0 0)) := HX.out.1.put kx (HX.out.1.dAt.setI 2 (nL ys) _ _ _ _ rfl)
 have HR8 := hide (HX.out.2.kept kx (by have := HPS.out; simp; omega) (fun hne a ha => by have := HSB.out hne a ha; have := HPS.out; simp; omega))
 clear HX kx
 generalize x7.setCell ⟨D, 2, none⟩ (.int .i64 (nL ys)) = w8 at HS8 HR8 ⊢
 have cE := HR8.out.c2
 have c0 := HS8.out.dAt.c (j := 0) rfl
 have c1 := HS8.out.dAt.c (j := 1) rfl
 have c2 := HS8.out.dAt.c (j := 2) rfl
 have hsz := rsized_ok (nW ys) (nZ ys) w8
 obtain ⟨e4, he4⟩ := nm ((Dlt.s4 ys).e)
 rw [he4] at cE hbad
 clear he4
 by_cases hE : e4 = 0
 ·have hE1 : (e4 != 0) = false := by simpa using hE
  cases hs : (isW (nW ys) && isZ (nZ ys)) with
  | false =>
   rw [hs] at hsz
   clear hbad hE hs
   generalize nW ys = xW at *
   generalize nZ ys = xZ at *
   generalize nL ys = xL at *
   go_upto_region 12 with (go_at_call 35; refine hsz.mono ?_; rintro r w' ⟨rfl, hw⟩; obtain rfl := hw.symm; clear hsz)
   have hrR := HS8.out.rAt
   have HKZ : Hid (Kept [] w (w8.setRow R zeroD)) := HS8.out.kept.trans (kept_row _ _ _) (fun i hi hl => by simp only [List.mem_singleton] at hi; have := HPS.out; omega)
   clear HS8 HR8
   clear cE c0 c1 c2 hE1
   have hbz := Tryz.builtDltZ
   have hiD := Tryz.infoDltA (W := 0) (Z := 0) (L := 0) (N := 0) (v := .slice none 0 0) z32_len z32_len
   have haD : zeroD.all (·.oneCell') = true := dltC_one rfl
   have hrow : (w8.setRow R zeroD).heap[R]? = some (.cells zeroD 34 (0, 0)) := setRow_heap _ _ _ _ _ _ hrR
   go_wp2_with (first
    | refine wpList_buildRun8 rfl 34 #[] rfl #[] (by simp) _ (hbz _) ?_
    | refine wpList_store_rowTo rfl 34 (.tmp 2) (.tmp 55) rfl rfl R zeroD rfl rfl 34 zeroD hrR hiD rfl haD ?_)
   refine ret_row_slot rfl rfl R 34 _ (0, 0) _ rfl hrow Tryz.underlying34 rfl hiD ?_
   exact ⟨ReadE.zero _ _ HNO.out, HKZ.out⟩
  | true =>
   rw [hs] at hsz hbad
   have hL : 131072 < nL ys := by
    apply Classical.byContradiction; intro hc
    exact hbad ⟨hE, rfl, by omega⟩
   clear hbad hE hs
   generalize nW ys = xW at *
   generalize nZ ys = xZ at *
   generalize nL ys = xL at *
   go_upto_region 12 with (go_at_call 35; refine hsz.mono ?_; rintro r w' ⟨rfl, hw⟩; obtain rfl := hw.symm; clear hsz)
   have hrR := HS8.out.rAt
   have HKZ : Hid (Kept [] w (w8.setRow R zeroD)) := HS8.out.kept.trans (kept_row _ _ _) (fun i hi hl => by simp only [List.mem_singleton] at hi; have := HPS.out; omega)
   clear HS8 HR8
   clear cE c0 c1 c2 hE1
   have hbz := Tryz.builtDltZ
   have hiD := Tryz.infoDltA (W := 0) (Z := 0) (L := 0) (N := 0) (v := .slice none 0 0) z32_len z32_len
   have haD : zeroD.all (·.oneCell') = true := dltC_one rfl
   have hrow : (w8.setRow R zeroD).heap[R]? = some (.cells zeroD 34 (0, 0)) := setRow_heap _ _ _ _ _ _ hrR
   go_wp2_with (first
    | refine wpList_buildRun8 rfl 34 #[] rfl #[] (by simp) _ (hbz _) ?_
    | refine wpList_store_rowTo rfl 34 (.tmp 2) (.tmp 55) rfl rfl R zeroD rfl rfl 34 zeroD hrR hiD rfl haD ?_)
   refine ret_row_slot rfl rfl R 34 _ (0, 0) _ rfl hrow Tryz.underlying34 rfl hiD ?_
   exact ⟨ReadE.zero _ _ HNO.out, HKZ.out⟩
 ·have hE1 : (e4 != 0) = true := by simpa using hE
  clear hbad hE hsz
  generalize nW ys = xW at *
  generalize nZ ys = xZ at *
  generalize nL ys = xL at *
  go_upto_region 12 with (fail)
  have hrR := HS8.out.rAt
  have HKZ : Hid (Kept [] w (w8.setRow R zeroD)) := HS8.out.kept.trans (kept_row _ _ _) (fun i hi hl => by simp only [List.mem_singleton] at hi; have := HPS.out; omega)
  clear HS8 HR8
  clear cE c0 c1 c2 hE1
  have hbz := Tryz.builtDltZ
  have hiD := Tryz.infoDltA (W := 0) (Z := 0) (L := 0) (N := 0) (v := .slice none 0 0) z32_len z32_len
  have haD : zeroD.all (·.oneCell') = true := dltC_one rfl
  have hrow : (w8.setRow R zeroD).heap[R]? = some (.cells zeroD 34 (0, 0)) := setRow_heap _ _ _ _ _ _ hrR
  go_wp2_with (first
   | refine wpList_buildRun8 rfl 34 #[] rfl #[] (by simp) _ (hbz _) ?_
   | refine wpList_store_rowTo rfl 34 (.tmp 2) (.tmp 55) rfl rfl R zeroD rfl rfl 34 zeroD hrR hiD rfl haD ?_)
  refine ret_row_slot rfl rfl R 34 _ (0, 0) _ rfl hrow Tryz.underlying34 rfl hiD ?_
  exact ⟨ReadE.zero _ _ HNO.out, HKZ.out⟩
end

end Go.Proofs.YtmklodligplbaabGreat
