import Derived.Test.YtmklodligplbaabGreatL18rk
open Go.RowKit
set_option linter.unusedVariables false
set_option linter.unusedSimpArgs false
set_option maxRecDepth 100000
set_option maxHeartbeats 0
namespace Go.Proofs.YtmklodligplbaabGreat
section
open Dlt
def stF : Stp -> Nat
 | .copy f _ => f
 | .lit _ => 0
def stN : Stp -> Nat
 | .copy _ c => c
 | .lit _ => 0
def stB : Stp -> List UInt8
 | .copy _ _ => []
 | .lit bs => bs
theorem stp_len (z : Nat) (i : Stp) : i.len z = stN i * z + (stB i).length := by
 cases i <;> simp [Stp.len, stN, stB]
def StepE (w w' : World) (e : Ending) (b : Nat) (ao : Option Addr) (cap : Nat) (ys : List UInt8) : Option (Stp × Rs) -> Prop
 | some p => ∃ to tn tc, e = .returned (.tuple #[.agg (stp3 (stF p.1) (stN p.1) (.slice to tn tc)).toArray, .bool true]) ∧ InB8 w' to tn tc (stB p.1) ∧ (∀ a, to = some a -> w.heap.size <= a.block ∧ a.block < w'.heap.size) ∧ RfS w' b ao cap ys p.2
 | none => ∃ f c to tn tc, e = .returned (.tuple #[.agg (stp3 f c (.slice to tn tc)).toArray, .bool false])
theorem inB8_nil (w : World) : InB8 w none 0 0 [] := ⟨rfl, Nat.le_refl _, by omega, Sl.nil _ _, fun _ => ⟨rfl, rfl⟩⟩
theorem rstep_ok {w : World} {b : Nat} {ao : Option Addr} {cap : Nat} {ys : List UInt8} {s : Rs} (h : RfS w b ao cap ys s) (dl : List Value) (Z L : Nat) (hdZ : dl[1]? = some (.int .i64 Z)) (hdL : dl[2]? = some (.int .i64 L)) (hZ1 : 16 <= Z) (hZ2 : Z <= 4096) (hL2 : L <= 131072) :
  Calls Tryz.prog 38 #[.pointer (some ⟨b, 0, none⟩), .agg dl.toArray] w fun e w' => StepE w w' e b ao cap ys (rdI ys (L / Z) s) ∧ Kept [b] w w' := by
 by_cases h1 : (stFixed ys s 1).1 = 1
 ·refine (rstep_copy h dl Z L hdZ hdL hZ1 hZ2 hL2 h1 _ _ _ _ _ rfl rfl rfl rfl rfl _ rfl).mono fun e w' hh => ⟨?_, hh.2.1⟩
  obtain ⟨h2, h3, h4⟩ := hh
  unfold rdI
  rw [if_pos h1]
  have ha := stNumber_le ys (stFixed ys s 1).2
  have hc := stNumber_le ys (stNumber ys (stFixed ys s 1).2).2
  have hce := num_e (xs := ys) (s := (stNumber ys (stFixed ys s 1).2).2)
  generalize (stNumber ys (stNumber ys (stFixed ys s 1).2).2).2 = s3 at *
  generalize (stNumber ys (stNumber ys (stFixed ys s 1).2).2).1 = c at *
  generalize (stNumber ys (stFixed ys s 1).2).1 = a at *
  generalize L / Z = n at *
  by_cases hall : s3.e = 0 ∧ 1 <= c ∧ a + c <= (n : Int)
  ·rw [decide_eq_true hall] at h2
   have w1 : Dlt.within a 0 n = true := Dlt.within_iff.2 (by omega)
   have w2 : Dlt.within c 1 ((n : Int) - a) = true := Dlt.within_iff.2 (by omega)
   rw [w1, w2, if_neg (by simp), if_neg (by simp)]
   refine ⟨none, 0, 0, ?_, inB8_nil w', by simp, h4⟩
   rw [h2]
   show _ = Ending.returned (.tuple #[.agg (stp3 ((a.toNat : Nat) : Int) ((c.toNat : Nat) : Int) (.slice none 0 0)).toArray, .bool true])
   rw [Int.toNat_of_nonneg ha.1, Int.toNat_of_nonneg hc.1]
  ·rw [decide_eq_false hall] at h2
   have : (if Dlt.within a 0 n = false then none else if Dlt.within c 1 ((n : Int) - a) = false then none else some (Stp.copy a.toNat c.toNat, s3)) = (none : Option (Stp × Rs)) := by
    by_cases w1 : Dlt.within a 0 n = true
    ·by_cases w2 : Dlt.within c 1 ((n : Int) - a) = true
     ·exfalso
      rw [Dlt.within_iff] at w1 w2
      exact hall ⟨hce (by omega), w2.1, by omega⟩
     ·rw [w1, Bool.eq_false_iff.2 w2]; rfl
    ·rw [Bool.eq_false_iff.2 w1]; rfl
   rw [this]
   exact ⟨_, _, _, _, _, h2⟩
 ·by_cases h2 : (stFixed ys s 1).1 = 2
  ·refine (rstep_lit h dl Z L hdZ hdL hZ1 hZ2 hL2 h2 _ _ _ rfl rfl rfl _ rfl).mono fun e w' hh => ⟨?_, hh.2.1⟩
   obtain ⟨⟨to, tn, tc, h3, h4, h5⟩, _, h6⟩ := hh
   unfold rdI
   rw [if_neg h1, if_pos h2]
   have hte := text_e (xs := ys) (s := (stFixed ys s 1).2) (m := 131072)
   generalize (stText ys (stFixed ys s 1).2 131072).2 = s3 at *
   generalize (stText ys (stFixed ys s 1).2 131072).1 = bs at *
   by_cases hb : bs = []
   ·rw [if_pos hb]
    subst hb
    have hd : decide (s3.e = 0 ∧ 1 <= ([] : List UInt8).length) = false := by simp
    rw [hd] at h3
    exact ⟨_, _, _, _, _, h3⟩
   ·rw [if_neg hb]
    have hd : decide (s3.e = 0 ∧ 1 <= bs.length) = true := decide_eq_true ⟨hte hb, List.length_pos_iff.2 hb⟩
    rw [hd] at h3
    exact ⟨to, tn, tc, h3, h4, h5, h6⟩
  ·refine (rstep_none h dl Z L hdZ hdL hZ1 hZ2 hL2 _ rfl h1 h2).mono fun e w' hh => ⟨?_, hh.2⟩
   unfold rdI
   rw [if_neg h1, if_neg h2]
   exact ⟨_, _, _, _, _, hh.1⟩
structure Stc where
 s : Stp
 ao : Option Addr
 n : Nat
 cap : Nat
def Stc.cells (x : Stc) : List Value := stp3 (stF x.s) (stN x.s) (.slice x.ao x.n x.cap)
def srows (T : List Stc) : List Value := T.flatMap Stc.cells
theorem srows_snoc (T : List Stc) (x : Stc) : srows (T ++ [x]) = srows T ++ x.cells := by simp [srows]
theorem srows_at : ∀ {T : List Stc} (i j : Nat) (x : Stc) (v : Value), T[i]? = some x -> x.cells[j]? = some v -> (srows T)[i * 3 + j]? = some v
 | [], i, j, x, v, h, _ => by simp at h
 | y :: T, 0, j, x, v, h, hv => by
  simp only [List.getElem?_cons_zero, Option.some.injEq] at h
  subst h
  rw [show srows (y :: T) = y.cells ++ srows T from by simp [srows], Nat.zero_mul, Nat.zero_add, List.getElem?_append_left (List.getElem?_eq_some_iff.1 hv).1]
  exact hv
 | y :: T, i + 1, j, x, v, h, hv => by
  rw [List.getElem?_cons_succ] at h
  have hl : y.cells.length = 3 := rfl
  rw [show srows (y :: T) = y.cells ++ srows T from by simp [srows], List.getElem?_append_right (by rw [hl]; omega), hl, show (i + 1) * 3 + j - 3 = i * 3 + j by omega]
  exact srows_at i j x v h hv
theorem srows_one (T : List Stc) : ∀ u ∈ srows T, u.oneCell' = true := fun u hu => by
 obtain ⟨x, _, hx⟩ := List.mem_flatMap.1 hu
 simp only [Stc.cells, stp3, List.mem_cons, List.not_mem_nil, or_false] at hx
 rcases hx with rfl | rfl | rfl <;> rfl
structure StepsAt (base : Nat) (w : World) (v : Value) (T : List Stc) : Prop where
 own : w.ownsRow base 39 3 v T.length (srows T)
 lit : ∀ x, x ∈ T -> InB8 w x.ao x.n x.cap (stB x.s) ∧ ∀ a, x.ao = some a -> base <= a.block ∧ a.block < w.heap.size ∧ v.ownBlock ≠ some a.block
theorem StepsAt.nil (base : Nat) (w : World) : StepsAt base w (.slice none 0 0) [] := ⟨World.ownsRow_nil _ _ _ _, by simp⟩
theorem StepsAt.kept {base : Nat} {l : List Nat} {w w' : World} {v : Value} {T : List Stc} (h : StepsAt base w v T) (hk : Kept l w w') (hl : ∀ i, i ∈ l -> i < base) : StepsAt base w' v T := by
 refine ⟨own_kept9 h.own hk (fun i hi g hg => ?_), fun x hx => ?_⟩
 ·have := (own_blk h.own hg).1
  have := hl i hi
  omega
 ·obtain ⟨h1, h2⟩ := h.lit x hx
  refine ⟨⟨h1.len, h1.le, h1.max, h1.sl.kept hk (fun hne a ha hm => ?_), h1.nil⟩, fun a ha => ⟨(h2 a ha).1, Nat.lt_of_lt_of_le (h2 a ha).2.1 hk.size, (h2 a ha).2.2⟩⟩
  have := (h2 a ha).1
  have := hl _ hm
  omega
theorem StepsAt.shape {base : Nat} {w : World} {v : Value} {T : List Stc} (h : StepsAt base w v T) : ∃ lo lc, v = .slice lo T.length lc ∧ T.length <= lc := own_shape h.own
theorem StepsAt.cell {base : Nat} {w : World} {lo : Option Addr} {n lc : Nat} {T : List Stc} (h : StepsAt base w (.slice lo n lc) T) {i : Nat} {x : Stc} (hx : T[i]? = some x) : ∃ g, lo = some ⟨g, 0, none⟩ ∧ base <= g ∧ g < w.heap.size ∧ w.rangeAt g (i * 3) x.cells := by
 have hi : i < T.length := (List.getElem?_eq_some_iff.1 hx).1
 rcases h.own.2 with ⟨e, h0⟩ | ⟨g, cap, cur, e, hb, hg, hn, hc, hs, ht⟩
 ·omega
 ·injection e with e1 e2 e3
  subst e1
  refine ⟨g, rfl, hb, heap_lt hg, fun j u hu => ?_⟩
  rw [cell_of_row _ _ _ _ _ _ hg]
  have h1 := srows_at i j x u hx hu
  rw [<-ht, List.getElem?_take] at h1
  split at h1
  ·simpa using h1
  ·cases h1
theorem Tryz.infoStp3 : (Tryz.prog.info? 39).map (fun i => (i.zero, i.size, i.bytes)) = some (some (.agg (stp3 0 0 (.slice none 0 0)).toArray), 3, 40) := by kernel_rfl
theorem StepsAt.add {base : Nat} {w : World} {v : Value} {T : List Stc} (h : StepsAt base w v T) (hT : T.length <= 1000000) (hb : base <= w.heap.size) (x : Stc) (hx : InB8 w x.ao x.n x.cap (stB x.s)) (hxb : ∀ a, x.ao = some a -> base <= a.block ∧ a.block < w.heap.size ∧ v.ownBlock ≠ some a.block) (N : Nat) (hN : w.heap[N]? = some (.cells x.cells.toArray 39 (0, 0))) :
  ∃ v' w', (Builtin.append_ #[32, 32] 32 #[v, .slice (some ⟨N, 0, none⟩) 1 1]).run Tryz.prog w = .ok v' w' ∧ StepsAt base w' v' (T ++ [x]) ∧ Kept v.ownBlock.toList w w' := by
 obtain ⟨i0, hi, hz0, hz1, hz2⟩ := info_parts Tryz.infoStp3
 obtain ⟨v', w', hrun, h1', h2, h3, h4⟩ := run_append_own_at (P := Tryz.prog) w base 32 32 39 i0 _ 3 40 Tryz.underlying32 hi hz0 hz1 hz2 rfl (by omega) v T.length (srows T) h.own ⟨N, 0, none⟩ 1 1 x.cells (by rfl)
  (fun j u hj => by rw [Addr.add_mid, cell_of_row _ _ _ _ _ _ hN, List.getElem?_toArray, Nat.zero_add]; exact hj) (fun u hu => srows_one [x] u (by simpa [srows] using hu)) (by unfold maxLen; omega) (by omega) hb
 have hk : Kept v.ownBlock.toList w w' := (Kept.refl _ w).grown h2 (fun k hk _ => by simp [hk])
 refine ⟨v', w', hrun, ⟨?_, fun y hy => ?_⟩, hk⟩
 ·rw [List.length_append, srows_snoc]
  exact h1'
 ·have key : ∀ y : Stc, InB8 w y.ao y.n y.cap (stB y.s) -> (∀ a, y.ao = some a -> base <= a.block ∧ a.block < w.heap.size ∧ v.ownBlock ≠ some a.block) -> InB8 w' y.ao y.n y.cap (stB y.s) ∧ ∀ a, y.ao = some a -> base <= a.block ∧ a.block < w'.heap.size ∧ v'.ownBlock ≠ some a.block := by
   intro y hy1 hy2
   refine ⟨⟨hy1.len, hy1.le, hy1.max, hy1.sl.kept hk (fun hne a ha hm => ?_), hy1.nil⟩, fun a ha => ⟨(hy2 a ha).1, Nat.lt_of_lt_of_le (hy2 a ha).2.1 hk.size, ?_⟩⟩
   ·simp only [Option.mem_toList] at hm
    exact (hy2 a ha).2.2 hm
   ·rcases h4 with h4 | h4
    ·rw [h4]; exact (hy2 a ha).2.2
    ·rw [h4]; intro he; injection he with he; have := (hy2 a ha).2.1; omega
  rw [List.mem_append, List.mem_singleton] at hy
  rcases hy with hy | rfl
  ·exact key y (h.lit y hy).1 (h.lit y hy).2
  ·exact key y hx hxb
end

section
open Dlt
def z32 : List UInt8 := List.replicate 32 0
theorem z32_len : z32.length = 32 := by simp [z32]
def zeroD : Array Value := (dltC 0 0 0 0 z32 z32 (.slice none 0 0)).toArray
theorem Tryz.zeroDlt (W : World) : (zeroValue 34).run Tryz.prog W = .ok (.agg zeroD) W := by kernel_rfl
theorem Tryz.builtDltZ (W : World) : (Instr.build 34 #[]).run Tryz.prog W = .ok (.agg zeroD) W := by kernel_rfl
theorem Tryz.infoDltS : (Tryz.prog.info? 34).map (·.size) = some 69 := by kernel_rfl
theorem dltC_len {W Z L N : Int} {bid tid : List UInt8} {v : Value} (hb : bid.length = 32) (ht : tid.length = 32) : (dltC W Z L N bid tid v).length = 69 := by simp [dltC, bys_length, hb, ht]
theorem Tryz.infoDlt {W Z L N : Int} {bid tid : List UInt8} {v : Value} (hb : bid.length = 32) (ht : tid.length = 32) : (Tryz.prog.info? 34).map (·.size) = some (dltC W Z L N bid tid v).length := by rw [dltC_len hb ht]; exact Tryz.infoDltS
theorem dltC_size {W Z L N : Int} {bid tid : List UInt8} {v : Value} (hb : bid.length = 32) (ht : tid.length = 32) : (dltC W Z L N bid tid v).toArray.size = 69 := by rw [List.size_toArray, dltC_len hb ht]
theorem Tryz.infoDltA {W Z L N : Int} {bid tid : List UInt8} {v : Value} (hb : bid.length = 32) (ht : tid.length = 32) : (Tryz.prog.info? 34).map (·.size) = some (dltC W Z L N bid tid v).toArray.size := by rw [dltC_size hb ht]; exact Tryz.infoDltS
theorem dltC_one {W Z L N : Int} {bid tid : List UInt8} {v : Value} (hv : v.oneCell' = true) : (dltC W Z L N bid tid v).toArray.all (·.oneCell') = true := by
 refine Array.all_eq_true_iff_forall_mem.2 fun u hu => ?_
 simp only [dltC, List.mem_toArray, List.mem_cons, List.mem_append, List.not_mem_nil, or_false] at hu
 rcases hu with rfl | rfl | rfl | rfl | hu | hu | rfl
 ·rfl
 ·rfl
 ·rfl
 ·rfl
 ·exact bys_oneCell _ u hu
 ·exact bys_oneCell _ u hu
 ·exact hv
structure DltAt (w : World) (D : Nat) (W Z L N : Int) (bid tid : List UInt8) (v : Value) : Prop where
 row : w.heap[D]? = some (.cells (dltC W Z L N bid tid v).toArray 34 (0, 0))
 hb : bid.length = 32
 ht : tid.length = 32
theorem DltAt.kept {l : List Nat} {w w' : World} {D : Nat} {W Z L N : Int} {bid tid : List UInt8} {v : Value} (h : DltAt w D W Z L N bid tid v) (hk : Kept l w w') (hn : D ∉ l) : DltAt w' D W Z L N bid tid v := ⟨(hk.block D (heap_lt h.row) hn).trans h.row, h.hb, h.ht⟩
theorem DltAt.c {w : World} {D : Nat} {W Z L N : Int} {bid tid : List UInt8} {v : Value} (h : DltAt w D W Z L N bid tid v) {j : Nat} {u : Value} (hu : (dltC W Z L N bid tid v)[j]? = some u) : w.cell? ⟨D, j, none⟩ = some u := by
 rw [cell_of_row _ _ _ _ _ _ h.row, List.getElem?_toArray]; exact hu
theorem DltAt.fr {w : World} {D : Nat} {W Z L N : Int} {bid tid : List UInt8} {v : Value} (h : DltAt w D W Z L N bid tid v) (i : Nat) : w.frozen? ⟨D, i, none⟩ = false := frozen_of_row _ _ _ _ _ h.row
theorem DltAt.range {w : World} {D : Nat} {W Z L N : Int} {bid tid : List UInt8} {v : Value} (h : DltAt w D W Z L N bid tid v) : w.rangeAt D 0 (dltC W Z L N bid tid v) := range_row h.row
theorem DltAt.cv {w : World} {D : Nat} {W Z L N : Int} {bid tid : List UInt8} {v : Value} (h : DltAt w D W Z L N bid tid v) : w.cell? ⟨D, 68, none⟩ = some v := by
 refine h.c ?_
 unfold dltC
 rw [show 68 = 64 + 1 + 1 + 1 + 1 by omega, List.getElem?_cons_succ, List.getElem?_cons_succ, List.getElem?_cons_succ, List.getElem?_cons_succ, List.getElem?_append_right (by rw [bys_length, h.hb]; omega), bys_length, h.hb, List.getElem?_append_right (by rw [bys_length, h.ht]; omega), bys_length, h.ht]
 rfl
theorem DltAt.sb {w : World} {D : Nat} {W Z L N : Int} {bid tid : List UInt8} {v : Value} (h : DltAt w D W Z L N bid tid v) : w.rangeAt D 4 (bys bid) := fun j u hu => by
 refine h.c ?_
 unfold dltC
 rw [show 4 + j = j + 1 + 1 + 1 + 1 by omega, List.getElem?_cons_succ, List.getElem?_cons_succ, List.getElem?_cons_succ, List.getElem?_cons_succ, List.getElem?_append_left (List.getElem?_eq_some_iff.1 hu).1]
 exact hu
theorem DltAt.st {w : World} {D : Nat} {W Z L N : Int} {bid tid : List UInt8} {v : Value} (h : DltAt w D W Z L N bid tid v) : w.rangeAt D 36 (bys tid) := fun j u hu => by
 refine h.c ?_
 unfold dltC
 rw [show 36 + j = (32 + j) + 1 + 1 + 1 + 1 by omega, List.getElem?_cons_succ, List.getElem?_cons_succ, List.getElem?_cons_succ, List.getElem?_cons_succ, List.getElem?_append_right (by rw [bys_length, h.hb]; omega), bys_length, h.hb, show 32 + j - 32 = j by omega, List.getElem?_append_left (List.getElem?_eq_some_iff.1 hu).1]
 exact hu
theorem DltAt.setI {w : World} {D : Nat} {W Z L N : Int} {bid tid : List UInt8} {v : Value} (h : DltAt w D W Z L N bid tid v) (i : Nat) (x : Int) (W' Z' L' N' : Int) (he : (dltC W Z L N bid tid v).set i (.int .i64 x) = dltC W' Z' L' N' bid tid v) : DltAt (w.setCell ⟨D, i, none⟩ (.int .i64 x)) D W' Z' L' N' bid tid v := by
 refine ⟨?_, h.hb, h.ht⟩
 rw [heap_setCell_same _ _ _ _ _ _ h.row, List.setIfInBounds_toArray, he]
theorem DltAt.setV {w : World} {D : Nat} {W Z L N : Int} {bid tid : List UInt8} {v : Value} (h : DltAt w D W Z L N bid tid v) (u : Value) : DltAt (w.setCell ⟨D, 68, none⟩ u) D W Z L N bid tid u := by
 refine ⟨?_, h.hb, h.ht⟩
 rw [heap_setCell_same _ _ _ _ _ _ h.row, List.setIfInBounds_toArray]
 congr 3
 unfold dltC
 rw [List.set_cons_succ, List.set_cons_succ, List.set_cons_succ, List.set_cons_succ, List.set_append_right _ _ (by rw [bys_length, h.hb]; omega), bys_length, h.hb, List.set_append_right _ _ (by rw [bys_length, h.ht]; omega), bys_length, h.ht]
 rfl
theorem DltAt.there {w : World} {D : Nat} {W Z L N : Int} {bid tid : List UInt8} {v : Value} (h : DltAt w D W Z L N bid tid v) (o m : Nat) (ho : o + m <= 69) : w.there D o m := there_row h.row _ _ (by rw [dltC_size h.hb h.ht]; exact ho)
theorem DltAt.setB {w : World} {D : Nat} {W Z L N : Int} {bid tid : List UInt8} {v : Value} (h : DltAt w D W Z L N bid tid v) (id : List UInt8) (hl : id.length = 32) : DltAt (w.setCells D 4 (bys id)) D W Z L N id tid v := by
 refine ⟨?_, hl, h.ht⟩
 have hb := h.hb
 rw [setCells_row _ _ _ _ _ _ h.row (by rw [bys_length, hl, dltC_len h.hb h.ht]; omega), setRow_heap _ _ _ _ _ _ h.row, bys_length, hl]
 congr 3
 unfold dltC
 show [Value.int .i64 W, .int .i64 Z, .int .i64 L, .int .i64 N] ++ (bys id ++ (bys bid ++ (bys tid ++ [v])).drop 32) = _
 rw [List.drop_append, List.drop_of_length_le (by rw [bys_length, hb]; exact Nat.le_refl _), bys_length, hb]
 rfl
theorem DltAt.setT {w : World} {D : Nat} {W Z L N : Int} {bid tid : List UInt8} {v : Value} (h : DltAt w D W Z L N bid tid v) (id : List UInt8) (hl : id.length = 32) : DltAt (w.setCells D 36 (bys id)) D W Z L N bid id v := by
 refine ⟨?_, h.hb, hl⟩
 have hb := h.hb
 have ht := h.ht
 rw [setCells_row _ _ _ _ _ _ h.row (by rw [bys_length, hl, dltC_len h.hb h.ht]; omega), setRow_heap _ _ _ _ _ _ h.row, bys_length, hl]
 congr 3
 have l1 : ([Value.int .i64 W, Value.int .i64 Z, Value.int .i64 L, Value.int .i64 N] ++ bys bid).length = 36 := by rw [List.length_append, bys_length, hb]; rfl
 have e1 : dltC W Z L N bid tid v = ([Value.int .i64 W, Value.int .i64 Z, Value.int .i64 L, Value.int .i64 N] ++ bys bid) ++ (bys tid ++ [v]) := by simp [dltC]
 have e2 : dltC W Z L N bid id v = ([Value.int .i64 W, Value.int .i64 Z, Value.int .i64 L, Value.int .i64 N] ++ bys bid) ++ (bys id ++ [v]) := by simp [dltC]
 rw [e1, e2, List.take_append_of_le_length (by omega), List.take_of_length_le (by omega), List.drop_append, List.drop_of_length_le (by omega), List.nil_append, l1, show 36 + 32 - 36 = 32 by omega, List.drop_append, List.drop_of_length_le (by rw [bys_length, ht]; omega), List.nil_append, bys_length, ht]
 simp
structure Rst (w wr : World) (b R D : Nat) (W Z L N : Int) (bid tid : List UInt8) (v : Value) : Prop where
 kept : Kept [] w wr
 rAt : wr.heap[R]? = some (.cells zeroD 34 (0, 0))
 dAt : DltAt wr D W Z L N bid tid v
 ps : w.heap.size = R ∧ R < b ∧ b < D
theorem Rst.move {l : List Nat} {w wr w' : World} {b R D : Nat} {W Z L N : Int} {bid tid : List UInt8} {v : Value} (h : Rst w wr b R D W Z L N bid tid v) (hk : Kept l wr w') (hl : ∀ i, i ∈ l -> R < i ∧ i ≠ D) : Rst w w' b R D W Z L N bid tid v := by
 have := h.ps
 refine ⟨h.kept.trans hk (fun i hi hlt => by have := hl i hi; omega), (hk.block R (heap_lt h.rAt) (fun hm => by have := hl R hm; omega)).trans h.rAt, h.dAt.kept hk (fun hm => (hl D hm).2 rfl), h.ps⟩
theorem Rst.call {w wr w' : World} {b R D : Nat} {W Z L N : Int} {bid tid : List UInt8} {v : Value} (h : Rst w wr b R D W Z L N bid tid v) (hk : Kept [b] wr w') : Rst w w' b R D W Z L N bid tid v :=
 h.move hk (fun i hi => by simp only [List.mem_singleton] at hi; have := h.ps; omega)
theorem Rst.put {w wr w' : World} {b R D : Nat} {W Z L N W' Z' L' N' : Int} {bid tid bid' tid' : List UInt8} {v v' : Value} (h : Rst w wr b R D W Z L N bid tid v) (hk : Kept [D] wr w') (hd : DltAt w' D W' Z' L' N' bid' tid' v') : Rst w w' b R D W' Z' L' N' bid' tid' v' := by
 have := h.ps
 exact ⟨h.kept.trans hk (fun i hi hlt => by simp only [List.mem_singleton] at hi; omega), (hk.block R (heap_lt h.rAt) (by simp; omega)).trans h.rAt, hd, h.ps⟩
def ReadE (w w' : World) (e : Ending) : Option Dta -> Prop
 | none => ∃ W Z L N bid tid v, bid.length = 32 ∧ tid.length = 32 ∧ v.oneCell' = true ∧ e = .returned (.tuple #[.agg (dltC W Z L N bid tid v).toArray, .bool false])
 | some d => ∃ T lo lc, T.map Stc.s = d.steps ∧ StepsAt w.heap.size w' (.slice lo d.steps.length lc) T ∧ e = .returned (.tuple #[.agg (dltC (d.width : Nat) (d.size : Nat) (d.blen : Nat) (d.tlen : Nat) d.bid d.tid (.slice lo d.steps.length lc)).toArray, .bool true])
theorem ReadE.zero (w w' : World) {o : Option Dta} (h : o = none) : ReadE w w' (.returned (.tuple #[.agg zeroD, .bool false])) o := by
 subst h
 exact ⟨0, 0, 0, 0, z32, z32, .slice none 0 0, z32_len, z32_len, rfl, rfl⟩
theorem Tryz.builtS1 (f c : Int) (ao : Option Addr) (n cap : Nat) (W : World) : (Instr.buildSlice 32 1 #[(0, .agg (stp3 f c (.slice ao n cap)).toArray)]).run Tryz.prog W = .ok (.slice (some ⟨W.heap.size, 0, none⟩) 1 1) (W.alloc (.cells (stp3 f c (.slice ao n cap)).toArray 39)) := by kernel_rfl
theorem rdI_e {xs : List UInt8} {n : Nat} {s : Rs} {q : Stp × Rs} (h : rdI xs n s = some q) : q.2.e = 0 := by
 unfold rdI at h
 split at h
 ·split at h; · cases h
  split at h; · cases h
  rename_i h1 h2
  injection h with h
  subst h
  rw [Bool.not_eq_false, Dlt.within_iff] at h2
  exact num_e (by omega)
 ·split at h
  ·split at h; · cases h
   rename_i h1
   injection h with h
   subst h
   exact text_e h1
  ·cases h
theorem rdIs_e {xs : List UInt8} {n : Nat} {s : Rs} (h0 : s.e = 0) : ∀ {k : Nat} {p : List Stp × Rs}, rdIs xs n s k = some p -> p.2.e = 0
 | 0, p, h => by cases h; exact h0
 | k + 1, p, h => by
  simp only [rdIs] at h
  cases hq : rdIs xs n s k with
  | none => rw [hq] at h; cases h
  | some r =>
   rw [hq, Option.bind_some] at h
   cases hi : rdI xs n r.2 with
   | none => rw [hi] at h; cases h
   | some t =>
    rw [hi] at h
    cases h
    exact rdI_e hi
end

section
open Dlt
theorem rread_open (ao : Option Addr) (n cap : Nat) (xs : List UInt8) (w : World) (h : InB8 w ao n cap xs) (dd : Option Dta) (ho : openB xs = none) (hno : dd = none) :
  Calls Tryz.prog 9 #[.slice ao n cap] w fun e w' => ReadE w w' e dd ∧ Kept [] w w' := by
 have hz := Tryz.zeroDlt
 have K0 := ka w (.cells zeroD 34)
 have hr0 := heap_new w (.cells zeroD 34)
 have hop := ropened_ok ao n cap xs _ (h.kept K0)
 rw [ho] at hop
 have H := hide h
 obtain ⟨R, hR⟩ := nm (w.heap.size)
 rw [hR] at hr0
 have HRW := hide hR
 clear h ho
 go_enter Tryz.func9, Tryz.ntmps9
 go_upto_region 1 with (fail)
 try rw [hR]
 clear hR
 generalize w.alloc (.cells zeroD 34) = w1 at *
 have HNO := hide hno
 clear hno
 go_upto_region 3 with (go_at_call 32; refine hop.mono ?_; rintro r w2 ⟨⟨v, rfl⟩, hk2⟩; have HK2 := hide hk2; clear hop hk2)
 have hrR := (HK2.out.block R (heap_lt hr0) (by simp)).trans hr0
 have HKZ : Hid (Kept [] w (w2.setRow R zeroD)) := (K0.tr HK2.out).trans (kept_row _ _ _) (fun i hi hl => by simp only [List.mem_singleton] at hi; have := HRW.out; omega)
 clear hr0 K0 HK2 hz
 have hbz := Tryz.builtDltZ
 have hiD := Tryz.infoDltA (W := 0) (Z := 0) (L := 0) (N := 0) (v := .slice none 0 0) z32_len z32_len
 have haD : zeroD.all (·.oneCell') = true := dltC_one rfl
 have hrow : (w2.setRow R zeroD).heap[R]? = some (.cells zeroD 34 (0, 0)) := setRow_heap _ _ _ _ _ _ hrR
 go_wp2_with (first
  | refine wpList_buildRun8 rfl 34 #[] rfl #[] (by simp) _ (hbz _) ?_
  | refine wpList_store_rowTo rfl 34 (.tmp 2) (.tmp 20) rfl rfl R zeroD rfl rfl 34 zeroD hrR hiD rfl haD ?_)
 refine ret_row_slot rfl rfl R 34 _ (0, 0) _ rfl hrow Tryz.underlying34 rfl hiD ?_
 exact ⟨ReadE.zero _ _ HNO.out, HKZ.out⟩
end

end Go.Proofs.YtmklodligplbaabGreat
