import Derived.Test.YtmklodligplbaaaGreatD8um
open Go.RowKit
set_option linter.unusedVariables false
set_option linter.unusedSimpArgs false
set_option maxRecDepth 100000
set_option maxHeartbeats 51200000
namespace Go.Proofs.YtmklodligplbaaaGreat
section
attribute [local go_sem] Oper.semAt_some
def winE (data : List UInt8) (size : Nat) (k : Nat) : Array Value := #[.int .i64 k, .int .i64 (Rol.sum (wat data size k))]
def winN (data : List UInt8) (size : Nat) (pre : List Nat) (k : Nat) : Prop := k = pre.length ∧ k + size <= data.length
def winS (data : List UInt8) (size : Nat) (xs : List Nat) : Prop := xs.length = data.length + 1 - size
theorem Cel.cell {A C : World} (h : Cel A C) {p : Addr} {v : Value} {cs : Array Value} {t : TypeId} {fr : Nat × Nat} (hc : A.cell? p = some v) (hr : A.heap[p.block]? = some (.cells cs t fr)) : C.cell? p = some v := by
 have := h.2 p.block _ hr rfl
 rw [World.cell?_of_block (w := A) (this.trans hr.symm)]
 exact hc
structure Wx8 (w : World) (Kb Sb g cap size : Nat) (data : List UInt8) : Prop where
 c : Wc w Kb Sb g cap size data
 rk : ∃ cs t fr, w.heap[Kb]? = some (.cells cs t fr)
 rs : ∃ cs t fr, w.heap[Sb]? = some (.cells cs t fr)
 rg : ∃ cs t fr, w.heap[g]? = some (.cells cs t fr)
theorem Wx8.cel {A C : World} {Kb Sb g cap size : Nat} {data : List UInt8} (h : Wx8 A Kb Sb g cap size data) (k : Cel A C) : Wx8 C Kb Sb g cap size data := by
 obtain ⟨hc, ⟨c1, t1, f1, r1⟩, ⟨c2, t2, f2, r2⟩, ⟨c3, t3, f3, r3⟩⟩ := h
 exact ⟨⟨k.cell hc.k r1, k.cell hc.s r2, fun i hi => k.cell (hc.d i hi) r3, hc.h1, hc.h2, hc.le, hc.max⟩, ⟨c1, t1, f1, k.2 _ _ r1 rfl⟩, ⟨c2, t2, f2, k.2 _ _ r2 rfl⟩, ⟨c3, t3, f3, k.2 _ _ r3 rfl⟩⟩
theorem Wx8.lts {A : World} {Kb Sb g cap size : Nat} {data : List UInt8} (h : Wx8 A Kb Sb g cap size data) : Kb < A.heap.size ∧ Sb < A.heap.size ∧ g < A.heap.size := by
 obtain ⟨hc, ⟨c1, t1, f1, r1⟩, ⟨c2, t2, f2, r2⟩, ⟨c3, t3, f3, r3⟩⟩ := h
 exact ⟨(gs r1).1, (gs r2).1, (gs r3).1⟩
theorem Wx8.below {A C : World} {Kb Sb g cap size : Nat} {data : List UInt8} (h : Wx8 A Kb Sb g cap size data) (k : Below A.heap.size A C) : Wx8 C Kb Sb g cap size data := h.cel (Kept.of_below k).cel
theorem Wx8.kept1 {A C : World} {P Kb Sb g cap size : Nat} {data : List UInt8} (h : Wx8 A Kb Sb g cap size data) (k : Kept [P] A C) (h1 : Kb ≠ P) (h2 : Sb ≠ P) (h3 : g ≠ P) : Wx8 C Kb Sb g cap size data := by
 have hl := h.lts
 obtain ⟨hc, ⟨c1, t1, f1, r1⟩, ⟨c2, t2, f2, r2⟩, ⟨c3, t3, f3, r3⟩⟩ := h
 exact ⟨hc.kept k (by simpa using h1) (by simpa using h2) (by simpa using h3), ⟨c1, t1, f1, (k.block _ hl.1 (by simpa using h1)).trans r1⟩, ⟨c2, t2, f2, (k.block _ hl.2.1 (by simpa using h2)).trans r2⟩, ⟨c3, t3, f3, (k.block _ hl.2.2 (by simpa using h3)).trans r3⟩⟩
theorem Kept.below0 {A C : World} (h : Kept [] A C) : Below A.heap.size A C := h.below (Nat.le_refl _) (by simp)
theorem win_seq (n : Nat) (Kb Sb g cap size : Nat) (data : List UInt8) (w : World) (hc : Wx8 w Kb Sb g cap size data) :
  Seq8 n Tryz.prog 117 #[.pointer (some ⟨Kb, 0, none⟩), .pointer (some ⟨Sb, 0, none⟩)] (winE data size) (winS data size) (winN data size) w := by
 intro l J Jx W hB hJ hY h0
 have HC := hide (hc.below hB)
 have HJ : Hid (∀ s A C, J s A -> Below W.heap.size A C -> J s C) := hJ
 have HY : Hid (∀ pre x W1, J pre W1 -> winN data size pre x -> YieldAt Fence.wide (n - 1) Tryz.prog l (winE data size x) W1 fun e W' => (e = .returned (.bool true) ∧ J (pre ++ [x]) W' ∧ Cel W1 W') ∨ (e = .returned (.bool false) ∧ Jx (pre ++ [x]) W')) := hY
 have H0 := hide h0
 have ck := HC.out.c.k
 have cs := HC.out.c.s
 have hs1 := HC.out.c.h1
 have hs2 := HC.out.c.h2
 have hle := HC.out.c.le
 have hmx := HC.out.c.max
 have hzv := Tryz.zeroParts
 obtain ⟨N, hN⟩ : ∃ N, N = data.length := ⟨_, rfl⟩
 rw [<-hN] at ck hs2 hle hmx
 have HN : Hid (N = data.length) := hN
 have hsl : Sl W (some ⟨g, 0, none⟩) (data.take size) := (Sl.of (fun i hi => by rw [Nat.zero_add]; exact HC.out.c.d i hi)).take size
 have hcut : ∀ W, (Instr.slice 22 (.slice (some ⟨g, 0, none⟩) N cap) none (some (.int .i64 size)) none).run Tryz.prog W = .ok (.slice (some ⟨g, 0, none⟩) size cap) W := fun W => Tryz.cutTo W _ _ _ _ (by omega)
 have hw0 : data.take size = wat data size 0 := by simp [wat]
 have hpo := partsOf_n (some ⟨g, 0, none⟩) size cap (data.take size) W (by have := HN.out; simp; omega) (by omega) hsl
 rw [hw0] at hpo
 clear hc hJ hY h0 hB hN hsl hw0
 refine callsIn_of_wp Tryz.func117 rfl trivial ?_ rfl
 simp only [Tryz.ntmps117, List.size_toArray, List.length_cons, List.length_nil, Nat.reduceAdd, Nat.reduceSub, Array.replicate_succ, Array.replicate_zero, List.push_toArray, List.append_toArray, List.nil_append, List.cons_append]
 gi_wp2_with (refine ⟨trivial, (fun e => by cases e), ?_⟩; gi_at_call 111; refine (callsIn_wide.2 hpo).mono ?_; rintro e w1 ⟨rfl, hk1⟩; have HK1 := hide hk1; clear hpo hk1)
 have hzW : W.heap.size <= w1.heap.size := HK1.out.size
 obtain ⟨w2, hw2⟩ : ∃ w2, w2 = w1.alloc (.cells #[.int .u16 (Rol.pa (wat data size 0)), .int .u16 (Rol.pb (wat data size 0))] 166) := ⟨_, rfl⟩
 have HW : Hid (Wl w2 w1.heap.size (Rol.pa (wat data size 0)) (Rol.pb (wat data size 0))) := ⟨by rw [hw2]; exact heap_alloc_new _ _⟩
 have hkk : Kept [] W w2 := by rw [hw2]; exact HK1.out.alloc _
 have HC1 : Hid (Wx8 w2 Kb Sb g cap size data) := HC.out.cel hkk.cel
 have HI : Hid (J [] w2) := HJ.out _ _ _ H0.out hkk.below0
 have HL0 : Hid (Kb < W.heap.size ∧ Sb < W.heap.size ∧ g < W.heap.size) := HC.out.lts
 try rw [<-hw2]
 clear HC H0 HK1 hkk hcut hzv ck cs hw2
 generalize w1.heap.size = P at HW hzW ⊢
 clear w1
 gi_loopw [5] (fun i wr => ∃ (k : Nat) (pre : List Nat), k + size <= N ∧ pre.length = k ∧ i = .int .i64 k ∧ Hid (Wl wr P (Rol.pa (wat data size k)) (Rol.pb (wat data size k))) ∧ Hid (Wx8 wr Kb Sb g cap size data) ∧ Hid (J pre wr)) (fun i wr => N - (intOf i).toNat)
 case atStart => exact ⟨0, [], by omega, rfl, rfl, HW, HC1, HI⟩
 case round =>
  clear HW HC1 HI
  obtain ⟨k, pre, hk, hpre, rfl, HW, HC, HI⟩ := hrel
  have ha := Rol.pa_lt (wat data size k)
  have hb := Rol.pb_lt (wat data size k)
  have p0 : wr.cell? ⟨P, 0, none⟩ = some (.int .u16 (Rol.pa (wat data size k))) := by rw [cell_of_row _ _ _ _ _ _ HW.out.row]; rfl
  have p1 : wr.cell? ⟨P, 1, none⟩ = some (.int .u16 (Rol.pb (wat data size k))) := by rw [cell_of_row _ _ _ _ _ _ HW.out.row]; rfl
  have HPL : Hid (P < wr.heap.size) := World.block_lt_of_cell? _ _ p0
  have HPS : Hid (∀ w, Calls Tryz.prog 112 #[pv (Rol.pa (wat data size k)) (Rol.pb (wat data size k))] w fun e w' => e = .returned (.int .i64 (Rol.sum (wat data size k))) ∧ Kept [] w w') := fun w => psum_any _ _ w ha hb
  gi_wp2_with (refine ⟨trivial, (fun e => by cases e), ?_⟩; gi_at_call 112; refine (callsIn_wide.2 (HPS.out _)).mono ?_; rintro e w3 ⟨rfl, hk3⟩; have HK3 := hide hk3; clear hk3; have HI3 : Hid (J pre w3) := HJ.out _ _ _ HI.out ((HK3.out.below0).mono (by have := HPL.out; omega)); obtain ⟨fn, tmps, assign, body, hy, hR⟩ := HY.out pre k w3 HI3.out ⟨hpre.symm, by have := HN.out; omega⟩; simp only [winE] at hy)
  have HC3 : Hid (Wx8 w3 Kb Sb g cap size data) := HC.out.cel HK3.out.cel
  have HW3 : Hid (Wl w3 P (Rol.pa (wat data size k)) (Rol.pb (wat data size k))) := HW.out.kept HK3.out (by simp)
  have HPL3 : Hid (P < w3.heap.size) := Nat.lt_of_lt_of_le HPL.out HK3.out.size
  clear HI HC HW p0 p1 HPS HPL HK3
  refine ⟨(fun e => by cases e), hR.mono ?_⟩
  rintro e w4 (⟨rfl, hT, hcel⟩ | ⟨rfl, hF⟩)
  rotate_left 1
  ·have HF := hide hF
   clear hF HI3 HC3 HW3 HY hR hy
   gi_wp2
   exact bodyPost_end (results_none rfl _ _ _) rfl ⟨⟨_, rfl⟩, .inr ⟨_, HF.out⟩⟩
  ·have HT : Hid (J (pre ++ [k]) w4) := hT
   have HC4 : Hid (Wx8 w4 Kb Sb g cap size data) := HC3.out.cel hcel
   have HW4 : Hid (Wl w4 P (Rol.pa (wat data size k)) (Rol.pb (wat data size k))) := ⟨hcel.2 _ _ HW3.out.row rfl⟩
   have ck := HC4.out.c.k
   have cs := HC4.out.c.s
   rw [<-HN.out] at ck
   have HPL4 : Hid (P < w4.heap.size) := Nat.lt_of_lt_of_le HPL3.out hcel.1
   clear hT hcel HI3 HC3 HW3 HY HPL3 hR hy
   by_cases hend : k + size = N
   ·have g1 : ((k : Int) + (size : Int) == (N : Int)) = true := by simp; omega
    have HS2 : Hid (winS data size (pre ++ [k])) := by
     show (pre ++ [k]).length = _
     have := HN.out
     simp [hpre]; omega
    clear HC4 HW4 HJ
    gi_wp2
    exact bodyPost_ret (results_none rfl _ _ _) rfl ⟨⟨_, rfl⟩, .inl ⟨_, HS2.out, HT.out⟩⟩
   ·have g1 : ((k : Int) + (size : Int) == (N : Int)) = false := by simp; omega
    have hlt : k + size < N := by omega
    have p0 : w4.cell? ⟨P, 0, none⟩ = some (.int .u16 (Rol.pa (wat data size k))) := by rw [cell_of_row _ _ _ _ _ _ HW4.out.row]; rfl
    have p1 : w4.cell? ⟨P, 1, none⟩ = some (.int .u16 (Rol.pb (wat data size k))) := by rw [cell_of_row _ _ _ _ _ _ HW4.out.row]; rfl
    have d0 := HC4.out.c.d k (by have := HN.out; omega)
    have d1 := HC4.out.c.d (k + size) (by have := HN.out; omega)
    have hx : (data.getD k 0).toNat < 256 := UInt8.toNat_lt _
    have hy : (data.getD (k + size) 0).toNat < 256 := UInt8.toNat_lt _
    have ea : mva (Rol.pa (wat data size k)) (data.getD k 0).toNat (data.getD (k + size) 0).toNat = Rol.pa (wat data size (k + 1)) := by
     have := HN.out
     rw [wat_head data size k (by omega) (by omega), wat_next data size k (by omega) (by omega)]; exact mva_move _ _ _
    have eb : mvb (Rol.pa (wat data size k)) (Rol.pb (wat data size k)) (data.getD k 0).toNat (data.getD (k + size) 0).toNat size = Rol.pb (wat data size (k + 1)) := by
     have := HN.out
     rw [wat_head data size k (by omega) (by omega), wat_next data size k (by omega) (by omega)]; exact mvb_move _ _ _ _ (by simp; omega)
    have hmv := fun w => moved_any (Rol.pa (wat data size k)) (Rol.pb (wat data size k)) (data.getD k 0).toNat (data.getD (k + size) 0).toNat size w ha hb hx hy (by omega)
    rw [ea, eb] at hmv
    have HMV : Hid (∀ w, Calls Tryz.prog 118 #[pv (Rol.pa (wat data size k)) (Rol.pb (wat data size k)), .int .u8 (data.getD k 0).toNat, .int .u8 (data.getD (k + size) 0).toNat, .int .i64 size] w fun e w' => e = .returned (pv (Rol.pa (wat data size (k + 1))) (Rol.pb (wat data size (k + 1)))) ∧ Kept [] w w') := hmv
    clear hmv ea eb
    have l1 := Rol.pa_lt (wat data size (k + 1))
    have l2 := Rol.pb_lt (wat data size (k + 1))
    generalize Rol.pa (wat data size k) = a at HMV p0 ha HW4 ⊢
    generalize Rol.pb (wat data size k) = b at HMV p1 hb HW4 ⊢
    generalize (data.getD k 0).toNat = x at HMV d0 hx
    generalize (data.getD (k + size) 0).toNat = y at HMV d1 hy
    have HMV3 := HMV.out
    clear HMV
    gi_wp2
    obtain ⟨m, hm⟩ : ∃ m, m = k + size := ⟨_, rfl⟩
    rw [<-hm] at d1 hlt
    have a3 : IntKind.i64.wrap ((k : Int) + (size : Int)) = (m : Int) := by rw [hm]; simp [IntKind.wrap, IntKind.bits, IntKind.signed]; omega
    have hkN : k < N := by omega
    have HM : Hid (m = k + size) := hm
    clear hm
    refine wpIn_wide.2 ?_
    go_still_tail 12, Tryz.followsE
    rw [World.drew_eq]
    have hk5' : Kept [] w4 w4.drew := (Kept.refl [] w4).drew
    go_wp2_with (go_at_call 118; refine (HMV3 _).mono ?_; rintro e w5 ⟨rfl, hk5⟩; have HW5 : Hid (Wl w5 P a b) := HW4.out.kept (hk5'.tr hk5) (by simp); have q0 : w5.cell? ⟨P, 0, none⟩ = some (.int .u16 a) := (by rw [cell_of_row _ _ _ _ _ _ HW5.out.row]; rfl); have q1 : w5.cell? ⟨P, 1, none⟩ = some (.int .u16 b) := (by rw [cell_of_row _ _ _ _ _ _ HW5.out.row]; rfl); have f0 : w5.frozen? ⟨P, 0, none⟩ = false := frozen_of_row _ _ _ _ _ HW5.out.row; have f1 : w5.frozen? ⟨P, 1, none⟩ = false := frozen_of_row _ _ _ _ _ HW5.out.row)
    have hk6 : Kept [P] w4 ((w5.setCell ⟨P, 0, none⟩ (.int .u16 (Rol.pa (wat data size (k + 1)) : Nat))).setCell ⟨P, 1, none⟩ (.int .u16 (Rol.pb (wat data size (k + 1)) : Nat))) := ((((Kept.refl [P] w4).drew.tr hk5).setCell (by simp) _).setCell (by simp) _)
    have HW6 : Hid (Wl ((w5.setCell ⟨P, 0, none⟩ (.int .u16 (Rol.pa (wat data size (k + 1)) : Nat))).setCell ⟨P, 1, none⟩ (.int .u16 (Rol.pb (wat data size (k + 1)) : Nat))) P (Rol.pa (wat data size (k + 1))) (Rol.pb (wat data size (k + 1)))) := by
     have r1 := heap_setCell_same w5 P 0 _ _ (.int .u16 (Rol.pa (wat data size (k + 1)) : Nat)) HW5.out.row
     refine ⟨?_⟩
     rw [heap_setCell_same _ _ _ _ _ _ r1]
     rfl
    have hl := HL0.out
    have HC6 := HC4.out.kept1 hk6 (by omega) (by omega) (by omega)
    have HI6 := HJ.out (pre ++ [k]) _ _ HT.out ((hk6.below (Nat.le_of_lt (Nat.lt_of_le_of_lt hzW HPL4.out)) (by simpa using hzW)))
    clear HC4 HT HW4 HW5
    gi_wp2
    exact ⟨⟨k + 1, pre ++ [k], by have := HM.out; omega, by simp [hpre], by go_num, HW6, HC6, HI6⟩, by simp [intOf]; omega⟩
end

section
open Dlt
attribute [local go_sem] Oper.semAt_some
namespace Dlt
def fitI (wd : Int) (Z : Nat) (L : List Wk) (ys : List UInt8) (k : Nat) : Option Nat := leastI L (Rol.sum (wat ys Z k)) (Sha.ident wd (wat ys Z k))
def nextI (wd : Int) (Z : Nat) (L : List Wk) (ys : List UInt8) : Nat × Nat :=
 match (List.range (ys.length + 1 - Z)).find? fun k => (fitI wd Z L ys k).isSome with
 | some k => (k, (fitI wd Z L ys k).getD 0)
 | none => (ys.length, 0)
theorem nextI_none {wd : Int} {Z : Nat} {L : List Wk} {ys : List UInt8} (h : ∀ k, k < ys.length + 1 - Z -> fitI wd Z L ys k = none) : nextI wd Z L ys = (ys.length, 0) := by
 unfold nextI
 have : (List.range (ys.length + 1 - Z)).find? (fun k => (fitI wd Z L ys k).isSome) = none := by
  rw [List.find?_eq_none]
  intro k hk
  rw [h k (by simpa using hk)]
  simp
 rw [this]
theorem range_first {p : Nat -> Bool} {n k : Nat} (hk : k < n) (h : ∀ j, j < k -> p j = false) (hp : p k = true) : (List.range n).find? p = some k := by
 obtain ⟨m, rfl⟩ : ∃ m, n = k + (m + 1) := ⟨n - k - 1, by omega⟩
 rw [List.range_eq_range', <-List.range'_append_1, List.find?_append, List.range'_succ, List.find?_cons]
 have : (List.range' 0 k).find? p = none := by
  rw [List.find?_eq_none]
  intro j hj
  rw [h j (by simp [List.mem_range'] at hj; omega)]
  simp
 rw [this, Nat.zero_add, hp]
 rfl
theorem nextI_some {wd : Int} {Z : Nat} {L : List Wk} {ys : List UInt8} {k i : Nat} (hk : k < ys.length + 1 - Z) (h : ∀ j, j < k -> fitI wd Z L ys j = none) (hi : fitI wd Z L ys k = some i) : nextI wd Z L ys = (k, i) := by
 unfold nextI
 rw [range_first hk (fun j hj => by rw [h j hj]; rfl) (by rw [hi]; rfl)]
 simp [hi]
theorem nextI_le (wd : Int) (Z : Nat) (L : List Wk) (ys : List UInt8) : (nextI wd Z L ys).1 <= ys.length := by
 unfold nextI
 split
 ·next k h =>
  have := List.mem_of_find?_eq_some h
  simp at this
  show k <= _
  omega
 ·exact Nat.le_refl _
end Dlt
def noDefer8 (o : Oper) : Bool := match o.op with | .defer _ => false | _ => true
theorem noDefer8_all {ops : Array Oper} (h : ops.all noDefer8 = true) : ∀ (i : Nat) (o : Oper) (c : Call), ops[i]? = some o -> o.op ≠ .defer c := by
 intro i o c ho e
 rw [Array.all_eq_true] at h
 obtain ⟨hi, rfl⟩ := gs ho
 have := h i hi
 unfold noDefer8 at this
 rw [e] at this
 cases this
theorem regionIn_held8 {P : Program} {l n id : Nat} {ops : Array Oper} {a : Act} {w : World} {Q : Exit -> Act -> World -> Prop} {S : World -> Prop} (hm : P.follows .mixedOrders = true) (hQ : ∀ a w, ¬ Q .outgrown a w) (hd : ops.all noDefer8 = true) (hS : S w.drew)
  (h : S w.drew -> wpAnyH P .any ops Q S ops.size (Array.replicate ops.size false) a w.drew) : (Code.region id ops true).wpIn (Fence.wide.inRound l) n P Q a w :=
 regionIn_round hm hQ (noDefer8_all hd) (wpAny_of_held _ _ _ _ (h hS))
theorem cells_of8 {w : World} {p : Addr} {u : Value} (h : w.cell? p = some u) : ∃ c e fr, w.heap[p.block]? = some (.cells c e fr) ∧ c[p.off]? = some u := by
 unfold World.cell? at h
 split at h
 ·next c t f hb =>
  refine ⟨c, t, f, hb, ?_⟩
  split at h
  ·cases h
  ·exact h
 ·cases h
theorem Wx8.of {w : World} {Kb Sb g cap size : Nat} {data : List UInt8} (h : Wc w Kb Sb g cap size data) : Wx8 w Kb Sb g cap size data := by
 obtain ⟨c1, t1, f1, r1, _⟩ := cells_of8 h.k
 obtain ⟨c2, t2, f2, r2, _⟩ := cells_of8 h.s
 have h1 := h.h1
 have h2 := h.h2
 obtain ⟨c3, t3, f3, r3, _⟩ := cells_of8 (h.d 0 (by omega))
 exact ⟨h, ⟨_, _, _, r1⟩, ⟨_, _, _, r2⟩, ⟨_, _, _, r3⟩⟩
theorem win1_seq (n : Nat) (data : List UInt8) (size : Nat) (w : World) (h : data.length < size) :
  Seq8 n Tryz.prog 115 #[] (winE data size) (winS data size) (winN data size) w := by
 intro l J Jx W hB hJ hY h0
 refine (callsIn_wide.2 (win1_any _ W)).mono ?_
 rintro e w' ⟨rfl, rfl⟩
 exact ⟨⟨_, rfl⟩, .inl ⟨[], by show 0 = _; omega, h0⟩⟩
theorem windows_seq (ao : Option Addr) (n cap size : Nat) (data : List UInt8) (w : World) (hx : data.length = n) (hm : n <= 140737488355328) (h : Sl w ao data) (h1 : 1 <= size) :
  Calls Tryz.prog 94 #[.slice ao n cap, .int .i64 size] w fun e w' => ∃ gf lb, e = .returned (.func (.func gf) #[] lb) ∧ (∀ args w, (callFunc gf args).run Tryz.prog w = .ok (.enter gf args) w) ∧ (∀ m, Seq8 m Tryz.prog gf lb (winE data size) (winS data size) (winN data size) w') ∧ Kept [] w w' := by
 by_cases h2 : size <= n
 ·refine (windows_ok ao n cap size data w hx hm h h1 h2).mono ?_
  rintro e w' ⟨Kb, Sb, g, cap', rfl, hc, _, _, _, hk⟩
  exact ⟨_, _, rfl, enters_of Tryz.func117 (by kernel_rfl) rfl, fun m => win_seq m Kb Sb g cap' size data w' (Wx8.of hc), hk⟩
 ·refine (windows_bad ao n cap size w (.inr (by omega))).mono ?_
  rintro e w' ⟨rfl, hk⟩
  exact ⟨_, _, rfl, enters_of Tryz.func115 (by kernel_rfl) rfl, fun m => win1_seq m data size w' (by omega), hk⟩
end

section
open Dlt
attribute [local go_sem] Oper.semAt_some
structure NxI (wd : Int) (Z : Nat) (L : List Wk) (ys : List UInt8) (wL : World) (pre : List Nat) (W : World) : Prop where
 k : Kept [] wL W
 no : ∀ j, j < pre.length -> fitI wd Z L ys j = none
structure NxS (wd : Int) (Z : Nat) (L : List Wk) (ys : List UInt8) (A B : Nat) (wL W : World) : Prop where
 k : Kept [A, B] wL W
 la : A < wL.heap.size
 lb : B < wL.heap.size
 a : W.cell? ⟨A, 0, none⟩ = some (.int .i64 (nextI wd Z L ys).1)
 b : W.cell? ⟨B, 0, none⟩ = some (.int .i64 (nextI wd Z L ys).2)
theorem NxI.later {wd : Int} {Z : Nat} {L : List Wk} {ys : List UInt8} {wL : World} {pre : List Nat} {A C : World} (h : NxI wd Z L ys wL pre A) (k : Below wL.heap.size A C) : NxI wd Z L ys wL pre C :=
 ⟨Kept.of_below (h.k.below0.trans k), h.no⟩
theorem Kept.later2 {l : List Nat} {w A C : World} (h : Kept l w A) (k : Below w.heap.size A C) : Kept l w C := ⟨k.os.trans h.os, k.tape.trans h.tape, k.output.trans h.output, Nat.le_trans h.size k.size, fun i hi hn => (k.block i hi).trans (h.block i hi hn)⟩
theorem NxS.later {wd : Int} {Z : Nat} {L : List Wk} {ys : List UInt8} {A B : Nat} {wL W C : World} (h : NxS wd Z L ys A B wL W) (k : Below wL.heap.size W C) : NxS wd Z L ys A B wL C :=
 ⟨h.k.later2 k, h.la, h.lb, (World.cell?_of_block (k.block _ h.la)).trans h.a, (World.cell?_of_block (k.block _ h.lb)).trans h.b⟩
theorem wat_length8 (xs : List UInt8) (n lo : Nat) (h : lo + n <= xs.length) : (wat xs n lo).length = n := by simp [wat]; omega
theorem Sl.wat8 {w : World} {g off : Nat} {xs : List UInt8} (h : Sl w (some ⟨g, off, none⟩) xs) (n lo : Nat) (hl : lo + n <= xs.length) : Sl w (some ⟨g, off + lo, none⟩) (wat xs n lo) := by
 refine Sl.of fun i hi => ?_
 have hi' : i < n := by rw [wat_length8 _ _ _ hl] at hi; exact hi
 obtain ⟨b', off', e', hcell⟩ := h (lo + i) (by omega)
 cases e'
 rw [show off + lo + i = off + (lo + i) by omega, hcell]
 have : (wat xs n lo).getD i 0 = xs.getD (lo + i) 0 := by simp [wat, hi']
 rw [this]
theorem Oth.set2 {W V : World} (h : Kept [] W V) (p q : Addr) (x y : Value) : Oth W ((V.setCell p x).setCell q y) := by
 intro i o ho hc
 have h1 := h.oth i o ho hc
 exact (KeepsOthers.setCell _ _ _).same i _ ((KeepsOthers.setCell _ _ _).same i _ h1 hc) hc
theorem set2_cells {W : World} {A B : Nat} {x y u v : Value} (hne : A ≠ B) (ha : W.cell? ⟨A, 0, none⟩ = some u) (hb : W.cell? ⟨B, 0, none⟩ = some v) : ((W.setCell ⟨A, 0, none⟩ x).setCell ⟨B, 0, none⟩ y).cell? ⟨A, 0, none⟩ = some x ∧ ((W.setCell ⟨A, 0, none⟩ x).setCell ⟨B, 0, none⟩ y).cell? ⟨B, 0, none⟩ = some y := by
 have k1 : Kept [A] W (W.setCell ⟨A, 0, none⟩ x) := (Kept.refl [A] W).setCell (by simp) _
 have k2 : Kept [B] (W.setCell ⟨A, 0, none⟩ x) ((W.setCell ⟨A, 0, none⟩ x).setCell ⟨B, 0, none⟩ y) := (Kept.refl [B] _).setCell (by simp) _
 have c1 : (W.setCell ⟨A, 0, none⟩ x).cell? ⟨A, 0, none⟩ = some x := World.cell?_setCell_same' _ _ _ (by rw [ha]; rfl)
 have c2 := Kept.cellOf k1 hb (by simpa using Ne.symm hne)
 exact ⟨Kept.cellOf k2 c1 (by simpa using hne), World.cell?_setCell_same' _ _ _ (by rw [c2]; rfl)⟩
theorem results_ints {fn : Func} {p q : Tmp} (h : fn.results = #[.cell p 3, .cell q 3]) (tmps : Array Value) (w : World) (A B : Addr) (x y : Value) (ha : tmps.getD p undef = .pointer (some A)) (hb : tmps.getD q undef = .pointer (some B)) (ca : w.cell? A = some x) (cb : w.cell? B = some y) :
  (results fn tmps).run Tryz.prog w = .ok (.tuple #[x, y]) w := by
 have e : ∀ (A : Addr) (x : Value), w.cell? A = some x -> (loadVar 3 A).run Tryz.prog w = .ok x w := fun A x hx => by
  have hu := Tryz.underlying3
  go_simp
 have ea := e A x ca
 have eb := e B y cb
 simp only [results, h]
 simp only [Array.getD_eq_getD_getElem?] at ha hb
 simp [Sem.run_bind, Result.andThen, asAddr, ha, hb, ea, eb]
theorem next_ok (wd : Int) (Z : Nat) (ao : Option Addr) (n cap M : Nat) (L : List Wk) (ro : Option Addr) (rn rc : Nat) (ys : List UInt8) (w : World) (base : Nat) (K : List Int) (V : List Value) (hL : L.length = n) (hn : n <= 1000000) (hcap : n <= cap) (hW : Wks w ao L) (hm : Fm w base M L n K V) (hyl : ys.length = rn) (hyc : rn <= rc) (hys : Sl w ro ys) (hym : rn <= 1000000) (hZ1 : 1 <= Z) (hZ2 : Z <= 4096) :
  Calls Tryz.prog 64 #[.agg (fdC wd Z ao n cap (some M)).toArray, .slice ro rn rc] w fun e w' => e = .returned (.tuple #[.int .i64 (nextI wd Z L ys).1, .int .i64 (nextI wd Z L ys).2]) ∧ Kept [] w w' := by
 have hF := FdAt.new w wd Z ao n cap M
 have c1 := hF.c (j := 1) (u := .int .i64 Z) rfl
 have HIN := hide (ai hL (ai hn (ai hcap (ai hW (ai hm (ai hyl (ai hyc hys)))))))
 have HF := hide hF
 obtain ⟨G, hG⟩ := nm (w.heap.size)
 rw [hG] at c1 HF
 have HWS := hide (fun W (h : Kept [] w W) => windows_seq ro rn rc Z ys W hyl (by omega) (hys.kept h (by simp)) hZ1)
 clear hL hn hcap hW hm hyl hyc hys hF
 refine (callsIn_wide (n := 5)).1 ?_
 refine callsIn_of_wp_marks Tryz.func64 rfl trivial ?_ rfl
 simp only [Tryz.ntmps64, List.size_toArray, List.length_cons, List.length_nil, Nat.reduceAdd, Nat.reduceSub, Array.replicate_succ, Array.replicate_zero, List.push_toArray, List.append_toArray, List.nil_append, List.cons_append]
 have HK4 := hide (((((Kept.refl [] w).alloc (.cells (fdC wd Z ao n cap (some M)).toArray 105)).alloc (.cells #[.slice ro rn rc] 22)).alloc (.cells #[.int .i64 0] 3)).alloc (.cells #[.int .i64 0] 3))
 gi_wp2_with (refine ⟨trivial, ?_⟩; gi_at_call 94; refine (callsIn_wide.2 (HWS.out _ HK4.out)).mono ?_; rintro e wL ⟨gf, lb, rfl, heg, hsq, hk5⟩; have HSQ := hide (ai heg (ai hsq hk5)); clear heg hsq hk5)
 have HCE : Hid (∀ W, Kept [] wL W -> FdAt W G wd Z ao n cap M ∧ W.cell? ⟨G + 1, 0, none⟩ = some (.slice ro rn rc) ∧ W.cell? ⟨G + 1 + 1, 0, none⟩ = some (.int .i64 0) ∧ W.frozen? ⟨G + 1 + 1, 0, none⟩ = false ∧ W.cell? ⟨G + 1 + 1 + 1, 0, none⟩ = some (.int .i64 0) ∧ W.frozen? ⟨G + 1 + 1 + 1, 0, none⟩ = false ∧ Kept [] w W) := by
  intro W hW
  have k5 := HSQ.out.2.2.tr hW
  have kk := HK4.out.tr k5
  have s1 : (w.alloc (.cells (fdC wd Z ao n cap (some M)).toArray 105)).heap.size = G + 1 := by rw [World.size_alloc, hG]
  have s2 : ((w.alloc (.cells (fdC wd Z ao n cap (some M)).toArray 105)).alloc (.cells #[.slice ro rn rc] 22)).heap.size = G + 1 + 1 := by rw [World.size_alloc, s1]
  have s3 : (((w.alloc (.cells (fdC wd Z ao n cap (some M)).toArray 105)).alloc (.cells #[.slice ro rn rc] 22)).alloc (.cells #[.int .i64 0] 3)).heap.size = G + 1 + 1 + 1 := by rw [World.size_alloc, s2]
  have r1 := heap_new (w.alloc (.cells (fdC wd Z ao n cap (some M)).toArray 105)) (.cells #[.slice ro rn rc] 22)
  have r2 := heap_new ((w.alloc (.cells (fdC wd Z ao n cap (some M)).toArray 105)).alloc (.cells #[.slice ro rn rc] 22)) (.cells #[.int .i64 0] 3)
  have r3 := heap_new (((w.alloc (.cells (fdC wd Z ao n cap (some M)).toArray 105)).alloc (.cells #[.slice ro rn rc] 22)).alloc (.cells #[.int .i64 0] 3)) (.cells #[.int .i64 0] 3)
  rw [s1] at r1
  rw [s2] at r2
  rw [s3] at r3
  have x3 := (k5.block _ (by rw [World.size_alloc, s3]; omega) (by simp)).trans r3
  have k4 := ((Kept.refl [] (((w.alloc (.cells (fdC wd Z ao n cap (some M)).toArray 105)).alloc (.cells #[.slice ro rn rc] 22)).alloc (.cells #[.int .i64 0] 3))).alloc (.cells #[.int .i64 0] 3)).tr k5
  have x2 := (k4.block _ (by rw [s3]; omega) (by simp)).trans r2
  have k3 := ((Kept.refl [] ((w.alloc (.cells (fdC wd Z ao n cap (some M)).toArray 105)).alloc (.cells #[.slice ro rn rc] 22))).alloc (.cells #[.int .i64 0] 3)).tr k4
  have x1 := (k3.block _ (by rw [s2]; omega) (by simp)).trans r1
  have k2 := ((Kept.refl [] (w.alloc (.cells (fdC wd Z ao n cap (some M)).toArray 105))).alloc (.cells #[.slice ro rn rc] 22)).tr k3
  exact ⟨HF.out.kept k2 (by simp), by rw [cell_of_row _ _ _ _ _ _ x1]; rfl, by rw [cell_of_row _ _ _ _ _ _ x2]; rfl, frozen_of_row _ _ _ _ _ x2, by rw [cell_of_row _ _ _ _ _ _ x3]; rfl, frozen_of_row _ _ _ _ _ x3, kk⟩
 have HAB : Hid (G + 1 + 1 < wL.heap.size ∧ G + 1 + 1 + 1 < wL.heap.size) := by
  have := HSQ.out.2.2.size
  simp [World.size_alloc] at this
  rw [hG] at this
  exact ⟨by omega, by omega⟩
 have HOUT : Hid (∀ W, NxS wd Z L ys (G + 1 + 1) (G + 1 + 1 + 1) wL W -> Kept [] w W) := fun W h => ((HK4.out.tr HSQ.out.2.2).trans h.k (by simp [hG]; omega))
 clear HK4 HF HWS c1 hG
 refine range8 (gf := gf) (lb := lb) rfl HSQ.out.1 (HSQ.out.2.1 _) (fun _ => rfl) (NxI wd Z L ys wL) (fun _ W => NxS wd Z L ys (G + 1 + 1) (G + 1 + 1 + 1) wL W) (fun s A C h k => h.later k) (fun s A C h k => h.later k) ⟨Kept.refl _ _, fun j hj => absurd hj (by simp)⟩
  (fun x => { tmps := #[.agg (fdC wd Z ao n cap (some M)).toArray, .slice ro rn rc, .pointer (some ⟨G, 0, none⟩), .pointer (some ⟨G + 1, 0, none⟩), .pointer (some ⟨G + 1 + 1, 0, none⟩), .pointer (some ⟨G + 1 + 1 + 1, 0, none⟩), .int .i64 x, .int .i64 (Rol.sum (wat ys Z x)), undef, undef, .slice ro rn rc, .pointer (some ⟨G, 1, none⟩), .int .i64 Z, .func (.func gf) #[] lb, .int .i64 x, .int .i64 (Rol.sum (wat ys Z x)), undef, undef, undef, undef, undef, undef, undef, undef, undef, undef, undef, undef, undef, undef, undef, undef, undef, undef], defers := [] }) ?assign ?body ?done ?stop
 case assign =>
  intro l x W K hK
  simp only [winE]
  gi_wp2
  exact hK
 case body =>
  intro l pre k W hI hN
  obtain ⟨hkp, hkl⟩ := hN
  have HKP := hide hkp
  clear hkp
  have hI' := hide hI
  obtain ⟨hF, cr, ca, fa, cb, fb, hkw⟩ := HCE.out W hI.k
  obtain ⟨hL, hn, hcap, hW, hm, hyl, hyc, hys⟩ := HIN.out
  obtain ⟨b, off, rfl, _⟩ := hys 0 (by omega)
  have hcut := fun V => cut2 V b off rn rc k (k + Z) Z (by omega) (by omega) hyc rfl (by omega)
  have HLS := hide (fun U (h : Kept [] W U) => least_ok wd Z ao n cap M L (Rol.sum (wat ys Z k)) (some ⟨b, off + k, none⟩) Z (rc - k) (wat ys Z k) U base K V (by omega) (by omega) (hW.kept (hkw.tr h) (by simp)) (hm.kept (hkw.tr h)) (wat_length8 _ _ _ hkl) (by omega) ((hys.kept (hkw.tr h) (by simp)).wat8 Z k hkl) (by omega) hcap)
  have hcF := hF.range
  have c1 := hF.c (j := 1) (u := .int .i64 Z) rfl
  have hilF := Tryz.infoFd
  have hadd : IntKind.i64.wrap ((k : Int) + (Z : Int)) = ((k + Z : Nat) : Int) := by simp [IntKind.wrap, IntKind.bits, IntKind.signed]; omega
  have HFT : Hid (fitI wd Z L ys k = leastI L (Rol.sum (wat ys Z k)) (Sha.ident wd (wat ys Z k))) := rfl
  have HKL := hide hkl
  have HYL := hide hyl
  generalize leastI L (Rol.sum (wat ys Z k)) (Sha.ident wd (wat ys Z k)) = o at HLS HFT
  obtain ⟨m, hmm⟩ : ∃ m, m = k + Z := ⟨_, rfl⟩
  rw [<-hmm] at hadd hcut
  clear hI hW hm hys hkw hkl hyl hmm
  gi_wp2
  refine regionIn_held8 (S := fun w' => Kept [] W w') (by kernel_rfl) (fun _ _ h => h) (by kernel_rfl) ((Kept.refl [] W).drew) (fun h0 => ?_)
  generalize World.drew W = v0 at h0 ⊢
  refine t4 0 (.agg (fdC wd Z ao n cap (some M)).toArray) rfl (yieldsIf_load_mid (by rfl) _ _ rfl G 0 rfl (fdC wd Z ao n cap (some M)) _ (fun W h j u hu => Kept.cellOf h (hcF j u hu) (by simp)) Tryz.underlying105 rfl hilF) h0 ?_
  try simp only [zz]
  refine t2 1 (.slice (some ⟨b, off, none⟩) rn rc) rfl h0 ?_ (fun w hSw => by have c0 := Kept.cellOf hSw cr (by simp); go_simp)
  try simp only [zz]
  refine t1 2 (.int .i64 k) h0 ?_
  try simp only [zz]
  refine t1 3 (.int .i64 k) h0 ?_
  try simp only [zz]
  refine t1 4 (.pointer (some ⟨G, 1, none⟩)) h0 ?_
  try simp only [zz]
  refine t2 5 (.int .i64 Z) rfl h0 ?_ (fun w hSw => by have c0 := Kept.cellOf hSw c1 (by simp); go_simp)
  try simp only [zz]
  refine t2 6 (.int .i64 m) rfl h0 ?_ (fun w hSw => by have c0 := hadd; go_simp)
  try simp only [zz]
  refine t2 7 (.slice (some ⟨b, off + k, none⟩) Z (rc - k)) rfl h0 ?_ (fun w hSw => by have c0 := hcut w; go_simp)
  try simp only [zz]
  refine t1 8 (.int .i64 (Rol.sum (wat ys Z k))) h0 ?_
  try simp only [zz]
  refine rd 9 fun K hK => ?_
  go_simp
  refine (HLS.out v0 h0).mono ?_
  rintro e v1 ⟨rfl, hq⟩
  refine hK.out _ _ (h0.tr hq) (fun h1 => ?_)
  clear hK K
  try simp only [zz]
  clear hq h0
  refine t2 10 (.tuple #[.int .i64 (o.getD 0 : Nat), .bool o.isSome]) rfl h1 ?_ (fun w hSw => by have c0 := (show leastV o = .tuple #[.int .i64 (o.getD 0 : Nat), .bool o.isSome] from rfl); go_simp)
  try simp only [zz]
  refine t1 11 (.int .i64 (o.getD 0 : Nat)) h1 ?_
  try simp only [zz]
  refine t1 13 (.int .i64 (o.getD 0 : Nat)) h1 ?_
  try simp only [zz]
  refine t1 12 (.bool o.isSome) h1 ?_
  try simp only [zz]
  refine t1 14 (.bool o.isSome) h1 ?_
  try simp only [zz]
  refine dn ?_
  have HKF := hide h1
  obtain ⟨_, _, ca1, fa1, cb1, fb1, _⟩ := HCE.out v1 (hI'.out.k.tr h1)
  clear h1 hcF c1 hadd hcut HLS hF cr ca fa cb fb
  cases o with
  | none =>
   simp only [Option.isSome_none, Option.getD_none]
   gi_wp2
   refine ⟨HKF.out, hI'.out.k.tr HKF.out, fun j hj => ?_⟩
   rw [List.length_append, List.length_singleton] at hj
   by_cases hjk : j < pre.length
   ·exact hI'.out.no j hjk
   ·obtain rfl : j = k := by have := HKP.out; omega
    exact HFT.out
  | some i =>
   have HNX : Hid (nextI wd Z L ys = (k, i)) := nextI_some (by have := HKL.out; omega) (fun j hj => hI'.out.no j (by have := HKP.out; omega)) HFT.out
   simp only [Option.isSome_some, Option.getD_some]
   gi_wp2
   refine ⟨Oth.set2 HKF.out _ _ _ _, ((hI'.out.k.tr HKF.out).mono (by simp)).setCell (by simp) _ |>.setCell (by simp) _, HAB.out.1, HAB.out.2, ?_, ?_⟩
   ·rw [HNX.out]
    exact (set2_cells (by omega) ca1 cb1).1
   ·rw [HNX.out]
    exact (set2_cells (by omega) ca1 cb1).2
 case done =>
  intro xs W hS hI hK
  obtain ⟨_, cr, ca, fa, cb, fb, hkw⟩ := HCE.out W hI.k
  have HNX : Hid (nextI wd Z L ys = (rn, 0)) := by
   have h := nextI_none (fun k hk => hI.no k (by have : xs.length = _ := hS; omega)) 
   rw [HIN.out.2.2.2.2.2.1] at h
   exact h
  gi_wp2
  have hX : NxS wd Z L ys (G + 1 + 1) (G + 1 + 1 + 1) wL ((W.setCell ⟨G + 1 + 1, 0, none⟩ (.int .i64 (rn : Nat))).setCell ⟨G + 1 + 1 + 1, 0, none⟩ (.int .i64 0)) :=
   ⟨(hI.k.mono (by simp)).setCell (by simp) _ |>.setCell (by simp) _, HAB.out.1, HAB.out.2, by rw [HNX.out]; exact (set2_cells (by omega) ca cb).1, by rw [HNX.out]; exact (set2_cells (by omega) ca cb).2⟩
  have hK2 := Oth.set2 (Kept.refl [] W) ⟨G + 1 + 1, 0, none⟩ ⟨G + 1 + 1 + 1, 0, none⟩ (.int .i64 (rn : Nat)) (.int .i64 0) _ _ hK rfl
  clear ca cb fa fb cr HNX hI hkw hK
  generalize (W.setCell ⟨G + 1 + 1, 0, none⟩ (.int .i64 (rn : Nat))).setCell ⟨G + 1 + 1 + 1, 0, none⟩ (.int .i64 0) = W2 at *
  refine ⟨by simp, .inl ⟨_, _, rfl, run_takeDeferred hK2, ?_⟩⟩
  have hX2 := hX.later (below_put (.deferred none) (Nat.le_refl _))
  have ca := hX2.a
  have cb := hX2.b
  exact ⟨_, results_ints rfl _ _ _ _ _ _ rfl rfl ca cb, rfl, HOUT.out _ hX2⟩
 case stop =>
  intro pre W hI hK
  gi_wp2
  refine ⟨by simp, .inl ⟨_, _, rfl, run_takeDeferred hK, ?_⟩⟩
  have hX2 := hI.later (below_put (.deferred none) (Nat.le_refl _))
  have ca := hX2.a
  have cb := hX2.b
  exact ⟨_, results_ints rfl _ _ _ _ _ _ rfl rfl ca cb, rfl, HOUT.out _ hX2⟩
end

end Go.Proofs.YtmklodligplbaaaGreat
