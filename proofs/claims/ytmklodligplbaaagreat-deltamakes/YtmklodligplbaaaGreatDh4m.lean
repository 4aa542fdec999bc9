import Derived.Test.YtmklodligplbaaaGreatDh2m
import Derived.Test.YtmklodligplbaaaGreatProg
import Derived.Test.YtmklodligplbaaaGreatNim
import Derived.Test.YtmklodligplbaaaGreatMemm
open Go.RowKit
set_option linter.unusedVariables false
set_option linter.unusedSimpArgs false
set_option maxRecDepth 100000
set_option maxHeartbeats 51200000
namespace Go.Proofs.YtmklodligplbaaaGreat
section
def zero32 : Array Value := (bys (List.replicate 32 0)).toArray
theorem Tryz.zeroB32 (W : World) : (zeroValue 25).run Tryz.prog W = .ok (.agg zero32) W := by kernel_rfl
theorem Tryz.zeroID (W : World) : (zeroValue 26).run Tryz.prog W = .ok (.agg zero32) W := by kernel_rfl
theorem Tryz.info32 : (Tryz.prog.info? 25).map (·.size) = some 32 := by kernel_rfl
theorem Tryz.infoID : (Tryz.prog.info? 26).map (·.size) = some 32 := by kernel_rfl
structure Fill32 (w wr : World) (ty : TypeId) (r B : Nat) (A : List UInt8) : Prop where
 res : wr.heap[r]? = some (.cells zero32 ty (0, 0))
 arr : wr.heap[B]? = some (.cells (bys A).toArray ty (0, 0))
 len : A.length = 32
 below : Below w.heap.size w wr
 ps : w.heap.size <= r ∧ w.heap.size <= B ∧ r ≠ B
theorem Fill32.cell {w wr : World} {ty : TypeId} {r B : Nat} {A : List UInt8} (h : Fill32 w wr ty r B A) (i : Nat) (hi : i < 32) : wr.cell? ⟨B, i, none⟩ = some (.int .u8 (A.getD i 0).toNat) := by
 rw [cell_of_row _ _ _ _ _ _ h.arr, List.getElem?_toArray, bys_at (by rw [h.len]; exact hi)]
theorem Fill32.frozen {w wr : World} {ty : TypeId} {r B : Nat} {A : List UInt8} (h : Fill32 w wr ty r B A) (i : Nat) : wr.frozen? ⟨B, i, none⟩ = false := frozen_of_row _ _ _ _ _ h.arr
theorem Fill32.drewN {w wr : World} {ty : TypeId} {r B : Nat} {A : List UInt8} (h : Fill32 w wr ty r B A) (n : Nat) : Fill32 w (wr.drewN n) ty r B A := ⟨h.res, h.arr, h.len, ⟨h.below.os, h.below.tape, h.below.output, h.below.size, h.below.block⟩, h.ps⟩
theorem Fill32.drew {w wr : World} {ty : TypeId} {r B : Nat} {A : List UInt8} (h : Fill32 w wr ty r B A) : Fill32 w wr.drew ty r B A := h.drewN 1
theorem Fill32.set {w wr : World} {ty : TypeId} {r B : Nat} {A : List UInt8} (h : Fill32 w wr ty r B A) (i : Nat) (v : UInt8) : Fill32 w (wr.setCell ⟨B, i, none⟩ (.int .u8 v.toNat)) ty r B (A.set i v) := by
 have := h.ps
 refine ⟨by rw [heap_setCell_other _ _ _ _ (by show r ≠ B; omega)]; exact h.res, ?_, by simp [h.len], ?_, h.ps⟩
 ·rw [heap_setCell_same _ _ _ _ _ _ h.arr, List.setIfInBounds_toArray, bys_set]
 ·exact ⟨h.below.os, h.below.tape, h.below.output, by rw [World.size_setCell]; exact h.below.size, fun k hk => (heap_setCell_other _ _ _ _ (by show k ≠ B; omega)).trans (h.below.block k hk)⟩
theorem Fill32.later {w wr w2 : World} {ty : TypeId} {r B : Nat} {A : List UInt8} (h : Fill32 w wr ty r B A) (hb : Below wr.heap.size wr w2) : Fill32 w w2 ty r B A :=
 ⟨(hb.block r (gs h.res).1).trans h.res, (hb.block B (gs h.arr).1).trans h.arr, h.len, h.below.trans (hb.mono h.below.size), h.ps⟩
theorem bys_all (l : List UInt8) : (bys l).toArray.all (·.oneCell') = true := Array.all_eq_true_iff_forall_mem.2 fun v hv => bys_oneCell _ v (by simpa using hv)
theorem blocks3 (w : World) (o1 o2 o3 : Obj) : (((w.alloc o1).alloc o2).alloc o3).heap[w.heap.size]? = some o1 ∧ (((w.alloc o1).alloc o2).alloc o3).heap[w.heap.size + 1]? = some o2 ∧ (((w.alloc o1).alloc o2).alloc o3).heap[w.heap.size + 1 + 1]? = some o3 := by
 have e : (((w.alloc o1).alloc o2).alloc o3).heap = ((w.heap.push o1).push o2).push o3 := rfl
 rw [e]
 refine ⟨?_, ?_, ?_⟩
 ·rw [Array.getElem?_push, if_neg (by simp <;> omega), Array.getElem?_push, if_neg (by simp), Array.getElem?_push, if_pos rfl]
 ·rw [Array.getElem?_push, if_neg (by simp), Array.getElem?_push, if_pos (by simp)]
 ·rw [Array.getElem?_push, if_pos (by simp)]
def laid (L : List Nat) : Nat -> List UInt8
 | 0 => List.replicate 32 0
 | k + 1 => ((((laid L k).set (4 * k) (UInt8.ofNat (L.getD k 0 / 16777216 % 256))).set (4 * k + 1) (UInt8.ofNat (L.getD k 0 / 65536 % 256))).set (4 * k + 2) (UInt8.ofNat (L.getD k 0 / 256 % 256))).set (4 * k + 3) (UInt8.ofNat (L.getD k 0 % 256))
theorem laid_all (s : Sha.S8) : laid s.words 8 = Sha.bytes s := by kernel_rfl
theorem inBytes_ok (s : Sha.S8) (hs : s.Ok) (w : World) :
  Calls Tryz.prog 125 #[.agg (wds s.words).toArray] w fun e w' => e = .returned (.agg (bys (Sha.bytes s)).toArray) ∧ Below w.heap.size w w' := by
 have hz := Tryz.zeroB32
 obtain ⟨S, hS⟩ : ∃ S, S = w.heap.size := ⟨_, rfl⟩
 obtain ⟨r, hr⟩ : ∃ S, S = w.heap.size + 1 := ⟨_, rfl⟩
 obtain ⟨B, hB⟩ : ∃ r, r = w.heap.size + 1 + 1 := ⟨_, rfl⟩
 have h3 := blocks3 w (.cells (wds s.words).toArray 153) (.cells zero32 25) (.cells zero32 25)
 have hst := h3.1
 have HI : Hid (Fill32 w (((w.alloc (.cells (wds s.words).toArray 153)).alloc (.cells zero32 25)).alloc (.cells zero32 25)) 25 r B (laid s.words 0)) := by
  subst hr; subst hB
  exact ⟨h3.2.1, h3.2.2, rfl, ((((Below.refl _ _).alloc (Nat.le_refl _) _).alloc (by simp) _).alloc (by simp; omega) _), by omega⟩
 clear h3
 go_enter Tryz.func125, Tryz.ntmps125
 go_wp2_with (refine wpList_load_row rfl 153 (.tmp 1) rfl w.heap.size rfl 153 _ (0, 0) _ hst Tryz.underlying153 rfl Tryz.info8 ?_)
 rw [<-hB, <-hr, <-hS]
 clear hB hr hS hst hz
 generalize ((w.alloc _).alloc _).alloc _ = w1 at HI ⊢
 go_loopw [4, 5, 7] (fun _ _ i wr => ∃ k : Nat, k <= 8 ∧ i = .int .i64 k ∧ Hid (Fill32 w wr 25 r B (laid s.words k))) (fun _ _ i wr => 8 - (intOf i).toNat)
 case atStart => exact ⟨0, by omega, rfl, HI⟩
 case round =>
  clear HI
  obtain ⟨k, hk, rfl, HR⟩ := hrel
  by_cases hlt : k < 8
  ·have hx := fun W => Tryz.index8 s k hlt W
   have hxl := words_ok hs k
   have HL : Hid (laid s.words (k + 1) = ((((laid s.words k).set (4 * k) (UInt8.ofNat (s.words.getD k 0 / 16777216 % 256))).set (4 * k + 1) (UInt8.ofNat (s.words.getD k 0 / 65536 % 256))).set (4 * k + 2) (UInt8.ofNat (s.words.getD k 0 / 256 % 256))).set (4 * k + 3) (UInt8.ofNat (s.words.getD k 0 % 256))) := rfl
   generalize s.words.getD k 0 = x at hx hxl HL
   obtain ⟨j0, hj0⟩ : ∃ j, j = 4 * k := ⟨_, rfl⟩
   obtain ⟨j1, hj1⟩ : ∃ j, j = 4 * k + 1 := ⟨_, rfl⟩
   obtain ⟨j2, hj2⟩ : ∃ j, j = 4 * k + 2 := ⟨_, rfl⟩
   obtain ⟨j3, hj3⟩ : ∃ j, j = 4 * k + 3 := ⟨_, rfl⟩
   rw [<-hj1, <-hj2, <-hj3, <-hj0] at HL
   have e0 : 4 * (k : Int) = j0 := by omega
   have e1 : (j0 : Int) + 1 = j1 := by omega
   have e2 : (j0 : Int) + 2 = j2 := by omega
   have e3 : (j0 : Int) + 3 = j3 := by omega
   have l0 : (j0 : Int) < 32 := by omega
   have l1 : (j1 : Int) < 32 := by omega
   have l2 : (j2 : Int) < 32 := by omega
   have l3 : (j3 : Int) < 32 := by omega
   have c0 := HR.out.cell j0 (by omega)
   have c1 := HR.out.cell j1 (by omega)
   have c2 := HR.out.cell j2 (by omega)
   have c3 := HR.out.cell j3 (by omega)
   have f0 := HR.out.frozen j0
   have f1 := HR.out.frozen j1
   have f2 := HR.out.frozen j2
   have f3 := HR.out.frozen j3
   have n01 : j0 ≠ j1 := by omega
   have n02 : j0 ≠ j2 := by omega
   have n03 : j0 ≠ j3 := by omega
   have n12 : j1 ≠ j2 := by omega
   have n13 : j1 ≠ j3 := by omega
   have n23 : j2 ≠ j3 := by omega
   clear hj0 hj1 hj2 hj3
   have HS : Hid (Fill32 w ((((wr.setCell ⟨B, j0, none⟩ (.int .u8 ((x : Int) / 16777216))).setCell ⟨B, j1, none⟩ (.int .u8 ((x : Int) / 65536 % 256))).setCell ⟨B, j2, none⟩ (.int .u8 ((x : Int) / 256 % 256))).setCell ⟨B, j3, none⟩ (.int .u8 ((x : Int) % 256))) 25 r B (laid s.words (k + 1))) := by
    have h := (((HR.out.set j0 (UInt8.ofNat (x / 16777216 % 256))).set j1 (UInt8.ofNat (x / 65536 % 256))).set j2 (UInt8.ofNat (x / 256 % 256))).set j3 (UInt8.ofNat (x % 256))
    rw [u8_mod, u8_mod, u8_mod, u8_mod] at h
    show Fill32 _ _ _ _ _ _
    rw [HL.out]
    have e : ((x / 16777216 : Nat) : Int) % 256 = (x : Int) / 16777216 := by omega
    have e2 : ((x / 65536 : Nat) : Int) = (x : Int) / 65536 := by omega
    have e3 : ((x / 256 : Nat) : Int) = (x : Int) / 256 := by omega
    rw [e, e2, e3] at h
    exact h
   go_wp2
   go_roundw
   case rel => exact ⟨k + 1, by omega, by go_num, HS⟩
   case measure => simp [intOf]; omega
  ·obtain rfl : k = 8 := by omega
   have h1 := HR.out.arr
   have h2 := HR.out.res
   have hlen : (bys (laid s.words 8)).toArray.size = 32 := by simp [bys_length, HR.out.len]
   have hinf : (Tryz.prog.info? 25).map (·.size) = some (bys (laid s.words 8)).toArray.size := by rw [hlen]; exact Tryz.info32
   have hz0 : zero32.size = (bys (laid s.words 8)).toArray.size := by rw [hlen]; rfl
   have hone := bys_all (laid s.words 8)
   have HFIN : Hid (laid s.words 8 = Sha.bytes s) := laid_all s
   generalize laid s.words 8 = F at h1 hlen hinf hone hz0 HFIN HR
   go_wp2_with (first | refine wpList_load_row rfl 25 (.tmp 3) rfl B rfl 25 _ (0, 0) _ h1 Tryz.underlying25 rfl hinf ?_ | refine wpList_store_rowTo rfl 25 (.tmp 2) (.tmp 38) rfl rfl r (bys F).toArray rfl rfl 25 zero32 h2 hinf hz0 hone ?_)
   exact ret_row rfl rfl r 25 _ (0, 0) _ rfl (setRow_heap _ _ _ _ _ _ h2) Tryz.underlying25 rfl hinf ⟨by rw [HFIN.out], below_row HR.out.below HR.out.ps.1 _⟩
end

section
def zeroH : Array Value := (hrow [] [] (List.replicate 8 0) (List.replicate 64 0) 0).toArray
theorem Tryz.zeroHash (W : World) : (zeroValue 162).run Tryz.prog W = .ok (.agg zeroH) W := by kernel_rfl
theorem Tryz.infoHash : (Tryz.prog.info? 162).map (·.size) = some 73 := by kernel_rfl
theorem hs_zero_of {w : World} {g : Nat} (h : w.heap[g]? = some (.cells zeroH 162 (0, 0))) : Hs w g 162 [] [] [] :=
 ⟨_, _, ⟨h, rfl, rfl⟩, fun h => absurd rfl h, by simp [Tail]⟩
theorem hrow_len (pre post : List Value) (st : List Nat) (blk : List UInt8) (n : Nat) (h1 : st.length = 8) (h2 : blk.length = 64) : (hrow pre post st blk n).length = pre.length + 73 + post.length := by
 simp only [hrow, List.length_append, wds_len, bys_length, List.length_cons, h1, h2]; omega
theorem hrow_oneCell (st : List Nat) (blk : List UInt8) (n : Nat) : ∀ u ∈ hrow [] [] st blk n, u.oneCell' = true := by
 intro u hu
 simp only [hrow, List.nil_append, List.mem_append, List.mem_singleton] at hu
 rcases hu with h | h | h
 ·exact wds_oneCell _ _ h
 ·exact bys_oneCell _ _ h
 ·rw [h]; rfl
theorem Hp.all {w : World} {b : Nat} {ty : TypeId} {pre post : List Value} {st : List Nat} {blk : List UInt8} {n : Nat} (h : Hp w b ty pre post st blk n) : w.rangeAt b pre.length (hrow [] [] st blk n) := fun j v hv => by
 have hj := (List.getElem?_eq_some_iff.1 hv).1
 have e : hrow pre post st blk n = pre ++ (hrow [] [] st blk n ++ post) := by simp [hrow]
 rw [h.cell, e, List.getElem?_append_right (by omega), Nat.add_sub_cancel_left, List.getElem?_append_left hj]
 exact hv
def HasTaken (w : World) (p : Option Addr) (m : List UInt8) : Prop := (p = none ∧ m = []) ∨ ∃ b ty pre post, p = some ⟨b, pre.length, none⟩ ∧ Hs w b ty pre post m
theorem sum_ok (p : Option Addr) (m : List UInt8) (w : World) (hH : HasTaken w p m) (hsum : m.length < 9223372036854775736) :
  Calls Tryz.prog 110 #[.pointer p] w fun e w' => e = .returned (.agg (bys (Sha.full m)).toArray) ∧ Below w.heap.size w w' := by
 have hz := Tryz.zeroB32
 have hz2 := Tryz.zeroHash
 obtain ⟨r, hr⟩ : ∃ r, r = w.heap.size := ⟨_, rfl⟩
 obtain ⟨L, hL⟩ : ∃ r, r = w.heap.size + 1 := ⟨_, rfl⟩
 have hL1 : ((w.alloc (.cells zero32 25)).alloc (.cells zeroH 162)).heap[w.heap.size + 1]? = some (.cells zeroH 162 (0, 0)) := heap_alloc2_new _ _ _
 have hr1 : ((w.alloc (.cells zero32 25)).alloc (.cells zeroH 162)).heap[w.heap.size]? = some (.cells zero32 25 (0, 0)) := heap_alloc2_old _ _ _
 have HP : Hid (r = w.heap.size ∧ L = w.heap.size + 1) := ⟨hr, hL⟩
 have HFU : Hid (Sha.full m = Sha.bytes (Sha.st (m ++ Sha.ending m.length) ((m.length + Sha.size m.length) / 64))) := rfl
 have hn64 : m.length < 18446744073709551616 := by omega
 rcases hH with ⟨rfl, hm⟩ | ⟨b, ty, pre, post, rfl, hH⟩
 case' inl =>
  have c72 : ((w.alloc (.cells zero32 25)).alloc (.cells zeroH 162)).cell? ⟨w.heap.size + 1, 72, none⟩ = some (.int .u64 m.length) := by
   rw [hm, cell_of_row _ _ _ _ _ _ hL1]; rfl
  have H1 : Hid (Hs ((w.alloc (.cells zero32 25)).alloc (.cells zeroH 162)) L 162 [] [] m ∧ ((w.alloc (.cells zero32 25)).alloc (.cells zeroH 162)).heap[r]? = some (.cells zero32 25 (0, 0)) ∧ Below w.heap.size w ((w.alloc (.cells zero32 25)).alloc (.cells zeroH 162))) := by
   rw [hm, hL, hr]
   exact ⟨hs_zero_of hL1, hr1, ((Below.refl _ _).alloc (Nat.le_refl _) _).alloc (by simp) _⟩
  clear hL1 hr1 hm
  go_enter Tryz.func110, Tryz.ntmps110
  go_wp2_with (fail)
  clear c72
  rw [<-hL, <-hr]
  clear hL hr
  generalize (w.alloc _).alloc _ = w2 at H1 ⊢
 case' inr =>
  obtain ⟨o, ho⟩ : ∃ o, o = pre.length := ⟨_, rfl⟩
  rw [<-ho]
  obtain ⟨st, blk, hp, hst, htl⟩ := hH.ex
  have hl1 : (hrow [] [] st blk m.length).length = 73 := by rw [hrow_len _ _ _ _ _ hp.sl hp.bl]; rfl
  have hrg : ((w.alloc (.cells zero32 25)).alloc (.cells zeroH 162)).rangeAt b o (hrow [] [] st blk m.length) := by
   rw [ho]
   exact (hp.kept (((Kept.refl [] w).alloc _).alloc _) (by simp)).all
  have hil : (Tryz.prog.info? 162).map (·.size) = some (hrow [] [] st blk m.length).length := by rw [hl1]; exact Tryz.infoHash
  have hia : (Tryz.prog.info? 162).map (·.size) = some (hrow [] [] st blk m.length).toArray.size := by rw [List.size_toArray, hl1]; exact Tryz.infoHash
  have hza : zeroH.size = (hrow [] [] st blk m.length).toArray.size := by rw [show (hrow [] [] st blk m.length).toArray.size = 73 by rw [List.size_toArray, hl1]]; rfl
  have hoa : (hrow [] [] st blk m.length).toArray.all (·.oneCell') = true := all_oneCell_toArray (hrow_oneCell _ _ _)
  have hp1 : Hp (((w.alloc (.cells zero32 25)).alloc (.cells zeroH 162)).setRow (w.heap.size + 1) (hrow [] [] st blk m.length).toArray) (w.heap.size + 1) 162 [] [] st blk m.length :=
   ⟨setRow_heap _ _ _ _ _ _ hL1, hp.sl, hp.bl⟩
  have c72 : (((w.alloc (.cells zero32 25)).alloc (.cells zeroH 162)).setRow (w.heap.size + 1) (hrow [] [] st blk m.length).toArray).cell? ⟨w.heap.size + 1, 72, none⟩ = some (.int .u64 m.length) := by
   have := hp1.taken
   rw [List.length_nil, Nat.zero_add] at this
   exact this
  have H1 : Hid (Hs (((w.alloc (.cells zero32 25)).alloc (.cells zeroH 162)).setRow (w.heap.size + 1) (hrow [] [] st blk m.length).toArray) L 162 [] [] m ∧ (((w.alloc (.cells zero32 25)).alloc (.cells zeroH 162)).setRow (w.heap.size + 1) (hrow [] [] st blk m.length).toArray).heap[r]? = some (.cells zero32 25 (0, 0)) ∧ Below w.heap.size w (((w.alloc (.cells zero32 25)).alloc (.cells zeroH 162)).setRow (w.heap.size + 1) (hrow [] [] st blk m.length).toArray)) := by
   refine ⟨by rw [hL]; exact ⟨st, blk, hp1, hst, htl⟩, by rw [hr, setRow_other _ _ _ _ (by omega)]; exact hr1, below_row (((Below.refl _ _).alloc (Nat.le_refl _) _).alloc (by simp) _) (by omega) _⟩
  clear hH hp hst htl ho hl1 hr1 hp1
  go_enter Tryz.func110, Tryz.ntmps110
  go_wp2_with (first | refine wpList_load_mid rfl 162 (.tmp 7) rfl b o rfl _ _ hrg Tryz.underlying162 rfl hil ?_ | refine wpList_store_rowTo rfl 162 (.tmp 3) (.tmp 8) rfl rfl (w.heap.size + 1) (hrow [] [] st blk m.length).toArray rfl rfl 162 zeroH hL1 hia hza hoa ?_)
  clear c72 hrg hil hia hza hoa hL1
  generalize World.setRow _ _ _ = w2 at H1 ⊢
  rw [<-hL, <-hr]
  clear hL hr
 all_goals
  clear hz hz2
  refine (ending_ok m.length _ hn64).mono ?_
  rintro e w3 ⟨rfl, hblk, hb3⟩
  have hLr : L < w2.heap.size ∧ r < w2.heap.size := ⟨H1.out.1.lt, (gs H1.out.2.1).1⟩
  have hH3 : Hs w3 L 162 [] [] m := H1.out.1.kept (Kept.of_below hb3) (by simp)
  have hr3 : w3.heap[r]? = some (.cells zero32 25 (0, 0)) := (hb3.block r hLr.2).trans H1.out.2.1
  have hB3 : Below w.heap.size w w3 := H1.out.2.2.trans (hb3.mono H1.out.2.2.size)
  have H3 := (show Hid (_ ∧ _ ∧ _ ∧ _) from ⟨hH3, hr3, hB3, hblk⟩)
  have hGL : Hid (w2.heap.size ≠ L) := by have := hLr.1; show _ ≠ _; omega
  clear H1 hb3 hLr hblk hH3 hr3 hB3
  rw [<-Sha.ending_len]
  go_wp2_with (fail)
  refine (write_ok L 162 [] [] m (Sha.ending m.length) (some ⟨w2.heap.size, 0, none⟩) (Sha.ending m.length).length w3 H3.out.1 H3.out.2.2.2.sl (by rintro _ a ⟨⟩; exact hGL.out) (Nat.le_refl _) (by rw [Sha.ending_len]; have := Sha.size_ge m.length; omega) 0 rfl).mono ?_
  rintro e w4 ⟨rfl, hH4, hk4⟩
  obtain ⟨st4, blk4, hp4, hst4, _⟩ := hH4.ex
  have hne : m ++ Sha.ending m.length ≠ [] := by simp [Sha.ending]
  have hst5 := hst4 hne
  rw [List.length_append, Sha.ending_len] at hst5
  have HFU2 : Hid (Sha.bytes (Sha.st (m ++ Sha.ending m.length) ((m.length + Sha.size m.length) / 64)) = Sha.full m) := HFU.out.symm
  have hq := Sha.st_ok (m ++ Sha.ending m.length) ((m.length + Sha.size m.length) / 64)
  have hrg := hp4.range
  rw [hst5] at hrg
  have hr4 : w4.heap[r]? = some (.cells zero32 25 (0, 0)) := (hk4.block r (gs H3.out.2.1).1 (by have := HP.out; simp; omega)).trans H3.out.2.1
  have hB4 : Below w.heap.size w w4 := H3.out.2.2.1.trans (hk4.below H3.out.2.2.1.size (by have := HP.out; simp; omega))
  clear hH4 hp4 hst4 hst5 hne H3 hk4 HFU
  generalize Sha.st (m ++ Sha.ending m.length) ((m.length + Sha.size m.length) / 64) = q at hq hrg HFU2
  go_wp2_with (refine wpList_load_mid rfl 153 (.tmp 13) rfl L 0 rfl (wds q.words) _ hrg Tryz.underlying153 rfl Tryz.info8 ?_)
  refine (inBytes_ok q hq _).mono ?_
  rintro e w5 ⟨rfl, hb5⟩
  have hr5 : w5.heap[r]? = some (.cells zero32 25 (0, 0)) := (hb5.block r (gs hr4).1).trans hr4
  have hB5 : Below w.heap.size w w5 := hB4.trans (hb5.mono hB4.size)
  have hone := bys_all (Sha.bytes q)
  clear hr4 hB4 hb5 hrg
  go_wp2_with (refine wpList_store_rowTo rfl 25 (.tmp 2) (.tmp 15) rfl rfl r (bys (Sha.bytes q)).toArray rfl rfl 25 zero32 hr5 Tryz.info32 rfl hone ?_)
  exact ret_row rfl rfl r 25 _ (0, 0) _ rfl (setRow_heap _ _ _ _ _ _ hr5) Tryz.underlying25 rfl Tryz.info32 ⟨by rw [HFU2.out], below_row hB5 (by have := HP.out; omega) _⟩
end

section
structure Pc where
 da : Option Addr
 dc : Nat
 ds : List UInt8
def pc0 : Pc := ⟨none, 0, []⟩
instance : Inhabited Pc := ⟨pc0⟩
structure PcAt (w : World) (c : Pc) : Prop where
 sl : Sl w c.da c.ds
 le : c.ds.length <= c.dc
def Pcs (w : World) (ao : Option Addr) (L : List Pc) : Prop :=
 ∀ i, i < L.length -> ∃ b off, ao = some ⟨b, off, none⟩ ∧ w.cell? ⟨b, off + i, none⟩ = some (.slice (L.getD i pc0).da (L.getD i pc0).ds.length (L.getD i pc0).dc) ∧ PcAt w (L.getD i pc0)
def joined (L : List Pc) : List UInt8 := L.flatMap (·.ds)
theorem joined_take (L : List Pc) (k : Nat) (h : k < L.length) : joined (L.take (k + 1)) = joined (L.take k) ++ (L.getD k pc0).ds := by
 rw [List.take_succ_eq_append_getElem h, joined, List.flatMap_append]
 simp [joined, List.getElem?_eq_getElem h]
theorem joined_take_le (L : List Pc) (k : Nat) : (joined (L.take k)).length <= (joined L).length := by
 have : joined L = joined (L.take k) ++ joined (L.drop k) := by rw [joined, joined, joined, <-List.flatMap_append, List.take_append_drop]
 rw [this, List.length_append]; omega
theorem PcAt.below {w w' : World} {c : Pc} (h : PcAt w c) (hb : Below w.heap.size w w') : PcAt w' c := ⟨h.sl.kept (Kept.of_below hb) (by simp), h.le⟩
theorem PcAt.kept {l : List Nat} {w w' : World} {c : Pc} (h : PcAt w c) (hk : Kept l w w') (hn : c.ds ≠ [] -> ∀ a, c.da = some a -> a.block ∉ l) : PcAt w' c := ⟨h.sl.kept hk hn, h.le⟩
structure FuRel (w wr : World) (r g : Nat) (m : List UInt8) : Prop where
 has : Hs wr g 162 [] [] m
 res : wr.heap[r]? = some (.cells zero32 25 (0, 0))
 below : Below w.heap.size w wr
theorem full_ok (ao : Option Addr) (cap : Nat) (L : List Pc) (w : World) (hm : L.length <= 9223372036854775807) (hp : Pcs w ao L) (hsum : (joined L).length < 9223372036854775736) (n : Nat) (hn : L.length = n) :
  Calls Tryz.prog 84 #[.slice ao n cap] w fun e w' => e = .returned (.agg (bys (Sha.full (joined L))).toArray) ∧ Below w.heap.size w w' := by
 have hz := Tryz.zeroB32
 have hz2 := Tryz.zeroHash
 obtain ⟨r, hr⟩ : ∃ r, r = w.heap.size := ⟨_, rfl⟩
 obtain ⟨g, hg⟩ : ∃ r, r = w.heap.size + 1 := ⟨_, rfl⟩
 have HI : Hid (FuRel w ((w.alloc (.cells zero32 25)).alloc (.cells zeroH 162)) r g (joined (L.take 0))) := by
  rw [hr, hg]
  exact ⟨hs_zero_of (heap_alloc2_new _ _ _), heap_alloc2_old _ _ _, ((Below.refl _ _).alloc (Nat.le_refl _) _).alloc (by simp) _⟩
 have HN : Hid (L.length = n) := hn
 have HP : Hid (Pcs w ao L) := hp
 have HG : Hid (r = w.heap.size ∧ g = w.heap.size + 1) := ⟨hr, hg⟩
 rw [hn] at hm
 clear hn hp
 go_enter Tryz.func84, Tryz.ntmps84
 go_wp2
 rw [<-hg, <-hr]
 clear hr hg hz hz2
 generalize (w.alloc _).alloc _ = w1 at HI ⊢
 go_loopw [5, 8] (fun _ i wr => ∃ k : Nat, k <= n ∧ i = .int .i64 k ∧ Hid (FuRel w wr r g (joined (L.take k)))) (fun _ i wr => n - (intOf i).toNat)
 case atStart => exact ⟨0, Nat.zero_le _, rfl, HI⟩
 case round =>
  clear HI
  obtain ⟨k, hk, rfl, HR⟩ := hrel
  by_cases hlt : k < n
  ·obtain ⟨b, off, hao, hc, hpc⟩ := HP.out k (by rw [HN.out]; exact hlt)
   have hbw := World.block_lt_of_cell? _ _ hc
   have ck : wr.cell? ⟨b, off + k, none⟩ = some (.slice (L.getD k pc0).da (L.getD k pc0).ds.length (L.getD k pc0).dc) := (HR.out.below.cell (p := ⟨b, off + k, none⟩) hbw).trans hc
   have HJ : Hid (joined (L.take (k + 1)) = joined (L.take k) ++ (L.getD k pc0).ds) := joined_take L k (by rw [HN.out]; exact hlt)
   have HPC : Hid (PcAt w (L.getD k pc0)) := hpc
   have HJL : Hid ((joined (L.take (k + 1))).length <= (joined L).length) := joined_take_le L (k + 1)
   subst hao
   clear hc hpc hbw
   generalize L.getD k pc0 = c at ck HJ HPC
   obtain ⟨da, dc, ds⟩ := c
   dsimp only at ck HJ
   go_wp2_with (fail)
   have hsl := (HPC.out.below HR.out.below).sl
   refine (write_ok g 162 [] [] (joined (L.take k)) ds da dc wr HR.out.has hsl ?hfar HPC.out.le ?hs 0 rfl).mono ?_
   case hfar =>
    intro hne a ha
    obtain ⟨b', off', e', hb', _⟩ := HPC.out.sl.open hne
    rw [show (Pc.mk da dc ds).da = da from rfl] at e'
    rw [e'] at ha
    cases ha
    have := HG.out
    show b' ≠ g
    omega
   case hs =>
    have h1 := HJL.out
    rw [HJ.out, List.length_append] at h1
    omega
   rintro e w2 ⟨rfl, hH, hkk⟩
   have HS : Hid (FuRel w w2 r g (joined (L.take (k + 1)))) := by
    have := HG.out
    rw [HJ.out]
    exact ⟨hH, (hkk.block r (gs HR.out.res).1 (by simp; omega)).trans HR.out.res, HR.out.below.trans (hkk.below HR.out.below.size (by simp; omega))⟩
   clear hsl hH hkk HR HPC HJ HJL
   go_wp2
   go_roundw
   case rel => exact ⟨k + 1, by omega, by go_num, HS⟩
   case measure => simp [intOf]; omega
  ·obtain rfl : k = n := by omega
   have hall : joined (L.take k) = joined L := by rw [List.take_of_length_le (by rw [HN.out]; exact Nat.le_refl _)]
   rw [hall] at HR
   clear hall
   go_wp2_with (fail)
   refine (sum_ok (some ⟨g, 0, none⟩) (joined L) wr (.inr ⟨g, _, [], [], rfl, HR.out.has⟩) hsum).mono ?_
   rintro e w5 ⟨rfl, hb5⟩
   have hr5 : w5.heap[r]? = some (.cells zero32 25 (0, 0)) := (hb5.block r (gs HR.out.res).1).trans HR.out.res
   have hB5 : Below w.heap.size w w5 := HR.out.below.trans (hb5.mono HR.out.below.size)
   have hone := bys_all (Sha.full (joined L))
   clear hb5 HR
   go_wp2_with (refine wpList_store_rowTo rfl 25 (.tmp 2) (.tmp 15) rfl rfl r (bys (Sha.full (joined L))).toArray rfl rfl 25 zero32 hr5 Tryz.info32 rfl hone ?_)
   exact ret_row rfl rfl r 25 _ (0, 0) _ rfl (setRow_heap _ _ _ _ _ _ hr5) Tryz.underlying25 rfl Tryz.info32 ⟨rfl, below_row hB5 (by have := HG.out; omega) _⟩
end

section
theorem Tryz.sliceID (W : World) (b : Nat) (n : Nat) (hn : n <= 32) :
  (Instr.sliceAt 26 (.pointer (some ⟨b, 0, none⟩)) none (some (.int .i64 n)) none).run Tryz.prog W = .ok (.slice (some ⟨b, 0, none⟩) n 32) W := by
 have ha : Tryz.prog.arrayLen 26 = 32 := by kernel_rfl
 have hz : (sizeOf (Tryz.prog.elem 26)).run Tryz.prog W = .ok 1 W := by kernel_rfl
 have h := run_sliceAt_array_h (P := Tryz.prog) W 26 ⟨b, 0, none⟩ (by kernel_rfl) .i64 n (by omega) (by rw [ha]; omega)
 rw [h, hz, ha]
 simp [slicedAt, Addr.add_mid]
theorem Tryz.slice32all (W : World) (b : Nat) :
  (Instr.sliceAt 25 (.pointer (some ⟨b, 0, none⟩)) none none none).run Tryz.prog W = .ok (.slice (some ⟨b, 0, none⟩) 32 32) W := by
 have ha : Tryz.prog.arrayLen 25 = 32 := by kernel_rfl
 have hz : (sizeOf (Tryz.prog.elem 25)).run Tryz.prog W = .ok 1 W := by kernel_rfl
 have h := run_sliceAt_array_all (P := Tryz.prog) W 25 ⟨b, 0, none⟩ (by kernel_rfl)
 rw [h, hz, ha]
 simp [slicedAt, Addr.add_mid]
theorem of_ok (width : Int) (ao : Option Addr) (cap : Nat) (L : List Pc) (w : World) (hm : L.length <= 9223372036854775807) (hp : Pcs w ao L) (hsum : (joined L).length < 9223372036854775736) (n : Nat) (hn : L.length = n) :
  Calls Tryz.prog 46 #[.int .i64 width, .slice ao n cap] w fun e w' => e = .returned (.agg (bys (Sha.ident width (joined L))).toArray) ∧ Below w.heap.size w w' := by
 have hz := Tryz.zeroB32
 have hz2 := Tryz.zeroID
 obtain ⟨r, hr⟩ : ∃ r, r = w.heap.size := ⟨_, rfl⟩
 obtain ⟨g, hg⟩ : ∃ r, r = w.heap.size + 1 := ⟨_, rfl⟩
 have hg1 : ((w.alloc (.cells zero32 26)).alloc (.cells zero32 26)).heap[w.heap.size + 1]? = some (.cells zero32 26 (0, 0)) := heap_alloc2_new _ _ _
 have hr1 : ((w.alloc (.cells zero32 26)).alloc (.cells zero32 26)).heap[w.heap.size]? = some (.cells zero32 26 (0, 0)) := heap_alloc2_old _ _ _
 have hB1 : Below w.heap.size w ((w.alloc (.cells zero32 26)).alloc (.cells zero32 26)) := ((Below.refl _ _).alloc (Nat.le_refl _) _).alloc (by simp) _
 have HP : Hid (Pcs w ao L) := hp
 have HG : Hid (r = w.heap.size ∧ g = w.heap.size + 1) := ⟨hr, hg⟩
 clear hp
 go_enter Tryz.func46, Tryz.ntmps46
 by_cases hout : width < 1 ∨ 32 < width
 ·have HF : Hid (Sha.ident width (joined L) = List.replicate 32 0) := by
   show _ = _
   unfold Sha.ident; rw [if_pos hout]
  have hz0 : zero32.all (·.oneCell') = true := bys_all _
  have FIN : ∀ (a : Act), a.defers = [] -> a.tmps.getD 4 undef = .pointer (some ⟨w.heap.size, 0, none⟩) -> bodyPost Tryz.prog Tryz.f46 (fun e w' => e = .returned (.agg (bys (Sha.ident width (joined L))).toArray) ∧ Below w.heap.size w w') .ret a (((w.alloc (.cells zero32 26)).alloc (.cells zero32 26)).setRow w.heap.size zero32) := fun a hd hp =>
   ret_row rfl hd w.heap.size 26 zero32 (0, 0) _ hp (setRow_heap _ _ _ _ _ _ hr1) Tryz.underlying26 rfl Tryz.infoID ⟨by rw [HF.out]; rfl, below_row hB1 (Nat.le_refl _) _⟩
  by_cases h1 : width < 1
  ·go_wp2_with (first | refine wpList_load_row rfl 26 (.tmp 5) rfl (w.heap.size + 1) rfl 26 _ (0, 0) _ hg1 Tryz.underlying26 rfl Tryz.infoID ?_ | refine wpList_store_rowTo rfl 26 (.tmp 4) (.tmp 13) rfl rfl w.heap.size zero32 rfl rfl 26 zero32 hr1 Tryz.infoID rfl hz0 ?_)
   all_goals exact FIN _ rfl rfl
  ·have h2 : 32 < width := by omega
   go_wp2_with (first | refine wpList_load_row rfl 26 (.tmp 5) rfl (w.heap.size + 1) rfl 26 _ (0, 0) _ hg1 Tryz.underlying26 rfl Tryz.infoID ?_ | refine wpList_store_rowTo rfl 26 (.tmp 4) (.tmp 13) rfl rfl w.heap.size zero32 rfl rfl 26 zero32 hr1 Tryz.infoID rfl hz0 ?_)
   all_goals exact FIN _ rfl rfl
 ·obtain ⟨k, rfl⟩ := Int.eq_ofNat_of_zero_le (show 0 <= width by omega)
  have h1 : ¬ ((k : Int) < 1) := by omega
  have h2 : ¬ (32 < (k : Int)) := by omega
  have hk32 : k <= 32 := by omega
  have HF : Hid (Sha.ident (k : Int) (joined L) = (Sha.full (joined L)).take k ++ List.replicate (32 - k) 0) := by
   show _ = _
   unfold Sha.ident; rw [if_neg hout]; rfl
  have H1 := (show Hid (_ ∧ _ ∧ _) from ⟨hg1, hr1, hB1⟩)
  clear hg1 hr1 hB1
  go_wp2_with (fail)
  generalize (w.alloc _).alloc _ = w1 at H1 ⊢
  rw [<-hg, <-hr] at ⊢
  have hp1 : Pcs w1 ao L := fun i hi => by
   obtain ⟨b, off, e, hc, hpc⟩ := HP.out i hi
   exact ⟨b, off, e, (H1.out.2.2.cell (p := ⟨b, off + i, none⟩) (World.block_lt_of_cell? _ _ hc)).trans hc, hpc.below H1.out.2.2⟩
  refine (full_ok ao cap L w1 hm hp1 hsum n hn).mono ?_
  rintro e w2 ⟨rfl, hb2⟩
  have hg2 : w2.heap[g]? = some (.cells zero32 26 (0, 0)) := by rw [hg]; exact (hb2.block _ (gs H1.out.1).1).trans H1.out.1
  have hr2 : w2.heap[r]? = some (.cells zero32 26 (0, 0)) := by rw [hr]; exact (hb2.block _ (gs H1.out.2.1).1).trans H1.out.2.1
  have hB2 : Below w.heap.size w w2 := H1.out.2.2.trans (hb2.mono H1.out.2.2.size)
  clear H1 hb2 hp1 HP hr hg hz2
  have hfl : (Sha.full (joined L)).length = 32 := Sha.full_len _
  generalize Sha.full (joined L) = F at hfl HF ⊢
  obtain ⟨f, hf⟩ : ∃ f, f = w2.heap.size := ⟨_, rfl⟩
  have hf1 : (w2.alloc (.cells zero32 25)).heap[w2.heap.size]? = some (.cells zero32 25 (0, 0)) := heap_alloc_new _ _
  have hinf : (Tryz.prog.info? 25).map (·.size) = some (bys F).toArray.size := by rw [List.size_toArray, bys_length, hfl]; exact Tryz.info32
  have hz0 : zero32.size = (bys F).toArray.size := by rw [show (bys F).toArray.size = 32 by rw [List.size_toArray, bys_length, hfl]]; rfl
  have hone := bys_all F
  go_wp2_with (refine wpList_store_rowTo rfl 25 (.tmp 6) (.tmp 15) rfl rfl w2.heap.size (bys F).toArray rfl rfl 25 zero32 hf1 hinf hz0 hone ?_)
  have hf3 : ((w2.alloc (.cells zero32 25)).setRow w2.heap.size (bys F).toArray).heap[f]? = some (.cells (bys F).toArray 25 (0, 0)) := by rw [hf]; exact setRow_heap _ _ _ _ _ _ hf1
  have hgl : g < w2.heap.size := (gs hg2).1
  have hrl : r < w2.heap.size := (gs hr2).1
  have hg3 : ((w2.alloc (.cells zero32 25)).setRow w2.heap.size (bys F).toArray).heap[g]? = some (.cells zero32 26 (0, 0)) := by rw [setRow_other _ _ _ _ (by omega), heap_alloc_old w2 _ hgl]; exact hg2
  have hr3 : ((w2.alloc (.cells zero32 25)).setRow w2.heap.size (bys F).toArray).heap[r]? = some (.cells zero32 26 (0, 0)) := by rw [setRow_other _ _ _ _ (by omega), heap_alloc_old w2 _ hrl]; exact hr2
  have hB3 : Below w.heap.size w ((w2.alloc (.cells zero32 25)).setRow w2.heap.size (bys F).toArray) := below_row (hB2.alloc hB2.size _) hB2.size _
  clear hf1 hinf hz0 hone hg2 hr2 hB2
  generalize World.setRow _ _ _ = w3 at hf3 hg3 hr3 hB3 ⊢
  rw [<-hf]
  have hfg : f ≠ g := by omega
  clear hf hgl hrl
  have hs1 := fun W => Tryz.sliceID W g k hk32
  have hs2 := fun W => Tryz.slice32all W f
  go_still_tail 3, Tryz.followsD
  rw [World.drew_eq]
  have hcp : (bys (F.take k)).length = Nat.min 32 k := by rw [bys_length, List.length_take, hfl, Nat.min_comm]
  refine wpList_copy_own rfl (.tmp 17) (.tmp 18) 22 22 rfl 5 Tryz.underlying22 Tryz.sizeByteD g 0 k 32 ⟨f, 0, none⟩ 32 32 rfl rfl zero32 26 hg3 (bys (F.take k)) hcp ?hsrc ?hfit (bys_oneCell _) ?_
  case hsrc =>
   intro j u hu
   obtain ⟨hj, rfl⟩ := bys_get hu
   have hj2 : j < k := by simp at hj; omega
   rw [Addr.add_mid, Nat.zero_add, World.cell?_drew, cell_of_row _ _ _ _ _ _ hf3, List.getElem?_toArray, bys_at (by omega)]
   simp [hj2]
  case hfit => rw [bys_length, List.length_take]; show _ <= 32; omega
  have erow : (List.take 0 zero32.toList ++ (bys (F.take k) ++ List.drop (0 + (bys (F.take k)).length) zero32.toList)) = bys (F.take k ++ List.replicate (32 - k) 0) := by
   rw [List.take_zero, List.nil_append, Nat.zero_add, bys_length, List.length_take, hfl, Nat.min_eq_left hk32, bys_append]
   congr 1
   show (bys (List.replicate 32 0)).drop k = _
   rw [bys, bys, List.map_replicate, List.map_replicate, List.drop_replicate]
  rw [erow]
  have hIl : (F.take k ++ List.replicate (32 - k) 0).length = 32 := by simp [hfl]; omega
  have hg4 : (w3.drew.setRow g (bys (F.take k ++ List.replicate (32 - k) 0)).toArray).heap[g]? = some (.cells (bys (F.take k ++ List.replicate (32 - k) 0)).toArray 26 (0, 0)) := setRow_heap _ _ _ _ _ _ hg3
  have hr4 : (w3.drew.setRow g (bys (F.take k ++ List.replicate (32 - k) 0)).toArray).heap[r]? = some (.cells zero32 26 (0, 0)) := by rw [setRow_other _ _ _ _ (by have := HG.out; omega)]; exact hr3
  have hB4 : Below w.heap.size w (w3.drew.setRow g (bys (F.take k ++ List.replicate (32 - k) 0)).toArray) := below_row (w1 := w3.drew) ⟨hB3.os, hB3.tape, hB3.output, hB3.size, hB3.block⟩ (by have := HG.out; omega) _
  clear erow hcp hs1 hs2 hf3 hg3 hr3 hB3
  have HF2 : Hid (F.take k ++ List.replicate (32 - k) 0 = Sha.ident (k : Int) (joined L)) := HF.out.symm
  generalize F.take k ++ List.replicate (32 - k) 0 = I at hIl hg4 hr4 hB4 HF2 ⊢
  have hinf : (Tryz.prog.info? 26).map (·.size) = some (bys I).toArray.size := by rw [List.size_toArray, bys_length, hIl]; exact Tryz.infoID
  have hz0 : zero32.size = (bys I).toArray.size := by rw [show (bys I).toArray.size = 32 by rw [List.size_toArray, bys_length, hIl]]; rfl
  have hone := bys_all I
  generalize World.setRow _ _ _ = w4 at hg4 hr4 hB4 ⊢
  clear HF h1 h2 hout
  simp only [Act.put]
  go_wp2_with (first | refine wpList_load_row rfl 26 (.tmp 5) rfl g rfl 26 _ (0, 0) _ hg4 Tryz.underlying26 rfl hinf ?_ | refine wpList_store_rowTo rfl 26 (.tmp 4) (.tmp 20) rfl rfl r (bys I).toArray rfl rfl 26 zero32 hr4 hinf hz0 hone ?_)
  exact ret_row rfl rfl r 26 _ (0, 0) _ rfl (setRow_heap _ _ _ _ _ _ hr4) Tryz.underlying26 rfl hinf ⟨by rw [HF2.out], below_row hB4 (by have := HG.out; omega) _⟩
end

section
theorem getD_take_snoc (xs : List UInt8) (k : Nat) (hk : k < xs.length) : xs.take (k + 1) = xs.take k ++ [xs.getD k 0] := by
 rw [List.take_succ_eq_append_getElem hk]
 simp [List.getElem?_eq_getElem hk]
theorem refsum_some (b off n cap : Nat) (xs : List UInt8) (w : World) (hn : xs.length = n) (hm : n <= 9223372036854775806) (hc : ∀ i, i < xs.length -> w.cell? ⟨b, off + i, none⟩ = some (.int .u8 (xs.getD i 0).toNat)) :
  Calls Tryz.prog 72 #[.slice (some ⟨b, off, none⟩) n cap] w fun e w' => e = .returned (.int .i64 (Rol.sum xs)) ∧ w' = w := by
 go_enter Tryz.func72, Tryz.ntmps72
 go_wp2
 go_loop [3, 4, 5] (fun x y i => ∃ k : Nat, k <= n ∧ i = .int .i64 k ∧ x = .int .i64 (Rol.pa (xs.take k)) ∧ y = .int .i64 (Rol.pb (xs.take k))) (fun x y i => n - (intOf i).toNat)
 case atStart => exact ⟨0, Nat.zero_le _, rfl, rfl, rfl⟩
 case round =>
  obtain ⟨k, hk, rfl, rfl, rfl⟩ := hrel
  have ha := Rol.pa_lt (xs.take k)
  have hb := Rol.pb_lt (xs.take k)
  by_cases hlt : k < n
  ·have hcell := hc k (by omega)
   have hcb : (xs.getD k 0).toNat < 256 := UInt8.toNat_lt _
   have HA : Hid (Rol.pa (xs.take (k + 1)) = (Rol.pa (xs.take k) + (xs.getD k 0).toNat) % 65536) := by
    show _ = _
    rw [getD_take_snoc xs k (by omega), Rol.pa_snoc]
   have HB : Hid (Rol.pb (xs.take (k + 1)) = (Rol.pb (xs.take k) + Rol.pa (xs.take (k + 1))) % 65536) := by
    show _ = _
    rw [getD_take_snoc xs k (by omega), Rol.pb_snoc]
   generalize Rol.pa (xs.take k) = a at ha HA ⊢
   generalize Rol.pb (xs.take k) = b' at hb HB ⊢
   generalize (xs.getD k 0).toNat = c at hcell hcb HA
   clear hc
   go_wp2
   go_round
   case rel => exact ⟨k + 1, by omega, by go_num, by rw [HA.out]; go_num, by rw [HB.out, HA.out]; go_num⟩
   case measure => simp [intOf]; omega
  ·have HT : Hid (xs.take k = xs) := List.take_of_length_le (by omega)
   have HS : Hid (Rol.sum xs = Rol.pa (xs.take k) + 65536 * Rol.pb (xs.take k)) := by show _ = _; rw [HT.out]; rfl
   generalize Rol.pa (xs.take k) = a at ha HS ⊢
   generalize Rol.pb (xs.take k) = b' at hb HS ⊢
   clear hc
   go_wp2
   go_ret
   exact ⟨by rw [HS.out]; go_num, rfl⟩
theorem refsum_none (ao : Option Addr) (cap : Nat) (w : World) :
  Calls Tryz.prog 72 #[.slice ao 0 cap] w fun e w' => e = .returned (.int .i64 (Rol.sum [])) ∧ w' = w := by
 go_enter Tryz.func72, Tryz.ntmps72
 go_wp2
 go_loop [3, 4, 5] (fun x y i => i = .int .i64 0 ∧ x = .int .i64 0 ∧ y = .int .i64 0) (fun x y i => 0)
 case atStart => exact ⟨rfl, rfl, rfl⟩
 case round =>
  obtain ⟨rfl, rfl, rfl⟩ := hrel
  go_wp2
  go_ret
  exact ⟨rfl, rfl⟩
theorem refsum_n (ao : Option Addr) (n cap : Nat) (xs : List UInt8) (w : World) (hn : xs.length = n) (hm : n <= 9223372036854775806) (h : Sl w ao xs) :
  Calls Tryz.prog 72 #[.slice ao n cap] w fun e w' => e = .returned (.int .i64 (Rol.sum xs)) ∧ w' = w := by
 by_cases h0 : xs = []
 ·subst h0
  obtain rfl : n = 0 := by simpa using hn.symm
  exact refsum_none ao cap w
 ·obtain ⟨b, off, rfl, hb, hc⟩ := h.open h0
  exact refsum_some b off n cap xs w hn hm hc
end

end Go.Proofs.YtmklodligplbaaaGreat
