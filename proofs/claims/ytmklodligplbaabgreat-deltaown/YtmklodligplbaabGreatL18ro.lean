import Derived.Test.YtmklodligplbaabGreatDr2o
open Go.RowKit
set_option linter.unusedVariables false
set_option linter.unusedSimpArgs false
set_option maxRecDepth 100000
set_option maxHeartbeats 0
namespace Go.Proofs.YtmklodligplbaabGreat
open Dlt
def stp3 (f c : Int) (v : Value) : List Value := [.int .i64 f, .int .i64 c, v]
theorem stp3_all (f c : Int) (v : Value) (h : v.oneCell' = true) : (stp3 f c v).toArray.all (·.oneCell') = true := by
 refine Array.all_eq_true_iff_forall_mem.2 fun u hu => ?_
 simp only [stp3, List.mem_toArray, List.mem_cons, List.not_mem_nil, or_false] at hu
 rcases hu with rfl | rfl | rfl
 ·rfl
 ·rfl
 ·exact h
theorem Tryz.zeroStp (W : World) : (zeroValue 39).run Tryz.prog W = .ok (.agg (stp3 0 0 (.slice none 0 0)).toArray) W := by kernel_rfl
theorem Tryz.infoStpS : (Tryz.prog.info? 39).map (·.size) = some 3 := by kernel_rfl
theorem Tryz.infoStp (f c : Int) (v : Value) : (Tryz.prog.info? 39).map (·.size) = some (stp3 f c v).length := Tryz.infoStpS
theorem Tryz.infoStpA (f c : Int) (v : Value) : (Tryz.prog.info? 39).map (·.size) = some (stp3 f c v).toArray.size := Tryz.infoStpS
def dltC (W Z L N : Int) (bid tid : List UInt8) (v : Value) : List Value := .int .i64 W :: .int .i64 Z :: .int .i64 L :: .int .i64 N :: (bys bid ++ (bys tid ++ [v]))
structure Sst (w wr : World) (b G R X : Nat) (dl : List Value) (f c : Int) (v : Value) : Prop where
 kept : Kept [b] w wr
 dAt : wr.heap[G]? = some (.cells dl.toArray 34 (0, 0))
 rAt : wr.heap[R]? = some (.cells (stp3 0 0 (.slice none 0 0)).toArray 39 (0, 0))
 xAt : wr.heap[X]? = some (.cells (stp3 f c v).toArray 39 (0, 0))
 ps : b < G ∧ G < R ∧ R < X ∧ w.heap.size = G
theorem heap_lt {w : World} {g : Nat} {o : Obj} (h : w.heap[g]? = some o) : g < w.heap.size := (gs h).1
theorem Sst.call {w wr w' : World} {b G R X : Nat} {dl : List Value} {f c : Int} {v : Value} (h : Sst w wr b G R X dl f c v) (hk : Kept [b] wr w') : Sst w w' b G R X dl f c v := by
 have := h.ps
 exact ⟨h.kept.tr hk, (hk.block G (heap_lt h.dAt) (by simp; omega)).trans h.dAt, (hk.block R (heap_lt h.rAt) (by simp; omega)).trans h.rAt, (hk.block X (heap_lt h.xAt) (by simp; omega)).trans h.xAt, h.ps⟩
theorem Sst.setAt {w wr : World} {b G R X : Nat} {dl : List Value} {f c : Int} {v : Value} (h : Sst w wr b G R X dl f c v) (i : Nat) (u : Value) (f' c' : Int) (v' : Value) (he : (stp3 f c v).toArray.setIfInBounds i u = (stp3 f' c' v').toArray) : Sst w (wr.setCell ⟨X, i, none⟩ u) b G R X dl f' c' v' := by
 have := h.ps
 have hk : Kept [X] wr (wr.setCell ⟨X, i, none⟩ u) := (Kept.refl [X] wr).setCell (by simp) _
 refine ⟨h.kept.trans hk (fun j hj hl => by simp only [List.mem_singleton] at hj; omega), (hk.block G (heap_lt h.dAt) (by simp; omega)).trans h.dAt, (hk.block R (heap_lt h.rAt) (by simp; omega)).trans h.rAt, ?_, h.ps⟩
 rw [heap_setCell_same _ _ _ _ _ _ h.xAt, he]
theorem Sst.setF {w wr : World} {b G R X : Nat} {dl : List Value} {f c : Int} {v : Value} (h : Sst w wr b G R X dl f c v) (x : Int) : Sst w (wr.setCell ⟨X, 0, none⟩ (.int .i64 x)) b G R X dl x c v := h.setAt 0 _ x c v rfl
theorem Sst.setC {w wr : World} {b G R X : Nat} {dl : List Value} {f c : Int} {v : Value} (h : Sst w wr b G R X dl f c v) (x : Int) : Sst w (wr.setCell ⟨X, 1, none⟩ (.int .i64 x)) b G R X dl f x v := h.setAt 1 _ f x v rfl
theorem Sst.setV {w wr : World} {b G R X : Nat} {dl : List Value} {f c : Int} {v : Value} (h : Sst w wr b G R X dl f c v) (x : Value) : Sst w (wr.setCell ⟨X, 2, none⟩ x) b G R X dl f c x := h.setAt 2 _ f c x rfl
theorem Sst.cX {w wr : World} {b G R X : Nat} {dl : List Value} {f c : Int} {v : Value} (h : Sst w wr b G R X dl f c v) (i : Nat) (u : Value) (hu : (stp3 f c v)[i]? = some u) : wr.cell? ⟨X, i, none⟩ = some u := by
 rw [cell_of_row _ _ _ _ _ _ h.xAt, List.getElem?_toArray]; exact hu
theorem Sst.fX {w wr : World} {b G R X : Nat} {dl : List Value} {f c : Int} {v : Value} (h : Sst w wr b G R X dl f c v) (i : Nat) : wr.frozen? ⟨X, i, none⟩ = false := frozen_of_row _ _ _ _ _ h.xAt
theorem Sst.cD {w wr : World} {b G R X : Nat} {dl : List Value} {f c : Int} {v : Value} (h : Sst w wr b G R X dl f c v) (i : Nat) (u : Value) (hu : dl[i]? = some u) : wr.cell? ⟨G, i, none⟩ = some u := by
 rw [cell_of_row _ _ _ _ _ _ h.dAt, List.getElem?_toArray]; exact hu
theorem range_row {w : World} {g : Nat} {cs : List Value} {t : TypeId} (h : w.heap[g]? = some (.cells cs.toArray t (0, 0))) : w.rangeAt g 0 cs := fun j u hu => by
 rw [cell_of_row _ _ _ _ _ _ h, List.getElem?_toArray, Nat.zero_add]
 exact hu
theorem Sst.keptR {w wr w' : World} {b G R X : Nat} {dl : List Value} {f c : Int} {v : Value} (h : Sst w wr b G R X dl f c v) (hk : Kept [R] wr w') : w'.heap[X]? = some (.cells (stp3 f c v).toArray 39 (0, 0)) := by
 have := h.ps
 exact (hk.block X (heap_lt h.xAt) (by simp; omega)).trans h.xAt
theorem Sst.last {w wr w' : World} {b G R X : Nat} {dl : List Value} {f c : Int} {v : Value} (h : Sst w wr b G R X dl f c v) (hk : Kept [R] wr w') : Kept [b] w w' := by
 have := h.ps
 exact h.kept.trans hk (fun j hj hl => by simp only [List.mem_singleton] at hj; omega)
theorem stNumber_le (xs : List UInt8) (s : Rs) : 0 <= (stNumber xs s).1 ∧ (stNumber xs s).1 <= 2147483647 := by
 unfold stNumber
 split
 ·split
  ·rcases Pure.num_facts (xs.drop s.at_) with h | h
   ·exact ⟨by show (0 : Int) <= ((Pure.num (xs.drop s.at_)).1 : Nat); omega, by show (((Pure.num (xs.drop s.at_)).1 : Nat) : Int) <= _; omega⟩
   ·exact ⟨by show (0 : Int) <= ((Pure.num (xs.drop s.at_)).1 : Nat); omega, by show (((Pure.num (xs.drop s.at_)).1 : Nat) : Int) <= _; omega⟩
  ·exact ⟨Int.le_refl 0, by show (0 : Int) <= _; omega⟩
 ·exact ⟨Int.le_refl 0, by show (0 : Int) <= _; omega⟩
theorem res3 {W : World} {R : Nat} {f c : Int} {v : Value} (h : W.heap[R]? = some (.cells (stp3 0 0 (.slice none 0 0)).toArray 39 (0, 0))) : (W.setCells R 0 (stp3 f c v).toArray.toList).heap[R]? = some (.cells (stp3 f c v).toArray 39 (0, 0)) := by
 rw [setCells_row _ _ _ _ _ _ h (by simp [stp3]), setRow_heap _ _ _ _ _ _ h]; rfl
theorem rstep_copy {w : World} {b : Nat} {ao : Option Addr} {cap : Nat} {ys : List UInt8} {s : Rs} (h : RfS w b ao cap ys s) (dl : List Value) (Z L : Nat) (hdZ : dl[1]? = some (.int .i64 Z)) (hdL : dl[2]? = some (.int .i64 L)) (hZ1 : 16 <= Z) (hZ2 : Z <= 4096) (hL2 : L <= 131072) (hk : (stFixed ys s 1).1 = 1) (s1 s2 s3 : Rs) (a c : Int) (hs1 : (stFixed ys s 1).2 = s1) (ha : (stNumber ys s1).1 = a) (hs2 : (stNumber ys s1).2 = s2) (hc : (stNumber ys s2).1 = c) (hs3 : (stNumber ys s2).2 = s3) (t : Bool) (ht : decide (s3.e = 0 ∧ 1 <= c ∧ a + c <= ((L / Z : Nat) : Int)) = t) :
  Calls Tryz.prog 38 #[.pointer (some ⟨b, 0, none⟩), .agg dl.toArray] w fun e w' => e = .returned (.tuple #[.agg (stp3 a c (.slice none 0 0)).toArray, .bool t]) ∧ Kept [b] w w' ∧ RfS w' b ao cap ys s3 := by
 have HT := hide ht
 clear ht
 have ha2 := stNumber_le ys s1
 have hc2 := stNumber_le ys s2
 rw [ha] at ha2
 rw [hc] at hc2
 have hz := Tryz.zeroStp
 have hbl := h.lt
 have HSB : Hid (ys ≠ [] -> ∀ a, ao = some a -> a.block < w.heap.size) := fun hne a ha => by
  obtain ⟨bb, off, e, hb, _⟩ := h.sl.open hne
  rw [e] at ha; injection ha with ha; subst ha; exact hb
 obtain ⟨k1, k2, k3⟩ := blocks3 w (.cells dl.toArray 34) (.cells (stp3 0 0 (.slice none 0 0)).toArray 39) (.cells (stp3 0 0 (.slice none 0 0)).toArray 39)
 have K1 : Kept [] w (((w.alloc (.cells dl.toArray 34)).alloc (.cells (stp3 0 0 (.slice none 0 0)).toArray 39)).alloc (.cells (stp3 0 0 (.slice none 0 0)).toArray 39)) := (((Kept.refl [] w).alloc _).alloc _).alloc _
 have hr1 := h.kept K1 (by simp) (by simp)
 obtain ⟨G, hG⟩ := nm (w.heap.size)
 rw [hG] at k1 k2 k3
 obtain ⟨R, hR⟩ := nm (G + 1)
 rw [hR] at k2 k3
 obtain ⟨X, hX⟩ := nm (R + 1)
 rw [hX] at k3
 have HS1 : Hid (Sst w _ b G R X dl 0 0 (.slice none 0 0)) := ⟨K1.mono (by simp), k1, k2, k3, by omega⟩
 have HP : Hid (b < G ∧ G < R ∧ R < X ∧ w.heap.size = G) := ⟨by omega, by omega, by omega, hG⟩
 clear k1 k2 k3 K1 hbl h
 go_enter Tryz.func38, Tryz.ntmps38
 go_upto_region 2 with (fail)
 clear hX hR hG hz
 generalize ((w.alloc (.cells dl.toArray 34)).alloc (.cells (stp3 0 0 (.slice none 0 0)).toArray 39)).alloc (.cells (stp3 0 0 (.slice none 0 0)).toArray 39) = w1 at HS1 hr1 ⊢
 have htf := takefix_st hr1 1
 clear hr1
 rw [hk, hs1] at htf
 clear hk hs1
 go_upto_region 4 with (go_at_call 33; refine htf.mono ?_; rintro r w2 ⟨rfl, hk2, hr2⟩; have H2 := hide (ai (HS1.out.call hk2) hr2); clear htf hk2 hr2)
 have htn := takenum_st H2.out.2
 rw [ha, hs2] at htn
 clear ha hs2 HS1
 go_upto_region 5 with (go_at_call 34; refine htn.mono ?_; rintro r w3 ⟨rfl, hk3, hr3⟩; have hS3 := H2.out.1.call hk3; have cX := hS3.cX 0 _ rfl; have fX := hS3.fX 0; have H3 := hide (ai hS3 hr3); clear htn hk3 hr3 hS3)
 clear cX fX H2
 have HS4 := hide (H3.out.1.setF a)
 have HR4 := hide (H3.out.2.kept (show Kept [X] w3 (w3.setCell ⟨X, 0, none⟩ (.int .i64 a)) from (Kept.refl [X] w3).setCell (by simp) _) (by have := HP.out; simp; omega) (fun hne a ha => by have := HSB.out hne a ha; have := HP.out; simp; omega))
 clear H3
 generalize w3.setCell ⟨X, 0, none⟩ (.int .i64 a) = w3b at HS4 HR4 ⊢
 have htn := takenum_st HR4.out
 rw [hc, hs3] at htn
 clear hc hs3 HR4
 go_upto_region 6 with (go_at_call 34; refine htn.mono ?_; rintro r w4 ⟨rfl, hk4, hr4⟩; have hS4 := HS4.out.call hk4; have cX := hS4.cX 1 _ rfl; have fX := hS4.fX 1; have H4 := hide (ai hS4 hr4); clear htn hk4 hr4 hS4)
 clear cX fX HS4
 have HST := hide (H4.out.1.setC c)
 have HR5 := hide (H4.out.2.kept (show Kept [X] w4 (w4.setCell ⟨X, 1, none⟩ (.int .i64 c)) from (Kept.refl [X] w4).setCell (by simp) _) (by have := HP.out; simp; omega) (fun hne a ha => by have := HSB.out hne a ha; have := HP.out; simp; omega))
 clear H4
 generalize w4.setCell ⟨X, 1, none⟩ (.int .i64 c) = w5 at HST HR5 ⊢
 have cE := HR5.out.c2
 have cF := HST.out.cX 0 _ rfl
 have cC := HST.out.cX 1 _ rfl
 have cL := HST.out.cD 2 _ hdL
 have cZ := HST.out.cD 1 _ hdZ
 have hR0 : (World.drew w5).heap[R]? = some (.cells (stp3 0 0 (.slice none 0 0)).toArray 39 (0, 0)) := HST.out.rAt
 have HNR : Hid (b ∉ [R]) := by have := HP.out; show b ∉ [R]; simp; omega
 have HNX : Hid (X ∉ [R]) := by have := HP.out; show X ∉ [R]; simp; omega
 have HNG : Hid (G ∉ [R]) := by have := HP.out; show G ∉ [R]; simp; omega
 obtain ⟨q, hq⟩ : ∃ q : Nat, L / Z = q := ⟨_, rfl⟩
 have hdiv : (L : Int).tdiv (Z : Int) = (q : Int) := by rw [<-hq, Int.ofNat_tdiv]
 have hq1 : q <= 131072 := by rw [<-hq]; exact Nat.le_trans (Nat.div_le_self _ _) hL2
 have HQ := hide hq
 clear hq
 have hz0 : ((Z : Int) == 0) = false := by simp; omega
 have hzn : ¬ Z = 0 := by omega
 have hqw : IntKind.i64.wrap (q : Int) = (q : Int) := wrap64 (by omega) (by omega)
 have hwa : IntKind.i64.wrap (a + c) = a + c := wrap64 (by omega) (by omega)
 obtain ⟨e3, he3⟩ := nm (s3.e)
 rw [he3] at cE
 have HE3 := hide he3
 clear he3
 by_cases hE : e3 = 0
 ·have hE1 : (e3 == 0) = true := by simpa using hE
  by_cases hC : 1 <= c
  ·by_cases hF : a + c <= (q : Int)
   ·obtain rfl : true = t := by rw [<-HT.out, HE3.out, HQ.out]; simp [hE, hC, hF]
    clear hE
    refine wp_region_held_drew (S := fun w' => Kept [R] w5 w') (by kernel_rfl) ((Kept.refl [R] w5).drew) (fun h0 => ?_)
    generalize World.drew w5 = v0 at h0 hR0 ⊢
    refine t4 0 (.agg (stp3 a c (.slice none 0 0)).toArray) rfl (yieldsIf_load_mid (by rfl) _ _ rfl X 0 rfl (stp3 a c (.slice none 0 0)) _ (fun W h => range_row (HST.out.keptR h)) Tryz.underlying39 rfl (Tryz.infoStp _ _ _)) h0 ?_
    simp only [zz]
    refine t1 1 (.pointer (some ⟨b, 0, none⟩)) h0 ?_
    simp only [zz]
    refine t1 2 (.pointer (some ⟨b, 0, none⟩)) h0 ?_
    simp only [zz]
    refine t1 3 (.pointer (some ⟨b, 2, none⟩)) h0 ?_
    simp only [zz]
    refine t2 4 (.int .i64 e3) rfl h0 ?_ (fun w hSw => by have c0 := Kept.cellOf hSw cE HNR.out; go_simp)
    simp only [zz]
    refine t1 5 (.bool true) h0 ?_
    simp only [zz]
    refine t1 6 (.bool true) h0 ?_
    simp only [zz]
    refine t1 7 (.pointer (some ⟨X, 1, none⟩)) h0 ?_
    simp only [zz]
    refine t2 8 (.int .i64 c) rfl h0 ?_ (fun w hSw => by have c0 := Kept.cellOf hSw cC HNX.out; go_simp)
    simp only [zz]
    refine t1 9 (.bool true) h0 ?_
    simp only [zz]
    refine t1 10 (.bool true) h0 ?_
    simp only [zz]
    refine t1 11 (.bool true) h0 ?_
    simp only [zz]
    refine t1 12 (.pointer (some ⟨X, 0, none⟩)) h0 ?_
    simp only [zz]
    refine t2 13 (.int .i64 a) rfl h0 ?_ (fun w hSw => by have c0 := Kept.cellOf hSw cF HNX.out; go_simp)
    simp only [zz]
    refine t1 14 (.pointer (some ⟨X, 1, none⟩)) h0 ?_
    simp only [zz]
    refine t2 15 (.int .i64 c) rfl h0 ?_ (fun w hSw => by have c0 := Kept.cellOf hSw cC HNX.out; go_simp)
    simp only [zz]
    refine t1 16 (.int .i64 (a + c)) h0 ?_
    simp only [zz]
    refine t1 17 (.pointer (some ⟨G, 2, none⟩)) h0 ?_
    simp only [zz]
    refine t2 18 (.int .i64 L) rfl h0 ?_ (fun w hSw => by have c0 := Kept.cellOf hSw cL HNG.out; go_simp)
    simp only [zz]
    refine t1 19 (.pointer (some ⟨G, 1, none⟩)) h0 ?_
    simp only [zz]
    refine t2 20 (.int .i64 Z) rfl h0 ?_ (fun w hSw => by have c0 := Kept.cellOf hSw cZ HNG.out; go_simp)
    simp only [zz]
    refine t1 21 (.int .i64 q) h0 ?_
    simp only [zz]
    refine t1 22 (.bool true) h0 ?_
    simp only [zz]
    refine t1 23 (.bool true) h0 ?_
    simp only [zz]
    refine rd 24 fun K hK => ?_
    refine wp_store_mid 39 (.tmp 4) (.tmp 17) rfl R 0 (stp3 a c (.slice none 0 0)).toArray rfl rfl (there_row hR0 0 3 (by decide)) (Tryz.infoStpA _ _ _) (stp3_all _ _ _ rfl) ?_
    refine hK.out _ _ (h0.trans (kept_setCells _ _ _ _ _ (Kept.refl _ _) (by simp) : Kept [R] _ _) (by simp)) (fun h1 => ?_)
    clear hK K
    try simp only [zz]
    refine t1 25 (.bool true) h1 ?_
    simp only [zz]
    refine qd ?_
    have hrow := res3 (f := a) (c := c) (v := (.slice none 0 0)) hR0
    have HFK : Hid (Kept [b] w (v0.setCells R 0 (stp3 a c (.slice none 0 0)).toArray.toList) ∧ RfS (v0.setCells R 0 (stp3 a c (.slice none 0 0)).toArray.toList) b ao cap ys s3) := ⟨HST.out.last h1, HR5.out.kept h1 (by have := HP.out; simp; omega) (fun hne a ha => by have := HSB.out hne a ha; have := HP.out; simp; omega)⟩
    clear HST HR5 hR0 h0 h1 cE cF cC cL cZ HNR HNX HNG
    generalize v0.setCells R 0 (stp3 a c (.slice none 0 0)).toArray.toList = wz at hrow HFK ⊢
    go_wp2
    refine ret_row_slot rfl rfl R 39 _ (0, 0) _ rfl hrow Tryz.underlying39 rfl (Tryz.infoStpA _ _ _) ?_
    exact ⟨rfl, HFK.out.1, HFK.out.2⟩
   ·obtain rfl : false = t := by rw [<-HT.out, HE3.out, HQ.out]; simp [hF]
    clear hE
    refine wp_region_held_drew (S := fun w' => Kept [R] w5 w') (by kernel_rfl) ((Kept.refl [R] w5).drew) (fun h0 => ?_)
    generalize World.drew w5 = v0 at h0 hR0 ⊢
    refine t4 0 (.agg (stp3 a c (.slice none 0 0)).toArray) rfl (yieldsIf_load_mid (by rfl) _ _ rfl X 0 rfl (stp3 a c (.slice none 0 0)) _ (fun W h => range_row (HST.out.keptR h)) Tryz.underlying39 rfl (Tryz.infoStp _ _ _)) h0 ?_
    simp only [zz]
    refine t1 1 (.pointer (some ⟨b, 0, none⟩)) h0 ?_
    simp only [zz]
    refine t1 2 (.pointer (some ⟨b, 0, none⟩)) h0 ?_
    simp only [zz]
    refine t1 3 (.pointer (some ⟨b, 2, none⟩)) h0 ?_
    simp only [zz]
    refine t2 4 (.int .i64 e3) rfl h0 ?_ (fun w hSw => by have c0 := Kept.cellOf hSw cE HNR.out; go_simp)
    simp only [zz]
    refine t1 5 (.bool true) h0 ?_
    simp only [zz]
    refine t1 6 (.bool true) h0 ?_
    simp only [zz]
    refine t1 7 (.pointer (some ⟨X, 1, none⟩)) h0 ?_
    simp only [zz]
    refine t2 8 (.int .i64 c) rfl h0 ?_ (fun w hSw => by have c0 := Kept.cellOf hSw cC HNX.out; go_simp)
    simp only [zz]
    refine t1 9 (.bool true) h0 ?_
    simp only [zz]
    refine t1 10 (.bool true) h0 ?_
    simp only [zz]
    refine t1 11 (.bool true) h0 ?_
    simp only [zz]
    refine t1 12 (.pointer (some ⟨X, 0, none⟩)) h0 ?_
    simp only [zz]
    refine t2 13 (.int .i64 a) rfl h0 ?_ (fun w hSw => by have c0 := Kept.cellOf hSw cF HNX.out; go_simp)
    simp only [zz]
    refine t1 14 (.pointer (some ⟨X, 1, none⟩)) h0 ?_
    simp only [zz]
    refine t2 15 (.int .i64 c) rfl h0 ?_ (fun w hSw => by have c0 := Kept.cellOf hSw cC HNX.out; go_simp)
    simp only [zz]
    refine t1 16 (.int .i64 (a + c)) h0 ?_
    simp only [zz]
    refine t1 17 (.pointer (some ⟨G, 2, none⟩)) h0 ?_
    simp only [zz]
    refine t2 18 (.int .i64 L) rfl h0 ?_ (fun w hSw => by have c0 := Kept.cellOf hSw cL HNG.out; go_simp)
    simp only [zz]
    refine t1 19 (.pointer (some ⟨G, 1, none⟩)) h0 ?_
    simp only [zz]
    refine t2 20 (.int .i64 Z) rfl h0 ?_ (fun w hSw => by have c0 := Kept.cellOf hSw cZ HNG.out; go_simp)
    simp only [zz]
    refine t1 21 (.int .i64 q) h0 ?_
    simp only [zz]
    refine t1 22 (.bool false) h0 ?_
    simp only [zz]
    refine t1 23 (.bool false) h0 ?_
    simp only [zz]
    refine rd 24 fun K hK => ?_
    refine wp_store_mid 39 (.tmp 4) (.tmp 17) rfl R 0 (stp3 a c (.slice none 0 0)).toArray rfl rfl (there_row hR0 0 3 (by decide)) (Tryz.infoStpA _ _ _) (stp3_all _ _ _ rfl) ?_
    refine hK.out _ _ (h0.trans (kept_setCells _ _ _ _ _ (Kept.refl _ _) (by simp) : Kept [R] _ _) (by simp)) (fun h1 => ?_)
    clear hK K
    try simp only [zz]
    refine t1 25 (.bool false) h1 ?_
    simp only [zz]
    refine qd ?_
    have hrow := res3 (f := a) (c := c) (v := (.slice none 0 0)) hR0
    have HFK : Hid (Kept [b] w (v0.setCells R 0 (stp3 a c (.slice none 0 0)).toArray.toList) ∧ RfS (v0.setCells R 0 (stp3 a c (.slice none 0 0)).toArray.toList) b ao cap ys s3) := ⟨HST.out.last h1, HR5.out.kept h1 (by have := HP.out; simp; omega) (fun hne a ha => by have := HSB.out hne a ha; have := HP.out; simp; omega)⟩
    clear HST HR5 hR0 h0 h1 cE cF cC cL cZ HNR HNX HNG
    generalize v0.setCells R 0 (stp3 a c (.slice none 0 0)).toArray.toList = wz at hrow HFK ⊢
    go_wp2
    refine ret_row_slot rfl rfl R 39 _ (0, 0) _ rfl hrow Tryz.underlying39 rfl (Tryz.infoStpA _ _ _) ?_
    exact ⟨rfl, HFK.out.1, HFK.out.2⟩
  ·obtain rfl : false = t := by rw [<-HT.out, HE3.out, HQ.out]; simp [hC]
   clear hE
   refine wp_region_held_drew (S := fun w' => Kept [R] w5 w') (by kernel_rfl) ((Kept.refl [R] w5).drew) (fun h0 => ?_)
   generalize World.drew w5 = v0 at h0 hR0 ⊢
   refine t4 0 (.agg (stp3 a c (.slice none 0 0)).toArray) rfl (yieldsIf_load_mid (by rfl) _ _ rfl X 0 rfl (stp3 a c (.slice none 0 0)) _ (fun W h => range_row (HST.out.keptR h)) Tryz.underlying39 rfl (Tryz.infoStp _ _ _)) h0 ?_
   simp only [zz]
   refine t1 1 (.pointer (some ⟨b, 0, none⟩)) h0 ?_
   simp only [zz]
   refine t1 2 (.pointer (some ⟨b, 0, none⟩)) h0 ?_
   simp only [zz]
   refine t1 3 (.pointer (some ⟨b, 2, none⟩)) h0 ?_
   simp only [zz]
   refine t2 4 (.int .i64 e3) rfl h0 ?_ (fun w hSw => by have c0 := Kept.cellOf hSw cE HNR.out; go_simp)
   simp only [zz]
   refine t1 5 (.bool true) h0 ?_
   simp only [zz]
   refine t1 6 (.bool true) h0 ?_
   simp only [zz]
   refine t1 7 (.pointer (some ⟨X, 1, none⟩)) h0 ?_
   simp only [zz]
   refine t2 8 (.int .i64 c) rfl h0 ?_ (fun w hSw => by have c0 := Kept.cellOf hSw cC HNX.out; go_simp)
   simp only [zz]
   refine t1 9 (.bool false) h0 ?_
   simp only [zz]
   refine t1 10 (.bool false) h0 ?_
   simp only [zz]
   refine t1 11 (.bool false) h0 ?_
   simp only [zz]
   refine t3 12 h0 ?_
   simp only [zz]
   refine t3 13 h0 ?_
   simp only [zz]
   refine t3 14 h0 ?_
   simp only [zz]
   refine t3 15 h0 ?_
   simp only [zz]
   refine t3 16 h0 ?_
   simp only [zz]
   refine t3 17 h0 ?_
   simp only [zz]
   refine t3 18 h0 ?_
   simp only [zz]
   refine t3 19 h0 ?_
   simp only [zz]
   refine t3 20 h0 ?_
   simp only [zz]
   refine t3 21 h0 ?_
   simp only [zz]
   refine t3 22 h0 ?_
   simp only [zz]
   refine t1 23 (.bool false) h0 ?_
   simp only [zz]
   refine rd 24 fun K hK => ?_
   refine wp_store_mid 39 (.tmp 4) (.tmp 17) rfl R 0 (stp3 a c (.slice none 0 0)).toArray rfl rfl (there_row hR0 0 3 (by decide)) (Tryz.infoStpA _ _ _) (stp3_all _ _ _ rfl) ?_
   refine hK.out _ _ (h0.trans (kept_setCells _ _ _ _ _ (Kept.refl _ _) (by simp) : Kept [R] _ _) (by simp)) (fun h1 => ?_)
   clear hK K
   try simp only [zz]
   refine t1 25 (.bool false) h1 ?_
   simp only [zz]
   refine qd ?_
   have hrow := res3 (f := a) (c := c) (v := (.slice none 0 0)) hR0
   have HFK : Hid (Kept [b] w (v0.setCells R 0 (stp3 a c (.slice none 0 0)).toArray.toList) ∧ RfS (v0.setCells R 0 (stp3 a c (.slice none 0 0)).toArray.toList) b ao cap ys s3) := ⟨HST.out.last h1, HR5.out.kept h1 (by have := HP.out; simp; omega) (fun hne a ha => by have := HSB.out hne a ha; have := HP.out; simp; omega)⟩
   clear HST HR5 hR0 h0 h1 cE cF cC cL cZ HNR HNX HNG
   generalize v0.setCells R 0 (stp3 a c (.slice none 0 0)).toArray.toList = wz at hrow HFK ⊢
   go_wp2
   refine ret_row_slot rfl rfl R 39 _ (0, 0) _ rfl hrow Tryz.underlying39 rfl (Tryz.infoStpA _ _ _) ?_
   exact ⟨rfl, HFK.out.1, HFK.out.2⟩
 ·have hE1 : (e3 == 0) = false := by simpa using hE
  obtain rfl : false = t := by rw [<-HT.out, HE3.out, HQ.out]; simp [hE]
  clear hE
  refine wp_region_held_drew (S := fun w' => Kept [R] w5 w') (by kernel_rfl) ((Kept.refl [R] w5).drew) (fun h0 => ?_)
  generalize World.drew w5 = v0 at h0 hR0 ⊢
  refine t4 0 (.agg (stp3 a c (.slice none 0 0)).toArray) rfl (yieldsIf_load_mid (by rfl) _ _ rfl X 0 rfl (stp3 a c (.slice none 0 0)) _ (fun W h => range_row (HST.out.keptR h)) Tryz.underlying39 rfl (Tryz.infoStp _ _ _)) h0 ?_
  simp only [zz]
  refine t1 1 (.pointer (some ⟨b, 0, none⟩)) h0 ?_
  simp only [zz]
  refine t1 2 (.pointer (some ⟨b, 0, none⟩)) h0 ?_
  simp only [zz]
  refine t1 3 (.pointer (some ⟨b, 2, none⟩)) h0 ?_
  simp only [zz]
  refine t2 4 (.int .i64 e3) rfl h0 ?_ (fun w hSw => by have c0 := Kept.cellOf hSw cE HNR.out; go_simp)
  simp only [zz]
  refine t1 5 (.bool false) h0 ?_
  simp only [zz]
  refine t1 6 (.bool false) h0 ?_
  simp only [zz]
  refine t3 7 h0 ?_
  simp only [zz]
  refine t3 8 h0 ?_
  simp only [zz]
  refine t3 9 h0 ?_
  simp only [zz]
  refine t1 10 (.bool false) h0 ?_
  simp only [zz]
  refine t1 11 (.bool false) h0 ?_
  simp only [zz]
  refine t3 12 h0 ?_
  simp only [zz]
  refine t3 13 h0 ?_
  simp only [zz]
  refine t3 14 h0 ?_
  simp only [zz]
  refine t3 15 h0 ?_
  simp only [zz]
  refine t3 16 h0 ?_
  simp only [zz]
  refine t3 17 h0 ?_
  simp only [zz]
  refine t3 18 h0 ?_
  simp only [zz]
  refine t3 19 h0 ?_
  simp only [zz]
  refine t3 20 h0 ?_
  simp only [zz]
  refine t3 21 h0 ?_
  simp only [zz]
  refine t3 22 h0 ?_
  simp only [zz]
  refine t1 23 (.bool false) h0 ?_
  simp only [zz]
  refine rd 24 fun K hK => ?_
  refine wp_store_mid 39 (.tmp 4) (.tmp 17) rfl R 0 (stp3 a c (.slice none 0 0)).toArray rfl rfl (there_row hR0 0 3 (by decide)) (Tryz.infoStpA _ _ _) (stp3_all _ _ _ rfl) ?_
  refine hK.out _ _ (h0.trans (kept_setCells _ _ _ _ _ (Kept.refl _ _) (by simp) : Kept [R] _ _) (by simp)) (fun h1 => ?_)
  clear hK K
  try simp only [zz]
  refine t1 25 (.bool false) h1 ?_
  simp only [zz]
  refine qd ?_
  have hrow := res3 (f := a) (c := c) (v := (.slice none 0 0)) hR0
  have HFK : Hid (Kept [b] w (v0.setCells R 0 (stp3 a c (.slice none 0 0)).toArray.toList) ∧ RfS (v0.setCells R 0 (stp3 a c (.slice none 0 0)).toArray.toList) b ao cap ys s3) := ⟨HST.out.last h1, HR5.out.kept h1 (by have := HP.out; simp; omega) (fun hne a ha => by have := HSB.out hne a ha; have := HP.out; simp; omega)⟩
  clear HST HR5 hR0 h0 h1 cE cF cC cL cZ HNR HNX HNG
  generalize v0.setCells R 0 (stp3 a c (.slice none 0 0)).toArray.toList = wz at hrow HFK ⊢
  go_wp2
  refine ret_row_slot rfl rfl R 39 _ (0, 0) _ rfl hrow Tryz.underlying39 rfl (Tryz.infoStpA _ _ _) ?_
  exact ⟨rfl, HFK.out.1, HFK.out.2⟩
theorem rstep_lit {w : World} {b : Nat} {ao : Option Addr} {cap : Nat} {ys : List UInt8} {s : Rs} (h : RfS w b ao cap ys s) (dl : List Value) (Z L : Nat) (hdZ : dl[1]? = some (.int .i64 Z)) (hdL : dl[2]? = some (.int .i64 L)) (hZ1 : 16 <= Z) (hZ2 : Z <= 4096) (hL2 : L <= 131072) (hk : (stFixed ys s 1).1 = 2) (s1 s3 : Rs) (bs : List UInt8) (hs1 : (stFixed ys s 1).2 = s1) (hbs : (stText ys s1 131072).1 = bs) (hs3 : (stText ys s1 131072).2 = s3) (t : Bool) (ht : decide (s3.e = 0 ∧ 1 <= bs.length) = t) :
  Calls Tryz.prog 38 #[.pointer (some ⟨b, 0, none⟩), .agg dl.toArray] w fun e w' => (∃ to tn tc, e = .returned (.tuple #[.agg (stp3 0 0 (.slice to tn tc)).toArray, .bool t]) ∧ InB8 w' to tn tc bs ∧ ∀ a, to = some a -> w.heap.size <= a.block ∧ a.block < w'.heap.size) ∧ Kept [b] w w' ∧ RfS w' b ao cap ys s3 := by
 have HT := hide ht
 clear ht
 have hbl2 : bs.length <= 131072 := by rw [<-hbs]; exact stText_len ys s1
 have hz := Tryz.zeroStp
 have hbl := h.lt
 have HSB : Hid (ys ≠ [] -> ∀ a, ao = some a -> a.block < w.heap.size) := fun hne a ha => by
  obtain ⟨bb, off, e, hb, _⟩ := h.sl.open hne
  rw [e] at ha; injection ha with ha; subst ha; exact hb
 obtain ⟨k1, k2, k3⟩ := blocks3 w (.cells dl.toArray 34) (.cells (stp3 0 0 (.slice none 0 0)).toArray 39) (.cells (stp3 0 0 (.slice none 0 0)).toArray 39)
 have K1 : Kept [] w (((w.alloc (.cells dl.toArray 34)).alloc (.cells (stp3 0 0 (.slice none 0 0)).toArray 39)).alloc (.cells (stp3 0 0 (.slice none 0 0)).toArray 39)) := (((Kept.refl [] w).alloc _).alloc _).alloc _
 have hr1 := h.kept K1 (by simp) (by simp)
 obtain ⟨G, hG⟩ := nm (w.heap.size)
 rw [hG] at k1 k2 k3
 obtain ⟨R, hR⟩ := nm (G + 1)
 rw [hR] at k2 k3
 obtain ⟨X, hX⟩ := nm (R + 1)
 rw [hX] at k3
 have HS1 : Hid (Sst w _ b G R X dl 0 0 (.slice none 0 0)) := ⟨K1.mono (by simp), k1, k2, k3, by omega⟩
 have HP : Hid (b < G ∧ G < R ∧ R < X ∧ w.heap.size = G) := ⟨by omega, by omega, by omega, hG⟩
 clear k1 k2 k3 K1 hbl h
 go_enter Tryz.func38, Tryz.ntmps38
 go_upto_region 2 with (fail)
 clear hX hR hG hz
 generalize ((w.alloc (.cells dl.toArray 34)).alloc (.cells (stp3 0 0 (.slice none 0 0)).toArray 39)).alloc (.cells (stp3 0 0 (.slice none 0 0)).toArray 39) = w1 at HS1 hr1 ⊢
 have htf := takefix_st hr1 1
 clear hr1
 rw [hk, hs1] at htf
 clear hk hs1
 go_upto_region 8 with (go_at_call 33; refine htf.mono ?_; rintro r w2 ⟨rfl, hk2, hr2⟩; have H2 := hide (ai (HS1.out.call hk2) hr2); clear htf hk2 hr2)
 have htx := taketext_st H2.out.2 131072
 rw [hbs, hs3] at htx
 obtain ⟨tn, htn⟩ := nm (bs.length)
 clear hbs hs3 HS1
 have HTN := hide htn
 go_upto_region 9 with (go_at_call 79; refine htx.mono ?_; rintro r w3 ⟨⟨to, tc, rfl, hfr⟩, hk3, hr3⟩; rw [HTN.out]; have hS3 := H2.out.1.call hk3; have cX := hS3.cX 2 _ rfl; have fX := hS3.fX 2; have H3 := hide (ai hS3 (ai hr3 hfr)); clear htx hk3 hr3 hS3 hfr)
 clear cX fX
 have KX3 : Kept [X] w3 (w3.setCell ⟨X, 2, none⟩ (.slice to tn tc)) := (Kept.refl [X] w3).setCell (by simp) _
 have HST := hide (H3.out.1.setV (.slice to tn tc))
 have HR5 := hide (H3.out.2.1.kept KX3 (by have := HP.out; simp; omega) (fun hne a ha => by have := HSB.out hne a ha; have := HP.out; simp; omega))
 have HG2 : Hid (X < w2.heap.size) := heap_lt H2.out.1.xAt
 have HW2 : Hid (w.heap.size <= w2.heap.size) := H2.out.1.kept.size
 have HFR : Hid (InB8 (w3.setCell ⟨X, 2, none⟩ (.slice to tn tc)) to tn tc bs ∧ ∀ a, to = some a -> w2.heap.size <= a.block ∧ a.block < (w3.setCell ⟨X, 2, none⟩ (.slice to tn tc)).heap.size) := by
  obtain ⟨f1, f2, f3, f4⟩ := H3.out.2.2
  rw [HTN.out] at f2
  exact ⟨⟨HTN.out, f2, by have := HTN.out; omega, f1.kept KX3 (fun hne a ha => by have := (f4 a ha).1; have := HG2.out; simp; omega), f3⟩, fun a ha => ⟨(f4 a ha).1, Nat.lt_of_lt_of_le (f4 a ha).2.1 KX3.size⟩⟩
 clear H3 H2 KX3
 generalize w3.setCell ⟨X, 2, none⟩ (.slice to tn tc) = w5 at HST HR5 HFR ⊢
 have HFI := hide (fun W (hW : Kept [R] w5 W) => ai (show InB8 W to tn tc bs from ⟨HFR.out.1.len, HFR.out.1.le, HFR.out.1.max, HFR.out.1.sl.kept hW (fun hne a ha => by have := (HFR.out.2 a ha).1; have := HG2.out; have := HP.out; simp; omega), HFR.out.1.nil⟩) (fun a (ha : to = some a) => ai (Nat.le_trans HW2.out (HFR.out.2 a ha).1) (Nat.lt_of_lt_of_le (HFR.out.2 a ha).2 hW.size)))
 clear HFR HG2 HW2
 have cE := HR5.out.c2
 have cV := HST.out.cX 2 _ rfl
 have hR0 : (World.drew w5).heap[R]? = some (.cells (stp3 0 0 (.slice none 0 0)).toArray 39 (0, 0)) := HST.out.rAt
 have HNR : Hid (b ∉ [R]) := by have := HP.out; show b ∉ [R]; simp; omega
 have HNX : Hid (X ∉ [R]) := by have := HP.out; show X ∉ [R]; simp; omega
 rw [htn] at hbl2
 clear htn
 obtain ⟨e3, he3⟩ := nm (s3.e)
 rw [he3] at cE
 have HE3 := hide he3
 clear he3
 by_cases hE : e3 = 0
 ·have hE1 : (e3 == 0) = true := by simpa using hE
  by_cases hC : 1 <= tn
  ·have hC1 : (1 : Int) <= (tn : Int) := by omega
   obtain rfl : true = t := by rw [<-HT.out, HE3.out, HTN.out]; simp [hE, hC]
   clear hE
   refine wp_region_held_drew (S := fun w' => Kept [R] w5 w') (by kernel_rfl) ((Kept.refl [R] w5).drew) (fun h0 => ?_)
   generalize World.drew w5 = v0 at h0 hR0 ⊢
   refine t4 0 (.agg (stp3 0 0 (.slice to tn tc)).toArray) rfl (yieldsIf_load_mid (by rfl) _ _ rfl X 0 rfl (stp3 0 0 (.slice to tn tc)) _ (fun W h => range_row (HST.out.keptR h)) Tryz.underlying39 rfl (Tryz.infoStp _ _ _)) h0 ?_
   simp only [zz]
   refine t1 1 (.pointer (some ⟨b, 0, none⟩)) h0 ?_
   simp only [zz]
   refine t1 2 (.pointer (some ⟨b, 0, none⟩)) h0 ?_
   simp only [zz]
   refine t1 3 (.pointer (some ⟨b, 2, none⟩)) h0 ?_
   simp only [zz]
   refine t2 4 (.int .i64 e3) rfl h0 ?_ (fun w hSw => by have c0 := Kept.cellOf hSw cE HNR.out; go_simp)
   simp only [zz]
   refine t1 5 (.bool true) h0 ?_
   simp only [zz]
   refine t1 6 (.bool true) h0 ?_
   simp only [zz]
   refine t1 7 (.pointer (some ⟨X, 2, none⟩)) h0 ?_
   simp only [zz]
   refine t2 8 (.slice to tn tc) rfl h0 ?_ (fun w hSw => by have c0 := Kept.cellOf hSw cV HNX.out; go_simp)
   simp only [zz]
   refine t1 9 (.int .i64 tn) h0 ?_
   simp only [zz]
   refine t1 10 (.bool true) h0 ?_
   simp only [zz]
   refine t1 11 (.bool true) h0 ?_
   simp only [zz]
   refine rd 12 fun K hK => ?_
   refine wp_store_mid 39 (.tmp 4) (.tmp 46) rfl R 0 (stp3 0 0 (.slice to tn tc)).toArray rfl rfl (there_row hR0 0 3 (by decide)) (Tryz.infoStpA _ _ _) (stp3_all _ _ _ rfl) ?_
   refine hK.out _ _ (h0.trans (kept_setCells _ _ _ _ _ (Kept.refl _ _) (by simp) : Kept [R] _ _) (by simp)) (fun h1 => ?_)
   clear hK K
   try simp only [zz]
   refine t1 13 (.bool true) h1 ?_
   simp only [zz]
   refine qd ?_
   have hrow := res3 (f := 0) (c := 0) (v := (.slice to tn tc)) hR0
   have HFK : Hid (Kept [b] w (v0.setCells R 0 (stp3 0 0 (.slice to tn tc)).toArray.toList) ∧ RfS (v0.setCells R 0 (stp3 0 0 (.slice to tn tc)).toArray.toList) b ao cap ys s3 ∧ InB8 (v0.setCells R 0 (stp3 0 0 (.slice to tn tc)).toArray.toList) to tn tc bs ∧ ∀ a, to = some a -> w.heap.size <= a.block ∧ a.block < (v0.setCells R 0 (stp3 0 0 (.slice to tn tc)).toArray.toList).heap.size) := ⟨HST.out.last h1, HR5.out.kept h1 (by have := HP.out; simp; omega) (fun hne a ha => by have := HSB.out hne a ha; have := HP.out; simp; omega), (HFI.out _ h1).1, (HFI.out _ h1).2⟩
   clear HFI HST HR5 hR0 h0 h1 cE cV HNR HNX
   generalize v0.setCells R 0 (stp3 0 0 (.slice to tn tc)).toArray.toList = wz at hrow HFK ⊢
   go_wp2
   refine ret_row_slot rfl rfl R 39 _ (0, 0) _ rfl hrow Tryz.underlying39 rfl (Tryz.infoStpA _ _ _) ?_
   exact ⟨⟨to, tn, tc, rfl, HFK.out.2.2⟩, HFK.out.1, HFK.out.2.1⟩
  ·have hC1 : (tn : Int) < 1 := by omega
   obtain rfl : false = t := by rw [<-HT.out, HE3.out, HTN.out]; simp [hC]
   clear hE
   refine wp_region_held_drew (S := fun w' => Kept [R] w5 w') (by kernel_rfl) ((Kept.refl [R] w5).drew) (fun h0 => ?_)
   generalize World.drew w5 = v0 at h0 hR0 ⊢
   refine t4 0 (.agg (stp3 0 0 (.slice to tn tc)).toArray) rfl (yieldsIf_load_mid (by rfl) _ _ rfl X 0 rfl (stp3 0 0 (.slice to tn tc)) _ (fun W h => range_row (HST.out.keptR h)) Tryz.underlying39 rfl (Tryz.infoStp _ _ _)) h0 ?_
   simp only [zz]
   refine t1 1 (.pointer (some ⟨b, 0, none⟩)) h0 ?_
   simp only [zz]
   refine t1 2 (.pointer (some ⟨b, 0, none⟩)) h0 ?_
   simp only [zz]
   refine t1 3 (.pointer (some ⟨b, 2, none⟩)) h0 ?_
   simp only [zz]
   refine t2 4 (.int .i64 e3) rfl h0 ?_ (fun w hSw => by have c0 := Kept.cellOf hSw cE HNR.out; go_simp)
   simp only [zz]
   refine t1 5 (.bool true) h0 ?_
   simp only [zz]
   refine t1 6 (.bool true) h0 ?_
   simp only [zz]
   refine t1 7 (.pointer (some ⟨X, 2, none⟩)) h0 ?_
   simp only [zz]
   refine t2 8 (.slice to tn tc) rfl h0 ?_ (fun w hSw => by have c0 := Kept.cellOf hSw cV HNX.out; go_simp)
   simp only [zz]
   refine t1 9 (.int .i64 tn) h0 ?_
   simp only [zz]
   refine t1 10 (.bool false) h0 ?_
   simp only [zz]
   refine t1 11 (.bool false) h0 ?_
   simp only [zz]
   refine rd 12 fun K hK => ?_
   refine wp_store_mid 39 (.tmp 4) (.tmp 46) rfl R 0 (stp3 0 0 (.slice to tn tc)).toArray rfl rfl (there_row hR0 0 3 (by decide)) (Tryz.infoStpA _ _ _) (stp3_all _ _ _ rfl) ?_
   refine hK.out _ _ (h0.trans (kept_setCells _ _ _ _ _ (Kept.refl _ _) (by simp) : Kept [R] _ _) (by simp)) (fun h1 => ?_)
   clear hK K
   try simp only [zz]
   refine t1 13 (.bool false) h1 ?_
   simp only [zz]
   refine qd ?_
   have hrow := res3 (f := 0) (c := 0) (v := (.slice to tn tc)) hR0
   have HFK : Hid (Kept [b] w (v0.setCells R 0 (stp3 0 0 (.slice to tn tc)).toArray.toList) ∧ RfS (v0.setCells R 0 (stp3 0 0 (.slice to tn tc)).toArray.toList) b ao cap ys s3 ∧ InB8 (v0.setCells R 0 (stp3 0 0 (.slice to tn tc)).toArray.toList) to tn tc bs ∧ ∀ a, to = some a -> w.heap.size <= a.block ∧ a.block < (v0.setCells R 0 (stp3 0 0 (.slice to tn tc)).toArray.toList).heap.size) := ⟨HST.out.last h1, HR5.out.kept h1 (by have := HP.out; simp; omega) (fun hne a ha => by have := HSB.out hne a ha; have := HP.out; simp; omega), (HFI.out _ h1).1, (HFI.out _ h1).2⟩
   clear HFI HST HR5 hR0 h0 h1 cE cV HNR HNX
   generalize v0.setCells R 0 (stp3 0 0 (.slice to tn tc)).toArray.toList = wz at hrow HFK ⊢
   go_wp2
   refine ret_row_slot rfl rfl R 39 _ (0, 0) _ rfl hrow Tryz.underlying39 rfl (Tryz.infoStpA _ _ _) ?_
   exact ⟨⟨to, tn, tc, rfl, HFK.out.2.2⟩, HFK.out.1, HFK.out.2.1⟩
 ·have hE1 : (e3 == 0) = false := by simpa using hE
  obtain rfl : false = t := by rw [<-HT.out, HE3.out, HTN.out]; simp [hE]
  clear hE
  refine wp_region_held_drew (S := fun w' => Kept [R] w5 w') (by kernel_rfl) ((Kept.refl [R] w5).drew) (fun h0 => ?_)
  generalize World.drew w5 = v0 at h0 hR0 ⊢
  refine t4 0 (.agg (stp3 0 0 (.slice to tn tc)).toArray) rfl (yieldsIf_load_mid (by rfl) _ _ rfl X 0 rfl (stp3 0 0 (.slice to tn tc)) _ (fun W h => range_row (HST.out.keptR h)) Tryz.underlying39 rfl (Tryz.infoStp _ _ _)) h0 ?_
  simp only [zz]
  refine t1 1 (.pointer (some ⟨b, 0, none⟩)) h0 ?_
  simp only [zz]
  refine t1 2 (.pointer (some ⟨b, 0, none⟩)) h0 ?_
  simp only [zz]
  refine t1 3 (.pointer (some ⟨b, 2, none⟩)) h0 ?_
  simp only [zz]
  refine t2 4 (.int .i64 e3) rfl h0 ?_ (fun w hSw => by have c0 := Kept.cellOf hSw cE HNR.out; go_simp)
  simp only [zz]
  refine t1 5 (.bool false) h0 ?_
  simp only [zz]
  refine t1 6 (.bool false) h0 ?_
  simp only [zz]
  refine t3 7 h0 ?_
  simp only [zz]
  refine t3 8 h0 ?_
  simp only [zz]
  refine t3 9 h0 ?_
  simp only [zz]
  refine t3 10 h0 ?_
  simp only [zz]
  refine t1 11 (.bool false) h0 ?_
  simp only [zz]
  refine rd 12 fun K hK => ?_
  refine wp_store_mid 39 (.tmp 4) (.tmp 46) rfl R 0 (stp3 0 0 (.slice to tn tc)).toArray rfl rfl (there_row hR0 0 3 (by decide)) (Tryz.infoStpA _ _ _) (stp3_all _ _ _ rfl) ?_
  refine hK.out _ _ (h0.trans (kept_setCells _ _ _ _ _ (Kept.refl _ _) (by simp) : Kept [R] _ _) (by simp)) (fun h1 => ?_)
  clear hK K
  try simp only [zz]
  refine t1 13 (.bool false) h1 ?_
  simp only [zz]
  refine qd ?_
  have hrow := res3 (f := 0) (c := 0) (v := (.slice to tn tc)) hR0
  have HFK : Hid (Kept [b] w (v0.setCells R 0 (stp3 0 0 (.slice to tn tc)).toArray.toList) ∧ RfS (v0.setCells R 0 (stp3 0 0 (.slice to tn tc)).toArray.toList) b ao cap ys s3 ∧ InB8 (v0.setCells R 0 (stp3 0 0 (.slice to tn tc)).toArray.toList) to tn tc bs ∧ ∀ a, to = some a -> w.heap.size <= a.block ∧ a.block < (v0.setCells R 0 (stp3 0 0 (.slice to tn tc)).toArray.toList).heap.size) := ⟨HST.out.last h1, HR5.out.kept h1 (by have := HP.out; simp; omega) (fun hne a ha => by have := HSB.out hne a ha; have := HP.out; simp; omega), (HFI.out _ h1).1, (HFI.out _ h1).2⟩
  clear HFI HST HR5 hR0 h0 h1 cE cV HNR HNX
  generalize v0.setCells R 0 (stp3 0 0 (.slice to tn tc)).toArray.toList = wz at hrow HFK ⊢
  go_wp2
  refine ret_row_slot rfl rfl R 39 _ (0, 0) _ rfl hrow Tryz.underlying39 rfl (Tryz.infoStpA _ _ _) ?_
  exact ⟨⟨to, tn, tc, rfl, HFK.out.2.2⟩, HFK.out.1, HFK.out.2.1⟩
theorem rstep_none {w : World} {b : Nat} {ao : Option Addr} {cap : Nat} {ys : List UInt8} {s : Rs} (h : RfS w b ao cap ys s) (dl : List Value) (Z L : Nat) (hdZ : dl[1]? = some (.int .i64 Z)) (hdL : dl[2]? = some (.int .i64 L)) (hZ1 : 16 <= Z) (hZ2 : Z <= 4096) (hL2 : L <= 131072) (k : Int) (hk : (stFixed ys s 1).1 = k) (h1 : k ≠ 1) (h2 : k ≠ 2) :
  Calls Tryz.prog 38 #[.pointer (some ⟨b, 0, none⟩), .agg dl.toArray] w fun e w' => e = .returned (.tuple #[.agg (stp3 0 0 (.slice none 0 0)).toArray, .bool false]) ∧ Kept [b] w w' := by
 have hz := Tryz.zeroStp
 have hbl := h.lt
 have HSB : Hid (ys ≠ [] -> ∀ a, ao = some a -> a.block < w.heap.size) := fun hne a ha => by
  obtain ⟨bb, off, e, hb, _⟩ := h.sl.open hne
  rw [e] at ha; injection ha with ha; subst ha; exact hb
 obtain ⟨k1, k2, k3⟩ := blocks3 w (.cells dl.toArray 34) (.cells (stp3 0 0 (.slice none 0 0)).toArray 39) (.cells (stp3 0 0 (.slice none 0 0)).toArray 39)
 have K1 : Kept [] w (((w.alloc (.cells dl.toArray 34)).alloc (.cells (stp3 0 0 (.slice none 0 0)).toArray 39)).alloc (.cells (stp3 0 0 (.slice none 0 0)).toArray 39)) := (((Kept.refl [] w).alloc _).alloc _).alloc _
 have hr1 := h.kept K1 (by simp) (by simp)
 obtain ⟨G, hG⟩ := nm (w.heap.size)
 rw [hG] at k1 k2 k3
 obtain ⟨R, hR⟩ := nm (G + 1)
 rw [hR] at k2 k3
 obtain ⟨X, hX⟩ := nm (R + 1)
 rw [hX] at k3
 have HS1 : Hid (Sst w _ b G R X dl 0 0 (.slice none 0 0)) := ⟨K1.mono (by simp), k1, k2, k3, by omega⟩
 have HP : Hid (b < G ∧ G < R ∧ R < X ∧ w.heap.size = G) := ⟨by omega, by omega, by omega, hG⟩
 clear k1 k2 k3 K1 hbl h
 go_enter Tryz.func38, Tryz.ntmps38
 go_upto_region 2 with (fail)
 clear hX hR hG hz
 generalize ((w.alloc (.cells dl.toArray 34)).alloc (.cells (stp3 0 0 (.slice none 0 0)).toArray 39)).alloc (.cells (stp3 0 0 (.slice none 0 0)).toArray 39) = w1 at HS1 hr1 ⊢
 have htf := takefix_st hr1 1
 clear hr1
 rw [hk] at htf
 have h11 : (k == 1) = false := by simpa using h1
 have h12 : (k == 2) = false := by simpa using h2
 clear hk h1 h2
 go_upto_region 10 with (go_at_call 33; refine htf.mono ?_; rintro r w5 ⟨rfl, hk2, hr2⟩; have HST := hide (HS1.out.call hk2); clear htf hk2 hr2)
 have hx := range_row HST.out.xAt
 have hr := HST.out.rAt
 have hrow : (w5.setRow R (stp3 0 0 (.slice none 0 0)).toArray).heap[R]? = some (.cells (stp3 0 0 (.slice none 0 0)).toArray 39 (0, 0)) := setRow_heap _ _ _ _ _ _ hr
 have hi := Tryz.infoStp 0 0 (.slice none 0 0)
 have hiA := Tryz.infoStpA 0 0 (.slice none 0 0)
 have hall := stp3_all 0 0 (.slice none 0 0) rfl
 have HKF : Hid (Kept [b] w (w5.setRow R (stp3 0 0 (.slice none 0 0)).toArray)) := HST.out.last (kept_row _ _ _)
 clear HST HS1
 go_wp2_with (first
  | refine wpList_load_mid rfl 39 (.tmp 6) rfl X 0 rfl (stp3 0 0 (.slice none 0 0)) _ hx Tryz.underlying39 rfl hi ?_
  | refine wpList_store_rowTo rfl 39 (.tmp 4) (.tmp 58) rfl rfl R (stp3 0 0 (.slice none 0 0)).toArray rfl rfl 39 (stp3 0 0 (.slice none 0 0)).toArray hr hiA rfl hall ?_)
 refine ret_row_slot rfl rfl R 39 _ (0, 0) _ rfl hrow Tryz.underlying39 rfl hiA ?_
 exact ⟨rfl, HKF.out⟩
end Go.Proofs.YtmklodligplbaabGreat
