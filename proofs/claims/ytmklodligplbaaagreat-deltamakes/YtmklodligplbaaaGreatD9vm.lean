import Derived.Test.YtmklodligplbaaaGreatD9um
open Go.RowKit
set_option linter.unusedVariables false
set_option linter.unusedSimpArgs false
set_option maxRecDepth 100000
set_option maxHeartbeats 51200000
namespace Go.Proofs.YtmklodligplbaaaGreat
section
open Dlt
theorem take_snoc' (l : List UInt8) (d : UInt8) (k : Nat) (h : k < l.length) : l.take (k + 1) = l.take k ++ [l.getD k d] := by
 rw [List.take_succ_eq_append_getElem h]
 simp [List.getElem?_eq_getElem h]
theorem same_some (b1 o1 c1 b2 o2 c2 n : Nat) (xs ys : List UInt8) (w : World) (hx : xs.length = n) (hy : ys.length = n) (hm : n <= 4611686018427387904)
  (h1 : ∀ i, i < xs.length -> w.cell? ⟨b1, o1 + i, none⟩ = some (.int .u8 (xs.getD i 0).toNat)) (h2 : ∀ i, i < ys.length -> w.cell? ⟨b2, o2 + i, none⟩ = some (.int .u8 (ys.getD i 0).toNat)) :
  Calls Tryz.prog 16 #[.slice (some ⟨b1, o1, none⟩) n c1, .slice (some ⟨b2, o2, none⟩) n c2] w fun e w' => e = .returned (.bool (decide (xs = ys))) ∧ ∃ k, w' = w.drewN k := by
 go_enter Tryz.func16, Tryz.ntmps16
 go_wp2
 go_loopw [5] (fun i wr => ∃ k : Nat, k <= n ∧ i = .int .i64 k ∧ xs.take k = ys.take k ∧ ∃ j, wr = w.drewN j) (fun i wr => n - (intOf i).toNat)
 case atStart => exact ⟨0, Nat.zero_le _, rfl, by simp, 0, rfl⟩
 case round =>
  obtain ⟨k, hk, rfl, heq, j, hwr⟩ := hrel
  subst hwr
  have HE : Hid (xs.take k = ys.take k) := heq
  clear heq
  by_cases hlt : k < n
  ·have e1 := h1 k (by omega)
   have e2 := h2 k (by omega)
   have hc1 : (xs.getD k 0).toNat < 256 := UInt8.toNat_lt _
   have hc2 : (ys.getD k 0).toNat < 256 := UInt8.toNat_lt _
   by_cases hcc : xs.getD k 0 = ys.getD k 0
   ·have hcn : (((xs.getD k 0).toNat : Int) != ((ys.getD k 0).toNat : Int)) = false := by rw [hcc]; simp
    have HC : Hid (xs.getD k 0 = ys.getD k 0) := hcc
    clear hcc h1 h2
    generalize (xs.getD k 0).toNat = c at e1 hcn hc1
    generalize (ys.getD k 0).toNat = d at e2 hcn hc2
    go_wp2
    go_quiet (fail)
    go_wp2
    go_roundw
    case rel => exact ⟨k + 1, by omega, by go_num, by rw [take_snoc' xs 0 k (by omega), take_snoc' ys 0 k (by omega), HE.out, HC.out], _, rfl⟩
    case measure => simp [intOf]; omega
   ·have hcn : (((xs.getD k 0).toNat : Int) != ((ys.getD k 0).toNat : Int)) = true := by
     simp only [bne_iff_ne, ne_eq]
     intro h
     exact hcc (UInt8.toNat_inj.1 (by omega))
    have hfin : Hid (decide (xs = ys) = false) := by
     show _ = _
     simp only [decide_eq_false_iff_not]
     rintro rfl
     exact hcc rfl
    clear hcc h1 h2
    generalize (xs.getD k 0).toNat = c at e1 hcn hc1
    generalize (ys.getD k 0).toNat = d at e2 hcn hc2
    go_wp2
    go_quiet (fail)
    go_wp2
    go_ret
    exact ⟨by rw [hfin.out]; rfl, j + nq, by simp⟩
  ·have hfin : Hid (decide (xs = ys) = true) := by
    have := HE.out
    rw [List.take_of_length_le (by omega), List.take_of_length_le (by omega)] at this
    show _ = _
    simpa using this
   clear h1 h2
   go_wp2
   go_ret
   exact ⟨by rw [hfin.out]; rfl, j, rfl⟩
theorem same_len (a1 a2 : Option Addr) (n1 c1 n2 c2 : Nat) (w : World) (hn : n1 ≠ n2) :
  Calls Tryz.prog 16 #[.slice a1 n1 c1, .slice a2 n2 c2] w fun e w' => e = .returned (.bool false) ∧ w' = w := by
 have h : ((n1 : Int) != (n2 : Int)) = true := by simp; omega
 go_enter Tryz.func16, Tryz.ntmps16
 go_wp2
 go_ret
 exact ⟨rfl, rfl⟩
theorem same_none (a1 a2 : Option Addr) (c1 c2 : Nat) (w : World) :
  Calls Tryz.prog 16 #[.slice a1 0 c1, .slice a2 0 c2] w fun e w' => e = .returned (.bool true) ∧ w' = w := by
 go_enter Tryz.func16, Tryz.ntmps16
 go_wp2
 go_loop [5] (fun i => i = .int .i64 0) (fun i => 0)
 case atStart => rfl
 case round =>
  subst hrel
  go_wp2
  go_ret
  exact ⟨rfl, rfl⟩
theorem same_any (a1 a2 : Option Addr) (n1 c1 n2 c2 : Nat) (xs ys : List UInt8) (w : World) (hx : xs.length = n1) (hy : ys.length = n2) (hm : n1 <= 4611686018427387904) (h1 : Sl w a1 xs) (h2 : Sl w a2 ys) :
  Calls Tryz.prog 16 #[.slice a1 n1 c1, .slice a2 n2 c2] w fun e w' => e = .returned (.bool (decide (xs = ys))) ∧ ∃ k, w' = w.drewN k := by
 by_cases hn : n1 = n2
 ·subst hn
  by_cases h0 : xs = []
  ·subst h0
   obtain rfl : ys = [] := List.eq_nil_of_length_eq_zero (by rw [hy, <-hx]; rfl)
   obtain rfl : n1 = 0 := by simpa using hx.symm
   exact (same_none a1 a2 c1 c2 w).mono fun e w' ⟨he, hw⟩ => ⟨he, 0, hw⟩
  ·have h0' : ys ≠ [] := fun h => h0 (List.eq_nil_of_length_eq_zero (by rw [hx, <-hy, h]; rfl))
   obtain ⟨b1, o1, rfl, _, hc1⟩ := h1.open h0
   obtain ⟨b2, o2, rfl, _, hc2⟩ := h2.open h0'
   exact same_some b1 o1 c1 b2 o2 c2 n1 xs ys w hx hy hm hc1 hc2
 ·refine (same_len a1 a2 n1 c1 n2 c2 w hn).mono fun e w' ⟨he, hw⟩ => ⟨?_, 0, hw⟩
  rw [he]
  have : decide (xs = ys) = false := by
   simp only [decide_eq_false_iff_not]
   rintro rfl
   exact hn (hx.symm.trans hy)
  rw [this]
theorem same_yes (a1 a2 : Option Addr) (n c1 c2 : Nat) (xs : List UInt8) (w : World) (hx : xs.length = n) (hm : n <= 4611686018427387904) (h1 : Sl w a1 xs) (h2 : Sl w a2 xs) :
  Calls Tryz.prog 16 #[.slice a1 n c1, .slice a2 n c2] w fun e w' => e = .returned (.bool true) ∧ ∃ k, w' = w.drewN k := by
 have := same_any a1 a2 n c1 n c2 xs xs w hx hx hm h1 h2
 rw [show decide (xs = xs) = true from by simp] at this
 exact this
def row16 (f : UInt8) : List UInt8 := f :: List.replicate 15 0
theorem Tryz.make16 (w : World) : (Instr.makeSlice 22 (.int .i64 16) (.int .i64 16)).run Tryz.prog w = .ok (.slice (some ⟨w.heap.size, 0, none⟩) 16 16) (w.alloc (.cells (bys (List.replicate 16 0)).toArray 5)) := by
 kernel_rfl
theorem row18_ok (f : UInt8) (w : World) :
  Calls Tryz.prog 20 #[.int .u8 f.toNat] w fun e w' => e = .returned (.slice (some ⟨w.heap.size, 0, none⟩) 16 16) ∧ w'.ownsRow w.heap.size 5 1 (.slice (some ⟨w.heap.size, 0, none⟩) 16 16) 16 (bys (row16 f)) ∧ Kept [] w w' := by
 have hmk := Tryz.make16 w
 have hn := heap_new w (.cells (bys (List.replicate 16 0)).toArray 5)
 have hk1 := ka w (.cells (bys (List.replicate 16 0)).toArray 5)
 obtain ⟨w1, hw1⟩ := nm (w.alloc (.cells (bys (List.replicate 16 0)).toArray 5))
 rw [hw1] at hmk hn hk1
 have c0 : w1.cell? ⟨w.heap.size, 0, none⟩ = some (.int .u8 0) := by rw [cell_of_row _ _ _ _ _ _ hn]; rfl
 have f0 : w1.frozen? ⟨w.heap.size, 0, none⟩ = false := frozen_of_row _ _ _ _ _ hn
 have hs := heap_setCell_same w1 _ 0 _ _ (.int .u8 f.toNat) hn
 have HK : Hid (Kept [] w (w1.setCell ⟨w.heap.size, 0, none⟩ (.int .u8 f.toNat))) := hk1.trans ((Kept.refl [w.heap.size] w1).setCell (by simp) _) (by simp)
 have HO : Hid ((w1.setCell ⟨w.heap.size, 0, none⟩ (.int .u8 f.toNat)).ownsRow w.heap.size 5 1 (.slice (some ⟨w.heap.size, 0, none⟩) 16 16) 16 (bys (row16 f))) :=
  ⟨rfl, .inr ⟨w.heap.size, 16, _, rfl, Nat.le_refl _, hs, Nat.le_refl _, by decide, rfl, rfl⟩⟩
 obtain ⟨g, hg⟩ := nm (w.heap.size)
 rw [hg] at hmk c0 f0 HO HK ⊢
 clear hn hk1 hs hw1 hg
 go_enter Tryz.func20, Tryz.ntmps20
 go_wp2
 go_ret
 exact ⟨rfl, HO.out, HK.out⟩
def kbase : List UInt8 := row16 1 ++ row16 2 ++ [3]
def ktarg : List UInt8 := [9] ++ row16 1 ++ [8]
theorem kn_sign : signE 32 kbase.length 16 = 0 ∧ signS 32 kbase 16 = sign 32 kbase 16 := by
 have h : signE 32 kbase.length 16 = 0 := by decide +kernel
 refine ⟨h, ?_⟩
 unfold signS
 rw [if_pos h]
 rfl
theorem kn_make : makeE (sign 32 kbase 16) ktarg = 0 := by decide +kernel
theorem kn_got : applyE kbase (makeB (sign 32 kbase 16) ktarg) = 0 ∧ applyB kbase (makeB (sign 32 kbase 16) ktarg) = ktarg ∧ applyE (kbase.take 32) (makeB (sign 32 kbase 16) ktarg) = 181 ∧ applyB (kbase.take 32) (makeB (sign 32 kbase 16) ktarg) = [] := by decide +kernel
theorem kn_two : (sign 32 kbase 16).blocks.length = 2 := by decide +kernel
end

section
open Dlt
theorem own_in8 {w : World} {base : Nat} {ao : Option Addr} {n cap : Nat} {xs : List UInt8} (h : w.ownsRow base 5 1 (.slice ao n cap) n (bys xs)) : InB8 w ao n cap xs := by
 have hl : xs.length = n := by have := h.1; rw [bys_length] at this; omega
 refine ⟨hl, ?_, ?_, own_sl9 h, ?_⟩
 ·obtain ⟨_, _, e, he⟩ := own_shape h; cases e; exact he
 ·rcases h.2 with ⟨e, hn⟩ | ⟨g, cap', cur, e, _, _, hn, hc, _⟩
  ·omega
  ·unfold maxLen at hc; omega
 ·rintro rfl
  rcases h.2 with ⟨e, hn⟩ | ⟨g, cap', cur, e, _⟩
  ·cases e
   exact ⟨List.eq_nil_of_length_eq_zero (by omega), rfl⟩
  ·cases e
theorem own_kept9 {w w' : World} {l : List Nat} {base : Nat} {e : TypeId} {s : Nat} {v : Value} {n : Nat} {xs : List Value} (h : w.ownsRow base e s v n xs) (hk : Kept l w w') (hl : ∀ i, i ∈ l -> ∀ g, v.ownBlock = some g -> i ≠ g) : w'.ownsRow base e s v n xs :=
 own_same h (fun g hg => hk.block g (own_blk h hg).2.1 (fun hm => hl g hm g hg rfl))
theorem own_one9 (w : World) (x : UInt8) : (w.alloc (.cells #[.int .u8 x.toNat] 5)).ownsRow w.heap.size 5 1 (.slice (some ⟨w.heap.size, 0, none⟩) 1 1) 1 (bys [x]) :=
 ⟨rfl, .inr ⟨w.heap.size, 1, _, rfl, Nat.le_refl _, heap_new w _, Nat.le_refl _, by decide, rfl, rfl⟩⟩
theorem own_head {w : World} {base : Nat} {v : Value} {n : Nat} {xs : List UInt8} (h : w.ownsRow base 5 1 v n (bys xs)) (h0 : n ≠ 0) : ∃ g cap, v = .slice (some ⟨g, 0, none⟩) n cap ∧ base <= g ∧ n <= cap ∧ g < w.heap.size := by
 rcases h.2 with ⟨e, hn⟩ | ⟨g, cap', cur, e, hb, hg, hn, _⟩
 ·exact absurd hn h0
 ·exact ⟨g, cap', e, hb, hn, (gs hg).1⟩
theorem known18_ok (w : World) : Calls Tryz.prog 6 #[] w fun e w' => e = .returned (.bool true) ∧ Kept [] w w' := by
 have hz := Tryz.zeroSig
 have hr1 : ∀ W, Calls Tryz.prog 20 #[.int .u8 1] W fun e w' => e = .returned (.slice (some ⟨W.heap.size, 0, none⟩) 16 16) ∧ w'.ownsRow W.heap.size 5 1 (.slice (some ⟨W.heap.size, 0, none⟩) 16 16) 16 (bys (row16 1)) ∧ Kept [] W w' := fun W => row18_ok 1 W
 have hr2 : ∀ W, Calls Tryz.prog 20 #[.int .u8 2] W fun e w' => e = .returned (.slice (some ⟨W.heap.size, 0, none⟩) 16 16) ∧ w'.ownsRow W.heap.size 5 1 (.slice (some ⟨W.heap.size, 0, none⟩) 16 16) 16 (bys (row16 2)) ∧ Kept [] W w' := fun W => row18_ok 2 W
 have HR3 := hide hr1
 go_enter Tryz.func6, Tryz.ntmps6
 go_upto_region 2 with (first
  | (go_at_call 20; refine (hr1 _).mono ?_; rintro r w1 ⟨rfl, ho1, hk1⟩; have H1 := hide (ai ho1 hk1); clear hr1 ho1 hk1)
  | (go_at_call 20; refine (hr2 _).mono ?_; rintro r w2 ⟨rfl, ho2, hk2⟩; obtain ⟨v3, w3, hrun3, ho3, hk3⟩ := app9 (own_kept9 H1.out.1 hk2 (by simp)) (Nat.le_trans H1.out.2.size hk2.size) (some ⟨w1.heap.size, 0, none⟩) 16 16 (row16 2) rfl (by simp [row16]) (own_sl9 ho2) (by omega); obtain ⟨g3, c3, rfl, hg3, _, _⟩ := own_head ho3 (by decide); have H3 := hide (ai ho3 (ai hk2 hk3)); clear hr2 ho2 hk2 ho3 hk3)
  | (refine wpList_appendRunL rfl (.tmp 11) (.tmp 12) 22 22 rfl (.slice (some ⟨w.heap.size, 0, none⟩) 16 16) (.slice (some ⟨w1.heap.size, 0, none⟩) 16 16) rfl rfl hrun3 ?_; clear hrun3; obtain ⟨v5, w5, hrun5, ho5, hk5⟩ := app9 (own_kept9 H3.out.1 ((Kept.refl [] w3).alloc (.cells #[.int .u8 3] 5)) (by simp)) (Nat.le_trans (Nat.le_trans H1.out.2.size (Nat.le_trans H3.out.2.1.size H3.out.2.2.size)) (((Kept.refl [] w3).alloc (.cells #[.int .u8 3] 5)).size)) (some ⟨w3.heap.size, 0, none⟩) 1 1 [3] rfl (by simp) (own_sl9 (own_one9 w3 3)) (by omega); obtain ⟨bg, bc, rfl, hbg, hbc, hbl⟩ := own_head ho5 (by decide); have H5 := hide (ai ho5 hk5); clear ho5 hk5)
  | (refine wpList_appendRunL rfl (.tmp 13) (.tmp 14) 22 22 rfl (.slice (some ⟨g3, 0, none⟩) 32 c3) (.slice (some ⟨w3.heap.size, 0, none⟩) 1 1) rfl rfl hrun5 ?_; clear hrun5))
 have k13 : Kept [] w w3 := (H1.out.2.tr H3.out.2.1).trans H3.out.2.2 (by simp [Value.ownBlock])
 have hv3 := fun g hg => (own_blk H3.out.1 (g := g) hg).1
 have k15 : Kept [] w w5 := (k13.trans ((Kept.refl [] w3).alloc (.cells #[.int .u8 3] 5)) (by simp)).trans H5.out.2 (fun i hi hl => by
  rw [Option.mem_toList] at hi
  have := hv3 i hi
  omega)
 have HB : Hid (w5.ownsRow w.heap.size 5 1 (.slice (some ⟨bg, 0, none⟩) 33 bc) 33 (bys kbase)) := H5.out.1
 have HK5 := hide k15
 clear H1 H3 H5 k13 k15 hv3
 have hr3 := HR3.out
 clear HR3
 go_upto_region 3 with (first
  | (go_at_call 20; refine (hr3 _).mono ?_; rintro r w6 ⟨rfl, ho6, hk6⟩; rw [show (w5.alloc (.cells #[.int .u8 9] 5)).heap.size = w5.heap.size + 1 by simp] at ho6 ⊢; obtain ⟨v7, w7, hrun7, ho7, hk7⟩ := app9 (own_kept9 (own_one9 w5 9) hk6 (by simp)) (Nat.le_trans ((Kept.refl [] w5).alloc (.cells #[.int .u8 9] 5)).size hk6.size) (some ⟨w5.heap.size + 1, 0, none⟩) 16 16 (row16 1) rfl (by simp [row16]) (own_sl9 ho6) (by omega); obtain ⟨g7, c7, rfl, hg7, _, _⟩ := own_head ho7 (by decide); have H7 := hide (ai ho7 (ai hk6 hk7)); clear hr3 ho6 hk6 ho7 hk7)
  | (refine wpList_appendRunL rfl (.tmp 16) (.tmp 17) 22 22 rfl (.slice (some ⟨w5.heap.size, 0, none⟩) 1 1) (.slice (some ⟨w5.heap.size + 1, 0, none⟩) 16 16) rfl rfl hrun7 ?_; clear hrun7; obtain ⟨v9, w9, hrun9, ho9, hk9⟩ := app9 (own_kept9 H7.out.1 ((Kept.refl [] w7).alloc (.cells #[.int .u8 8] 5)) (by simp)) (Nat.le_trans ((Kept.refl [] w5).alloc (.cells #[.int .u8 9] 5)).size (Nat.le_trans (Nat.le_trans H7.out.2.1.size H7.out.2.2.size) (((Kept.refl [] w7).alloc (.cells #[.int .u8 8] 5)).size))) (some ⟨w7.heap.size, 0, none⟩) 1 1 [8] rfl (by simp) (own_sl9 (own_one9 w7 8)) (by omega); obtain ⟨tg, tc, rfl, htg, htc, htl⟩ := own_head ho9 (by decide); have H9 := hide (ai ho9 hk9); clear ho9 hk9)
  | (refine wpList_appendRunL rfl (.tmp 18) (.tmp 19) 22 22 rfl (.slice (some ⟨g7, 0, none⟩) 17 c7) (.slice (some ⟨w7.heap.size, 0, none⟩) 1 1) rfl rfl hrun9 ?_; clear hrun9))
 have k57 : Kept [] w5 w7 := (((Kept.refl [] w5).alloc (.cells #[.int .u8 9] 5)).tr H7.out.2.1).trans H7.out.2.2 (by simp [Value.ownBlock])
 have hv7 := fun g hg => (own_blk H7.out.1 (g := g) hg).1
 have k59 : Kept [] w5 w9 := (k57.trans ((Kept.refl [] w7).alloc (.cells #[.int .u8 8] 5)) (by simp)).trans H9.out.2 (fun i hi hl => by
  rw [Option.mem_toList] at hi
  have := hv7 i hi
  omega)
 have HT : Hid (w9.ownsRow w5.heap.size 5 1 (.slice (some ⟨tg, 0, none⟩) 18 tc) 18 (bys ktarg)) := H9.out.1
 have HB9 := hide (own_kept9 HB.out k59 (by simp))
 have HK9 := hide (HK5.out.tr k59)
 clear H7 H9 k57 k59 hv7 HB HK5 hbl htl hbg htg
 obtain ⟨sg, hsg⟩ := nm (sign 32 kbase 16)
 obtain ⟨db, hdb⟩ := nm (makeB sg ktarg)
 have hS : Calls Tryz.prog 21 #[.int .i64 32, .slice (some ⟨bg, 0, none⟩) 33 bc, .int .i64 16] w9 fun e w' => TellS w9 w' e 0 sg ∧ Kept [] w9 w' := by
  have h := sign_ok 32 (some ⟨bg, 0, none⟩) 33 bc 16 kbase w9 rfl (own_in8 HB9.out).le (own_in8 HB9.out).sl (by decide)
  rw [show signE 32 33 16 = 0 from kn_sign.1, kn_sign.2, hsg] at h
  exact h
 have HKN : Hid (makeE sg ktarg = 0 ∧ makeB sg ktarg = db ∧ applyE kbase db = 0 ∧ applyB kbase db = ktarg ∧ applyE (kbase.take 32) db = 181 ∧ applyB (kbase.take 32) db = [] ∧ sg.blocks.length = 2) := by
  rw [<-hdb, <-hsg]
  exact ⟨kn_make, rfl, kn_got.1, kn_got.2.1, kn_got.2.2.1, kn_got.2.2.2, kn_two⟩
 clear hsg hdb
 go_upto_region 4 with (first
  | (go_at_call 21; refine hS.mono ?_; rintro r wa ⟨⟨va, rfl, hoa⟩, hka⟩; obtain ⟨so, sc, rfl, hsc, hwk, hsb, hsm⟩ := OwnW.wks hoa; rw [HKN.out.2.2.2.2.2.2] at hsc ⊢; have Ha := hide (ai hwk (ai hka hsm)); have hoz := heap_new wa (.cells zeroS 29); have hia := Tryz.infoSigA sg (.slice so 2 sc); have hzs : zeroS.size = (sg.cells (.slice so 2 sc)).toArray.size := (by rw [sig_size]; exact sig_size _ _); have hal := sig_one sg (.slice so 2 sc) rfl; clear hS hoa hka hwk hsb hsm)
  | refine wpList_store_rowTo rfl 29 (.tmp 3) (.tmp 24) rfl rfl wa.heap.size (sg.cells (.slice so 2 sc)).toArray rfl rfl 29 zeroS hoz hia hzs hal ?_)
 have kb : Kept [] wa ((wa.alloc (.cells zeroS 29)).setRow wa.heap.size (sg.cells (.slice so 2 sc)).toArray) := ((Kept.refl [] wa).alloc _).trans (kept_row _ wa.heap.size _) (fun i hi hl => by simp only [List.mem_singleton] at hi; omega)
 have hA : SigAt ((wa.alloc (.cells zeroS 29)).setRow wa.heap.size (sg.cells (.slice so 2 sc)).toArray) wa.heap.size sg (.slice so 2 sc) := ⟨setRow_heap _ _ _ _ _ _ hoz⟩
 obtain ⟨O, hO⟩ := nm (wa.heap.size)
 rw [hO] at kb hA ⊢
 have Kb := hide (Ha.out.2.1.tr kb)
 have hI : SigIn ((wa.alloc (.cells zeroS 29)).setRow O (sg.cells (.slice so 2 sc)).toArray) sg so 2 sc := ⟨HKN.out.2.2.2.2.2.2, hsc, Ha.out.2.2, Ha.out.1.kept kb (by simp)⟩
 clear hO hoz hia hzs hal kb Ha hsc
 generalize (wa.alloc (.cells zeroS 29)).setRow O (sg.cells (.slice so 2 sc)).toArray = wb at *
 have hrz := hA.range
 have hil := Tryz.infoSig sg (.slice so 2 sc)
 have hM : Calls Tryz.prog 14 #[.agg (sg.cells (.slice so 2 sc)).toArray, .slice (some ⟨tg, 0, none⟩) 18 tc] wb fun e w' => TellB wb w' e 0 db ∧ Kept [] wb w' := by
  have h := make_ok sg so 2 sc (some ⟨tg, 0, none⟩) 18 tc ktarg wb hI rfl htc ((own_in8 HT.out).sl.kept Kb.out (by simp)) (by decide)
  rw [HKN.out.1, HKN.out.2.1] at h
  exact h
 obtain ⟨dn, hdn⟩ : ∃ n, db.length = n := ⟨_, rfl⟩
 have HDN := hide hdn
 clear hdn
 go_upto_region 5 with (first
  | refine wpList_load_mid rfl 29 (.tmp 3) rfl O 0 rfl (sg.cells (.slice so 2 sc)) _ hrz Tryz.underlying29 rfl hil ?_
  | (go_at_call 14; refine hM.mono ?_; rintro r wc ⟨⟨da, dc, rfl, hod⟩, hkc⟩; rw [HDN.out] at hod ⊢; have Hc := hide (ai hod hkc); clear hM hod hkc))
 have HBc := hide (own_in8 (own_kept9 HB9.out (Kb.out.tr Hc.out.2) (by simp)))
 have HTc := hide (own_in8 (own_kept9 HT.out (Kb.out.tr Hc.out.2) (by simp)))
 have HDc := hide (own_in8 Hc.out.1)
 have hAc := hA.kept Hc.out.2 (by simp)
 have HKc := hide ((HK9.out.tr Kb.out).tr Hc.out.2)
 clear HB9 HT Hc hA hrz hil hI Kb HK9
 have hP : Calls Tryz.prog 18 #[.slice (some ⟨bg, 0, none⟩) 33 bc, .slice da dn dc] wc fun e w' => TellB wc w' e 0 ktarg ∧ Kept [] wc w' := by
  have h := apply_ok (some ⟨bg, 0, none⟩) 33 bc kbase da dn dc db wc HBc.out HDc.out
  rw [HKN.out.2.2.1, HKN.out.2.2.2.1] at h
  exact h
 go_upto_region 6 with (go_at_call 18; refine hP.mono ?_; rintro r wd ⟨⟨ga, gc, rfl, hog⟩, hkd⟩; have hog : wd.ownsRow wc.heap.size 5 1 (.slice ga 18 gc) 18 (bys ktarg) := hog; have Hd := hide (ai hog hkd); clear hP hog hkd)
 have hP2 : Calls Tryz.prog 18 #[.slice (some ⟨bg, 0, none⟩) 32 bc, .slice da dn dc] wd fun e w' => TellB wd w' e 181 [] ∧ Kept [] wd w' := by
  have hb : InB8 wd (some ⟨bg, 0, none⟩) 32 bc (kbase.take 32) := by
   have hb0 := HBc.out.kept Hd.out.2
   refine ⟨by decide, by have := hb0.le; omega, by decide, ?_, fun e => by cases e⟩
   obtain ⟨b1, o1, e1, _, hc⟩ := hb0.sl.open (by decide)
   cases e1
   refine Sl.of fun i hi => ?_
   have h1 : i < 32 := hi
   have h2 := hc i (show i < 33 by omega)
   rw [h2]
   simp [List.getD_eq_getElem?_getD, List.getElem?_take_of_lt h1]
  have h := apply_ok (some ⟨bg, 0, none⟩) 32 bc (kbase.take 32) da dn dc db wd hb (HDc.out.kept Hd.out.2)
  rw [HKN.out.2.2.2.2.1, HKN.out.2.2.2.2.2.1] at h
  exact h
 have hbc32 : 32 <= bc := by have := HBc.out.le; omega
 have hsame := fun W (hW : Kept [] wd W) => same_yes ga (some ⟨tg, 0, none⟩) 18 gc tc ktarg W rfl (by decide) ((own_sl9 Hd.out.1).kept hW (by simp)) ((HTc.out.sl.kept Hd.out.2 (by simp)).kept hW (by simp))
 go_upto_region 7 with (go_at_call 18; refine hP2.mono ?_; rintro r we ⟨⟨ha, hc, rfl, hoh⟩, hke⟩; have He := hide hke; clear hP2 hke hoh)
 have cv := ((hAc.kept Hd.out.2 (by simp)).kept He.out (by simp)).cell (Sig.cv _ _)
 have hsm := hsame we He.out
 have HKe := hide ((HKc.out.tr Hd.out.2).tr He.out)
 clear hsame hAc
 go_wp2_with (go_at_call 16; refine hsm.mono ?_; rintro r wf ⟨rfl, nf, hwf⟩; clear hsm)
 go_ret
 exact ⟨rfl, HKe.out.drewN nf⟩
end

section
open Dlt
theorem alike_yes (s : Sig) (ao : Option Addr) (n cap : Nat) (bo : Option Addr) (bc : Nat) (w : World) (hI : SigIn w s ao n cap) (hJ : SigIn w s bo n bc) :
  Calls Tryz.prog 10 #[.agg (s.cells (.slice ao n cap)).toArray, .agg (s.cells (.slice bo n bc)).toArray] w fun e w' => e = .returned (.bool true) ∧ Kept [] w w' := by
 have k1 := ka w (.cells (s.cells (.slice ao n cap)).toArray 29)
 have k2 : Kept [] (w.alloc (.cells (s.cells (.slice ao n cap)).toArray 29)) ((w.alloc (.cells (s.cells (.slice ao n cap)).toArray 29)).alloc (.cells (s.cells (.slice bo n bc)).toArray 29)) := (Kept.refl [] _).alloc _
 have hA := (SigAt.new w s (.slice ao n cap)).kept k2 (by simp)
 have hB := SigAt.new (w.alloc (.cells (s.cells (.slice ao n cap)).toArray 29)) s (.slice bo n bc)
 rw [show (w.alloc (.cells (s.cells (.slice ao n cap)).toArray 29)).heap.size = w.heap.size + 1 by simp] at hB
 obtain ⟨w2, hw2⟩ := nm ((w.alloc (.cells (s.cells (.slice ao n cap)).toArray 29)).alloc (.cells (s.cells (.slice bo n bc)).toArray 29))
 have HK : Hid (Kept [] w w2) := by rw [<-hw2]; exact k1.tr k2
 rw [hw2] at hA hB
 go_enter Tryz.func10, Tryz.ntmps10
 go_upto_region 1 with (fail)
 try rw [hw2]
 have a0 := hA.cell (Sig.c0 _ _)
 have a1 := hA.cell (Sig.c1 _ _)
 have a2 := hA.cell (Sig.c2 _ _)
 have a5 := hA.cell (Sig.cv _ _)
 have b0 := hB.cell (Sig.c0 _ _)
 have b1 := hB.cell (Sig.c1 _ _)
 have b2 := hB.cell (Sig.c2 _ _)
 have b5 := hB.cell (Sig.cv _ _)
 have ra := hA.base
 have rb := hB.base
 have hil := idlen s.hb
 have heq : ∀ W, (Op.equalIn 10000 26 (.agg (bys s.base).toArray) (.agg (bys s.base).toArray)).run Tryz.prog W = .ok true W := fun W => by rw [Tryz.eqlID s.base s.base s.hb s.hb W]; simp
 obtain ⟨A, hAe⟩ := nm (w.heap.size)
 rw [hAe] at a0 a1 a2 a5 b0 b1 b2 b5 ra rb hA hB ⊢
 have HA := hide hA
 have HB := hide hB
 have HI := hide (hI.kept HK.out)
 have HJ := hide (hJ.kept HK.out)
 have hn63 : n <= 9223372036854775807 := Nat.le_trans hI.le hI.max
 clear hw2 k1 k2 hA hB hI hJ hAe
 generalize s.width = xw at *
 generalize s.size = xz at *
 generalize s.length = xl at *
 go_upto_region 3 with (first
  | refine wpList_load_midW 26 (.tmp 26) rfl A 3 rfl (bys s.base) _ ra Tryz.underlying26 rfl hil (by kernel_rfl) ?_
  | refine wpList_load_midW 26 (.tmp 28) rfl (A + 1) 3 rfl (bys s.base) _ rb Tryz.underlying26 rfl hil (by kernel_rfl) ?_)
 have HIN : Hid (Kept [] w2 w2) := Kept.refl [] w2
 clear a0 a1 a2 b0 b1 b2 ra rb hil heq
 go_wp2
 go_loopw [5] (fun i wr => ∃ k : Nat, k <= n ∧ i = .int .i64 k ∧ Hid (Kept [] w2 wr)) (fun i wr => n - (intOf i).toNat)
 case atStart => exact ⟨0, Nat.zero_le _, rfl, HIN⟩
 case round =>
  obtain ⟨k, hk, rfl, HP⟩ := hrel
  replace a5 := HP.out.cellOf a5 (by simp)
  replace b5 := HP.out.cellOf b5 (by simp)
  by_cases hlt : k < n
  ·obtain ⟨ga, oa, rfl, hra⟩ := (HI.out.kept HP.out).at_ k (by rw [HI.out.len]; exact hlt)
   obtain ⟨gb, ob, rfl, hrb⟩ := (HJ.out.kept HP.out).at_ k (by rw [HI.out.len]; exact hlt)
   obtain ⟨e, he⟩ := nm (s.blocks.getD k wk0)
   rw [he] at hra hrb
   have HRA := hide hra
   have HRB := hide hrb
   have heq : ∀ W, (Op.equalIn 10000 45 (.agg e.cells.toArray) (.agg e.cells.toArray)).run Tryz.prog W = .ok true W := fun W => by rw [Tryz.eqlWk e e W, wkEq_iff.2 rfl]
   clear he hra hrb
   go_upto_region 6 with (fail)
   refine th wr fun h0 => ?_
   generalize World.drew wr = v0 at h0  ⊢
   refine t1 0 (.pointer (some ⟨A, 35, none⟩)) h0 ?_
   try simp only [zz]
   refine t2 1 (.slice (some ⟨ga, oa, none⟩) n cap) rfl h0 ?_ (fun w hSw => by have c0 := Kept.cellOf hSw a5 (by simp); go_simp)
   try simp only [zz]
   refine t1 2 (.int .i64 k) h0 ?_
   try simp only [zz]
   refine t1 3 (.pointer (some ⟨ga, oa + k * 33, none⟩)) h0 ?_
   try simp only [zz]
   refine t4 4 (.agg e.cells.toArray) rfl (yieldsIf_load_mid (by rfl) _ _ rfl ga (oa + k * 33) rfl e.cells _ (fun W h j u hu => Kept.cellOf h (HRA.out j u hu) (by simp)) Tryz.underlying45 rfl (Tryz.infoWk e)) h0 ?_
   try simp only [zz]
   refine t1 5 (.pointer (some ⟨(A + 1), 35, none⟩)) h0 ?_
   try simp only [zz]
   refine t2 6 (.slice (some ⟨gb, ob, none⟩) n bc) rfl h0 ?_ (fun w hSw => by have c0 := Kept.cellOf hSw b5 (by simp); go_simp)
   try simp only [zz]
   refine t1 7 (.int .i64 k) h0 ?_
   try simp only [zz]
   refine t1 8 (.pointer (some ⟨gb, ob + k * 33, none⟩)) h0 ?_
   try simp only [zz]
   refine t4 9 (.agg e.cells.toArray) rfl (yieldsIf_load_mid (by rfl) _ _ rfl gb (ob + k * 33) rfl e.cells _ (fun W h j u hu => Kept.cellOf h (HRB.out j u hu) (by simp)) Tryz.underlying45 rfl (Tryz.infoWk e)) h0 ?_
   try simp only [zz]
   refine t1 10 (.bool false) h0 ?_
   try simp only [zz]
   refine dn ?_
   have HP2 := hide (HP.out.tr h0)
   clear h0 HRA HRB heq a5 b5
   go_wp2
   go_roundw
   case rel => exact ⟨k + 1, by omega, by go_num, HP2⟩
   case measure => simp [intOf]; omega
  ·go_wp2
   go_ret
   exact ⟨rfl, HK.out.tr HP.out⟩
end

end Go.Proofs.YtmklodligplbaaaGreat
