import Derived.Test.YtmklodligplbaabGreatD9ut
open Go.RowKit
set_option linter.unusedVariables false
set_option linter.unusedSimpArgs false
set_option maxRecDepth 100000
set_option maxHeartbeats 0
namespace Go.Proofs.YtmklodligplbaabGreat
section
open Dlt
theorem own_in8 {w : World} {base : Nat} {ao : Option Addr} {n cap : Nat} {xs : List UInt8} (h : w.ownsRow base 5 1 (.slice ao n cap) n (bys xs)) : InB8 w ao n cap xs := by
 have hl : xs.length = n := by have := h.1; rw [bys_length] at this; omega
 refine ⟨hl, ?_, ?_, own_sl9 h, ?_⟩
 ·obtain ⟨_, _, e, he⟩ := own_shape h; cases e; exact he
 ·rcases h.2 with ⟨e, hn⟩ | ⟨g, cap', cur, e, _, _, hn, hc, _⟩
  ·omega
  ·unfold maxLen at hc; omega
 ·rintro rfl
  rcases h.2 with ⟨e, hn⟩ | ⟨g, cap', cur, e, _⟩
  ·cases e
   exact ⟨List.eq_nil_of_length_eq_zero (by omega), rfl⟩
  ·cases e
theorem own_kept9 {w w' : World} {l : List Nat} {base : Nat} {e : TypeId} {s : Nat} {v : Value} {n : Nat} {xs : List Value} (h : w.ownsRow base e s v n xs) (hk : Kept l w w') (hl : ∀ i, i ∈ l -> ∀ g, v.ownBlock = some g -> i ≠ g) : w'.ownsRow base e s v n xs :=
 own_same h (fun g hg => hk.block g (own_blk h hg).2.1 (fun hm => hl g hm g hg rfl))
theorem own_one9 (w : World) (x : UInt8) : (w.alloc (.cells #[.int .u8 x.toNat] 5)).ownsRow w.heap.size 5 1 (.slice (some ⟨w.heap.size, 0, none⟩) 1 1) 1 (bys [x]) :=
 ⟨rfl, .inr ⟨w.heap.size, 1, _, rfl, Nat.le_refl _, heap_new w _, Nat.le_refl _, by decide, rfl, rfl⟩⟩
theorem own_head {w : World} {base : Nat} {v : Value} {n : Nat} {xs : List UInt8} (h : w.ownsRow base 5 1 v n (bys xs)) (h0 : n ≠ 0) : ∃ g cap, v = .slice (some ⟨g, 0, none⟩) n cap ∧ base <= g ∧ n <= cap ∧ g < w.heap.size := by
 rcases h.2 with ⟨e, hn⟩ | ⟨g, cap', cur, e, hb, hg, hn, _⟩
 ·exact absurd hn h0
 ·exact ⟨g, cap', e, hb, hn, (gs hg).1⟩
theorem known18_ok (w : World) : Calls Tryz.prog 7 #[] w fun e w' => e = .returned (.bool true) ∧ Kept [] w w' := by
 have hz := Tryz.zeroSig
 have hr1 : ∀ W, Calls Tryz.prog 27 #[.int .u8 1] W fun e w' => e = .returned (.slice (some ⟨W.heap.size, 0, none⟩) 16 16) ∧ w'.ownsRow W.heap.size 5 1 (.slice (some ⟨W.heap.size, 0, none⟩) 16 16) 16 (bys (row16 1)) ∧ Kept [] W w' := fun W => row18_ok 1 W
 have hr2 : ∀ W, Calls Tryz.prog 27 #[.int .u8 2] W fun e w' => e = .returned (.slice (some ⟨W.heap.size, 0, none⟩) 16 16) ∧ w'.ownsRow W.heap.size 5 1 (.slice (some ⟨W.heap.size, 0, none⟩) 16 16) 16 (bys (row16 2)) ∧ Kept [] W w' := fun W => row18_ok 2 W
 have HR3 := hide hr1
 go_enter Tryz.func7, Tryz.ntmps7
 go_upto_region 2 with (first
  | (go_at_call 27; refine (hr1 _).mono ?_; rintro r w1 ⟨rfl, ho1, hk1⟩; have H1 := hide (ai ho1 hk1); clear hr1 ho1 hk1)
  | (go_at_call 27; refine (hr2 _).mono ?_; rintro r w2 ⟨rfl, ho2, hk2⟩; obtain ⟨v3, w3, hrun3, ho3, hk3⟩ := app9 (own_kept9 H1.out.1 hk2 (by simp)) (Nat.le_trans H1.out.2.size hk2.size) (some ⟨w1.heap.size, 0, none⟩) 16 16 (row16 2) rfl (by simp [row16]) (own_sl9 ho2) (by omega); obtain ⟨g3, c3, rfl, hg3, _, _⟩ := own_head ho3 (by decide); have H3 := hide (ai ho3 (ai hk2 hk3)); clear hr2 ho2 hk2 ho3 hk3)
  | (refine wpList_appendRunL rfl (.tmp 11) (.tmp 12) 27 27 rfl (.slice (some ⟨w.heap.size, 0, none⟩) 16 16) (.slice (some ⟨w1.heap.size, 0, none⟩) 16 16) rfl rfl hrun3 ?_; clear hrun3; obtain ⟨v5, w5, hrun5, ho5, hk5⟩ := app9 (own_kept9 H3.out.1 ((Kept.refl [] w3).alloc (.cells #[.int .u8 3] 5)) (by simp)) (Nat.le_trans (Nat.le_trans H1.out.2.size (Nat.le_trans H3.out.2.1.size H3.out.2.2.size)) (((Kept.refl [] w3).alloc (.cells #[.int .u8 3] 5)).size)) (some ⟨w3.heap.size, 0, none⟩) 1 1 [3] rfl (by simp) (own_sl9 (own_one9 w3 3)) (by omega); obtain ⟨bg, bc, rfl, hbg, hbc, hbl⟩ := own_head ho5 (by decide); have H5 := hide (ai ho5 hk5); clear ho5 hk5)
  | (refine wpList_appendRunL rfl (.tmp 13) (.tmp 14) 27 27 rfl (.slice (some ⟨g3, 0, none⟩) 32 c3) (.slice (some ⟨w3.heap.size, 0, none⟩) 1 1) rfl rfl hrun5 ?_; clear hrun5))
 have k13 : Kept [] w w3 := (H1.out.2.tr H3.out.2.1).trans H3.out.2.2 (by simp [Value.ownBlock])
 have hv3 := fun g hg => (own_blk H3.out.1 (g := g) hg).1
 have k15 : Kept [] w w5 := (k13.trans ((Kept.refl [] w3).alloc (.cells #[.int .u8 3] 5)) (by simp)).trans H5.out.2 (fun i hi hl => by
  rw [Option.mem_toList] at hi
  have := hv3 i hi
  omega)
 have HB : Hid (w5.ownsRow w.heap.size 5 1 (.slice (some ⟨bg, 0, none⟩) 33 bc) 33 (bys kbase)) := H5.out.1
 have HK5 := hide k15
 clear H1 H3 H5 k13 k15 hv3
 have hr3 := HR3.out
 clear HR3
 go_upto_region 3 with (first
  | (go_at_call 27; refine (hr3 _).mono ?_; rintro r w6 ⟨rfl, ho6, hk6⟩; rw [show (w5.alloc (.cells #[.int .u8 9] 5)).heap.size = w5.heap.size + 1 by simp] at ho6 ⊢; obtain ⟨v7, w7, hrun7, ho7, hk7⟩ := app9 (own_kept9 (own_one9 w5 9) hk6 (by simp)) (Nat.le_trans ((Kept.refl [] w5).alloc (.cells #[.int .u8 9] 5)).size hk6.size) (some ⟨w5.heap.size + 1, 0, none⟩) 16 16 (row16 1) rfl (by simp [row16]) (own_sl9 ho6) (by omega); obtain ⟨g7, c7, rfl, hg7, _, _⟩ := own_head ho7 (by decide); have H7 := hide (ai ho7 (ai hk6 hk7)); clear hr3 ho6 hk6 ho7 hk7)
  | (refine wpList_appendRunL rfl (.tmp 16) (.tmp 17) 27 27 rfl (.slice (some ⟨w5.heap.size, 0, none⟩) 1 1) (.slice (some ⟨w5.heap.size + 1, 0, none⟩) 16 16) rfl rfl hrun7 ?_; clear hrun7; obtain ⟨v9, w9, hrun9, ho9, hk9⟩ := app9 (own_kept9 H7.out.1 ((Kept.refl [] w7).alloc (.cells #[.int .u8 8] 5)) (by simp)) (Nat.le_trans ((Kept.refl [] w5).alloc (.cells #[.int .u8 9] 5)).size (Nat.le_trans (Nat.le_trans H7.out.2.1.size H7.out.2.2.size) (((Kept.refl [] w7).alloc (.cells #[.int .u8 8] 5)).size))) (some ⟨w7.heap.size, 0, none⟩) 1 1 [8] rfl (by simp) (own_sl9 (own_one9 w7 8)) (by omega); obtain ⟨tg, tc, rfl, htg, htc, htl⟩ := own_head ho9 (by decide); have H9 := hide (ai ho9 hk9); clear ho9 hk9)
  | (refine wpList_appendRunL rfl (.tmp 18) (.tmp 19) 27 27 rfl (.slice (some ⟨g7, 0, none⟩) 17 c7) (.slice (some ⟨w7.heap.size, 0, none⟩) 1 1) rfl rfl hrun9 ?_; clear hrun9))
 have k57 : Kept [] w5 w7 := (((Kept.refl [] w5).alloc (.cells #[.int .u8 9] 5)).tr H7.out.2.1).trans H7.out.2.2 (by simp [Value.ownBlock])
 have hv7 := fun g hg => (own_blk H7.out.1 (g := g) hg).1
 have k59 : Kept [] w5 w9 := (k57.trans ((Kept.refl [] w7).alloc (.cells #[.int .u8 8] 5)) (by simp)).trans H9.out.2 (fun i hi hl => by
  rw [Option.mem_toList] at hi
  have := hv7 i hi
  omega)
 have HT : Hid (w9.ownsRow w5.heap.size 5 1 (.slice (some ⟨tg, 0, none⟩) 18 tc) 18 (bys ktarg)) := H9.out.1
 have HB9 := hide (own_kept9 HB.out k59 (by simp))
 have HK9 := hide (HK5.out.tr k59)
 clear H7 H9 k57 k59 hv7 HB HK5 hbl htl hbg htg
 obtain ⟨sg, hsg⟩ := nm (sign 32 kbase 16)
 obtain ⟨db, hdb⟩ := nm (makeB sg ktarg)
 have hS : Calls Tryz.prog 13 #[.int .i64 32, .slice (some ⟨bg, 0, none⟩) 33 bc, .int .i64 16] w9 fun e w' => TellS w9 w' e 0 sg ∧ Kept [] w9 w' := by
  have h := sign_ok 32 (some ⟨bg, 0, none⟩) 33 bc 16 kbase w9 rfl (own_in8 HB9.out).le (own_in8 HB9.out).sl (by decide)
  rw [show signE 32 33 16 = 0 from kn_sign.1, kn_sign.2, hsg] at h
  exact h
 have HKN : Hid (makeE sg ktarg = 0 ∧ makeB sg ktarg = db ∧ applyE kbase db = 0 ∧ applyB kbase db = ktarg ∧ applyE (kbase.take 32) db = 181 ∧ applyB (kbase.take 32) db = [] ∧ sg.blocks.length = 2) := by
  rw [<-hdb, <-hsg]
  exact ⟨kn_make, rfl, kn_got.1, kn_got.2.1, kn_got.2.2.1, kn_got.2.2.2, kn_two⟩
 clear hsg hdb
 go_upto_region 4 with (first
  | (go_at_call 13; refine hS.mono ?_; rintro r wa ⟨⟨va, rfl, hoa⟩, hka⟩; obtain ⟨so, sc, rfl, hsc, hwk, hsb, hsm⟩ := OwnW.wks hoa; rw [HKN.out.2.2.2.2.2.2] at hsc ⊢; have Ha := hide (ai hwk (ai hka hsm)); have hoz := heap_new wa (.cells zeroS 26); have hia := Tryz.infoSigA sg (.slice so 2 sc); have hzs : zeroS.size = (sg.cells (.slice so 2 sc)).toArray.size := (by rw [sig_size]; exact sig_size _ _); have hal := sig_one sg (.slice so 2 sc) rfl; clear hS hoa hka hwk hsb hsm)
  | refine wpList_store_rowTo rfl 26 (.tmp 3) (.tmp 24) rfl rfl wa.heap.size (sg.cells (.slice so 2 sc)).toArray rfl rfl 26 zeroS hoz hia hzs hal ?_)
 have kb : Kept [] wa ((wa.alloc (.cells zeroS 26)).setRow wa.heap.size (sg.cells (.slice so 2 sc)).toArray) := ((Kept.refl [] wa).alloc _).trans (kept_row _ wa.heap.size _) (fun i hi hl => by simp only [List.mem_singleton] at hi; omega)
 have hA : SigAt ((wa.alloc (.cells zeroS 26)).setRow wa.heap.size (sg.cells (.slice so 2 sc)).toArray) wa.heap.size sg (.slice so 2 sc) := ⟨setRow_heap _ _ _ _ _ _ hoz⟩
 obtain ⟨O, hO⟩ := nm (wa.heap.size)
 rw [hO] at kb hA ⊢
 have Kb := hide (Ha.out.2.1.tr kb)
 have hI : SigIn ((wa.alloc (.cells zeroS 26)).setRow O (sg.cells (.slice so 2 sc)).toArray) sg so 2 sc := ⟨HKN.out.2.2.2.2.2.2, hsc, Ha.out.2.2, Ha.out.1.kept kb (by simp)⟩
 clear hO hoz hia hzs hal kb Ha hsc
 generalize (wa.alloc (.cells zeroS 26)).setRow O (sg.cells (.slice so 2 sc)).toArray = wb at *
 have hrz := hA.range
 have hil := Tryz.infoSig sg (.slice so 2 sc)
 have hM : Calls Tryz.prog 8 #[.agg (sg.cells (.slice so 2 sc)).toArray, .slice (some ⟨tg, 0, none⟩) 18 tc] wb fun e w' => TellB wb w' e 0 db ∧ Kept [] wb w' := by
  have h := make_ok sg so 2 sc (some ⟨tg, 0, none⟩) 18 tc ktarg wb hI rfl htc ((own_in8 HT.out).sl.kept Kb.out (by simp)) (by decide)
  rw [HKN.out.1, HKN.out.2.1] at h
  exact h
 obtain ⟨dn, hdn⟩ : ∃ n, db.length = n := ⟨_, rfl⟩
 have HDN := hide hdn
 clear hdn
 go_upto_region 5 with (first
  | refine wpList_load_mid rfl 26 (.tmp 3) rfl O 0 rfl (sg.cells (.slice so 2 sc)) _ hrz Tryz.underlying26 rfl hil ?_
  | (go_at_call 8; refine hM.mono ?_; rintro r wc ⟨⟨da, dc, rfl, hod⟩, hkc⟩; rw [HDN.out] at hod ⊢; have Hc := hide (ai hod hkc); clear hM hod hkc))
 have HBc := hide (own_in8 (own_kept9 HB9.out (Kb.out.tr Hc.out.2) (by simp)))
 have HTc := hide (own_in8 (own_kept9 HT.out (Kb.out.tr Hc.out.2) (by simp)))
 have HDc := hide (own_in8 Hc.out.1)
 have hAc := hA.kept Hc.out.2 (by simp)
 have HKc := hide ((HK9.out.tr Kb.out).tr Hc.out.2)
 clear HB9 HT Hc hA hrz hil hI Kb HK9
 have hP : Calls Tryz.prog 16 #[.slice (some ⟨bg, 0, none⟩) 33 bc, .slice da dn dc] wc fun e w' => TellB wc w' e 0 ktarg ∧ Kept [] wc w' := by
  have h := apply_ok (some ⟨bg, 0, none⟩) 33 bc kbase da dn dc db wc HBc.out HDc.out
  rw [HKN.out.2.2.1, HKN.out.2.2.2.1] at h
  exact h
 go_upto_region 6 with (go_at_call 16; refine hP.mono ?_; rintro r wd ⟨⟨ga, gc, rfl, hog⟩, hkd⟩; have hog : wd.ownsRow wc.heap.size 5 1 (.slice ga 18 gc) 18 (bys ktarg) := hog; have Hd := hide (ai hog hkd); clear hP hog hkd)
 have hP2 : Calls Tryz.prog 16 #[.slice (some ⟨bg, 0, none⟩) 32 bc, .slice da dn dc] wd fun e w' => TellB wd w' e 181 [] ∧ Kept [] wd w' := by
  have hb : InB8 wd (some ⟨bg, 0, none⟩) 32 bc (kbase.take 32) := by
   have hb0 := HBc.out.kept Hd.out.2
   refine ⟨by decide, by have := hb0.le; omega, by decide, ?_, fun e => by cases e⟩
   obtain ⟨b1, o1, e1, _, hc⟩ := hb0.sl.open (by decide)
   cases e1
   refine Sl.of fun i hi => ?_
   have h1 : i < 32 := hi
   have h2 := hc i (show i < 33 by omega)
   rw [h2]
   simp [List.getD_eq_getElem?_getD, List.getElem?_take_of_lt h1]
  have h := apply_ok (some ⟨bg, 0, none⟩) 32 bc (kbase.take 32) da dn dc db wd hb (HDc.out.kept Hd.out.2)
  rw [HKN.out.2.2.2.2.1, HKN.out.2.2.2.2.2.1] at h
  exact h
 have hbc32 : 32 <= bc := by have := HBc.out.le; omega
 have hsame := fun W (hW : Kept [] wd W) => same_yes ga (some ⟨tg, 0, none⟩) 18 gc tc ktarg W rfl (by decide) ((own_sl9 Hd.out.1).kept hW (by simp)) ((HTc.out.sl.kept Hd.out.2 (by simp)).kept hW (by simp))
 go_upto_region 7 with (go_at_call 16; refine hP2.mono ?_; rintro r we ⟨⟨ha, hc, rfl, hoh⟩, hke⟩; have He := hide hke; clear hP2 hke hoh)
 have cv := ((hAc.kept Hd.out.2 (by simp)).kept He.out (by simp)).cell (Sig.cv _ _)
 have hsm := hsame we He.out
 have HKe := hide ((HKc.out.tr Hd.out.2).tr He.out)
 clear hsame hAc
 go_wp2_with (go_at_call 22; refine hsm.mono ?_; rintro r wf ⟨rfl, nf, hwf⟩; clear hsm)
 go_ret
 exact ⟨rfl, HKe.out.drewN nf⟩
end

section
open Dlt
theorem alike_yes (s : Sig) (ao : Option Addr) (n cap : Nat) (bo : Option Addr) (bc : Nat) (w : World) (hI : SigIn w s ao n cap) (hJ : SigIn w s bo n bc) :
  Calls Tryz.prog 54 #[.agg (s.cells (.slice ao n cap)).toArray, .agg (s.cells (.slice bo n bc)).toArray] w fun e w' => e = .returned (.bool true) ∧ Kept [] w w' := by
 have k1 := ka w (.cells (s.cells (.slice ao n cap)).toArray 26)
 have k2 : Kept [] (w.alloc (.cells (s.cells (.slice ao n cap)).toArray 26)) ((w.alloc (.cells (s.cells (.slice ao n cap)).toArray 26)).alloc (.cells (s.cells (.slice bo n bc)).toArray 26)) := (Kept.refl [] _).alloc _
 have hA := (SigAt.new w s (.slice ao n cap)).kept k2 (by simp)
 have hB := SigAt.new (w.alloc (.cells (s.cells (.slice ao n cap)).toArray 26)) s (.slice bo n bc)
 rw [show (w.alloc (.cells (s.cells (.slice ao n cap)).toArray 26)).heap.size = w.heap.size + 1 by simp] at hB
 obtain ⟨w2, hw2⟩ := nm ((w.alloc (.cells (s.cells (.slice ao n cap)).toArray 26)).alloc (.cells (s.cells (.slice bo n bc)).toArray 26))
 have HK : Hid (Kept [] w w2) := by rw [<-hw2]; exact k1.tr k2
 rw [hw2] at hA hB
 go_enter Tryz.func54, Tryz.ntmps54
 go_upto_region 1 with (fail)
 try rw [hw2]
 have a0 := hA.cell (Sig.c0 _ _)
 have a1 := hA.cell (Sig.c1 _ _)
 have a2 := hA.cell (Sig.c2 _ _)
 have a5 := hA.cell (Sig.cv _ _)
 have b0 := hB.cell (Sig.c0 _ _)
 have b1 := hB.cell (Sig.c1 _ _)
 have b2 := hB.cell (Sig.c2 _ _)
 have b5 := hB.cell (Sig.cv _ _)
 have ra := hA.base
 have rb := hB.base
 have hil := idlen s.hb
 have heq : ∀ W, (Op.equalIn 10000 23 (.agg (bys s.base).toArray) (.agg (bys s.base).toArray)).run Tryz.prog W = .ok true W := fun W => by rw [Tryz.eqlID s.base s.base s.hb s.hb W]; simp
 obtain ⟨A, hAe⟩ := nm (w.heap.size)
 rw [hAe] at a0 a1 a2 a5 b0 b1 b2 b5 ra rb hA hB ⊢
 have HA := hide hA
 have HB := hide hB
 have HI := hide (hI.kept HK.out)
 have HJ := hide (hJ.kept HK.out)
 have hn63 : n <= 9223372036854775807 := Nat.le_trans hI.le hI.max
 clear hw2 k1 k2 hA hB hI hJ hAe
 generalize s.width = xw at *
 generalize s.size = xz at *
 generalize s.length = xl at *
 go_upto_region 3 with (first
  | refine wpList_load_midW 23 (.tmp 26) rfl A 3 rfl (bys s.base) _ ra Tryz.underlying23 rfl hil (by kernel_rfl) ?_
  | refine wpList_load_midW 23 (.tmp 28) rfl (A + 1) 3 rfl (bys s.base) _ rb Tryz.underlying23 rfl hil (by kernel_rfl) ?_)
 have HIN : Hid (Kept [] w2 w2) := Kept.refl [] w2
 clear a0 a1 a2 b0 b1 b2 ra rb hil heq
 go_wp2
 go_loopw [5] (fun i wr => ∃ k : Nat, k <= n ∧ i = .int .i64 k ∧ Hid (Kept [] w2 wr)) (fun i wr => n - (intOf i).toNat)
 case atStart => exact ⟨0, Nat.zero_le _, rfl, HIN⟩
 case round =>
  obtain ⟨k, hk, rfl, HP⟩ := hrel
  replace a5 := HP.out.cellOf a5 (by simp)
  replace b5 := HP.out.cellOf b5 (by simp)
  by_cases hlt : k < n
  ·obtain ⟨ga, oa, rfl, hra⟩ := (HI.out.kept HP.out).at_ k (by rw [HI.out.len]; exact hlt)
   obtain ⟨gb, ob, rfl, hrb⟩ := (HJ.out.kept HP.out).at_ k (by rw [HI.out.len]; exact hlt)
   obtain ⟨e, he⟩ := nm (s.blocks.getD k wk0)
   rw [he] at hra hrb
   have HRA := hide hra
   have HRB := hide hrb
   have heq : ∀ W, (Op.equalIn 10000 62 (.agg e.cells.toArray) (.agg e.cells.toArray)).run Tryz.prog W = .ok true W := fun W => by rw [Tryz.eqlWk e e W, wkEq_iff.2 rfl]
   clear he hra hrb
   go_upto_region 6 with (fail)
   refine th wr fun h0 => ?_
   generalize World.drew wr = v0 at h0  ⊢
   refine t1 0 (.pointer (some ⟨A, 35, none⟩)) h0 ?_
   simp only [zz]
   refine t2 1 (.slice (some ⟨ga, oa, none⟩) n cap) rfl h0 ?_ (fun w h => by have c := qc h a5; go_simp)
   simp only [zz]
   refine t1 2 (.int .i64 k) h0 ?_
   simp only [zz]
   refine t1 3 (.pointer (some ⟨ga, oa + k * 33, none⟩)) h0 ?_
   simp only [zz]
   refine t4 4 (.agg e.cells.toArray) rfl (yieldsIf_load_mid (by rfl) _ _ rfl ga (oa + k * 33) rfl e.cells _ (fun W h j u hu => Kept.cellOf h (HRA.out j u hu) (by simp)) Tryz.underlying62 rfl (Tryz.infoWk e)) h0 ?_
   simp only [zz]
   refine t1 5 (.pointer (some ⟨(A + 1), 35, none⟩)) h0 ?_
   simp only [zz]
   refine t2 6 (.slice (some ⟨gb, ob, none⟩) n bc) rfl h0 ?_ (fun w h => by have c := qc h b5; go_simp)
   simp only [zz]
   refine t1 7 (.int .i64 k) h0 ?_
   simp only [zz]
   refine t1 8 (.pointer (some ⟨gb, ob + k * 33, none⟩)) h0 ?_
   simp only [zz]
   refine t4 9 (.agg e.cells.toArray) rfl (yieldsIf_load_mid (by rfl) _ _ rfl gb (ob + k * 33) rfl e.cells _ (fun W h j u hu => Kept.cellOf h (HRB.out j u hu) (by simp)) Tryz.underlying62 rfl (Tryz.infoWk e)) h0 ?_
   simp only [zz]
   refine t1 10 (.bool false) h0 ?_
   simp only [zz]
   refine qd ?_
   have HP2 := hide (HP.out.tr h0)
   clear h0 HRA HRB heq a5 b5
   go_wp2
   go_roundw
   case rel => exact ⟨k + 1, by omega, by go_num, HP2⟩
   case measure => simp [intOf]; omega
  ·go_wp2
   go_ret
   exact ⟨rfl, HK.out.tr HP.out⟩
end

section
open Dlt
def OwnB (w : World) (base : Nat) (v : Value) (xs : List UInt8) : Prop := w.ownsRow base 5 1 v xs.length (bys xs)
theorem OwnB.shape {w : World} {base : Nat} {v : Value} {xs : List UInt8} (h : OwnB w base v xs) : ∃ ao cap, v = .slice ao xs.length cap ∧ xs.length <= cap ∧ Sl w ao xs ∧ (∀ a, ao = some a -> ∃ g, a = ⟨g, 0, none⟩ ∧ base <= g ∧ g < w.heap.size ∧ v.ownBlock = some g) ∧ cap <= 9223372036854775807 ∧ (ao = none -> xs = [] ∧ cap = 0) := by
 rcases h.2 with ⟨rfl, h0⟩ | ⟨g, cap, cur, rfl, hb, hg, hn, hc, hs, ht⟩
 ·have : xs = [] := List.eq_nil_of_length_eq_zero h0
  subst this
  exact ⟨none, 0, rfl, Nat.le_refl _, Sl.nil _ _, by simp, by omega, fun _ => ⟨rfl, rfl⟩⟩
 ·refine ⟨_, cap, rfl, hn, fun i hi => ⟨g, 0, rfl, ?_⟩, fun a ha => ?_, by unfold maxLen at hc; omega, by simp⟩
  ·rw [Nat.zero_add, cell_of_row _ _ _ _ _ _ hg]
   have h1 := bys_at hi
   rw [<-ht, List.getElem?_take] at h1
   split at h1
   ·simpa using h1
   ·cases h1
  ·cases ha
   exact ⟨g, rfl, hb, (gs hg).1, rfl⟩
theorem OwnB.kept {l : List Nat} {w w' : World} {base : Nat} {v : Value} {xs : List UInt8} (h : OwnB w base v xs) (hk : Kept l w w') (hn : ∀ g, v.ownBlock = some g -> g ∉ l) : OwnB w' base v xs := by
 refine ⟨h.1, ?_⟩
 rcases h.2 with h0 | ⟨g, cap, cur, hv, hb, hg, rest⟩
 ·exact .inl h0
 ·refine .inr ⟨g, cap, cur, hv, hb, ?_, rest⟩
  rw [hk.block g (gs hg).1 (hn g (by rw [hv]; rfl))]
  exact hg
theorem OwnB.far {w : World} {base : Nat} {v : Value} {xs : List UInt8} (h : OwnB w base v xs) (g : Nat) (hg : v.ownBlock = some g) : base <= g ∧ g < w.heap.size := by
 obtain ⟨ao, cap, rfl, _, _, hb, _⟩ := h.shape
 cases ao with
 | none => simp [Value.ownBlock] at hg
 | some a =>
  obtain ⟨g', rfl, h1, h2, h3⟩ := hb a rfl
  rw [hg] at h3; cases h3; exact ⟨h1, h2⟩
theorem run_appSl (w : World) (base : Nat) (v : Value) (xs ys : List UInt8) (h : OwnB w base v xs) (ao : Option Addr) (n c : Nat) (hn : ys.length = n) (hs : Sl w ao ys) (h0 : ao = none -> ys = [] ∧ c = 0) (hl : xs.length + n <= 140737488355328) (hb : base <= w.heap.size) :
  ∃ v' w', (Builtin.append_ #[27, 27] 27 #[v, .slice ao n c]).run Tryz.prog w = .ok v' w' ∧ OwnB w' base v' (xs ++ ys) ∧ Kept v.ownBlock.toList w w' := by
 subst hn
 obtain ⟨i0, hi, hz0, hz1, hz2⟩ := info_parts Tryz.infoByte9
 cases ao with
 | none =>
  obtain ⟨rfl, rfl⟩ := h0 rfl
  refine ⟨v, w, run_append_owned_none (P := Tryz.prog) (w := w) base 27 27 5 i0 1 Tryz.underlying27 hi v xs.length (bys xs) h, by rw [List.append_nil]; exact h, Kept.refl _ _⟩
 | some ad =>
  obtain ⟨v', w', hrun, h1', h2, h3, h4⟩ := run_append_own_at (P := Tryz.prog) w base 27 27 5 i0 (.int .u8 0) 1 1 Tryz.underlying27 hi hz0 hz1 hz2 rfl (by omega) v xs.length (bys xs) h ad ys.length c (bys ys) (by rw [bys_length]; omega)
   (fun j u hj => by
    obtain ⟨hj', rfl⟩ := bys_get hj
    obtain ⟨b', off', e', hc⟩ := hs j hj'
    cases e'
    rw [Addr.add_mid]; exact hc) (bys_oneCell ys) (by unfold maxLen; omega) (by omega) hb
  refine ⟨v', w', hrun, ?_, (Kept.refl _ w).grown h2 (fun k hk _ => by simp [hk])⟩
  unfold OwnB
  rw [List.length_append, bys_append]
  exact h1'
theorem wpList_app_run {ops : Array Oper} {rest : List Oper} {o : Oper} {a : Act} {w : World} {Q : Exit -> Act -> World -> Prop} (hg : o.guard = none) (s x : Operand) (t t2 : TypeId) (ho : o.op = .call { callee := .builtin .append, args := #[s, x], argTypes := #[t, t2] }) (vs vx : Value) (hs : a.eval s = vs) (hx : a.eval x = vx) (v' : Value) (w' : World)
  (hrun : (Builtin.append_ #[t, t2] o.type #[vs, vx]).run Tryz.prog w = .ok v' w') (hK : wpList Tryz.prog ops Q rest (a.put o.dst v') w') : wpList Tryz.prog ops Q (o :: rest) a w :=
 wpList_appendRunL hg s x t t2 ho vs vx hs hx hrun hK
theorem Tryz.cutBy (W : World) (ao : Option Addr) (L cap m : Nat) (hm : m <= cap) :
  (Instr.slice 27 (.slice ao L cap) none (some (.int .i64 m)) none).run Tryz.prog W = .ok (.slice ao m cap) W := by
 have hz : (sizeOf (Tryz.prog.elem 27)).run Tryz.prog W = .ok 1 W := by kernel_rfl
 have h := run_slice_h (P := Tryz.prog) W 27 ao L cap (by kernel_rfl) .i64 m (by omega) (by omega)
 rw [h, hz]
 cases ao <;> simp [sliced, Addr.add]
theorem tmod_in (v : Int) (n : Nat) (h : 0 < n) : (v.tmod n < 0 -> ∃ r : Nat, r < n ∧ v.tmod n + n = r) ∧ (¬ v.tmod n < 0 -> ∃ r : Nat, r < n ∧ v.tmod n = r) := by
 have h1 := Int.lt_tmod_of_pos v (b := (n : Int)) (by omega)
 have h2 := Int.tmod_lt_of_pos v (b := (n : Int)) (by omega)
 exact ⟨fun h => ⟨(v.tmod n + n).toNat, by omega, by omega⟩, fun h => ⟨(v.tmod n).toNat, by omega, by omega⟩⟩
theorem round18_ok (v : Int) (n : Nat) (w : World) (hv : (Lit.int .i64 v).wf = true) (h0 : 0 < n) (hn : n <= 140737488355328) : Calls Tryz.prog 15 #[.int .i64 v, .int .i64 n] w fun e w' => ∃ r : Nat, r < n ∧ e = .returned (.int .i64 r) ∧ w' = w := by
 have ht := tmod_in v n h0
 have hb : -(n : Int) < v.tmod n ∧ v.tmod n < n := ⟨Int.lt_tmod_of_pos v (by omega), Int.tmod_lt_of_pos v (by omega)⟩
 have hz : ((n : Int) == 0) = false := by simp; omega
 have hw : IntKind.i64.wrap (v.tmod n) = v.tmod n := IntWalk.i64_in _ (by omega)
 have hw2 : IntKind.i64.wrap (v.tmod n + n) = v.tmod n + n := IntWalk.i64_in _ (by omega)
 by_cases h : v.tmod n < 0
 ·obtain ⟨r, hr, e⟩ := ht.1 h
  have HR := hide (ai hr e)
  clear ht hr e
  go_enter Tryz.func15, Tryz.ntmps15
  go_wp2
  go_ret
  exact ⟨r, HR.out.1, by rw [<-HR.out.2]; rfl, rfl⟩
 ·obtain ⟨r, hr, e⟩ := ht.2 h
  have HR := hide (ai hr e)
  clear ht hr e
  go_enter Tryz.func15, Tryz.ntmps15
  go_wp2
  go_ret
  exact ⟨r, HR.out.1, by rw [<-HR.out.2]; rfl, rfl⟩
theorem own_set9 {w : World} {base g n cap k : Nat} {xs : List UInt8} (h : OwnB w base (.slice (some ⟨g, 0, none⟩) n cap) xs) (hk : k < xs.length) (c : UInt8) :
  w.cell? ⟨g, k, none⟩ = some (.int .u8 (xs.getD k 0).toNat) ∧ w.frozen? ⟨g, k, none⟩ = false ∧ ∀ W, W = w.setCell ⟨g, k, none⟩ (.int .u8 c.toNat) -> OwnB W base (.slice (some ⟨g, 0, none⟩) n cap) (xs.set k c) := by
 rcases h.2 with ⟨e, _⟩ | ⟨g', cap', cur, e, hb, hg, hn, hc, hs, ht⟩
 ·cases e
 ·injection e with e1 e2 e3
  injection e1 with e1
  injection e1 with e1
  subst e1; subst e3
  obtain rfl : n = xs.length := e2
  have hkc : k < cur.size := by omega
  have hcell : cur[k]? = some (.int .u8 (xs.getD k 0).toNat) := by
   have h1 := bys_at hk
   rw [<-ht, List.getElem?_take_of_lt (by omega)] at h1
   simpa using h1
  refine ⟨by rw [cell_of_row _ _ _ _ _ _ hg]; exact hcell, frozen_of_row _ _ _ _ _ hg, fun W hW => ?_⟩
  subst hW
  refine ⟨by rw [bys_length, Nat.mul_one], .inr ⟨g, cap, cur.setIfInBounds k (.int .u8 c.toNat), by rw [List.length_set], hb, heap_setCell_same w _ _ _ _ _ hg, by rw [List.length_set]; exact hn, hc, by rw [Array.size_setIfInBounds]; exact hs, ?_⟩⟩
  rw [List.length_set, Array.toList_setIfInBounds, List.take_set, ht]
  simp [bys, List.map_set]
theorem u8_xor_at (a d : UInt8) : bits .xor .u8 (a.toNat : Int) (d.toNat : Int) = ((a ^^^ d).toNat : Int) := by
 show IntKind.u8.wrap ((BitVec.ofInt 8 (a.toNat : Int) ^^^ BitVec.ofInt 8 (d.toNat : Int)).toNat : Int) = _
 have ha := UInt8.toNat_lt a
 have hd := UInt8.toNat_lt d
 have h : (a ^^^ d).toNat < 256 := UInt8.toNat_lt _
 rw [UInt8.toNat_xor] at h ⊢
 rw [BitVec.toNat_xor, BitVec.toNat_ofInt, BitVec.toNat_ofInt]
 rw [show ((a.toNat : Int) % ((2 ^ 8 : Nat) : Int)).toNat = a.toNat by omega, show ((d.toNat : Int) % ((2 ^ 8 : Nat) : Int)).toNat = d.toNat by omega]
 simp [IntKind.wrap, IntKind.bits, IntKind.signed]
 omega
theorem own_len {w : World} {base : Nat} {ao : Option Addr} {n cap : Nat} {xs : List UInt8} (h : OwnB w base (.slice ao n cap) xs) : xs.length = n := by
 obtain ⟨_, _, e, _⟩ := OwnB.shape h
 injection e with _ e _
 exact e.symm
theorem OwnB.in8 {w : World} {base : Nat} {ao : Option Addr} {n cap : Nat} {xs : List UInt8} (h : OwnB w base (.slice ao n cap) xs) : InB8 w ao n cap xs := by
 have hl := own_len h
 subst hl
 exact own_in8 h
end

section
open Dlt
theorem Tryz.builtW1a (f : Nat -> UInt8) (x : Int) (W : World) : (Instr.buildSlice 24 1 #[(0, .agg (.int .i64 x :: bys ((List.range 32).map f)).toArray)]).run Tryz.prog W = .ok (.slice (some ⟨W.heap.size, 0, none⟩) 1 1) (W.alloc (.cells (.int .i64 x :: bys ((List.range 32).map f)).toArray 62)) := by kernel_rfl
theorem Tryz.builtW1 (e : Wk) (W : World) : (Instr.buildSlice 24 1 #[(0, .agg e.cells.toArray)]).run Tryz.prog W = .ok (.slice (some ⟨W.heap.size, 0, none⟩) 1 1) (W.alloc (.cells e.cells.toArray 62)) := by
 have h := Tryz.builtW1a (fun i => e.id.getD i 0) e.sum W
 rw [range32 e.hid] at h
 exact h
theorem OwnW.add {w : World} {base : Nat} {v : Value} {L : List Wk} (h : OwnW w base v L) (hb : base <= w.heap.size) (N : Nat) (e : Wk) (hN : w.rangeAt N 0 e.cells) (hl : L.length <= 1000000) :
  ∃ v' w', (Builtin.append_ #[24, 24] 24 #[v, .slice (some ⟨N, 0, none⟩) 1 1]).run Tryz.prog w = .ok v' w' ∧ OwnW w' base v' (L ++ [e]) ∧ Kept v.ownBlock.toList w w' := by
 obtain ⟨i0, hi, hz0, hz1, hz2⟩ := info_parts Tryz.infoWeak
 obtain ⟨v', w', hrun, h4, h5, _, _⟩ := run_append_own_at (P := Tryz.prog) w base 24 24 62 i0 (.agg zeroK) 33 40 Tryz.underlying24 hi hz0 hz1 hz2 rfl (by decide) v _ _ h ⟨N, 0, none⟩ 1 1 e.cells (by rw [e.len]) (fun j u hv => by
   rw [Addr.add_mid]; exact hN j u hv) (wk_one e) (by unfold maxLen; omega) (by omega) hb
 refine ⟨v', w', hrun, ?_, (Kept.refl _ w).grown h5 (fun g hg _ => by rw [hg]; simp)⟩
 unfold OwnW
 rw [List.length_append, wrows_app, show wrows [e] = e.cells by simp [wrows]]
 exact h4
theorem wp_buildSl9 {o : Oper} {a : Act} {w : World} {K : Act -> World -> Prop} {Q : Exit -> Act -> World -> Prop} (t : TypeId) (n : Nat) (parts : Array (Nat × Operand)) (ho : o.op = .buildSlice t n parts) (vals : Array (Nat × Value)) (hv : (parts.map fun (i, x) => (i, a.eval x)) = vals) {v : Value} {w' : World} (hrun : (Instr.buildSlice t n vals).run Tryz.prog w = .ok v w') (h : K (a.put o.dst v) w') : o.wp Tryz.prog a w K Q := by
 unfold Oper.wp execOp
 simp only [ho, hv, Sem.run_bind, hrun, Result.andThen_ok]
 exact h
theorem rsized_ok (x z : Int) (w : World) :
  Calls Tryz.prog 35 #[.int .i64 x, .int .i64 z] w fun e w' => e = .returned (.bool (isW x && isZ z)) ∧ w' = w := by
 have HR : Hid ((isW x && isZ z) = (decide (1 <= x) && decide (x <= 32) && decide (16 <= z) && decide (z <= 4096))) := by
  show _ = _
  rw [Bool.eq_iff_iff]
  simp only [Bool.and_eq_true, decide_eq_true_eq, isW, isZ, Dlt.within_iff]
  omega
 by_cases h1 : 1 <= x <;> by_cases h2 : x <= 32 <;> by_cases h3 : 16 <= z <;> by_cases h4 : z <= 4096 <;>
  (go_enter Tryz.func35, Tryz.ntmps35; go_wp2; go_ret; exact ⟨by rw [HR.out]; simp [h1, h2, h3, h4], rfl⟩)
end

section
open Dlt
theorem i64_xor_nat (a b : Nat) (ha : a < 9223372036854775808) (hb : b < 9223372036854775808) : bits .xor .i64 (a : Int) (b : Int) = ((a ^^^ b : Nat) : Int) := by
 show IntKind.i64.wrap ((BitVec.ofInt 64 (a : Int) ^^^ BitVec.ofInt 64 (b : Int)).toNat : Int) = _
 have h : a ^^^ b < 9223372036854775808 := Nat.xor_lt_two_pow (n := 63) ha hb
 rw [BitVec.toNat_xor, ofInt_u64 a (by omega), ofInt_u64 b (by omega)]
 simp [IntKind.wrap, IntKind.bits, IntKind.signed]
 split <;> omega
theorem Ts_succ' (k y : Nat) : Pure.Ts (k + 1) y = Pure.T (Pure.Ts k y) := by
 rw [Pure.Ts_add k 1]; rfl
theorem Ts_lt (k : Nat) {y : Nat} (h : y < 4294967296) : Pure.Ts k y < 4294967296 := by
 induction k with
 | zero => exact h
 | succ k ih => rw [Ts_succ']; exact Pure.T_lt ih
theorem rcrc_some (b off n cap : Nat) (xs : List UInt8) (w : World) (hn : xs.length = n) (hm : n <= 9223372036854775807) (hc : ∀ i, i < xs.length -> w.cell? ⟨b, off + i, none⟩ = some (.int .u8 (xs.getD i 0).toNat)) :
  Calls Tryz.prog 76 #[.slice (some ⟨b, off, none⟩) n cap] w fun e w' => e = .returned (.int .i64 (Pure.sum xs)) ∧ w' = w := by
 go_enter Tryz.func76, Tryz.ntmps76
 go_wp2
 go_loop [3, 4] (fun r i => ∃ k : Nat, k <= n ∧ i = .int .i64 k ∧ r = .int .i64 (Pure.crc 4294967295 (xs.take k))) (fun r i => n - (intOf i).toNat)
 case atStart => exact ⟨0, Nat.zero_le _, rfl, rfl⟩
 case round =>
  obtain ⟨k, hk, rfl, rfl⟩ := hrel
  have hx1 : Pure.crc 4294967295 (xs.take k) < 4294967296 := Pure.crc_lt (by omega) _
  by_cases hlt : k < n
  ·have hcell := hc k (by omega)
   have hcb : (xs.getD k 0).toNat < 256 := UInt8.toNat_lt _
   have HS : Hid (Pure.crc 4294967295 (xs.take (k + 1)) = Pure.Ts 8 (Pure.crc 4294967295 (xs.take k) ^^^ (xs.getD k 0).toNat)) := by
    show _ = _
    rw [Pure.take_snoc xs 0 k (by omega), Pure.crc_snoc, Pure.crcStep_turns]
   generalize Pure.crc 4294967295 (xs.take k) = x at hx1 HS ⊢
   generalize (xs.getD k 0).toNat = c at hcell hcb HS
   have e1 := i64_xor_nat x c (by omega) (by omega)
   have b1 := Pure.xor_lt32 hx1 (show c < 4294967296 by omega)
   generalize x ^^^ c = y at e1 b1 HS
   clear hc
   go_wp2
   go_loop [3, 5] (fun r j => ∃ m : Nat, m <= 8 ∧ j = .int .i64 m ∧ r = .int .i64 (Pure.Ts m y)) (fun r j => 8 - (intOf j).toNat)
   case atStart => exact ⟨0, Nat.zero_le _, rfl, rfl⟩
   case round =>
    obtain ⟨m, hm8, rfl, rfl⟩ := hrel
    have hz := Ts_lt m b1
    by_cases hm : m < 8
    ·have HT : Hid (Pure.Ts (m + 1) y = Pure.T (Pure.Ts m y)) := Ts_succ' m y
     generalize Pure.Ts m y = z at hz HT ⊢
     by_cases ho : z % 2 = 1
     ·have g1 : ((z : Int) % 2 == 1) = true := by simp; omega
      have e2 : bits .xor .i64 ((z : Int) / 2) 3988292384 = ((z / 2 ^^^ 3988292384 : Nat) : Int) := by
       rw [show ((z : Int) / 2) = ((z / 2 : Nat) : Int) by omega]
       exact i64_xor_nat (z / 2) 3988292384 (by omega) (by omega)
      have HT2 : Hid (Pure.Ts (m + 1) y = z / 2 ^^^ 3988292384) := by
       have := HT.out
       unfold Pure.T at this
       rw [if_pos ho] at this
       exact this
      generalize z / 2 ^^^ 3988292384 = z2 at e2 HT2
      go_wp2
      go_round
      case rel => exact ⟨m + 1, by omega, by go_num, by rw [HT2.out]⟩
      case measure => simp [intOf]; omega
     ·have g1 : ((z : Int) % 2 == 1) = false := by simp; omega
      have HT2 : Hid (Pure.Ts (m + 1) y = z / 2) := by
       have := HT.out
       unfold Pure.T at this
       rw [if_neg ho, Nat.xor_zero] at this
       exact this
      go_wp2
      go_round
      case rel => exact ⟨m + 1, by omega, by go_num, by rw [HT2.out]; go_num⟩
      case measure => simp [intOf]; omega
    ·obtain rfl : m = 8 := by omega
     go_wp2
     go_round
     case rel => exact ⟨k + 1, by omega, by go_num, by rw [HS.out]⟩
     case measure => simp [intOf]; omega
  ·have HT : Hid (xs.take k = xs) := List.take_of_length_le (by omega)
   clear hc
   go_wp2
   go_ret
   exact ⟨ret_int (by have h8 := hx1; have h9 := HT.out; unfold Pure.sum; rw [h9] at h8 ⊢; omega), rfl⟩
theorem rcrc_none (ao : Option Addr) (cap : Nat) (w : World) :
  Calls Tryz.prog 76 #[.slice ao 0 cap] w fun e w' => e = .returned (.int .i64 (Pure.sum [])) ∧ w' = w := by
 go_enter Tryz.func76, Tryz.ntmps76
 go_wp2
 go_loop [3, 4] (fun r i => i = .int .i64 0 ∧ r = .int .i64 4294967295) (fun r i => 0)
 case atStart => exact ⟨rfl, rfl⟩
 case round =>
  obtain ⟨rfl, rfl⟩ := hrel
  go_wp2
  go_ret
  exact ⟨rfl, rfl⟩
theorem rcrc_n (ao : Option Addr) (n cap : Nat) (xs : List UInt8) (w : World) (hn : xs.length = n) (hm : n <= 9223372036854775807) (h : Sl w ao xs) :
  Calls Tryz.prog 76 #[.slice ao n cap] w fun e w' => e = .returned (.int .i64 (Pure.sum xs)) ∧ w' = w := by
 by_cases h0 : xs = []
 ·subst h0
  obtain rfl : n = 0 := by simpa using hn.symm
  exact rcrc_none ao cap w
 ·obtain ⟨b, off, rfl, hb, hc⟩ := h.open h0
  exact rcrc_some b off n cap xs w hn hm hc
theorem rnoughts_ok (W : Nat) (id : List UInt8) (w : World) (hW : W <= 32) (hl : id.length = 32) :
  Calls Tryz.prog 97 #[.agg (bys id).toArray, .int .i64 W] w fun e w' => e = .returned (.bool (nought W id)) ∧ Kept [] w w' := by
 have hrow := heap_new w (.cells (bys id).toArray 23)
 have hK := ka w (.cells (bys id).toArray 23)
 obtain ⟨G, hG⟩ := nm (w.heap.size)
 rw [hG] at hrow
 have HC : Hid (∀ k, k < 32 -> (w.alloc (.cells (bys id).toArray 23)).cell? ⟨G, k, none⟩ = some (.int .u8 (id.getD k 0).toNat)) := fun k hk => by
  rw [cell_of_row _ _ _ _ _ _ hrow, List.getElem?_toArray]
  exact bys_at (by omega)
 have HL := hide hl
 clear hrow hl
 go_enter Tryz.func97, Tryz.ntmps97
 go_upto_region 1 with (fail)
 clear hG
 generalize w.alloc (.cells (bys id).toArray 23) = w1 at *
 go_wp2
 go_loopw [5] (fun x wr => ∃ k j : Nat, j = W + k ∧ j <= 32 ∧ x = .int .i64 j ∧ wr = w1 ∧ Hid (((id.drop W).take k).all (· == 0) = true)) (fun x wr => 32 - (intOf x).toNat)
 case atStart => exact ⟨0, W, rfl, hW, rfl, rfl, rfl⟩
 case round =>
  obtain ⟨k, j, hj, hj32, rfl, hwr, HA⟩ := hrel
  subst hwr
  have HJ := hide hj
  clear hj
  by_cases hlt : j < 32
  ·have hc := HC.out j hlt
   have HST : Hid (id.getD j 0 = 0 -> ((id.drop W).take (k + 1)).all (· == 0) = true) := fun hz => nought_step HL.out (by have := HJ.out; omega) (by rw [<-HJ.out]; exact hz) HA.out
   have HN0 : Hid (id.getD j 0 ≠ 0 -> nought W id = false) := fun hz => by
    apply Bool.eq_false_iff.2
    intro hn
    apply hz
    have hL := HL.out
    have hJ := HJ.out
    have hmem : id.getD j 0 ∈ id.drop W := by
     have e : (id.drop W)[k]'(by rw [List.length_drop]; omega) = id.getD j 0 := by
      rw [List.getElem_drop, List.getD, List.getElem?_eq_getElem (by omega), Option.getD_some]
      congr 1
      exact hJ.symm
     rw [<-e]; exact List.getElem_mem _
    have := List.all_eq_true.1 hn _ hmem
    simpa using this
   have hb : (id.getD j 0).toNat < 256 := UInt8.toNat_lt _
   by_cases h0 : id.getD j 0 = 0
   ·rw [h0] at hc
    have H1 := hide (HST.out h0)
    clear h0 hb HN0 HST
    have hc' : wr.cell? ⟨G, j, none⟩ = some (.int .u8 0) := hc
    clear hc
    go_wp2
    go_roundw
    case rel => exact ⟨k + 1, j + 1, by rw [HJ.out]; rfl, by omega, by go_num, by first | rfl | trivial, H1⟩
    case measure => simp [intOf]; omega
   ·have H1 := hide (HN0.out h0)
    have hne : (id.getD j 0).toNat ≠ 0 := fun h => h0 (UInt8.toNat_inj.1 h)
    generalize (id.getD j 0).toNat = c at hc hb hne
    have hne' : ((c : Int) != 0) = true := by simp; omega
    clear h0 HN0 HST hne
    go_wp2
    go_ret
    exact ⟨by rw [H1.out]; rfl, hK⟩
  ·have HN1 : Hid (nought W id = true) := by
    have h := HA.out
    rw [List.take_of_length_le (by rw [List.length_drop, HL.out]; have := HJ.out; omega)] at h
    exact h
   clear HA
   go_wp2
   go_ret
   exact ⟨by rw [HN1.out]; rfl, hK⟩
end

end Go.Proofs.YtmklodligplbaabGreat
