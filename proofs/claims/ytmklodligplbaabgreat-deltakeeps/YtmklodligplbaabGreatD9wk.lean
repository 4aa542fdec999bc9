import Derived.Test.YtmklodligplbaabGreatD9uk
open Go.RowKit
set_option linter.unusedVariables false
set_option linter.unusedSimpArgs false
set_option maxRecDepth 100000
set_option maxHeartbeats 0
namespace Go.Proofs.YtmklodligplbaabGreat
section
open Dlt
theorem own_in8 {w : World} {base : Nat} {ao : Option Addr} {n cap : Nat} {xs : List UInt8} (h : w.ownsRow base 5 1 (.slice ao n cap) n (bys xs)) : InB8 w ao n cap xs := by
 have hl : xs.length = n := by have := h.1; rw [bys_length] at this; omega
 refine ⟨hl, ?_, ?_, own_sl9 h, ?_⟩
 ·obtain ⟨_, _, e, he⟩ := own_shape h; cases e; exact he
 ·rcases h.2 with ⟨e, hn⟩ | ⟨g, cap', cur, e, _, _, hn, hc, _⟩
  ·omega
  ·unfold maxLen at hc; omega
 ·rintro rfl
  rcases h.2 with ⟨e, hn⟩ | ⟨g, cap', cur, e, _⟩
  ·cases e
   exact ⟨List.eq_nil_of_length_eq_zero (by omega), rfl⟩
  ·cases e
theorem own_kept9 {w w' : World} {l : List Nat} {base : Nat} {e : TypeId} {s : Nat} {v : Value} {n : Nat} {xs : List Value} (h : w.ownsRow base e s v n xs) (hk : Kept l w w') (hl : ∀ i, i ∈ l -> ∀ g, v.ownBlock = some g -> i ≠ g) : w'.ownsRow base e s v n xs :=
 own_same h (fun g hg => hk.block g (own_blk h hg).2.1 (fun hm => hl g hm g hg rfl))
theorem own_one9 (w : World) (x : UInt8) : (w.alloc (.cells #[.int .u8 x.toNat] 5)).ownsRow w.heap.size 5 1 (.slice (some ⟨w.heap.size, 0, none⟩) 1 1) 1 (bys [x]) :=
 ⟨rfl, .inr ⟨w.heap.size, 1, _, rfl, Nat.le_refl _, heap_new w _, Nat.le_refl _, by decide, rfl, rfl⟩⟩
theorem own_head {w : World} {base : Nat} {v : Value} {n : Nat} {xs : List UInt8} (h : w.ownsRow base 5 1 v n (bys xs)) (h0 : n ≠ 0) : ∃ g cap, v = .slice (some ⟨g, 0, none⟩) n cap ∧ base <= g ∧ n <= cap ∧ g < w.heap.size := by
 rcases h.2 with ⟨e, hn⟩ | ⟨g, cap', cur, e, hb, hg, hn, _⟩
 ·exact absurd hn h0
 ·exact ⟨g, cap', e, hb, hn, (gs hg).1⟩
theorem known18_ok (w : World) : Calls Tryz.prog 7 #[] w fun e w' => e = .returned (.bool true) ∧ Kept [] w w' := by
 have hz := Tryz.zeroSig
 have hr1 : ∀ W, Calls Tryz.prog 27 #[.int .u8 1] W fun e w' => e = .returned (.slice (some ⟨W.heap.size, 0, none⟩) 16 16) ∧ w'.ownsRow W.heap.size 5 1 (.slice (some ⟨W.heap.size, 0, none⟩) 16 16) 16 (bys (row16 1)) ∧ Kept [] W w' := fun W => row18_ok 1 W
 have hr2 : ∀ W, Calls Tryz.prog 27 #[.int .u8 2] W fun e w' => e = .returned (.slice (some ⟨W.heap.size, 0, none⟩) 16 16) ∧ w'.ownsRow W.heap.size 5 1 (.slice (some ⟨W.heap.size, 0, none⟩) 16 16) 16 (bys (row16 2)) ∧ Kept [] W w' := fun W => row18_ok 2 W
 have HR3 := hide hr1
 go_enter Tryz.func7, Tryz.ntmps7
 go_upto_region 2 with (first
  | (go_at_call 27; refine (hr1 _).mono ?_; rintro r w1 ⟨rfl, ho1, hk1⟩; have H1 := hide (ai ho1 hk1); clear hr1 ho1 hk1)
  | (go_at_call 27; refine (hr2 _).mono ?_; rintro r w2 ⟨rfl, ho2, hk2⟩; obtain ⟨v3, w3, hrun3, ho3, hk3⟩ := app9 (own_kept9 H1.out.1 hk2 (by simp)) (Nat.le_trans H1.out.2.size hk2.size) (some ⟨w1.heap.size, 0, none⟩) 16 16 (row16 2) rfl (by simp [row16]) (own_sl9 ho2) (by omega); obtain ⟨g3, c3, rfl, hg3, _, _⟩ := own_head ho3 (by decide); have H3 := hide (ai ho3 (ai hk2 hk3)); clear hr2 ho2 hk2 ho3 hk3)
  | (refine wpList_appendRunL rfl (.tmp 11) (.tmp 12) 27 27 rfl (.slice (some ⟨w.heap.size, 0, none⟩) 16 16) (.slice (some ⟨w1.heap.size, 0, none⟩) 16 16) rfl rfl hrun3 ?_; clear hrun3; obtain ⟨v5, w5, hrun5, ho5, hk5⟩ := app9 (own_kept9 H3.out.1 ((Kept.refl [] w3).alloc (.cells #[.int .u8 3] 5)) (by simp)) (Nat.le_trans (Nat.le_trans H1.out.2.size (Nat.le_trans H3.out.2.1.size H3.out.2.2.size)) (((Kept.refl [] w3).alloc (.cells #[.int .u8 3] 5)).size)) (some ⟨w3.heap.size, 0, none⟩) 1 1 [3] rfl (by simp) (own_sl9 (own_one9 w3 3)) (by omega); obtain ⟨bg, bc, rfl, hbg, hbc, hbl⟩ := own_head ho5 (by decide); have H5 := hide (ai ho5 hk5); clear ho5 hk5)
  | (refine wpList_appendRunL rfl (.tmp 13) (.tmp 14) 27 27 rfl (.slice (some ⟨g3, 0, none⟩) 32 c3) (.slice (some ⟨w3.heap.size, 0, none⟩) 1 1) rfl rfl hrun5 ?_; clear hrun5))
 have k13 : Kept [] w w3 := (H1.out.2.tr H3.out.2.1).trans H3.out.2.2 (by simp [Value.ownBlock])
 have hv3 := fun g hg => (own_blk H3.out.1 (g := g) hg).1
 have k15 : Kept [] w w5 := (k13.trans ((Kept.refl [] w3).alloc (.cells #[.int .u8 3] 5)) (by simp)).trans H5.out.2 (fun i hi hl => by
  rw [Option.mem_toList] at hi
  have := hv3 i hi
  omega)
 have HB : Hid (w5.ownsRow w.heap.size 5 1 (.slice (some ⟨bg, 0, none⟩) 33 bc) 33 (bys kbase)) := H5.out.1
 have HK5 := hide k15
 clear H1 H3 H5 k13 k15 hv3
 have hr3 := HR3.out
 clear HR3
 go_upto_region 3 with (first
  | (go_at_call 27; refine (hr3 _).mono ?_; rintro r w6 ⟨rfl, ho6, hk6⟩; rw [show (w5.alloc (.cells #[.int .u8 9] 5)).heap.size = w5.heap.size + 1 by simp] at ho6 ⊢; obtain ⟨v7, w7, hrun7, ho7, hk7⟩ := app9 (own_kept9 (own_one9 w5 9) hk6 (by simp)) (Nat.le_trans ((Kept.refl [] w5).alloc (.cells #[.int .u8 9] 5)).size hk6.size) (some ⟨w5.heap.size + 1, 0, none⟩) 16 16 (row16 1) rfl (by simp [row16]) (own_sl9 ho6) (by omega); obtain ⟨g7, c7, rfl, hg7, _, _⟩ := own_head ho7 (by decide); have H7 := hide (ai ho7 (ai hk6 hk7)); clear hr3 ho6 hk6 ho7 hk7)
  | (refine wpList_appendRunL rfl (.tmp 16) (.tmp 17) 27 27 rfl (.slice (some ⟨w5.heap.size, 0, none⟩) 1 1) (.slice (some ⟨w5.heap.size + 1, 0, none⟩) 16 16) rfl rfl hrun7 ?_; clear hrun7; obtain ⟨v9, w9, hrun9, ho9, hk9⟩ := app9 (own_kept9 H7.out.1 ((Kept.refl [] w7).alloc (.cells #[.int .u8 8] 5)) (by simp)) (Nat.le_trans ((Kept.refl [] w5).alloc (.cells #[.int .u8 9] 5)).size (Nat.le_trans (Nat.le_trans H7.out.2.1.size H7.out.2.2.size) (((Kept.refl [] w7).alloc (.cells #[.int .u8 8] 5)).size))) (some ⟨w7.heap.size, 0, none⟩) 1 1 [8] rfl (by simp) (own_sl9 (own_one9 w7 8)) (by omega); obtain ⟨tg, tc, rfl, htg, htc, htl⟩ := own_head ho9 (by decide); have H9 := hide (ai ho9 hk9); clear ho9 hk9)
  | (refine wpList_appendRunL rfl (.tmp 18) (.tmp 19) 27 27 rfl (.slice (some ⟨g7, 0, none⟩) 17 c7) (.slice (some ⟨w7.heap.size, 0, none⟩) 1 1) rfl rfl hrun9 ?_; clear hrun9))
 have k57 : Kept [] w5 w7 := (((Kept.refl [] w5).alloc (.cells #[.int .u8 9] 5)).tr H7.out.2.1).trans H7.out.2.2 (by simp [Value.ownBlock])
 have hv7 := fun g hg => (own_blk H7.out.1 (g := g) hg).1
 have k59 : Kept [] w5 w9 := (k57.trans ((Kept.refl [] w7).alloc (.cells #[.int .u8 8] 5)) (by simp)).trans H9.out.2 (fun i hi hl => by
  rw [Option.mem_toList] at hi
  have := hv7 i hi
  omega)
 have HT : Hid (w9.ownsRow w5.heap.size 5 1 (.slice (some ⟨tg, 0, none⟩) 18 tc) 18 (bys ktarg)) := H9.out.1
 have HB9 := hide (own_kept9 HB.out k59 (by simp))
 have HK9 := hide (HK5.out.tr k59)
 clear H7 H9 k57 k59 hv7 HB HK5 hbl htl hbg htg
 obtain ⟨sg, hsg⟩ := nm (sign 32 kbase 16)
 obtain ⟨db, hdb⟩ := nm (makeB sg ktarg)
 have hS : Calls Tryz.prog 13 #[.int .i64 32, .slice (some ⟨bg, 0, none⟩) 33 bc, .int .i64 16] w9 fun e w' => TellS w9 w' e 0 sg ∧ Kept [] w9 w' := by
  have h := sign_ok 32 (some ⟨bg, 0, none⟩) 33 bc 16 kbase w9 rfl (own_in8 HB9.out).le (own_in8 HB9.out).sl (by decide)
  rw [show signE 32 33 16 = 0 from kn_sign.1, kn_sign.2, hsg] at h
  exact h
 have HKN : Hid (makeE sg ktarg = 0 ∧ makeB sg ktarg = db ∧ applyE kbase db = 0 ∧ applyB kbase db = ktarg ∧ applyE (kbase.take 32) db = 181 ∧ applyB (kbase.take 32) db = [] ∧ sg.blocks.length = 2) := by
  rw [<-hdb, <-hsg]
  exact ⟨kn_make, rfl, kn_got.1, kn_got.2.1, kn_got.2.2.1, kn_got.2.2.2, kn_two⟩
 clear hsg hdb
 go_upto_region 4 with (first
  | (go_at_call 13; refine hS.mono ?_; rintro r wa ⟨⟨va, rfl, hoa⟩, hka⟩; obtain ⟨so, sc, rfl, hsc, hwk, hsb, hsm⟩ := OwnW.wks hoa; rw [HKN.out.2.2.2.2.2.2] at hsc ⊢; have Ha := hide (ai hwk (ai hka hsm)); have hoz := heap_new wa (.cells zeroS 26); have hia := Tryz.infoSigA sg (.slice so 2 sc); have hzs : zeroS.size = (sg.cells (.slice so 2 sc)).toArray.size := (by rw [sig_size]; exact sig_size _ _); have hal := sig_one sg (.slice so 2 sc) rfl; clear hS hoa hka hwk hsb hsm)
  | refine wpList_store_rowTo rfl 26 (.tmp 3) (.tmp 24) rfl rfl wa.heap.size (sg.cells (.slice so 2 sc)).toArray rfl rfl 26 zeroS hoz hia hzs hal ?_)
 have kb : Kept [] wa ((wa.alloc (.cells zeroS 26)).setRow wa.heap.size (sg.cells (.slice so 2 sc)).toArray) := ((Kept.refl [] wa).alloc _).trans (kept_row _ wa.heap.size _) (fun i hi hl => by simp only [List.mem_singleton] at hi; omega)
 have hA : SigAt ((wa.alloc (.cells zeroS 26)).setRow wa.heap.size (sg.cells (.slice so 2 sc)).toArray) wa.heap.size sg (.slice so 2 sc) := ⟨setRow_heap _ _ _ _ _ _ hoz⟩
 obtain ⟨O, hO⟩ := nm (wa.heap.size)
 rw [hO] at kb hA ⊢
 have Kb := hide (Ha.out.2.1.tr kb)
 have hI : SigIn ((wa.alloc (.cells zeroS 26)).setRow O (sg.cells (.slice so 2 sc)).toArray) sg so 2 sc := ⟨HKN.out.2.2.2.2.2.2, hsc, Ha.out.2.2, Ha.out.1.kept kb (by simp)⟩
 clear hO hoz hia hzs hal kb Ha hsc
 generalize (wa.alloc (.cells zeroS 26)).setRow O (sg.cells (.slice so 2 sc)).toArray = wb at *
 have hrz := hA.range
 have hil := Tryz.infoSig sg (.slice so 2 sc)
 have hM : Calls Tryz.prog 8 #[.agg (sg.cells (.slice so 2 sc)).toArray, .slice (some ⟨tg, 0, none⟩) 18 tc] wb fun e w' => TellB wb w' e 0 db ∧ Kept [] wb w' := by
  have h := make_ok sg so 2 sc (some ⟨tg, 0, none⟩) 18 tc ktarg wb hI rfl htc ((own_in8 HT.out).sl.kept Kb.out (by simp)) (by decide)
  rw [HKN.out.1, HKN.out.2.1] at h
  exact h
 obtain ⟨dn, hdn⟩ : ∃ n, db.length = n := ⟨_, rfl⟩
 have HDN := hide hdn
 clear hdn
 go_upto_region 5 with (first
  | refine wpList_load_mid rfl 26 (.tmp 3) rfl O 0 rfl (sg.cells (.slice so 2 sc)) _ hrz Tryz.underlying26 rfl hil ?_
  | (go_at_call 8; refine hM.mono ?_; rintro r wc ⟨⟨da, dc, rfl, hod⟩, hkc⟩; rw [HDN.out] at hod ⊢; have Hc := hide (ai hod hkc); clear hM hod hkc))
 have HBc := hide (own_in8 (own_kept9 HB9.out (Kb.out.tr Hc.out.2) (by simp)))
 have HTc := hide (own_in8 (own_kept9 HT.out (Kb.out.tr Hc.out.2) (by simp)))
 have HDc := hide (own_in8 Hc.out.1)
 have hAc := hA.kept Hc.out.2 (by simp)
 have HKc := hide ((HK9.out.tr Kb.out).tr Hc.out.2)
 clear HB9 HT Hc hA hrz hil hI Kb HK9
 have hP : Calls Tryz.prog 16 #[.slice (some ⟨bg, 0, none⟩) 33 bc, .slice da dn dc] wc fun e w' => TellB wc w' e 0 ktarg ∧ Kept [] wc w' := by
  obtain ⟨dd, hdd⟩ := applyE_dec (.inl HKN.out.2.2.1)
  have h := apply_some (some ⟨bg, 0, none⟩) 33 bc kbase da dn dc db wc HBc.out HDc.out (by omega) dd hdd
  rw [HKN.out.2.2.1, HKN.out.2.2.2.1] at h
  exact h
 go_upto_region 6 with (go_at_call 16; refine hP.mono ?_; rintro r wd ⟨⟨ga, gc, rfl, hog⟩, hkd⟩; have hog : wd.ownsRow wc.heap.size 5 1 (.slice ga 18 gc) 18 (bys ktarg) := hog; have Hd := hide (ai hog hkd); clear hP hog hkd)
 have hP2 : Calls Tryz.prog 16 #[.slice (some ⟨bg, 0, none⟩) 32 bc, .slice da dn dc] wd fun e w' => TellB wd w' e 181 [] ∧ Kept [] wd w' := by
  have hb : InB8 wd (some ⟨bg, 0, none⟩) 32 bc (kbase.take 32) := by
   have hb0 := HBc.out.kept Hd.out.2
   refine ⟨by decide, by have := hb0.le; omega, by decide, ?_, fun e => by cases e⟩
   obtain ⟨b1, o1, e1, _, hc⟩ := hb0.sl.open (by decide)
   cases e1
   refine Sl.of fun i hi => ?_
   have h1 : i < 32 := hi
   have h2 := hc i (show i < 33 by omega)
   rw [h2]
   simp [List.getD_eq_getElem?_getD, List.getElem?_take_of_lt h1]
  obtain ⟨dd, hdd⟩ := applyE_dec (.inr HKN.out.2.2.2.2.1)
  have h := apply_some (some ⟨bg, 0, none⟩) 32 bc (kbase.take 32) da dn dc db wd hb (HDc.out.kept Hd.out.2) (by omega) dd hdd
  rw [HKN.out.2.2.2.2.1, HKN.out.2.2.2.2.2.1] at h
  exact h
 have hbc32 : 32 <= bc := by have := HBc.out.le; omega
 have hsame := fun W (hW : Kept [] wd W) => same_yes ga (some ⟨tg, 0, none⟩) 18 gc tc ktarg W rfl (by decide) ((own_sl9 Hd.out.1).kept hW (by simp)) ((HTc.out.sl.kept Hd.out.2 (by simp)).kept hW (by simp))
 go_upto_region 7 with (go_at_call 16; refine hP2.mono ?_; rintro r we ⟨⟨ha, hc, rfl, hoh⟩, hke⟩; have He := hide hke; clear hP2 hke hoh)
 have cv := ((hAc.kept Hd.out.2 (by simp)).kept He.out (by simp)).cell (Sig.cv _ _)
 have hsm := hsame we He.out
 have HKe := hide ((HKc.out.tr Hd.out.2).tr He.out)
 clear hsame hAc
 go_wp2_with (go_at_call 22; refine hsm.mono ?_; rintro r wf ⟨rfl, nf, hwf⟩; clear hsm)
 go_ret
 exact ⟨rfl, HKe.out.drewN nf⟩
end

section
open Dlt
end

section
open Dlt
def OwnB (w : World) (base : Nat) (v : Value) (xs : List UInt8) : Prop := w.ownsRow base 5 1 v xs.length (bys xs)
theorem OwnB.shape {w : World} {base : Nat} {v : Value} {xs : List UInt8} (h : OwnB w base v xs) : ∃ ao cap, v = .slice ao xs.length cap ∧ xs.length <= cap ∧ Sl w ao xs ∧ (∀ a, ao = some a -> ∃ g, a = ⟨g, 0, none⟩ ∧ base <= g ∧ g < w.heap.size ∧ v.ownBlock = some g) ∧ cap <= 9223372036854775807 ∧ (ao = none -> xs = [] ∧ cap = 0) := by
 rcases h.2 with ⟨rfl, h0⟩ | ⟨g, cap, cur, rfl, hb, hg, hn, hc, hs, ht⟩
 ·have : xs = [] := List.eq_nil_of_length_eq_zero h0
  subst this
  exact ⟨none, 0, rfl, Nat.le_refl _, Sl.nil _ _, by simp, by omega, fun _ => ⟨rfl, rfl⟩⟩
 ·refine ⟨_, cap, rfl, hn, fun i hi => ⟨g, 0, rfl, ?_⟩, fun a ha => ?_, by unfold maxLen at hc; omega, by simp⟩
  ·rw [Nat.zero_add, cell_of_row _ _ _ _ _ _ hg]
   have h1 := bys_at hi
   rw [<-ht, List.getElem?_take] at h1
   split at h1
   ·simpa using h1
   ·cases h1
  ·cases ha
   exact ⟨g, rfl, hb, (gs hg).1, rfl⟩
theorem OwnB.kept {l : List Nat} {w w' : World} {base : Nat} {v : Value} {xs : List UInt8} (h : OwnB w base v xs) (hk : Kept l w w') (hn : ∀ g, v.ownBlock = some g -> g ∉ l) : OwnB w' base v xs := by
 refine ⟨h.1, ?_⟩
 rcases h.2 with h0 | ⟨g, cap, cur, hv, hb, hg, rest⟩
 ·exact .inl h0
 ·refine .inr ⟨g, cap, cur, hv, hb, ?_, rest⟩
  rw [hk.block g (gs hg).1 (hn g (by rw [hv]; rfl))]
  exact hg
theorem OwnB.far {w : World} {base : Nat} {v : Value} {xs : List UInt8} (h : OwnB w base v xs) (g : Nat) (hg : v.ownBlock = some g) : base <= g ∧ g < w.heap.size := by
 obtain ⟨ao, cap, rfl, _, _, hb, _⟩ := h.shape
 cases ao with
 | none => simp [Value.ownBlock] at hg
 | some a =>
  obtain ⟨g', rfl, h1, h2, h3⟩ := hb a rfl
  rw [hg] at h3; cases h3; exact ⟨h1, h2⟩
theorem run_appB (w : World) (base : Nat) (v : Value) (xs ys : List UInt8) (h : OwnB w base v xs) (yb yo c : Nat) (hy : ∀ i, i < ys.length -> w.cell? ⟨yb, yo + i, none⟩ = some (.int .u8 (ys.getD i 0).toNat)) (hl : xs.length + ys.length <= 140737488355328) (hb : base <= w.heap.size) :
  ∃ v' w', (Builtin.append_ #[27, 27] 27 #[v, .slice (some ⟨yb, yo, none⟩) ys.length c]).run Tryz.prog w = .ok v' w' ∧ OwnB w' base v' (xs ++ ys) ∧ Kept v.ownBlock.toList w w' := by
 obtain ⟨i0, hi, hz0, hz1, hz2⟩ := info_parts Tryz.infoByte9
 obtain ⟨v', w', hrun, h1', h2, h3, h4⟩ := run_append_own_at (P := Tryz.prog) w base 27 27 5 i0 (.int .u8 0) 1 1 Tryz.underlying27 hi hz0 hz1 hz2 rfl (by omega) v xs.length (bys xs) h ⟨yb, yo, none⟩ ys.length c (bys ys) (by rw [bys_length]; omega)
  (fun j u hj => by obtain ⟨hj', rfl⟩ := bys_get hj; rw [Addr.add_mid]; exact hy j hj') (bys_oneCell ys) (by unfold maxLen; omega) (by omega) hb
 refine ⟨v', w', hrun, ?_, (Kept.refl _ w).grown h2 (fun k hk _ => by simp [hk])⟩
 unfold OwnB
 rw [List.length_append, bys_append]
 exact h1'
theorem run_appSl (w : World) (base : Nat) (v : Value) (xs ys : List UInt8) (h : OwnB w base v xs) (ao : Option Addr) (n c : Nat) (hn : ys.length = n) (hs : Sl w ao ys) (h0 : ao = none -> ys = [] ∧ c = 0) (hl : xs.length + n <= 140737488355328) (hb : base <= w.heap.size) :
  ∃ v' w', (Builtin.append_ #[27, 27] 27 #[v, .slice ao n c]).run Tryz.prog w = .ok v' w' ∧ OwnB w' base v' (xs ++ ys) ∧ Kept v.ownBlock.toList w w' := by
 subst hn
 obtain ⟨i0, hi, hz0, hz1, hz2⟩ := info_parts Tryz.infoByte9
 cases ao with
 | none =>
  obtain ⟨rfl, rfl⟩ := h0 rfl
  refine ⟨v, w, run_append_owned_none (P := Tryz.prog) (w := w) base 27 27 5 i0 1 Tryz.underlying27 hi v xs.length (bys xs) h, by rw [List.append_nil]; exact h, Kept.refl _ _⟩
 | some ad =>
  obtain ⟨v', w', hrun, h1', h2, h3, h4⟩ := run_append_own_at (P := Tryz.prog) w base 27 27 5 i0 (.int .u8 0) 1 1 Tryz.underlying27 hi hz0 hz1 hz2 rfl (by omega) v xs.length (bys xs) h ad ys.length c (bys ys) (by rw [bys_length]; omega)
   (fun j u hj => by
    obtain ⟨hj', rfl⟩ := bys_get hj
    obtain ⟨b', off', e', hc⟩ := hs j hj'
    cases e'
    rw [Addr.add_mid]; exact hc) (bys_oneCell ys) (by unfold maxLen; omega) (by omega) hb
  refine ⟨v', w', hrun, ?_, (Kept.refl _ w).grown h2 (fun k hk _ => by simp [hk])⟩
  unfold OwnB
  rw [List.length_append, bys_append]
  exact h1'
theorem wpList_app_run {ops : Array Oper} {rest : List Oper} {o : Oper} {a : Act} {w : World} {Q : Exit -> Act -> World -> Prop} (hg : o.guard = none) (s x : Operand) (t t2 : TypeId) (ho : o.op = .call { callee := .builtin .append, args := #[s, x], argTypes := #[t, t2] }) (vs vx : Value) (hs : a.eval s = vs) (hx : a.eval x = vx) (v' : Value) (w' : World)
  (hrun : (Builtin.append_ #[t, t2] o.type #[vs, vx]).run Tryz.prog w = .ok v' w') (hK : wpList Tryz.prog ops Q rest (a.put o.dst v') w') : wpList Tryz.prog ops Q (o :: rest) a w :=
 wpList_appendRunL hg s x t t2 ho vs vx hs hx hrun hK
def bm (i : Nat) : UInt8 := UInt8.ofNat (99 + i)
def bms : List UInt8 := (List.range 40).map bm
theorem bm_nat {i : Nat} (h : i < 40) : (bm i).toNat = 99 + i := by
 simp [bm, UInt8.toNat_ofNat', Nat.mod_eq_of_lt (show 99 + i < 256 by omega)]
theorem bm_wrap {i : Nat} (h : i < 40) : IntKind.u8.wrap (99 + (i : Int)) = ((bm i).toNat : Int) := by
 rw [bm_nat h, IntKind.wrap_u8]; omega
theorem bms_len : bms.length = 40 := by simp [bms]
theorem bms_take (k : Nat) (h : k < 40) : bms.take (k + 1) = bms.take k ++ [bm k] := by
 rw [List.take_succ_eq_append_getElem (by rw [bms_len]; exact h)]
 simp [bms]
theorem Tryz.cutBy (W : World) (ao : Option Addr) (L cap m : Nat) (hm : m <= cap) :
  (Instr.slice 27 (.slice ao L cap) none (some (.int .i64 m)) none).run Tryz.prog W = .ok (.slice ao m cap) W := by
 have hz : (sizeOf (Tryz.prog.elem 27)).run Tryz.prog W = .ok 1 W := by kernel_rfl
 have h := run_slice_h (P := Tryz.prog) W 27 ao L cap (by kernel_rfl) .i64 m (by omega) (by omega)
 rw [h, hz]
 cases ao <;> simp [sliced, Addr.add]
structure Cy (w : World) (g n cap : Nat) (xs : List UInt8) : Prop where
 sl : Sl w (some ⟨g, 0, none⟩) xs
 mks : ∀ i, i < 40 -> w.cell? ⟨g, n + i, none⟩ = some (.int .u8 (bm i).toNat)
 len : xs.length = n
 cap : n + 40 <= cap
theorem Cy.kept {l : List Nat} {w w' : World} {g n cap : Nat} {xs : List UInt8} (h : Cy w g n cap xs) (hk : Kept l w w') (hn : g ∉ l) : Cy w' g n cap xs :=
 ⟨h.sl.kept hk (fun _ a ha => by cases ha; exact hn), fun i hi => hk.cellOf (h.mks i hi) hn, h.len, h.cap⟩
theorem cy_of {w : World} {base g n cap : Nat} {xs : List UInt8} (h : OwnB w base (.slice (some ⟨g, 0, none⟩) (n + 40) cap) (xs ++ bms)) (hn : xs.length = n) (hc : n + 40 <= cap) : Cy w g n cap xs := by
 obtain ⟨ao, cap', hv, _, hS, _⟩ := h.shape
 injection hv with q1 q2 q3
 subst q1
 refine ⟨fun i hi => ?_, fun i hi => ?_, hn, hc⟩
 ·obtain ⟨b, off, e, h1⟩ := hS i (by rw [List.length_append]; omega)
  refine ⟨b, off, e, ?_⟩
  rw [h1]
  simp [List.getD, List.getElem?_append_left hi]
 ·obtain ⟨b, off, e, h1⟩ := hS (n + i) (by rw [List.length_append, bms_len]; omega)
  cases e
  rw [Nat.zero_add] at h1
  rw [h1]
  have : (xs ++ bms).getD (n + i) 0 = bm i := by
   rw [<-hn]
   simp [List.getD, bms, hi]
  rw [this]
theorem roomy_ok (ao : Option Addr) (n c : Nat) (xs : List UInt8) (w : World) (hn : xs.length = n) (hL : Sl w ao xs) (h0 : ao = none -> xs = [] ∧ c = 0) (hm : n <= 140737488351232) :
  Calls Tryz.prog 20 #[.slice ao n c] w fun r w' => (∃ g cap, r = .returned (.slice (some ⟨g, 0, none⟩) n cap) ∧ OwnB w' w.heap.size (.slice (some ⟨g, 0, none⟩) (n + 40) cap) (xs ++ bms) ∧ n + 40 <= cap) ∧ Kept [] w w' := by
 obtain ⟨i0, hi, hz0, hz1, hz2⟩ := info_parts Tryz.infoByte9
 have hmk := run_make (P := Tryz.prog) w 27 5 i0 (.int .u8 0) Tryz.underlying27 hi hz0 .i64 .i64 0 ((n + 40 : Nat) : Int) (by omega) (by omega) (by rw [hz2]; omega) (by omega)
 rw [hz1] at hmk
 simp only [Int.toNat_zero, Int.toNat_natCast] at hmk
 have ho1 : OwnB (w.alloc (.cells (madeCells (Value.int .u8 0).cells ((n + 40) * 1)) 5)) w.heap.size (.slice (some ⟨w.heap.size, 0, none⟩) 0 (n + 40)) [] :=
  World.ownsRow_made w _ (n + 40) (Nat.le_refl _) (by unfold maxLen; omega) (size_madeCells _ _)
 have hk1 := ka w (.cells (madeCells (Value.int .u8 0).cells ((n + 40) * 1)) 5)
 generalize w.alloc (.cells (madeCells (Value.int .u8 0).cells ((n + 40) * 1)) 5) = w1 at hmk ho1 hk1
 rw [show ((n + 40 : Nat) : Int) = (n : Int) + 40 by omega] at hmk
 obtain ⟨v2, w2, hrun2, ho2, hk2⟩ := run_appSl w1 w.heap.size _ [] xs ho1 ao n c hn (hL.kept hk1 (by simp)) h0 (by simp; omega) hk1.size
 rw [List.nil_append] at ho2
 have hk12 : Kept [] w w2 := hk1.trans hk2 (fun g hg hlt => by simp [Value.ownBlock] at hg; omega)
 have H2 : Hid (OwnB w2 w.heap.size v2 xs ∧ Kept [] w w2) := ⟨ho2, hk12⟩
 have HN := hide hn
 clear ho1 hk1 ho2 hk2 hk12 hL hn hi hz0 hz1 hz2
 go_enter Tryz.func20, Tryz.ntmps20
 go_wp2_with (refine wpList_app_run rfl (.tmp 8) (.tmp 9) 27 27 rfl (.slice (some ⟨w.heap.size, 0, none⟩) 0 (n + 40)) (.slice ao n c) rfl rfl v2 w2 hrun2 ?_)
 clear hmk hrun2
 go_loopw [3, 4] (fun x y wr => ∃ k : Nat, k <= 40 ∧ y = .int .i64 k ∧ Hid (OwnB wr w.heap.size x (xs ++ bms.take k) ∧ Kept [] w wr)) (fun x y wr => 40 - (intOf y).toNat)
 case atStart => exact ⟨0, Nat.zero_le _, rfl, by show _ ∧ _; simpa using H2.out⟩
 case round =>
  obtain ⟨k, hk, rfl, HK⟩ := hrel
  by_cases hlt : k < 40
  ·have HT := hide (bms_take k hlt)
   have hwu := bm_wrap hlt
   have hll : (xs ++ bms.take k).length = n + k := by rw [List.length_append, List.length_take, bms_len, HN.out]; omega
   generalize bm k = x at hwu HT
   have kN := ka wr (.cells #[.int .u8 x.toNat] 5)
   obtain ⟨v4, w4, hrun4, ho4, hk4⟩ := run_appB (wr.alloc (.cells #[.int .u8 x.toNat] 5)) w.heap.size u3 (xs ++ bms.take k) [x] (HK.out.1.kept kN (by simp)) wr.heap.size 0 1 (fun i hi => by
    have hnew := heap_new wr (.cells #[.int .u8 x.toNat] 5)
    rw [Nat.zero_add, cell_of_row _ _ _ _ _ _ hnew]
    obtain rfl : i = 0 := by simp at hi; omega
    rfl) (by rw [hll]; simp; omega) (Nat.le_trans HK.out.2.size kN.size)
   rw [show [x].length = 1 from rfl] at hrun4
   have H4 : Hid (OwnB w4 w.heap.size v4 (xs ++ bms.take (k + 1)) ∧ Kept [] w w4) := ⟨by rw [HT.out, <-List.append_assoc]; exact ho4, (HK.out.2.tr kN).trans hk4 (fun g hg hl2 => by have := (HK.out.1.far g (by simpa using hg)).1; omega)⟩
   clear ho4 hk4 kN HK hll HT
   go_wp2_with (refine wpList_app_run rfl (.tmp 15) (.tmp 19) 27 27 rfl u3 (.slice (some ⟨wr.heap.size, 0, none⟩) 1 1) rfl rfl v4 w4 hrun4 ?_)
   go_roundw
   case rel => exact ⟨k + 1, by omega, by go_num, H4.out⟩
   case measure => simp [intOf]; omega
  ·obtain rfl : k = 40 := by omega
   have ho := HK.out.1
   rw [List.take_of_length_le (by rw [bms_len]; omega)] at ho
   have hll : (xs ++ bms).length = n + 40 := by rw [List.length_append, bms_len, HN.out]
   rcases ho.2 with ⟨_, h2⟩ | ⟨g, cap, cur, hv, hb, hg, hnn, hc, hs, hta⟩
   ·rw [hll] at h2; omega
   ·rw [hll] at hv hnn
    subst hv
    have hcut := fun W => Tryz.cutBy W (some ⟨g, 0, none⟩) (n + 40) cap n (by omega)
    have HC : Hid ((OwnB wr w.heap.size (.slice (some ⟨g, 0, none⟩) (n + 40) cap) (xs ++ bms) ∧ n + 40 <= cap) ∧ Kept [] w wr) := ⟨⟨ho, hnn⟩, HK.out.2⟩
    clear ho HK hg hs hta hll
    go_wp2
    go_ret
    exact ⟨⟨g, cap, rfl, HC.out.1⟩, HC.out.2⟩
theorem stands_ok (g n cap : Nat) (xs : List UInt8) (bo : Option Addr) (bc : Nat) (w : World) (hC : Cy w g n cap xs) (hE : Sl w bo xs) (hm : n <= 140737488351232) :
  Calls Tryz.prog 23 #[.slice (some ⟨g, 0, none⟩) n cap, .slice bo n bc] w fun r w' => r = .returned (.bool true) ∧ Kept [] w w' := by
 have HC := hide hC
 have HE := hide hE
 have hcap := hC.cap
 have hcut := fun W => Tryz.cutBy W (some ⟨g, 0, none⟩) n cap (n + 40) hcap
 rw [show ((n + 40 : Nat) : Int) = (n : Int) + 40 by omega] at hcut
 clear hC hE
 go_enter Tryz.func23, Tryz.ntmps23
 go_wp2
 clear hcut
 go_loopw [6] (fun x wr => ∃ k : Nat, k <= 40 ∧ x = .int .i64 k ∧ Hid (Kept [] w wr)) (fun x wr => 40 - (intOf x).toNat)
 case atStart => exact ⟨0, Nat.zero_le _, rfl, Kept.refl _ _⟩
 case round =>
  obtain ⟨k, hk, rfl, HK⟩ := hrel
  by_cases hlt : k < 40
  ·have hck : wr.cell? ⟨g, n + k, none⟩ = some (.int .u8 (bm k).toNat) := HK.out.cellOf (HC.out.mks k hlt) (by simp)
   have hwu := bm_wrap hlt
   have hb8 := UInt8.toNat_lt (bm k)
   generalize (bm k).toNat = x at hck hwu hb8
   have hxx : ((x : Int) != (x : Int)) = false := by simp
   go_wp2
   go_roundw
   case rel => exact ⟨k + 1, by omega, by go_num, HK.out⟩
   case measure => simp [intOf]; omega
  ·have hal := same_any (some ⟨g, 0, none⟩) bo n cap n bc xs xs wr HC.out.len HC.out.len (by omega) (HC.out.sl.kept HK.out (by simp)) (HE.out.kept HK.out (by simp))
   rw [decide_eq_true (rfl : xs = xs)] at hal
   go_wp2_with (go_at_call 22; refine hal.mono ?_; rintro r v2 ⟨rfl, m2, rfl⟩; have HK2 := hide (HK.out.drewN m2); clear hal)
   go_ret
   exact ⟨rfl, HK2.out⟩
theorem own_len {w : World} {base : Nat} {ao : Option Addr} {n cap : Nat} {xs : List UInt8} (h : OwnB w base (.slice ao n cap) xs) : xs.length = n := by
 obtain ⟨_, _, e, _⟩ := OwnB.shape h
 injection e with _ e _
 exact e.symm
theorem OwnB.in8 {w : World} {base : Nat} {ao : Option Addr} {n cap : Nat} {xs : List UInt8} (h : OwnB w base (.slice ao n cap) xs) : InB8 w ao n cap xs := by
 have hl := own_len h
 subst hl
 exact own_in8 h
end

section
structure Rw where
 o : Option Addr
 c : Nat
 n : Nat
 vs : List Value
def rw0 : Rw := ⟨none, 0, 0, []⟩
instance : Inhabited Rw := ⟨rw0⟩
def Rw.val (r : Rw) : Value := .slice r.o r.n r.c
def Rw.At (e : TypeId) (s B : Nat) (w : World) (r : Rw) : Prop := w.ownsRow B e s r.val r.n r.vs
def Rw.blk (r : Rw) : Option Nat := r.val.ownBlock
def Off (a b : Option Nat) : Prop := ∀ k, a = some k -> b ≠ some k
theorem Off.symm {a b : Option Nat} (h : Off a b) : Off b a := fun k hb ha => h k ha hb
theorem Off.none (a : Option Nat) : Off a none := fun k _ h => by simp at h
section
variable {e : TypeId} {s B : Nat} {w w' : World}
theorem own_keep {v : Value} {n : Nat} {xs : List Value} {row : Option Nat} (h : w.ownsRow B e s v n xs) (hg : w.grownBy w' row) (hne : Off v.ownBlock row) : w'.ownsRow B e s v n xs := by
 refine h.kept hg ?_
 rcases hb : v.ownBlock with _ | k
 ·exact .inl rfl
 ·exact .inr (fun e => hne k hb e.symm)
theorem Rw.At.keep {r : Rw} {row : Option Nat} (h : r.At e s B w) (hg : w.grownBy w' row) (hne : Off r.blk row) : r.At e s B w' := own_keep h hg hne
theorem Rw.At.blk_lt {r : Rw} (h : r.At e s B w) {k : Nat} (hk : r.blk = some k) : k < w.heap.size := (World.ownsRow.lt h k hk).2
theorem Rw.At.new {r : Rw} (h : r.At e s B w) {k : Nat} (hk : w.heap.size <= k) : Off r.blk (some k) := fun j hj e => by
 have := h.blk_lt hj
 cases e
 omega
theorem own_types {B' s' : Nat} {e' : TypeId} {v v' : Value} {n n' : Nat} {xs xs' : List Value} (h : w.ownsRow B e s v n xs) (h' : w.ownsRow B' e' s' v' n' xs') (he : e ≠ e') : Off v.ownBlock v'.ownBlock := by
 intro k hk hk'
 rcases h.2 with ⟨rfl, _⟩ | ⟨g, cap, cur, rfl, _, hg, _⟩
 ·simp [Value.ownBlock] at hk
 rcases h'.2 with ⟨rfl, _⟩ | ⟨g', cap', cur', rfl, _, hg', _⟩
 ·simp [Value.ownBlock] at hk'
 simp only [Value.ownBlock, Option.some.injEq] at hk hk'
 subst hk
 subst hk'
 rw [hg] at hg'
 injection hg' with hg'
 injection hg' with _ e2 _
 exact he e2
theorem own_front {v v' : Value} {n N : Nat} {xs XS : List Value} (h : w.ownsRow B e s v n xs) (hL : w.ownsRow B e s v' N XS) (hL' : w'.ownsRow B e s v' N XS) (hb : v.ownBlock = v'.ownBlock) (hn : n <= N) : w'.ownsRow B e s v n xs := by
 rcases h.2 with ⟨rfl, h0⟩ | ⟨g, cap, cur, rfl, hbg, hg, hnc, hcm, hcs, htake⟩
 ·exact ⟨h.1, .inl ⟨rfl, h0⟩⟩
 rcases hL.2 with ⟨rfl, _⟩ | ⟨g1, cap1, cur1, rfl, _, hg1, hnc1, _, hcs1, htake1⟩
 ·simp [Value.ownBlock] at hb
 simp only [Value.ownBlock, Option.some.injEq] at hb
 subst hb
 rcases hL'.2 with ⟨e2, _⟩ | ⟨g2, cap2, cur2, e2, _, hg2, hnc2, _, hcs2, htake2⟩
 ·simp at e2
 simp only [Value.slice.injEq, Option.some.injEq, Addr.mk.injEq, and_true, true_and] at e2
 obtain ⟨rfl, rfl⟩ := e2
 rw [hg] at hg1
 injection hg1 with hg1
 injection hg1 with hg1 _ _
 subst hg1
 have hns : n * s <= N * s := Nat.mul_le_mul_right s hn
 refine ⟨h.1, .inr ⟨g, cap, cur2, rfl, hbg, hg2, hnc, hcm, by omega, ?_⟩⟩
 rw [<-htake]
 have h1 := congrArg (List.take (n * s)) htake1
 have h2 := congrArg (List.take (n * s)) htake2
 rw [List.take_take, Nat.min_eq_left hns] at h1 h2
 rw [h1, h2]
theorem run_append_both {P : Program} (t ty : TypeId) (z : Value) (bs : Nat) (ht : P.underlying t = some (.slice e)) (hinf : (P.info? e).map (fun i => (i.zero, i.size, i.bytes)) = some (some z, s, bs)) (hzs : z.cells.size = s) (hs : 0 < s)
  (r : Rw) (m : Nat) (ys : List Value) (yb c0 : Nat) (hown : r.At e s B w) (hyl : ys.length = m * s) (hm : 0 < m) (hy : ∀ j u, ys[j]? = some u -> w.cell? ⟨yb, j, none⟩ = some u) (h1y : ∀ u ∈ ys, u.oneCell' = true) (hl : (r.n + m) * bs <= 140737488355328) (hl2 : r.n + m <= 140737488355328) (hb : B <= w.heap.size) :
  ∃ g c w', (Builtin.append_ #[t, t] ty #[r.val, .slice (some ⟨yb, 0, none⟩) m c0]).run P w = .ok (.slice (some ⟨g, 0, none⟩) (r.n + m) c) w' ∧ (Rw.mk (some ⟨g, 0, none⟩) c (r.n + m) (r.vs ++ ys)).At e s B w' ∧ r.At e s B w' ∧ w.grownBy w' r.blk ∧ (some g = r.blk ∨ g = w.heap.size) := by
 obtain ⟨i0, hi, hz0, hz1, hz2⟩ := info_parts hinf
 have hcl : ∀ j u, ys[j]? = some u -> w.cell? ((⟨yb, 0, none⟩ : Addr).add j) = some u := fun j u hj => by rw [Addr.add_mid, Nat.zero_add]; exact hy j u hj
 obtain ⟨v', w', hrun, h1, h2, h3, h4⟩ := run_append_own_at (P := P) w B t ty e i0 z s bs ht hi hz0 hz1 hz2 hzs hs _ r.n r.vs hown ⟨yb, 0, none⟩ m c0 ys hyl hcl h1y (by unfold maxLen; omega) hl hb
 obtain ⟨g, c, hv⟩ : ∃ g c, v' = .slice (some ⟨g, 0, none⟩) (r.n + m) c := by
  rcases h1.2 with ⟨e, e2⟩ | ⟨g, cap', cur, e, _⟩
  ·omega
  ·exact ⟨g, cap', e⟩
 have hstay : w'.ownsRow B e s r.val r.n r.vs := by
  rcases hown.2 with ⟨e, e2⟩ | ⟨q, cap, cur, he, hbg, hg, hnc, hcm, hcs, htake⟩
  ·exact ⟨hown.1, .inl ⟨e, e2⟩⟩
  ·by_cases hroom : r.n + m <= cap
   ·have hmul := Nat.mul_le_mul_right s hroom
    rw [Nat.add_mul] at hmul
    have hr := run_append_room (P := P) w t ty e i0 ht hi q r.n cap cur hg ⟨yb, 0, none⟩ m c0 ys (by rw [hyl, hz1]) hcl h1y hroom (by rw [hz1, hyl]; omega)
    rw [he, hr] at hrun
    injection hrun with _ hw
    subst hw
    refine ⟨hown.1, .inr ⟨q, cap, _, he, hbg, setRow_heap w q cur _ _ _ hg, hnc, hcm, ?_, ?_⟩⟩
    ·simp only [List.size_toArray, List.length_append, List.length_take, List.length_drop, Array.length_toList, hyl, hz1]
     omega
    ·rw [hz1, <-htake]
     simp only [List.append_assoc]
     rw [List.take_append_of_le_length (by simp; omega), List.take_take, Nat.min_self]
   ·have hr := run_append_grow (P := P) w t ty e i0 z ht hi hz0 ⟨q, 0, none⟩ r.n cap r.vs (by rw [hown.1, hz1]) (hown.cells (g := q) (by rw [he]; rfl)) ⟨yb, 0, none⟩ m c0 ys (by rw [hyl, hz1]) hcl (by omega) (by omega) (growslice_fits (by unfold maxLen at *; omega) (by rw [hz2]; omega))
    rw [he, hr] at hrun
    injection hrun with _ hw
    subst hw
    exact ⟨hown.1, .inr ⟨q, cap, cur, he, hbg, ((World.grownBy_alloc w.drew _ none).block q (gs hg).1 (by simp)).trans hg, hnc, hcm, hcs, htake⟩⟩
 subst hv
 refine ⟨g, c, w', hrun, h1, hstay, h2, ?_⟩
 rcases h4 with h4 | h4
 ·exact .inl h4
 ·simp only [Value.ownBlock, Option.some.injEq] at h4
  exact .inr h4
end
def upr (f : Nat -> Rw) (i : Nat) (a : Rw) : Nat -> Rw := fun j => if j = i then a else f j
theorem upr_same (f : Nat -> Rw) (i : Nat) (a : Rw) : upr f i a i = a := by simp [upr]
theorem upr_other (f : Nat -> Rw) (i j : Nat) (a : Rw) (h : j ≠ i) : upr f i a j = f j := by simp [upr, h]
theorem upr_val (f : Nat -> Rw) (i : Nat) (a : Rw) (h : a.val = (f i).val) (j : Nat) : (upr f i a j).val = (f j).val := by
 by_cases e : j = i
 ·subst e; rw [upr_same, h]
 ·rw [upr_other _ _ _ _ e]
structure Fam (e : TypeId) (s B : Nat) (w : World) (m : Nat) (h : Nat -> Rw) : Prop where
 own : ∀ i, i < m -> (h i).At e s B w
 apart : ∀ i j, i < m -> j < m -> i ≠ j -> Off (h i).blk (h j).blk
section
variable {e : TypeId} {s B : Nat} {w w' : World} {m : Nat} {h : Nat -> Rw}
theorem Fam.grow {row : Option Nat} (F : Fam e s B w m h) (hg : w.grownBy w' row) (hr : ∀ i, i < m -> Off (h i).blk row) : Fam e s B w' m h :=
 ⟨fun i hi => (F.own i hi).keep hg (hr i hi), F.apart⟩
theorem Fam.more (F : Fam e s B w m h) {r : Rw} (hr : r.At e s B w) (hn : ∀ i, i < m -> Off (h i).blk r.blk) : Fam e s B w (m + 1) (upr h m r) := by
 refine ⟨fun i hi => ?_, fun i j hi hj hne => ?_⟩
 ·by_cases e : i = m
  ·subst e; rw [upr_same]; exact hr
  ·rw [upr_other _ _ _ _ e]; exact F.own i (by omega)
 ·by_cases e : i = m
  ·subst e
   rw [upr_same, upr_other _ _ _ _ (by omega)]
   exact (hn j (by omega)).symm
  ·rw [upr_other _ _ _ _ e]
   by_cases e' : j = m
   ·subst e'; rw [upr_same]; exact hn i (by omega)
   ·rw [upr_other _ _ _ _ e']; exact F.apart i j (by omega) (by omega) hne
theorem Fam.turn (F : Fam e s B w m h) {i : Nat} (hi : i < m) {vs : List Value} (hn : (Rw.mk (h i).o (h i).c (h i).n vs).At e s B w') (hg : w.grownBy w' (h i).blk) : Fam e s B w' m (upr h i ⟨(h i).o, (h i).c, (h i).n, vs⟩) := by
 have hv : (Rw.mk (h i).o (h i).c (h i).n vs).val = (h i).val := rfl
 have hb2 : ∀ j, (upr h i ⟨(h i).o, (h i).c, (h i).n, vs⟩ j).blk = (h j).blk := fun j => by unfold Rw.blk; rw [upr_val h i _ hv]
 refine ⟨fun j hj => ?_, fun a b ha hb hab => by rw [hb2, hb2]; exact F.apart a b ha hb hab⟩
 by_cases e : j = i
 ·subst e
  rw [upr_same]
  exact hn
 ·rw [upr_other _ _ _ _ e]
  exact (F.own j hj).keep hg (F.apart j i hj hi e)
end
theorem Rw.At.set {e : TypeId} {s B : Nat} {w : World} {r : Rw} (h : r.At e s B w) {g k : Nat} (ho : r.o = some ⟨g, 0, none⟩) (v : Value) : (Rw.mk r.o r.c r.n (r.vs.set k v)).At e s B (w.setCell ⟨g, k, none⟩ v) ∧ w.grownBy (w.setCell ⟨g, k, none⟩ v) r.blk := by
 unfold Rw.At Rw.val at h
 rw [ho] at h
 obtain ⟨h1, h2⟩ := h.stored k v
 have hbi : r.blk = some g := by unfold Rw.blk Rw.val; rw [ho]; rfl
 rw [hbi]
 refine ⟨?_, h2⟩
 unfold Rw.At Rw.val
 rw [ho]
 exact h1
structure Lx (e : TypeId) (s B : Nat) (w : World) (m : Nat) (h : Nat -> Rw) (c : Nat) (lf : Nat -> Rw) : Prop where
 fam : Fam e s B w m h
 own : ∀ j, j < c -> (lf j).At e s B w
 far : ∀ j j', j < c -> j' < m -> j ≠ j' -> Off (lf j).blk (h j').blk
 far2 : ∀ j j', j < c -> j' < c -> j ≠ j' -> Off (lf j).blk (lf j').blk
 len : ∀ j, j < c -> (h j).n <= (lf j).n
section
variable {e : TypeId} {s B : Nat} {w w' : World} {m c : Nat} {h lf : Nat -> Rw}
theorem Lx.grow {row : Option Nat} (L : Lx e s B w m h c lf) (hg : w.grownBy w' row) (hr : ∀ i, i < m -> Off (h i).blk row) (hr2 : ∀ i, i < c -> Off (lf i).blk row) : Lx e s B w' m h c lf :=
 ⟨L.fam.grow hg hr, fun j hj => (L.own j hj).keep hg (hr2 j hj), L.far, L.far2, L.len⟩
theorem Lx.start {i : Nat} (L : Lx e s B w m h i lf) (hi : i < m) : Lx e s B w m h (i + 1) (upr lf i (h i)) := by
 have hU : ∀ j, j < i -> upr lf i (h i) j = lf j := fun j hj => upr_other _ _ _ _ (by omega)
 refine ⟨L.fam, fun j hj => ?_, fun j j' hj hj' hne => ?_, fun j j' hj hj' hne => ?_, fun j hj => ?_⟩
 ·by_cases e : j = i
  ·subst e; rw [upr_same]; exact L.fam.own j hi
  ·rw [hU j (by omega)]; exact L.own j (by omega)
 ·by_cases e : j = i
  ·subst e; rw [upr_same]; exact L.fam.apart j j' hi hj' hne
  ·rw [hU j (by omega)]; exact L.far j j' (by omega) hj' hne
 ·by_cases e : j = i
  ·subst e
   rw [upr_same, hU j' (by omega)]
   exact (L.far j' j (by omega) hi (by omega)).symm
  ·rw [hU j (by omega)]
   by_cases e' : j' = i
   ·subst e'; rw [upr_same]; exact L.far j j' (by omega) hi (by omega)
   ·rw [hU j' (by omega)]; exact L.far2 j j' (by omega) (by omega) hne
 ·by_cases e : j = i
  ·subst e; rw [upr_same]; exact Nat.le_refl _
  ·rw [hU j (by omega)]; exact L.len j (by omega)
theorem Lx.app {i : Nat} {r : Rw} (L : Lx e s B w m h (i + 1) lf) (hi : i < m) (hn : r.At e s B w') (hs : (lf i).At e s B w') (hg : w.grownBy w' (lf i).blk) (hb : r.blk = (lf i).blk ∨ ∀ k, r.blk = some k -> w.heap.size <= k) (hl : (lf i).n <= r.n) : Lx e s B w' m h (i + 1) (upr lf i r) := by
 have hU : ∀ j, j ≠ i -> upr lf i r j = lf j := fun j hj => upr_other _ _ _ _ hj
 have hOf : ∀ {x : Rw}, x.At e s B w -> Off (lf i).blk x.blk -> Off r.blk x.blk := fun {x} hx ho => by
  rcases hb with hb | hb
  ·rw [hb]; exact ho
  ·intro k h1 h2
   have := hx.blk_lt h2
   have := hb k h1
   omega
 refine ⟨⟨fun j hj => ?_, L.fam.apart⟩, fun j hj => ?_, fun j j' hj hj' hne => ?_, fun j j' hj hj' hne => ?_, fun j hj => ?_⟩
 ·by_cases e : j = i
  ·subst e
   by_cases hbb : (h j).blk = (lf j).blk
   ·exact own_front (L.fam.own j hj) (L.own j (by omega)) hs hbb (L.len j (by omega))
   ·exact (L.fam.own j hj).keep hg (fun k h1 h2 => hbb (by rw [h1, h2]))
  ·exact (L.fam.own j hj).keep hg (L.far i j (by omega) hj (by omega)).symm
 ·by_cases e : j = i
  ·subst e; rw [upr_same]; exact hn
  ·rw [hU j e]; exact (L.own j hj).keep hg (L.far2 j i hj (by omega) e)
 ·by_cases e : j = i
  ·subst e; rw [upr_same]; exact hOf (L.fam.own j' hj') (L.far j j' (by omega) hj' hne)
  ·rw [hU j e]; exact L.far j j' hj hj' hne
 ·by_cases e : j = i
  ·subst e
   rw [upr_same, hU j' (by omega)]
   exact hOf (L.own j' hj') (L.far2 j j' (by omega) hj' hne)
  ·rw [hU j e]
   by_cases e' : j' = i
   ·subst e'
    rw [upr_same]
    exact (hOf (L.own j hj) (L.far2 j' j (by omega) hj (by omega))).symm
   ·rw [hU j' e']; exact L.far2 j j' hj hj' hne
 ·by_cases e : j = i
  ·subst e; rw [upr_same]; exact Nat.le_trans (L.len j hj) hl
  ·rw [hU j e]; exact L.len j hj
end
def vals (m : Nat) (f : Nat -> Rw) : List Value := (List.range m).map (fun i => (f i).val)
theorem vals_at (m : Nat) (f : Nat -> Rw) (i : Nat) (hi : i < m) : (vals m f)[i]? = some (f i).val := by simp [vals, hi]
theorem vals_succ (m : Nat) (f : Nat -> Rw) : vals (m + 1) f = vals m f ++ [(f m).val] := by simp [vals, List.range_succ]
theorem vals_congr {m : Nat} {f g : Nat -> Rw} (h : ∀ i, i < m -> (f i).val = (g i).val) : vals m f = vals m g := by
 unfold vals
 exact List.map_congr_left (fun i hi => h i (by simpa using hi))
theorem kept_grown {l : List Nat} {w w' : World} {row : Option Nat} (h : Kept l w w') (hl : ∀ g ∈ l, row = some g) : w.grownBy w' row :=
 ⟨h.os, h.tape, h.output, h.size, fun k hk hne => h.block k hk (fun hm => hne (hl k hm).symm)⟩
theorem grown_kept {w w' : World} {row : Option Nat} (h : w.grownBy w' row) : Kept row.toList w w' := (Kept.refl _ w).grown h (fun k hk _ => by simp [hk])
theorem grown_trans {w w' w'' : World} {row : Option Nat} (h : w.grownBy w' row) (h' : w'.grownBy w'' row) : w.grownBy w'' row :=
 ⟨h'.os.trans h.os, h'.tape.trans h.tape, h'.output.trans h.output, Nat.le_trans h.size h'.size, fun k hk hne => by rw [h'.block k (Nat.lt_of_lt_of_le hk h.size) hne, h.block k hk hne]⟩
def ext (vs : List Value) (k : Nat) (ys : List Value) : List Value := vs ++ (List.replicate k ys).flatten
theorem ext_zero (vs ys : List Value) : ext vs 0 ys = vs := by simp [ext]
theorem ext_succ (vs ys : List Value) (k : Nat) : ext vs k ys ++ ys = ext vs (k + 1) ys := by
 simp [ext, List.replicate_succ']
def Cd (h lf : Nat -> Rw) (N : Nat) (ys : Nat -> List Value) (i : Nat) : Prop := ∀ j, j < i -> (lf j).n = (h j).n + N ∧ (lf j).vs = ext (h j).vs N (ys j)
def Cu (h lf : Nat -> Rw) (ys : Nat -> List Value) (i k : Nat) : Prop := (lf i).n = (h i).n + k ∧ (lf i).vs = ext (h i).vs k (ys i)
theorem Cd.start (h lf : Nat -> Rw) (N : Nat) (ys : Nat -> List Value) : Cd h lf N ys 0 := fun j hj => absurd hj (by omega)
theorem Cd.lay {h lf : Nat -> Rw} {N : Nat} {ys : Nat -> List Value} {i : Nat} (hd : Cd h lf N ys i) (r : Rw) : Cd h (upr lf i r) N ys i := fun j hj => by
 rw [upr_other _ _ _ _ (by omega)]; exact hd j hj
theorem Cu.start (h lf : Nat -> Rw) (ys : Nat -> List Value) (i : Nat) : Cu h (upr lf i (h i)) ys i 0 := by
 unfold Cu; rw [upr_same, ext_zero]; exact ⟨rfl, rfl⟩
theorem Cu.step {h lf : Nat -> Rw} {ys : Nat -> List Value} {i k : Nat} (hu : Cu h lf ys i k) {r : Rw} (hn : r.n = (lf i).n + 1) (hv : r.vs = (lf i).vs ++ ys i) : Cu h (upr lf i r) ys i (k + 1) := by
 unfold Cu; rw [upr_same, hn, hv, hu.1, hu.2, ext_succ]; exact ⟨by omega, rfl⟩
theorem Cd.next {h lf : Nat -> Rw} {N : Nat} {ys : Nat -> List Value} {i : Nat} (hd : Cd h lf N ys i) (hu : Cu h lf ys i N) : Cd h lf N ys (i + 1) := fun j hj => by
 by_cases e : j = i
 ·subst e; exact hu
 ·exact hd j (by omega)
structure Gx (e te : TypeId) (s B : Nat) (wr : World) (m : Nat) (h : Nat -> Rw) (rR : Rw) (c : Nat) (lf : Nat -> Rw) (cc : Nat) (rG : Rw) : Prop where
 ne : e ≠ te
 lx : Lx e s B wr m h c lf
 oR : rR.At te 1 B wr
 nR : rR.n = m
 vR : rR.vs = vals m h
 oG : rG.At te 1 B wr
 nG : rG.n = cc
 vG : rG.vs = vals cc lf
 le : cc <= c
 apart : Off rR.blk rG.blk
section
variable {e te : TypeId} {s B : Nat} {w wr wr' : World} {m c cc : Nat} {h lf : Nat -> Rw} {rR rG : Rw}
theorem Gx.grow {row : Option Nat} (G : Gx e te s B wr m h rR c lf cc rG) (hg : wr.grownBy wr' row) (h1 : ∀ i, i < m -> Off (h i).blk row) (h2 : ∀ i, i < c -> Off (lf i).blk row) (h3 : Off rR.blk row) (h4 : Off rG.blk row) : Gx e te s B wr' m h rR c lf cc rG :=
 ⟨G.ne, G.lx.grow hg h1 h2, G.oR.keep hg h3, G.nR, G.vR, G.oG.keep hg h4, G.nG, G.vG, G.le, G.apart⟩
theorem Gx.kept (G : Gx e te s B wr m h rR c lf cc rG) (hk : Kept [] wr wr') : Gx e te s B wr' m h rR c lf cc rG :=
 G.grow (kept_grown (row := none) hk (by simp)) (fun _ _ => Off.none _) (fun _ _ => Off.none _) (Off.none _) (Off.none _)
theorem Gx.other {e' : TypeId} {s' B' n' : Nat} {v' : Value} {xs' : List Value} (G : Gx e te s B wr m h rR c lf cc rG) (ho : wr.ownsRow B' e' s' v' n' xs') (n1 : e ≠ e') (n2 : te ≠ e') (hg : wr.grownBy wr' v'.ownBlock) : Gx e te s B wr' m h rR c lf cc rG :=
 G.grow hg (fun i hi => own_types (G.lx.fam.own i hi) ho n1) (fun i hi => own_types (G.lx.own i hi) ho n1) (own_types G.oR ho n2) (own_types G.oG ho n2)
theorem Gx.start (G : Gx e te s B wr m h rR cc lf cc rG) (hc : cc < m) : Gx e te s B wr m h rR (cc + 1) (upr lf cc (h cc)) cc rG :=
 ⟨G.ne, G.lx.start hc, G.oR, G.nR, G.vR, G.oG, G.nG, by rw [G.vG]; exact vals_congr (fun i hi => by rw [upr_other _ _ _ _ (by omega)]), by omega, G.apart⟩
theorem Gx.app {P : Program} (t : TypeId) (z : Value) (bs : Nat) (ht : P.underlying t = some (.slice e)) (hinf : (P.info? e).map (fun i => (i.zero, i.size, i.bytes)) = some (some z, s, bs)) (hzs : z.cells.size = s) (hs : 0 < s)
  (G : Gx e te s B wr m h rR (cc + 1) lf cc rG) (hc : cc < m) (ys : List Value) (hyl : ys.length = s) (h1y : ∀ u ∈ ys, u.oneCell' = true) (hl : ((lf cc).n + 1) * bs <= 140737488355328) (hl2 : (lf cc).n + 1 <= 140737488355328) (hb : B <= wr.heap.size) :
  ∃ r w', (Builtin.append_ #[t, t] t #[(lf cc).val, .slice (some ⟨wr.heap.size, 0, none⟩) 1 1]).run P (wr.alloc (.cells ys.toArray e)) = .ok r.val w' ∧ Gx e te s B w' m h rR (cc + 1) (upr lf cc r) cc rG ∧ r.n = (lf cc).n + 1 ∧ r.vs = (lf cc).vs ++ ys ∧ (lf cc).At e s B wr ∧ wr.grownBy w' (lf cc).blk := by
 have kN := ka wr (.cells ys.toArray e)
 have hnew := heap_new wr (.cells ys.toArray e)
 have G1 := G.kept kN
 have hown := G1.lx.own cc (by omega)
 have hsz : wr.heap.size <= (wr.alloc (.cells ys.toArray e)).heap.size := kN.size
 obtain ⟨g, c', w', hrun, hn, hst, hg, hbk⟩ := run_append_both (P := P) t t z bs ht hinf hzs hs (lf cc) 1 ys wr.heap.size 1 hown (by omega) (by decide) (fun j u hj => by rw [cell_of_row _ _ _ _ _ _ hnew]; simpa using hj) h1y hl hl2 (by omega)
 have L := G1.lx.app (r := ⟨some ⟨g, 0, none⟩, c', (lf cc).n + 1, (lf cc).vs ++ ys⟩) hc hn hst hg (by
  rcases hbk with hbk | hbk
  ·exact .inl hbk
  ·right; intro k hk; cases hk; exact Nat.le_of_eq hbk.symm) (by show _ <= (lf cc).n + 1; omega)
 refine ⟨⟨some ⟨g, 0, none⟩, c', (lf cc).n + 1, (lf cc).vs ++ ys⟩, w', hrun, ⟨G.ne, L, G1.oR.keep hg (own_types G1.oR hown (Ne.symm G.ne)), G.nR, G.vR, G1.oG.keep hg (own_types G1.oG hown (Ne.symm G.ne)), G.nG, ?_, by omega, G.apart⟩, rfl, rfl, G.lx.own cc (by omega), ?_⟩
 ·rw [G.vG]; exact vals_congr (fun i hi => by rw [upr_other _ _ _ _ (by omega)])
 ·exact grown_trans (kept_grown kN (by simp)) hg
theorem Gx.push {P : Program} (t : TypeId) (ht : P.underlying t = some (.slice te)) (hinf : (P.info? te).map (fun i => (i.zero, i.size, i.bytes)) = some (some (.slice none 0 0), 1, 24))
  (G : Gx e te s B wr m h rR (cc + 1) lf cc rG) (hc : cc < 1000000) (hb : B <= wr.heap.size) :
  ∃ r w', (Builtin.append_ #[t, t] t #[rG.val, .slice (some ⟨wr.heap.size, 0, none⟩) 1 1]).run P (wr.alloc (.cells #[(lf cc).val] te)) = .ok r.val w' ∧ Gx e te s B w' m h rR (cc + 1) lf (cc + 1) r ∧ rG.At te 1 B wr ∧ wr.grownBy w' rG.blk := by
 have kN := ka wr (.cells #[(lf cc).val] te)
 have hnew := heap_new wr (.cells #[(lf cc).val] te)
 have G1 := G.kept kN
 have hsz : wr.heap.size <= (wr.alloc (.cells #[(lf cc).val] te)).heap.size := kN.size
 have hnG := G.nG
 obtain ⟨g, c', w', hrun, hn, hst, hg, hbk⟩ := run_append_both (P := P) t t (.slice none 0 0) 24 ht hinf rfl (by decide) rG 1 [(lf cc).val] wr.heap.size 1 G1.oG (by simp) (by decide) (fun j u hj => by rw [cell_of_row _ _ _ _ _ _ hnew]; simpa using hj) (by simp [Rw.val, Value.oneCell']) (by omega) (by omega) (by omega)
 have hU : vals (cc + 1) lf = vals cc lf ++ [(lf cc).val] := vals_succ cc lf
 refine ⟨⟨some ⟨g, 0, none⟩, c', rG.n + 1, rG.vs ++ [(lf cc).val]⟩, w', hrun, ⟨G.ne, G1.lx.grow hg (fun i hi => own_types (G1.lx.fam.own i hi) G1.oG G.ne) (fun i hi => own_types (G1.lx.own i hi) G1.oG G.ne), G1.oR.keep hg G.apart, G.nR, G.vR, hn, by show rG.n + 1 = _; rw [hnG], by show rG.vs ++ _ = _; rw [hU, G.vG], by omega, ?_⟩, G.oG, ?_⟩
 ·rcases hbk with hbk | hbk
  ·show Off rR.blk (some g); rw [hbk]; exact G.apart
  ·show Off rR.blk (some g); rw [hbk]; exact G1.oR.new (Nat.le_refl _)
 ·exact grown_trans (kept_grown kN (by simp)) hg
theorem Gx.turn (G : Gx e te s B wr m h rR 0 lf 0 rG) {i : Nat} (hi : i < m) {vs : List Value} (hn : (Rw.mk (h i).o (h i).c (h i).n vs).At e s B wr') (hg : wr.grownBy wr' (h i).blk) : Gx e te s B wr' m (upr h i ⟨(h i).o, (h i).c, (h i).n, vs⟩) rR 0 lf 0 rG := by
 have hat := G.lx.fam.own i hi
 refine ⟨G.ne, ⟨G.lx.fam.turn hi hn hg, fun j hj => absurd hj (by omega), fun j j' hj => absurd hj (by omega), fun j j' hj => absurd hj (by omega), fun j hj => absurd hj (by omega)⟩, G.oR.keep hg (own_types G.oR hat (Ne.symm G.ne)), G.nR, ?_, G.oG.keep hg (own_types G.oG hat (Ne.symm G.ne)), G.nG, G.vG, G.le, G.apart⟩
 rw [G.vR]
 exact (vals_congr (fun j _ => upr_val h i ⟨(h i).o, (h i).c, (h i).n, vs⟩ rfl j)).symm
theorem Gx.begin (hne : e ≠ te) (F : Fam e s B wr m h) {rR : Rw} (hR : rR.At te 1 B wr) (nR : rR.n = m) (vR : rR.vs = vals m h) : Gx e te s B wr m h rR 0 h 0 rw0 :=
 ⟨hne, ⟨F, fun j hj => absurd hj (by omega), fun j j' hj => absurd hj (by omega), fun j j' hj => absurd hj (by omega), fun j hj => absurd hj (by omega)⟩, hR, nR, vR, World.ownsRow_nil _ _ _ _, rfl, rfl, Nat.le_refl _, Off.none _⟩
theorem rw_cell {B' : Nat} {r : Rw} {n : Nat} {f : Nat -> Rw} (hr : r.At te 1 B' wr) (hn : r.n = n) (hv : r.vs = vals n f) {i : Nat} (hi : i < n) : ∃ g, r.o = some ⟨g, 0, none⟩ ∧ wr.cell? ⟨g, i, none⟩ = some (f i).val := by
 rcases hr.2 with ⟨_, h0⟩ | ⟨g, cap, cur, hv', _, hg, _, _, _, ht⟩
 ·omega
 ·unfold Rw.val at hv'
  injection hv' with e1 _ _
  refine ⟨g, e1, ?_⟩
  rw [cell_of_row _ _ _ _ _ _ hg]
  have h1 := vals_at n f i hi
  rw [<-hv, <-ht, List.getElem?_take] at h1
  split at h1
  ·simpa using h1
  ·cases h1
end
end

end Go.Proofs.YtmklodligplbaabGreat
