import Derived.Test.YtmklodligplbaabGreatD9uo
open Go.RowKit
set_option linter.unusedVariables false
set_option linter.unusedSimpArgs false
set_option maxRecDepth 100000
set_option maxHeartbeats 0
namespace Go.Proofs.YtmklodligplbaabGreat
section
open Dlt
theorem own_in8 {w : World} {base : Nat} {ao : Option Addr} {n cap : Nat} {xs : List UInt8} (h : w.ownsRow base 5 1 (.slice ao n cap) n (bys xs)) : InB8 w ao n cap xs := by
 have hl : xs.length = n := by have := h.1; rw [bys_length] at this; omega
 refine ⟨hl, ?_, ?_, own_sl9 h, ?_⟩
 ·obtain ⟨_, _, e, he⟩ := own_shape h; cases e; exact he
 ·rcases h.2 with ⟨e, hn⟩ | ⟨g, cap', cur, e, _, _, hn, hc, _⟩
  ·omega
  ·unfold maxLen at hc; omega
 ·rintro rfl
  rcases h.2 with ⟨e, hn⟩ | ⟨g, cap', cur, e, _⟩
  ·cases e
   exact ⟨List.eq_nil_of_length_eq_zero (by omega), rfl⟩
  ·cases e
theorem own_kept9 {w w' : World} {l : List Nat} {base : Nat} {e : TypeId} {s : Nat} {v : Value} {n : Nat} {xs : List Value} (h : w.ownsRow base e s v n xs) (hk : Kept l w w') (hl : ∀ i, i ∈ l -> ∀ g, v.ownBlock = some g -> i ≠ g) : w'.ownsRow base e s v n xs :=
 own_same h (fun g hg => hk.block g (own_blk h hg).2.1 (fun hm => hl g hm g hg rfl))
theorem own_one9 (w : World) (x : UInt8) : (w.alloc (.cells #[.int .u8 x.toNat] 5)).ownsRow w.heap.size 5 1 (.slice (some ⟨w.heap.size, 0, none⟩) 1 1) 1 (bys [x]) :=
 ⟨rfl, .inr ⟨w.heap.size, 1, _, rfl, Nat.le_refl _, heap_new w _, Nat.le_refl _, by decide, rfl, rfl⟩⟩
theorem own_head {w : World} {base : Nat} {v : Value} {n : Nat} {xs : List UInt8} (h : w.ownsRow base 5 1 v n (bys xs)) (h0 : n ≠ 0) : ∃ g cap, v = .slice (some ⟨g, 0, none⟩) n cap ∧ base <= g ∧ n <= cap ∧ g < w.heap.size := by
 rcases h.2 with ⟨e, hn⟩ | ⟨g, cap', cur, e, hb, hg, hn, _⟩
 ·exact absurd hn h0
 ·exact ⟨g, cap', e, hb, hn, (gs hg).1⟩
theorem known18_ok (w : World) : Calls Tryz.prog 7 #[] w fun e w' => e = .returned (.bool true) ∧ Kept [] w w' := by
 have hz := Tryz.zeroSig
 have hr1 : ∀ W, Calls Tryz.prog 27 #[.int .u8 1] W fun e w' => e = .returned (.slice (some ⟨W.heap.size, 0, none⟩) 16 16) ∧ w'.ownsRow W.heap.size 5 1 (.slice (some ⟨W.heap.size, 0, none⟩) 16 16) 16 (bys (row16 1)) ∧ Kept [] W w' := fun W => row18_ok 1 W
 have hr2 : ∀ W, Calls Tryz.prog 27 #[.int .u8 2] W fun e w' => e = .returned (.slice (some ⟨W.heap.size, 0, none⟩) 16 16) ∧ w'.ownsRow W.heap.size 5 1 (.slice (some ⟨W.heap.size, 0, none⟩) 16 16) 16 (bys (row16 2)) ∧ Kept [] W w' := fun W => row18_ok 2 W
 have HR3 := hide hr1
 go_enter Tryz.func7, Tryz.ntmps7
 go_upto_region 2 with (first
  | (go_at_call 27; refine (hr1 _).mono ?_; rintro r w1 ⟨rfl, ho1, hk1⟩; have H1 := hide (ai ho1 hk1); clear hr1 ho1 hk1)
  | (go_at_call 27; refine (hr2 _).mono ?_; rintro r w2 ⟨rfl, ho2, hk2⟩; obtain ⟨v3, w3, hrun3, ho3, hk3⟩ := app9 (own_kept9 H1.out.1 hk2 (by simp)) (Nat.le_trans H1.out.2.size hk2.size) (some ⟨w1.heap.size, 0, none⟩) 16 16 (row16 2) rfl (by simp [row16]) (own_sl9 ho2) (by omega); obtain ⟨g3, c3, rfl, hg3, _, _⟩ := own_head ho3 (by decide); have H3 := hide (ai ho3 (ai hk2 hk3)); clear hr2 ho2 hk2 ho3 hk3)
  | (refine wpList_appendRunL rfl (.tmp 11) (.tmp 12) 27 27 rfl (.slice (some ⟨w.heap.size, 0, none⟩) 16 16) (.slice (some ⟨w1.heap.size, 0, none⟩) 16 16) rfl rfl hrun3 ?_; clear hrun3; obtain ⟨v5, w5, hrun5, ho5, hk5⟩ := app9 (own_kept9 H3.out.1 ((Kept.refl [] w3).alloc (.cells #[.int .u8 3] 5)) (by simp)) (Nat.le_trans (Nat.le_trans H1.out.2.size (Nat.le_trans H3.out.2.1.size H3.out.2.2.size)) (((Kept.refl [] w3).alloc (.cells #[.int .u8 3] 5)).size)) (some ⟨w3.heap.size, 0, none⟩) 1 1 [3] rfl (by simp) (own_sl9 (own_one9 w3 3)) (by omega); obtain ⟨bg, bc, rfl, hbg, hbc, hbl⟩ := own_head ho5 (by decide); have H5 := hide (ai ho5 hk5); clear ho5 hk5)
  | (refine wpList_appendRunL rfl (.tmp 13) (.tmp 14) 27 27 rfl (.slice (some ⟨g3, 0, none⟩) 32 c3) (.slice (some ⟨w3.heap.size, 0, none⟩) 1 1) rfl rfl hrun5 ?_; clear hrun5))
 have k13 : Kept [] w w3 := (H1.out.2.tr H3.out.2.1).trans H3.out.2.2 (by simp [Value.ownBlock])
 have hv3 := fun g hg => (own_blk H3.out.1 (g := g) hg).1
 have k15 : Kept [] w w5 := (k13.trans ((Kept.refl [] w3).alloc (.cells #[.int .u8 3] 5)) (by simp)).trans H5.out.2 (fun i hi hl => by
  rw [Option.mem_toList] at hi
  have := hv3 i hi
  omega)
 have HB : Hid (w5.ownsRow w.heap.size 5 1 (.slice (some ⟨bg, 0, none⟩) 33 bc) 33 (bys kbase)) := H5.out.1
 have HK5 := hide k15
 clear H1 H3 H5 k13 k15 hv3
 have hr3 := HR3.out
 clear HR3
 go_upto_region 3 with (first
  | (go_at_call 27; refine (hr3 _).mono ?_; rintro r w6 ⟨rfl, ho6, hk6⟩; rw [show (w5.alloc (.cells #[.int .u8 9] 5)).heap.size = w5.heap.size + 1 by simp] at ho6 ⊢; obtain ⟨v7, w7, hrun7, ho7, hk7⟩ := app9 (own_kept9 (own_one9 w5 9) hk6 (by simp)) (Nat.le_trans ((Kept.refl [] w5).alloc (.cells #[.int .u8 9] 5)).size hk6.size) (some ⟨w5.heap.size + 1, 0, none⟩) 16 16 (row16 1) rfl (by simp [row16]) (own_sl9 ho6) (by omega); obtain ⟨g7, c7, rfl, hg7, _, _⟩ := own_head ho7 (by decide); have H7 := hide (ai ho7 (ai hk6 hk7)); clear hr3 ho6 hk6 ho7 hk7)
  | (refine wpList_appendRunL rfl (.tmp 16) (.tmp 17) 27 27 rfl (.slice (some ⟨w5.heap.size, 0, none⟩) 1 1) (.slice (some ⟨w5.heap.size + 1, 0, none⟩) 16 16) rfl rfl hrun7 ?_; clear hrun7; obtain ⟨v9, w9, hrun9, ho9, hk9⟩ := app9 (own_kept9 H7.out.1 ((Kept.refl [] w7).alloc (.cells #[.int .u8 8] 5)) (by simp)) (Nat.le_trans ((Kept.refl [] w5).alloc (.cells #[.int .u8 9] 5)).size (Nat.le_trans (Nat.le_trans H7.out.2.1.size H7.out.2.2.size) (((Kept.refl [] w7).alloc (.cells #[.int .u8 8] 5)).size))) (some ⟨w7.heap.size, 0, none⟩) 1 1 [8] rfl (by simp) (own_sl9 (own_one9 w7 8)) (by omega); obtain ⟨tg, tc, rfl, htg, htc, htl⟩ := own_head ho9 (by decide); have H9 := hide (ai ho9 hk9); clear ho9 hk9)
  | (refine wpList_appendRunL rfl (.tmp 18) (.tmp 19) 27 27 rfl (.slice (some ⟨g7, 0, none⟩) 17 c7) (.slice (some ⟨w7.heap.size, 0, none⟩) 1 1) rfl rfl hrun9 ?_; clear hrun9))
 have k57 : Kept [] w5 w7 := (((Kept.refl [] w5).alloc (.cells #[.int .u8 9] 5)).tr H7.out.2.1).trans H7.out.2.2 (by simp [Value.ownBlock])
 have hv7 := fun g hg => (own_blk H7.out.1 (g := g) hg).1
 have k59 : Kept [] w5 w9 := (k57.trans ((Kept.refl [] w7).alloc (.cells #[.int .u8 8] 5)) (by simp)).trans H9.out.2 (fun i hi hl => by
  rw [Option.mem_toList] at hi
  have := hv7 i hi
  omega)
 have HT : Hid (w9.ownsRow w5.heap.size 5 1 (.slice (some ⟨tg, 0, none⟩) 18 tc) 18 (bys ktarg)) := H9.out.1
 have HB9 := hide (own_kept9 HB.out k59 (by simp))
 have HK9 := hide (HK5.out.tr k59)
 clear H7 H9 k57 k59 hv7 HB HK5 hbl htl hbg htg
 obtain ⟨sg, hsg⟩ := nm (sign 32 kbase 16)
 obtain ⟨db, hdb⟩ := nm (makeB sg ktarg)
 have hS : Calls Tryz.prog 13 #[.int .i64 32, .slice (some ⟨bg, 0, none⟩) 33 bc, .int .i64 16] w9 fun e w' => TellS w9 w' e 0 sg ∧ Kept [] w9 w' := by
  have h := sign_ok 32 (some ⟨bg, 0, none⟩) 33 bc 16 kbase w9 rfl (own_in8 HB9.out).le (own_in8 HB9.out).sl (by decide)
  rw [show signE 32 33 16 = 0 from kn_sign.1, kn_sign.2, hsg] at h
  exact h
 have HKN : Hid (makeE sg ktarg = 0 ∧ makeB sg ktarg = db ∧ applyE kbase db = 0 ∧ applyB kbase db = ktarg ∧ applyE (kbase.take 32) db = 181 ∧ applyB (kbase.take 32) db = [] ∧ sg.blocks.length = 2) := by
  rw [<-hdb, <-hsg]
  exact ⟨kn_make, rfl, kn_got.1, kn_got.2.1, kn_got.2.2.1, kn_got.2.2.2, kn_two⟩
 clear hsg hdb
 go_upto_region 4 with (first
  | (go_at_call 13; refine hS.mono ?_; rintro r wa ⟨⟨va, rfl, hoa⟩, hka⟩; obtain ⟨so, sc, rfl, hsc, hwk, hsb, hsm⟩ := OwnW.wks hoa; rw [HKN.out.2.2.2.2.2.2] at hsc ⊢; have Ha := hide (ai hwk (ai hka hsm)); have hoz := heap_new wa (.cells zeroS 26); have hia := Tryz.infoSigA sg (.slice so 2 sc); have hzs : zeroS.size = (sg.cells (.slice so 2 sc)).toArray.size := (by rw [sig_size]; exact sig_size _ _); have hal := sig_one sg (.slice so 2 sc) rfl; clear hS hoa hka hwk hsb hsm)
  | refine wpList_store_rowTo rfl 26 (.tmp 3) (.tmp 24) rfl rfl wa.heap.size (sg.cells (.slice so 2 sc)).toArray rfl rfl 26 zeroS hoz hia hzs hal ?_)
 have kb : Kept [] wa ((wa.alloc (.cells zeroS 26)).setRow wa.heap.size (sg.cells (.slice so 2 sc)).toArray) := ((Kept.refl [] wa).alloc _).trans (kept_row _ wa.heap.size _) (fun i hi hl => by simp only [List.mem_singleton] at hi; omega)
 have hA : SigAt ((wa.alloc (.cells zeroS 26)).setRow wa.heap.size (sg.cells (.slice so 2 sc)).toArray) wa.heap.size sg (.slice so 2 sc) := ⟨setRow_heap _ _ _ _ _ _ hoz⟩
 obtain ⟨O, hO⟩ := nm (wa.heap.size)
 rw [hO] at kb hA ⊢
 have Kb := hide (Ha.out.2.1.tr kb)
 have hI : SigIn ((wa.alloc (.cells zeroS 26)).setRow O (sg.cells (.slice so 2 sc)).toArray) sg so 2 sc := ⟨HKN.out.2.2.2.2.2.2, hsc, Ha.out.2.2, Ha.out.1.kept kb (by simp)⟩
 clear hO hoz hia hzs hal kb Ha hsc
 generalize (wa.alloc (.cells zeroS 26)).setRow O (sg.cells (.slice so 2 sc)).toArray = wb at *
 have hrz := hA.range
 have hil := Tryz.infoSig sg (.slice so 2 sc)
 have hM : Calls Tryz.prog 8 #[.agg (sg.cells (.slice so 2 sc)).toArray, .slice (some ⟨tg, 0, none⟩) 18 tc] wb fun e w' => TellB wb w' e 0 db ∧ Kept [] wb w' := by
  have h := make_ok sg so 2 sc (some ⟨tg, 0, none⟩) 18 tc ktarg wb hI rfl htc ((own_in8 HT.out).sl.kept Kb.out (by simp)) (by decide)
  rw [HKN.out.1, HKN.out.2.1] at h
  exact h
 obtain ⟨dn, hdn⟩ : ∃ n, db.length = n := ⟨_, rfl⟩
 have HDN := hide hdn
 clear hdn
 go_upto_region 5 with (first
  | refine wpList_load_mid rfl 26 (.tmp 3) rfl O 0 rfl (sg.cells (.slice so 2 sc)) _ hrz Tryz.underlying26 rfl hil ?_
  | (go_at_call 8; refine hM.mono ?_; rintro r wc ⟨⟨da, dc, rfl, hod⟩, hkc⟩; rw [HDN.out] at hod ⊢; have Hc := hide (ai hod hkc); clear hM hod hkc))
 have HBc := hide (own_in8 (own_kept9 HB9.out (Kb.out.tr Hc.out.2) (by simp)))
 have HTc := hide (own_in8 (own_kept9 HT.out (Kb.out.tr Hc.out.2) (by simp)))
 have HDc := hide (own_in8 Hc.out.1)
 have hAc := hA.kept Hc.out.2 (by simp)
 have HKc := hide ((HK9.out.tr Kb.out).tr Hc.out.2)
 clear HB9 HT Hc hA hrz hil hI Kb HK9
 have hP : Calls Tryz.prog 16 #[.slice (some ⟨bg, 0, none⟩) 33 bc, .slice da dn dc] wc fun e w' => TellB wc w' e 0 ktarg ∧ Kept [] wc w' := by
  obtain ⟨dd, hdd⟩ := applyE_dec (.inl HKN.out.2.2.1)
  have h := apply_some (some ⟨bg, 0, none⟩) 33 bc kbase da dn dc db wc HBc.out HDc.out (by omega) dd hdd
  rw [HKN.out.2.2.1, HKN.out.2.2.2.1] at h
  exact h
 go_upto_region 6 with (go_at_call 16; refine hP.mono ?_; rintro r wd ⟨⟨ga, gc, rfl, hog⟩, hkd⟩; have hog : wd.ownsRow wc.heap.size 5 1 (.slice ga 18 gc) 18 (bys ktarg) := hog; have Hd := hide (ai hog hkd); clear hP hog hkd)
 have hP2 : Calls Tryz.prog 16 #[.slice (some ⟨bg, 0, none⟩) 32 bc, .slice da dn dc] wd fun e w' => TellB wd w' e 181 [] ∧ Kept [] wd w' := by
  have hb : InB8 wd (some ⟨bg, 0, none⟩) 32 bc (kbase.take 32) := by
   have hb0 := HBc.out.kept Hd.out.2
   refine ⟨by decide, by have := hb0.le; omega, by decide, ?_, fun e => by cases e⟩
   obtain ⟨b1, o1, e1, _, hc⟩ := hb0.sl.open (by decide)
   cases e1
   refine Sl.of fun i hi => ?_
   have h1 : i < 32 := hi
   have h2 := hc i (show i < 33 by omega)
   rw [h2]
   simp [List.getD_eq_getElem?_getD, List.getElem?_take_of_lt h1]
  obtain ⟨dd, hdd⟩ := applyE_dec (.inr HKN.out.2.2.2.2.1)
  have h := apply_some (some ⟨bg, 0, none⟩) 32 bc (kbase.take 32) da dn dc db wd hb (HDc.out.kept Hd.out.2) (by omega) dd hdd
  rw [HKN.out.2.2.2.2.1, HKN.out.2.2.2.2.2.1] at h
  exact h
 have hbc32 : 32 <= bc := by have := HBc.out.le; omega
 have hsame := fun W (hW : Kept [] wd W) => same_yes ga (some ⟨tg, 0, none⟩) 18 gc tc ktarg W rfl (by decide) ((own_sl9 Hd.out.1).kept hW (by simp)) ((HTc.out.sl.kept Hd.out.2 (by simp)).kept hW (by simp))
 go_upto_region 7 with (go_at_call 16; refine hP2.mono ?_; rintro r we ⟨⟨ha, hc, rfl, hoh⟩, hke⟩; have He := hide hke; clear hP2 hke hoh)
 have cv := ((hAc.kept Hd.out.2 (by simp)).kept He.out (by simp)).cell (Sig.cv _ _)
 have hsm := hsame we He.out
 have HKe := hide ((HKc.out.tr Hd.out.2).tr He.out)
 clear hsame hAc
 go_wp2_with (go_at_call 22; refine hsm.mono ?_; rintro r wf ⟨rfl, nf, hwf⟩; clear hsm)
 go_ret
 exact ⟨rfl, HKe.out.drewN nf⟩
end

section
open Dlt
end

section
open Dlt
def OwnB (w : World) (base : Nat) (v : Value) (xs : List UInt8) : Prop := w.ownsRow base 5 1 v xs.length (bys xs)
theorem OwnB.shape {w : World} {base : Nat} {v : Value} {xs : List UInt8} (h : OwnB w base v xs) : ∃ ao cap, v = .slice ao xs.length cap ∧ xs.length <= cap ∧ Sl w ao xs ∧ (∀ a, ao = some a -> ∃ g, a = ⟨g, 0, none⟩ ∧ base <= g ∧ g < w.heap.size ∧ v.ownBlock = some g) ∧ cap <= 9223372036854775807 ∧ (ao = none -> xs = [] ∧ cap = 0) := by
 rcases h.2 with ⟨rfl, h0⟩ | ⟨g, cap, cur, rfl, hb, hg, hn, hc, hs, ht⟩
 ·have : xs = [] := List.eq_nil_of_length_eq_zero h0
  subst this
  exact ⟨none, 0, rfl, Nat.le_refl _, Sl.nil _ _, by simp, by omega, fun _ => ⟨rfl, rfl⟩⟩
 ·refine ⟨_, cap, rfl, hn, fun i hi => ⟨g, 0, rfl, ?_⟩, fun a ha => ?_, by unfold maxLen at hc; omega, by simp⟩
  ·rw [Nat.zero_add, cell_of_row _ _ _ _ _ _ hg]
   have h1 := bys_at hi
   rw [<-ht, List.getElem?_take] at h1
   split at h1
   ·simpa using h1
   ·cases h1
  ·cases ha
   exact ⟨g, rfl, hb, (gs hg).1, rfl⟩
theorem OwnB.kept {l : List Nat} {w w' : World} {base : Nat} {v : Value} {xs : List UInt8} (h : OwnB w base v xs) (hk : Kept l w w') (hn : ∀ g, v.ownBlock = some g -> g ∉ l) : OwnB w' base v xs := by
 refine ⟨h.1, ?_⟩
 rcases h.2 with h0 | ⟨g, cap, cur, hv, hb, hg, rest⟩
 ·exact .inl h0
 ·refine .inr ⟨g, cap, cur, hv, hb, ?_, rest⟩
  rw [hk.block g (gs hg).1 (hn g (by rw [hv]; rfl))]
  exact hg
theorem OwnB.far {w : World} {base : Nat} {v : Value} {xs : List UInt8} (h : OwnB w base v xs) (g : Nat) (hg : v.ownBlock = some g) : base <= g ∧ g < w.heap.size := by
 obtain ⟨ao, cap, rfl, _, _, hb, _⟩ := h.shape
 cases ao with
 | none => simp [Value.ownBlock] at hg
 | some a =>
  obtain ⟨g', rfl, h1, h2, h3⟩ := hb a rfl
  rw [hg] at h3; cases h3; exact ⟨h1, h2⟩
theorem run_appB (w : World) (base : Nat) (v : Value) (xs ys : List UInt8) (h : OwnB w base v xs) (yb yo c : Nat) (hy : ∀ i, i < ys.length -> w.cell? ⟨yb, yo + i, none⟩ = some (.int .u8 (ys.getD i 0).toNat)) (hl : xs.length + ys.length <= 140737488355328) (hb : base <= w.heap.size) :
  ∃ v' w', (Builtin.append_ #[27, 27] 27 #[v, .slice (some ⟨yb, yo, none⟩) ys.length c]).run Tryz.prog w = .ok v' w' ∧ OwnB w' base v' (xs ++ ys) ∧ Kept v.ownBlock.toList w w' := by
 obtain ⟨i0, hi, hz0, hz1, hz2⟩ := info_parts Tryz.infoByte9
 obtain ⟨v', w', hrun, h1', h2, h3, h4⟩ := run_append_own_at (P := Tryz.prog) w base 27 27 5 i0 (.int .u8 0) 1 1 Tryz.underlying27 hi hz0 hz1 hz2 rfl (by omega) v xs.length (bys xs) h ⟨yb, yo, none⟩ ys.length c (bys ys) (by rw [bys_length]; omega)
  (fun j u hj => by obtain ⟨hj', rfl⟩ := bys_get hj; rw [Addr.add_mid]; exact hy j hj') (bys_oneCell ys) (by unfold maxLen; omega) (by omega) hb
 refine ⟨v', w', hrun, ?_, (Kept.refl _ w).grown h2 (fun k hk _ => by simp [hk])⟩
 unfold OwnB
 rw [List.length_append, bys_append]
 exact h1'
theorem run_appSl (w : World) (base : Nat) (v : Value) (xs ys : List UInt8) (h : OwnB w base v xs) (ao : Option Addr) (n c : Nat) (hn : ys.length = n) (hs : Sl w ao ys) (h0 : ao = none -> ys = [] ∧ c = 0) (hl : xs.length + n <= 140737488355328) (hb : base <= w.heap.size) :
  ∃ v' w', (Builtin.append_ #[27, 27] 27 #[v, .slice ao n c]).run Tryz.prog w = .ok v' w' ∧ OwnB w' base v' (xs ++ ys) ∧ Kept v.ownBlock.toList w w' := by
 subst hn
 obtain ⟨i0, hi, hz0, hz1, hz2⟩ := info_parts Tryz.infoByte9
 cases ao with
 | none =>
  obtain ⟨rfl, rfl⟩ := h0 rfl
  refine ⟨v, w, run_append_owned_none (P := Tryz.prog) (w := w) base 27 27 5 i0 1 Tryz.underlying27 hi v xs.length (bys xs) h, by rw [List.append_nil]; exact h, Kept.refl _ _⟩
 | some ad =>
  obtain ⟨v', w', hrun, h1', h2, h3, h4⟩ := run_append_own_at (P := Tryz.prog) w base 27 27 5 i0 (.int .u8 0) 1 1 Tryz.underlying27 hi hz0 hz1 hz2 rfl (by omega) v xs.length (bys xs) h ad ys.length c (bys ys) (by rw [bys_length]; omega)
   (fun j u hj => by
    obtain ⟨hj', rfl⟩ := bys_get hj
    obtain ⟨b', off', e', hc⟩ := hs j hj'
    cases e'
    rw [Addr.add_mid]; exact hc) (bys_oneCell ys) (by unfold maxLen; omega) (by omega) hb
  refine ⟨v', w', hrun, ?_, (Kept.refl _ w).grown h2 (fun k hk _ => by simp [hk])⟩
  unfold OwnB
  rw [List.length_append, bys_append]
  exact h1'
theorem wpList_app_run {ops : Array Oper} {rest : List Oper} {o : Oper} {a : Act} {w : World} {Q : Exit -> Act -> World -> Prop} (hg : o.guard = none) (s x : Operand) (t t2 : TypeId) (ho : o.op = .call { callee := .builtin .append, args := #[s, x], argTypes := #[t, t2] }) (vs vx : Value) (hs : a.eval s = vs) (hx : a.eval x = vx) (v' : Value) (w' : World)
  (hrun : (Builtin.append_ #[t, t2] o.type #[vs, vx]).run Tryz.prog w = .ok v' w') (hK : wpList Tryz.prog ops Q rest (a.put o.dst v') w') : wpList Tryz.prog ops Q (o :: rest) a w :=
 wpList_appendRunL hg s x t t2 ho vs vx hs hx hrun hK
def bm (i : Nat) : UInt8 := UInt8.ofNat (99 + i)
def bms : List UInt8 := (List.range 40).map bm
theorem bm_nat {i : Nat} (h : i < 40) : (bm i).toNat = 99 + i := by
 simp [bm, UInt8.toNat_ofNat', Nat.mod_eq_of_lt (show 99 + i < 256 by omega)]
theorem bm_wrap {i : Nat} (h : i < 40) : IntKind.u8.wrap (99 + (i : Int)) = ((bm i).toNat : Int) := by
 rw [bm_nat h, IntKind.wrap_u8]; omega
theorem bms_len : bms.length = 40 := by simp [bms]
theorem bms_take (k : Nat) (h : k < 40) : bms.take (k + 1) = bms.take k ++ [bm k] := by
 rw [List.take_succ_eq_append_getElem (by rw [bms_len]; exact h)]
 simp [bms]
theorem Tryz.cutBy (W : World) (ao : Option Addr) (L cap m : Nat) (hm : m <= cap) :
  (Instr.slice 27 (.slice ao L cap) none (some (.int .i64 m)) none).run Tryz.prog W = .ok (.slice ao m cap) W := by
 have hz : (sizeOf (Tryz.prog.elem 27)).run Tryz.prog W = .ok 1 W := by kernel_rfl
 have h := run_slice_h (P := Tryz.prog) W 27 ao L cap (by kernel_rfl) .i64 m (by omega) (by omega)
 rw [h, hz]
 cases ao <;> simp [sliced, Addr.add]
structure Cy (w : World) (g n cap : Nat) (xs : List UInt8) : Prop where
 sl : Sl w (some ⟨g, 0, none⟩) xs
 mks : ∀ i, i < 40 -> w.cell? ⟨g, n + i, none⟩ = some (.int .u8 (bm i).toNat)
 len : xs.length = n
 cap : n + 40 <= cap
theorem Cy.kept {l : List Nat} {w w' : World} {g n cap : Nat} {xs : List UInt8} (h : Cy w g n cap xs) (hk : Kept l w w') (hn : g ∉ l) : Cy w' g n cap xs :=
 ⟨h.sl.kept hk (fun _ a ha => by cases ha; exact hn), fun i hi => hk.cellOf (h.mks i hi) hn, h.len, h.cap⟩
theorem cy_of {w : World} {base g n cap : Nat} {xs : List UInt8} (h : OwnB w base (.slice (some ⟨g, 0, none⟩) (n + 40) cap) (xs ++ bms)) (hn : xs.length = n) (hc : n + 40 <= cap) : Cy w g n cap xs := by
 obtain ⟨ao, cap', hv, _, hS, _⟩ := h.shape
 injection hv with q1 q2 q3
 subst q1
 refine ⟨fun i hi => ?_, fun i hi => ?_, hn, hc⟩
 ·obtain ⟨b, off, e, h1⟩ := hS i (by rw [List.length_append]; omega)
  refine ⟨b, off, e, ?_⟩
  rw [h1]
  simp [List.getD, List.getElem?_append_left hi]
 ·obtain ⟨b, off, e, h1⟩ := hS (n + i) (by rw [List.length_append, bms_len]; omega)
  cases e
  rw [Nat.zero_add] at h1
  rw [h1]
  have : (xs ++ bms).getD (n + i) 0 = bm i := by
   rw [<-hn]
   simp [List.getD, bms, hi]
  rw [this]
theorem roomy_ok (ao : Option Addr) (n c : Nat) (xs : List UInt8) (w : World) (hn : xs.length = n) (hL : Sl w ao xs) (h0 : ao = none -> xs = [] ∧ c = 0) (hm : n <= 140737488351232) :
  Calls Tryz.prog 20 #[.slice ao n c] w fun r w' => (∃ g cap, r = .returned (.slice (some ⟨g, 0, none⟩) n cap) ∧ OwnB w' w.heap.size (.slice (some ⟨g, 0, none⟩) (n + 40) cap) (xs ++ bms) ∧ n + 40 <= cap) ∧ Kept [] w w' := by
 obtain ⟨i0, hi, hz0, hz1, hz2⟩ := info_parts Tryz.infoByte9
 have hmk := run_make (P := Tryz.prog) w 27 5 i0 (.int .u8 0) Tryz.underlying27 hi hz0 .i64 .i64 0 ((n + 40 : Nat) : Int) (by omega) (by omega) (by rw [hz2]; omega) (by omega)
 rw [hz1] at hmk
 simp only [Int.toNat_zero, Int.toNat_natCast] at hmk
 have ho1 : OwnB (w.alloc (.cells (madeCells (Value.int .u8 0).cells ((n + 40) * 1)) 5)) w.heap.size (.slice (some ⟨w.heap.size, 0, none⟩) 0 (n + 40)) [] :=
  World.ownsRow_made w _ (n + 40) (Nat.le_refl _) (by unfold maxLen; omega) (size_madeCells _ _)
 have hk1 := ka w (.cells (madeCells (Value.int .u8 0).cells ((n + 40) * 1)) 5)
 generalize w.alloc (.cells (madeCells (Value.int .u8 0).cells ((n + 40) * 1)) 5) = w1 at hmk ho1 hk1
 rw [show ((n + 40 : Nat) : Int) = (n : Int) + 40 by omega] at hmk
 obtain ⟨v2, w2, hrun2, ho2, hk2⟩ := run_appSl w1 w.heap.size _ [] xs ho1 ao n c hn (hL.kept hk1 (by simp)) h0 (by simp; omega) hk1.size
 rw [List.nil_append] at ho2
 have hk12 : Kept [] w w2 := hk1.trans hk2 (fun g hg hlt => by simp [Value.ownBlock] at hg; omega)
 have H2 : Hid (OwnB w2 w.heap.size v2 xs ∧ Kept [] w w2) := ⟨ho2, hk12⟩
 have HN := hide hn
 clear ho1 hk1 ho2 hk2 hk12 hL hn hi hz0 hz1 hz2
 go_enter Tryz.func20, Tryz.ntmps20
 go_wp2_with (refine wpList_app_run rfl (.tmp 8) (.tmp 9) 27 27 rfl (.slice (some ⟨w.heap.size, 0, none⟩) 0 (n + 40)) (.slice ao n c) rfl rfl v2 w2 hrun2 ?_)
 clear hmk hrun2
 go_loopw [3, 4] (fun x y wr => ∃ k : Nat, k <= 40 ∧ y = .int .i64 k ∧ Hid (OwnB wr w.heap.size x (xs ++ bms.take k) ∧ Kept [] w wr)) (fun x y wr => 40 - (intOf y).toNat)
 case atStart => exact ⟨0, Nat.zero_le _, rfl, by show _ ∧ _; simpa using H2.out⟩
 case round =>
  obtain ⟨k, hk, rfl, HK⟩ := hrel
  by_cases hlt : k < 40
  ·have HT := hide (bms_take k hlt)
   have hwu := bm_wrap hlt
   have hll : (xs ++ bms.take k).length = n + k := by rw [List.length_append, List.length_take, bms_len, HN.out]; omega
   generalize bm k = x at hwu HT
   have kN := ka wr (.cells #[.int .u8 x.toNat] 5)
   obtain ⟨v4, w4, hrun4, ho4, hk4⟩ := run_appB (wr.alloc (.cells #[.int .u8 x.toNat] 5)) w.heap.size u3 (xs ++ bms.take k) [x] (HK.out.1.kept kN (by simp)) wr.heap.size 0 1 (fun i hi => by
    have hnew := heap_new wr (.cells #[.int .u8 x.toNat] 5)
    rw [Nat.zero_add, cell_of_row _ _ _ _ _ _ hnew]
    obtain rfl : i = 0 := by simp at hi; omega
    rfl) (by rw [hll]; simp; omega) (Nat.le_trans HK.out.2.size kN.size)
   rw [show [x].length = 1 from rfl] at hrun4
   have H4 : Hid (OwnB w4 w.heap.size v4 (xs ++ bms.take (k + 1)) ∧ Kept [] w w4) := ⟨by rw [HT.out, <-List.append_assoc]; exact ho4, (HK.out.2.tr kN).trans hk4 (fun g hg hl2 => by have := (HK.out.1.far g (by simpa using hg)).1; omega)⟩
   clear ho4 hk4 kN HK hll HT
   go_wp2_with (refine wpList_app_run rfl (.tmp 15) (.tmp 19) 27 27 rfl u3 (.slice (some ⟨wr.heap.size, 0, none⟩) 1 1) rfl rfl v4 w4 hrun4 ?_)
   go_roundw
   case rel => exact ⟨k + 1, by omega, by go_num, H4.out⟩
   case measure => simp [intOf]; omega
  ·obtain rfl : k = 40 := by omega
   have ho := HK.out.1
   rw [List.take_of_length_le (by rw [bms_len]; omega)] at ho
   have hll : (xs ++ bms).length = n + 40 := by rw [List.length_append, bms_len, HN.out]
   rcases ho.2 with ⟨_, h2⟩ | ⟨g, cap, cur, hv, hb, hg, hnn, hc, hs, hta⟩
   ·rw [hll] at h2; omega
   ·rw [hll] at hv hnn
    subst hv
    have hcut := fun W => Tryz.cutBy W (some ⟨g, 0, none⟩) (n + 40) cap n (by omega)
    have HC : Hid ((OwnB wr w.heap.size (.slice (some ⟨g, 0, none⟩) (n + 40) cap) (xs ++ bms) ∧ n + 40 <= cap) ∧ Kept [] w wr) := ⟨⟨ho, hnn⟩, HK.out.2⟩
    clear ho HK hg hs hta hll
    go_wp2
    go_ret
    exact ⟨⟨g, cap, rfl, HC.out.1⟩, HC.out.2⟩
theorem stands_ok (g n cap : Nat) (xs : List UInt8) (bo : Option Addr) (bc : Nat) (w : World) (hC : Cy w g n cap xs) (hE : Sl w bo xs) (hm : n <= 140737488351232) :
  Calls Tryz.prog 23 #[.slice (some ⟨g, 0, none⟩) n cap, .slice bo n bc] w fun r w' => r = .returned (.bool true) ∧ Kept [] w w' := by
 have HC := hide hC
 have HE := hide hE
 have hcap := hC.cap
 have hcut := fun W => Tryz.cutBy W (some ⟨g, 0, none⟩) n cap (n + 40) hcap
 rw [show ((n + 40 : Nat) : Int) = (n : Int) + 40 by omega] at hcut
 clear hC hE
 go_enter Tryz.func23, Tryz.ntmps23
 go_wp2
 clear hcut
 go_loopw [6] (fun x wr => ∃ k : Nat, k <= 40 ∧ x = .int .i64 k ∧ Hid (Kept [] w wr)) (fun x wr => 40 - (intOf x).toNat)
 case atStart => exact ⟨0, Nat.zero_le _, rfl, Kept.refl _ _⟩
 case round =>
  obtain ⟨k, hk, rfl, HK⟩ := hrel
  by_cases hlt : k < 40
  ·have hck : wr.cell? ⟨g, n + k, none⟩ = some (.int .u8 (bm k).toNat) := HK.out.cellOf (HC.out.mks k hlt) (by simp)
   have hwu := bm_wrap hlt
   have hb8 := UInt8.toNat_lt (bm k)
   generalize (bm k).toNat = x at hck hwu hb8
   have hxx : ((x : Int) != (x : Int)) = false := by simp
   go_wp2
   go_roundw
   case rel => exact ⟨k + 1, by omega, by go_num, HK.out⟩
   case measure => simp [intOf]; omega
  ·have hal := same_any (some ⟨g, 0, none⟩) bo n cap n bc xs xs wr HC.out.len HC.out.len (by omega) (HC.out.sl.kept HK.out (by simp)) (HE.out.kept HK.out (by simp))
   rw [decide_eq_true (rfl : xs = xs)] at hal
   go_wp2_with (go_at_call 22; refine hal.mono ?_; rintro r v2 ⟨rfl, m2, rfl⟩; have HK2 := hide (HK.out.drewN m2); clear hal)
   go_ret
   exact ⟨rfl, HK2.out⟩
theorem own_len {w : World} {base : Nat} {ao : Option Addr} {n cap : Nat} {xs : List UInt8} (h : OwnB w base (.slice ao n cap) xs) : xs.length = n := by
 obtain ⟨_, _, e, _⟩ := OwnB.shape h
 injection e with _ e _
 exact e.symm
theorem OwnB.in8 {w : World} {base : Nat} {ao : Option Addr} {n cap : Nat} {xs : List UInt8} (h : OwnB w base (.slice ao n cap) xs) : InB8 w ao n cap xs := by
 have hl := own_len h
 subst hl
 exact own_in8 h
end

section
open Dlt
theorem OwnW.add {w : World} {base : Nat} {v : Value} {L : List Wk} (h : OwnW w base v L) (hb : base <= w.heap.size) (N : Nat) (e : Wk) (hN : w.rangeAt N 0 e.cells) (hl : L.length <= 1000000) :
  ∃ v' w', (Builtin.append_ #[24, 24] 24 #[v, .slice (some ⟨N, 0, none⟩) 1 1]).run Tryz.prog w = .ok v' w' ∧ OwnW w' base v' (L ++ [e]) ∧ Kept v.ownBlock.toList w w' := by
 obtain ⟨i0, hi, hz0, hz1, hz2⟩ := info_parts Tryz.infoWeak
 obtain ⟨v', w', hrun, h4, h5, _, _⟩ := run_append_own_at (P := Tryz.prog) w base 24 24 62 i0 (.agg zeroK) 33 40 Tryz.underlying24 hi hz0 hz1 hz2 rfl (by decide) v _ _ h ⟨N, 0, none⟩ 1 1 e.cells (by rw [e.len]) (fun j u hv => by
   rw [Addr.add_mid]; exact hN j u hv) (wk_one e) (by unfold maxLen; omega) (by omega) hb
 refine ⟨v', w', hrun, ?_, (Kept.refl _ w).grown h5 (fun g hg _ => by rw [hg]; simp)⟩
 unfold OwnW
 rw [List.length_append, wrows_app, show wrows [e] = e.cells by simp [wrows]]
 exact h4
theorem rsized_ok (x z : Int) (w : World) :
  Calls Tryz.prog 35 #[.int .i64 x, .int .i64 z] w fun e w' => e = .returned (.bool (isW x && isZ z)) ∧ w' = w := by
 have HR : Hid ((isW x && isZ z) = (decide (1 <= x) && decide (x <= 32) && decide (16 <= z) && decide (z <= 4096))) := by
  show _ = _
  rw [Bool.eq_iff_iff]
  simp only [Bool.and_eq_true, decide_eq_true_eq, isW, isZ, Dlt.within_iff]
  omega
 by_cases h1 : 1 <= x <;> by_cases h2 : x <= 32 <;> by_cases h3 : 16 <= z <;> by_cases h4 : z <= 4096 <;>
  (go_enter Tryz.func35, Tryz.ntmps35; go_wp2; go_ret; exact ⟨by rw [HR.out]; simp [h1, h2, h3, h4], rfl⟩)
end

section
open Dlt
theorem made_bytes (m : Nat) : (madeCells #[.int .u8 0] m).toList = bys (List.replicate m 0) := by
 apply List.ext_getElem
 ·simp [madeCells, bys]
 ·intro i h1 h2
  simp [madeCells, bys, Nat.mod_one]
theorem i64_xor_nat (a b : Nat) (ha : a < 9223372036854775808) (hb : b < 9223372036854775808) : bits .xor .i64 (a : Int) (b : Int) = ((a ^^^ b : Nat) : Int) := by
 show IntKind.i64.wrap ((BitVec.ofInt 64 (a : Int) ^^^ BitVec.ofInt 64 (b : Int)).toNat : Int) = _
 have h : a ^^^ b < 9223372036854775808 := Nat.xor_lt_two_pow (n := 63) ha hb
 rw [BitVec.toNat_xor, ofInt_u64 a (by omega), ofInt_u64 b (by omega)]
 simp [IntKind.wrap, IntKind.bits, IntKind.signed]
 split <;> omega
theorem Ts_succ' (k y : Nat) : Pure.Ts (k + 1) y = Pure.T (Pure.Ts k y) := by
 rw [Pure.Ts_add k 1]; rfl
theorem Ts_lt (k : Nat) {y : Nat} (h : y < 4294967296) : Pure.Ts k y < 4294967296 := by
 induction k with
 | zero => exact h
 | succ k ih => rw [Ts_succ']; exact Pure.T_lt ih
structure EncRel (w wr : World) (v : Nat) (vb : Value) (ys : List UInt8) (x : Nat) : Prop where
 own : wr.ownsRow w.heap.size 5 1 vb ys.length (bys ys)
 eq : Pure.enc v = ys ++ Pure.enc x
 kept : Kept [] w wr
theorem one_cells8 (w : World) (c : Value) (t : TypeId) (fr : Nat × Nat) : ∀ (j : Nat) (u : Value), [c][j]? = some u -> (w.alloc (.cells #[c] t fr)).cell? ((⟨w.heap.size, 0, none⟩ : Addr).add j) = some u := by
 intro j u hu
 cases j with
 | zero =>
  simp at hu
  subst hu
  rw [Addr.add_mid, Nat.zero_add, World.cell?_alloc_mark]
  simp
 | succ j => simp at hu
theorem bys_one8 (c : UInt8) (n : Int) (h : n = (c.toNat : Int)) : [Value.int .u8 n] = bys [c] := by rw [h]; rfl
theorem refnumber_ok (v : Nat) (hv : v <= 2147483647) (w : World) :
  Calls Tryz.prog 55 #[.int .i64 v] w fun e w' => ∃ vb, e = .returned vb ∧ vb ≠ .slice none 0 0 ∧ w'.ownsRow w.heap.size 5 1 vb (Pure.enc v).length (bys (Pure.enc v)) ∧ Kept [] w w' := by
 obtain ⟨i0, hi, hz0, hz1, hz2⟩ := info_parts Tryz.infoByte
 have HI : Hid (EncRel w w v (.slice none 0 0) [] v) := ⟨World.ownsRow_nil _ _ _ _, rfl, Kept.refl _ _⟩
 go_enter Tryz.func55, Tryz.ntmps55
 go_wp2
 go_loopw [0, 3] (fun a b wr => ∃ (x : Nat) (ys : List UInt8), x <= 2147483647 ∧ ys.length <= 5 ∧ a = .int .i64 x ∧ Hid (EncRel w wr v b ys x)) (fun a b wr => (intOf a).toNat)
 case atStart => exact ⟨v, [], hv, by simp, rfl, HI⟩
 case round =>
  clear HI
  obtain ⟨x, ys, hx, hys, rfl, HR⟩ := hrel
  have HE5 : Hid (ys.length + (Pure.enc x).length <= 5) := by
   have h1 := Pure.enc_len5 hv
   rw [HR.out.eq, List.length_append] at h1
   exact h1
  by_cases h128 : 128 <= x
  ·go_wp2_with (at_builtin; refine wpList_append_own _ rfl _ _ 27 rfl w.heap.size 5 i0 (.int .u8 0) 1 1 Tryz.underlying27 hi hz0 hz1 hz2 rfl (by decide) _ _ _ rfl (HR.out.own.alloc _) ⟨wr.heap.size, 0, none⟩ 1 1 [.int .u8 (128 + (x : Int) % 128)] rfl rfl (one_cells8 _ _ _ _) (by simp [Value.oneCell']) ?c3 ?c4 ?c5 ?_)
   case c3 => unfold maxLen; omega
   case c4 => omega
   case c5 => have := HR.out.kept.size; simp; omega
   intro v' w1 hown hgrow hnn
   have HR2 : Hid (EncRel w w1 v v' (ys ++ [UInt8.ofNat (x % 128 + 128)]) (x / 128)) := by
    refine ⟨?_, ?_, ?_⟩
    ·have h1 := hown
     rw [bys_one8 (UInt8.ofNat (x % 128 + 128)) _ (by rw [Pure.toNat_ofNat_small (by omega)]; omega), <-bys_append] at h1
     simpa using h1
    ·rw [HR.out.eq, Pure.enc_more (by omega)]
     simp
    ·exact (HR.out.kept.alloc _).grown hgrow (fun k hk hlt => by have := (HR.out.own.lt k hk).1; omega)
   have hl2 : (ys ++ [UInt8.ofNat (x % 128 + 128)]).length <= 5 := by
    have h1 := HE5.out
    rw [Pure.enc_more (by omega)] at h1
    simp at h1 ⊢
    omega
   clear hown hgrow hnn HR HE5
   go_wp2
   go_roundw
   case rel => exact ⟨x / 128, _, by omega, hl2, by go_num, HR2⟩
   case measure => simp [intOf]; omega
  ·go_wp2_with (at_builtin; refine wpList_append_own _ rfl _ _ 27 rfl w.heap.size 5 i0 (.int .u8 0) 1 1 Tryz.underlying27 hi hz0 hz1 hz2 rfl (by decide) _ _ _ rfl (HR.out.own.alloc _) ⟨wr.heap.size, 0, none⟩ 1 1 [.int .u8 (x : Int)] rfl rfl (one_cells8 _ _ _ _) (by simp [Value.oneCell']) ?c3 ?c4 ?c5 ?_)
   case c3 => unfold maxLen; omega
   case c4 => omega
   case c5 => have := HR.out.kept.size; simp; omega
   intro v' w1 hown hgrow hnn
   have HR2 : Hid (w1.ownsRow w.heap.size 5 1 v' (Pure.enc v).length (bys (Pure.enc v)) ∧ Kept [] w w1 ∧ v' ≠ .slice none 0 0) := by
    refine ⟨?_, ?_, fun h => ?_⟩
    ·have h1 := hown
     rw [bys_one8 (UInt8.ofNat x) _ (by rw [Pure.toNat_ofNat_small (by omega)]), <-bys_append] at h1
     rw [HR.out.eq, Pure.enc_small (by omega)]
     simpa using h1
    ·exact (HR.out.kept.alloc _).grown hgrow (fun k hk hlt => by have := (HR.out.own.lt k hk).1; omega)
    ·exact hnn h
   clear hown hgrow hnn HR HE5
   go_wp2
   go_ret
   exact ⟨v', rfl, HR2.out.2.2, HR2.out.1, HR2.out.2.1⟩
theorem pow256_le {k : Nat} (h : k <= 4) : 256 ^ k <= 4294967296 := by
 obtain rfl | rfl | rfl | rfl | rfl : k = 0 ∨ k = 1 ∨ k = 2 ∨ k = 3 ∨ k = 4 := by omega
 all_goals decide
structure FixRel (w wr : World) (v n : Nat) (j z : Nat) : Prop where
 row : ∃ R : List UInt8, wr.heap[w.heap.size]? = some (.cells (bys R).toArray 5 (0, 0)) ∧ R.length = n ∧ R.drop j = Pure.fix v (n - j)
 eq : z = v / 256 ^ (n - j)
 kept : Kept [] w wr
theorem FixRel.step {w wr : World} {v n j z : Nat} (h : FixRel w wr v n (j + 1) z) (hj : j + 1 <= n) : FixRel w (wr.setCell ⟨w.heap.size, j, none⟩ (.int .u8 (z % 256 : Nat))) v n j (z / 256) := by
 obtain ⟨R, hr, hl, hd⟩ := h.row
 refine ⟨⟨R.set j (UInt8.ofNat (z % 256)), ?_, by simpa using hl, ?_⟩, ?_, h.kept.setCell (by simp) _⟩
 ·rw [heap_setCell_same _ _ _ _ _ _ hr]
  simp only [List.setIfInBounds_toArray]
  congr 3
  rw [<-bys_set, Pure.toNat_ofNat_small (by omega)]
 ·have e1 : n - j = (n - (j + 1)) + 1 := by omega
  rw [e1, Pure.fix, <-hd, <-h.eq]
  rw [List.drop_eq_getElem_cons (by simp; omega)]
  congr 1
  ·simp
  ·rw [List.drop_set_of_lt (by omega)]
 ·rw [h.eq, show n - j = (n - (j + 1)) + 1 by omega, Nat.pow_succ, Nat.div_div_eq_div_mul]
theorem reffixed_ok (v n : Nat) (hn1 : 1 <= n) (hn4 : n <= 4) (hv : v < 256 ^ n) (w : World) :
  Calls Tryz.prog 60 #[.int .i64 v, .int .i64 n] w fun e w' => ∃ ao cap, e = .returned (.slice ao n cap) ∧ Fresh w w' ao cap (Pure.fix v n) ∧ ao ≠ none ∧ Kept [] w w' := by
 obtain ⟨i0, hi, hz0, hz1, hz2⟩ := info_parts Tryz.infoByte
 have hv4 : v < 4294967296 := Nat.lt_of_lt_of_le hv (pow256_le hn4)
 clear hv
 go_enter Tryz.func60, Tryz.ntmps60
 go_wp2_with (at_make; refine wpList_make_full _ rfl _ _ 27 rfl w.heap.size 5 i0 (.int .u8 0) 1 Tryz.underlying27 hi hz0 hz1 .i64 .i64 n n n rfl rfl rfl rfl ?c1 ?c2 ?c3 ?_)
 case c1 => rw [hz2]; omega
 case c2 => unfold maxLen; omega
 case c3 => exact Nat.le_refl _
 intro w1 hown hgrow
 have HI : Hid (FixRel w w1 v n n v) := by
  refine ⟨?_, by simp, (Kept.refl _ _).grown hgrow (by simp)⟩
  rcases hown.2 with ⟨h, _⟩ | ⟨g', cap', cur, hv', _, hg', _, _, hsz, htk⟩
  ·cases h
  ·cases hv'
   refine ⟨List.replicate n 0, ?_, by simp, by simp [Pure.fix]⟩
   rw [hg']
   have hcs : cur.size = n := by simpa using hsz
   have : cur.toList = bys (List.replicate n 0) := by
    rw [List.take_of_length_le (by simp; omega)] at htk
    rw [htk]
    exact made_bytes _
   rw [<-this]
 clear hown hgrow
 obtain ⟨g, hg⟩ : ∃ g, g = w.heap.size := ⟨_, rfl⟩
 rw [<-hg]
 have HG : Hid (g = w.heap.size) := hg
 clear hg
 go_wp2
 go_loopw [0, 6] (fun a i wr => ∃ j z : Nat, j <= n ∧ z < 4294967296 ∧ a = .int .i64 z ∧ i = .int .i64 ((j : Int) - 1) ∧ Hid (FixRel w wr v n j z)) (fun a i wr => (intOf i + 1).toNat)
 case atStart => exact ⟨n, v, Nat.le_refl _, hv4, rfl, rfl, HI⟩
 case round =>
  clear HI
  obtain ⟨j, z, hj, hz, rfl, rfl, HR⟩ := hrel
  by_cases hj0 : j = 0
  ·subst hj0
   have HF : Hid (Fresh w wr (some ⟨g, 0, none⟩) n (Pure.fix v n) ∧ Kept [] w wr) := by
    obtain ⟨R, hr, hl, hd⟩ := HR.out.row
    simp only [List.drop_zero, Nat.sub_zero] at hd
    refine ⟨⟨Sl.of fun i hi => ?_, by rw [Pure.fix_len]; exact Nat.le_refl _, by simp, fun a ha => by cases ha; rw [HG.out]; exact ⟨Nat.le_refl _, (gs hr).1, rfl⟩⟩, HR.out.kept⟩
    rw [HG.out, cell_of_row wr _ _ _ _ _ hr, Nat.zero_add, hd]
    simpa using bys_at hi
   clear HR
   go_wp2
   go_ret
   exact ⟨some ⟨g, 0, none⟩, n, rfl, HF.out.1, by simp, HF.out.2⟩
  ·obtain ⟨k, rfl⟩ : ∃ k, j = k + 1 := ⟨j - 1, by omega⟩
   have hcg : ∃ u, wr.cell? ⟨g, k, none⟩ = some u := by
    obtain ⟨R, hr, hl, hd⟩ := HR.out.row
    rw [HG.out, cell_of_row _ _ _ _ _ _ hr]
    have hl2 : k < (bys R).length := by rw [bys_length]; omega
    exact ⟨_, by rw [List.getElem?_toArray]; exact List.getElem?_eq_getElem hl2⟩
   obtain ⟨u, hcg⟩ := hcg
   have hfz : wr.frozen? ⟨g, k, none⟩ = false := by
    obtain ⟨R, hr, hl, hd⟩ := HR.out.row
    rw [HG.out]
    exact frozen_of_row _ _ _ _ _ hr
   have HR2 : Hid (FixRel w (wr.setCell ⟨g, k, none⟩ (.int .u8 ((z : Int) % 256))) v n k (z / 256)) := by
    have h1 := HR.out.step hj
    rw [HG.out]
    rw [show ((z : Int) % 256) = ((z % 256 : Nat) : Int) by omega]
    exact h1
   have hkk : ((k + 1 : Nat) : Int) - 1 = (k : Int) := by omega
   rw [hkk]
   clear HR hkk hj0
   go_wp2
   go_roundw
   case rel => exact ⟨k, z / 256, by omega, by omega, by go_num, by go_num, HR2⟩
   case measure => simp [intOf]
theorem rcrc_some (b off n cap : Nat) (xs : List UInt8) (w : World) (hn : xs.length = n) (hm : n <= 9223372036854775807) (hc : ∀ i, i < xs.length -> w.cell? ⟨b, off + i, none⟩ = some (.int .u8 (xs.getD i 0).toNat)) :
  Calls Tryz.prog 76 #[.slice (some ⟨b, off, none⟩) n cap] w fun e w' => e = .returned (.int .i64 (Pure.sum xs)) ∧ w' = w := by
 go_enter Tryz.func76, Tryz.ntmps76
 go_wp2
 go_loop [3, 4] (fun r i => ∃ k : Nat, k <= n ∧ i = .int .i64 k ∧ r = .int .i64 (Pure.crc 4294967295 (xs.take k))) (fun r i => n - (intOf i).toNat)
 case atStart => exact ⟨0, Nat.zero_le _, rfl, rfl⟩
 case round =>
  obtain ⟨k, hk, rfl, rfl⟩ := hrel
  have hx1 : Pure.crc 4294967295 (xs.take k) < 4294967296 := Pure.crc_lt (by omega) _
  by_cases hlt : k < n
  ·have hcell := hc k (by omega)
   have hcb : (xs.getD k 0).toNat < 256 := UInt8.toNat_lt _
   have HS : Hid (Pure.crc 4294967295 (xs.take (k + 1)) = Pure.Ts 8 (Pure.crc 4294967295 (xs.take k) ^^^ (xs.getD k 0).toNat)) := by
    show _ = _
    rw [Pure.take_snoc xs 0 k (by omega), Pure.crc_snoc, Pure.crcStep_turns]
   generalize Pure.crc 4294967295 (xs.take k) = x at hx1 HS ⊢
   generalize (xs.getD k 0).toNat = c at hcell hcb HS
   have e1 := i64_xor_nat x c (by omega) (by omega)
   have b1 := Pure.xor_lt32 hx1 (show c < 4294967296 by omega)
   generalize x ^^^ c = y at e1 b1 HS
   clear hc
   go_wp2
   go_loop [3, 5] (fun r j => ∃ m : Nat, m <= 8 ∧ j = .int .i64 m ∧ r = .int .i64 (Pure.Ts m y)) (fun r j => 8 - (intOf j).toNat)
   case atStart => exact ⟨0, Nat.zero_le _, rfl, rfl⟩
   case round =>
    obtain ⟨m, hm8, rfl, rfl⟩ := hrel
    have hz := Ts_lt m b1
    by_cases hm : m < 8
    ·have HT : Hid (Pure.Ts (m + 1) y = Pure.T (Pure.Ts m y)) := Ts_succ' m y
     generalize Pure.Ts m y = z at hz HT ⊢
     by_cases ho : z % 2 = 1
     ·have g1 : ((z : Int) % 2 == 1) = true := by simp; omega
      have e2 : bits .xor .i64 ((z : Int) / 2) 3988292384 = ((z / 2 ^^^ 3988292384 : Nat) : Int) := by
       rw [show ((z : Int) / 2) = ((z / 2 : Nat) : Int) by omega]
       exact i64_xor_nat (z / 2) 3988292384 (by omega) (by omega)
      have HT2 : Hid (Pure.Ts (m + 1) y = z / 2 ^^^ 3988292384) := by
       have := HT.out
       unfold Pure.T at this
       rw [if_pos ho] at this
       exact this
      generalize z / 2 ^^^ 3988292384 = z2 at e2 HT2
      go_wp2
      go_round
      case rel => exact ⟨m + 1, by omega, by go_num, by rw [HT2.out]⟩
      case measure => simp [intOf]; omega
     ·have g1 : ((z : Int) % 2 == 1) = false := by simp; omega
      have HT2 : Hid (Pure.Ts (m + 1) y = z / 2) := by
       have := HT.out
       unfold Pure.T at this
       rw [if_neg ho, Nat.xor_zero] at this
       exact this
      go_wp2
      go_round
      case rel => exact ⟨m + 1, by omega, by go_num, by rw [HT2.out]; go_num⟩
      case measure => simp [intOf]; omega
    ·obtain rfl : m = 8 := by omega
     go_wp2
     go_round
     case rel => exact ⟨k + 1, by omega, by go_num, by rw [HS.out]⟩
     case measure => simp [intOf]; omega
  ·have HT : Hid (xs.take k = xs) := List.take_of_length_le (by omega)
   clear hc
   go_wp2
   go_ret
   exact ⟨ret_int (by have h8 := hx1; have h9 := HT.out; unfold Pure.sum; rw [h9] at h8 ⊢; omega), rfl⟩
theorem rcrc_none (ao : Option Addr) (cap : Nat) (w : World) :
  Calls Tryz.prog 76 #[.slice ao 0 cap] w fun e w' => e = .returned (.int .i64 (Pure.sum [])) ∧ w' = w := by
 go_enter Tryz.func76, Tryz.ntmps76
 go_wp2
 go_loop [3, 4] (fun r i => i = .int .i64 0 ∧ r = .int .i64 4294967295) (fun r i => 0)
 case atStart => exact ⟨rfl, rfl⟩
 case round =>
  obtain ⟨rfl, rfl⟩ := hrel
  go_wp2
  go_ret
  exact ⟨rfl, rfl⟩
theorem rcrc_n (ao : Option Addr) (n cap : Nat) (xs : List UInt8) (w : World) (hn : xs.length = n) (hm : n <= 9223372036854775807) (h : Sl w ao xs) :
  Calls Tryz.prog 76 #[.slice ao n cap] w fun e w' => e = .returned (.int .i64 (Pure.sum xs)) ∧ w' = w := by
 by_cases h0 : xs = []
 ·subst h0
  obtain rfl : n = 0 := by simpa using hn.symm
  exact rcrc_none ao cap w
 ·obtain ⟨b, off, rfl, hb, hc⟩ := h.open h0
  exact rcrc_some b off n cap xs w hn hm hc
theorem rpart_ok (W : Nat) (id : List UInt8) (w : World) (hW : W <= 32) (hl : id.length = 32) :
  Calls Tryz.prog 56 #[.agg (bys id).toArray, .int .i64 W] w fun e w' => (∃ ao cap, e = .returned (.slice ao W cap) ∧ OwnB w' w.heap.size (.slice ao W cap) (id.take W)) ∧ Kept [] w w' := by
 have hrow := heap_new w (.cells (bys id).toArray 23)
 have hK := ka w (.cells (bys id).toArray 23)
 obtain ⟨G, hG⟩ := nm (w.heap.size)
 rw [hG] at hrow
 have HLT : Hid ((w.alloc (.cells (bys id).toArray 23)).heap.size = G + 1) := by show _ = _; rw [<-hG]; simp
 have HC : Hid (∀ k, k < 32 -> (w.alloc (.cells (bys id).toArray 23)).cell? ⟨G, k, none⟩ = some (.int .u8 (id.getD k 0).toNat)) := fun k hk => by
  rw [cell_of_row _ _ _ _ _ _ hrow, List.getElem?_toArray]
  exact bys_at (by omega)
 have HL := hide hl
 clear hrow hl
 go_enter Tryz.func56, Tryz.ntmps56
 go_upto_region 1 with (fail)
 have HGW := hide hG
 clear hG
 generalize w.alloc (.cells (bys id).toArray 23) = w1 at *
 have H0 : Hid (OwnB w1 (G + 1) (.slice none 0 0) (id.take 0) ∧ Kept [] w1 w1) := ⟨World.ownsRow_nil _ _ _ _, Kept.refl _ _⟩
 have HW := hide hW
 go_wp2
 go_loopw [5, 6] (fun x y wr => ∃ (k : Nat) (vo : Option Addr) (vc : Nat), k <= W ∧ x = .slice vo k vc ∧ y = .int .i64 k ∧ Hid (OwnB wr (G + 1) (.slice vo k vc) (id.take k) ∧ Kept [] w1 wr)) (fun x y wr => W - (intOf y).toNat)
 case atStart => exact ⟨0, none, 0, Nat.zero_le _, rfl, rfl, H0⟩
 case round =>
  clear H0
  obtain ⟨k, vo, vc, hk, rfl, rfl, HP⟩ := hrel
  by_cases hlt : k < W
  ·have hc := HP.out.2.cellOf (HC.out k (by omega)) (by simp)
   have kN := ka wr (.cells #[.int .u8 (id.getD k 0).toNat] 5)
   obtain ⟨v4, w4, hrun4, ho4, hk4⟩ := run_appB (wr.alloc (.cells #[.int .u8 (id.getD k 0).toNat] 5)) (G + 1) (.slice vo k vc) (id.take k) [id.getD k 0] (HP.out.1.kept kN (by simp)) wr.heap.size 0 1 (fun i hi => by
    have hnew := heap_new wr (.cells #[.int .u8 (id.getD k 0).toNat] 5)
    rw [Nat.zero_add, cell_of_row _ _ _ _ _ _ hnew]
    obtain rfl : i = 0 := by simp at hi; omega
    rfl) (by rw [List.length_take]; simp; omega) (Nat.le_trans (Nat.le_of_eq HLT.out.symm) (Nat.le_trans HP.out.2.size kN.size))
   rw [show [id.getD k 0].length = 1 from rfl] at hrun4
   have ht : id.take (k + 1) = id.take k ++ [id.getD k 0] := take_snoc' id 0 k (by have := HL.out; omega)
   have hll : (id.take k ++ [id.getD k 0]).length = k + 1 := by rw [<-ht, List.length_take, HL.out]; omega
   obtain ⟨vo4, vc4, rfl, _⟩ := own_shape ho4
   rw [hll] at hrun4 ho4
   have H4 : Hid (OwnB w4 (G + 1) (.slice vo4 (k + 1) vc4) (id.take (k + 1)) ∧ Kept [] w1 w4) := ⟨by rw [ht]; exact ho4, (HP.out.2.tr kN).trans hk4 (fun g hg hl2 => by have := (HP.out.1.far g (by simpa using hg)).1; have := HLT.out; omega)⟩
   clear ho4 hk4 kN HP hll ht
   generalize (id.getD k 0).toNat = x at hc hrun4
   go_wp2_with (refine wpList_app_run rfl (.tmp 12) (.tmp 16) 27 27 rfl (.slice vo k vc) (.slice (some ⟨wr.heap.size, 0, none⟩) 1 1) rfl rfl (.slice vo4 (k + 1) vc4) w4 hrun4 ?_)
   go_roundw
   case rel => exact ⟨k + 1, vo4, vc4, by omega, rfl, by go_num, H4⟩
   case measure => simp [intOf]; omega
  ·obtain rfl : k = W := by omega
   have HF : Hid (OwnB wr w.heap.size (.slice vo k vc) (id.take k) ∧ Kept [] w wr) := ⟨own_base HP.out.1 (by have := HGW.out; omega), hK.tr HP.out.2⟩
   clear HP
   go_wp2
   go_ret
   exact ⟨⟨vo, vc, rfl, HF.out.1⟩, HF.out.2⟩
theorem rsealed_ok (base : Nat) (vo : Option Addr) (n vc : Nat) (xs : List UInt8) (w : World) (h : OwnB w base (.slice vo n vc) xs) (hb : base <= w.heap.size) (hm : n <= 1000000000) :
  Calls Tryz.prog 58 #[.slice vo n vc] w fun e w' => (∃ ao cap, e = .returned (.slice ao (n + 4) cap) ∧ OwnB w' base (.slice ao (n + 4) cap) (sealed xs)) ∧ Kept (Value.slice vo n vc).ownBlock.toList w w' := by
 have hn := own_len h
 have hs := rcrc_n vo n vc xs w hn (by omega) h.in8.sl
 have hf := fun W => reffixed_ok (Pure.sum xs) 4 (by omega) (by omega) (by unfold Pure.sum; omega) W
 have HO := hide h
 have HN := hide hn
 clear h hn
 have HSE : Hid (sealed xs = xs ++ Pure.fix (Pure.sum xs) 4) := rfl
 have hfl : (Pure.fix (Pure.sum xs) 4).length = 4 := Pure.fix_len _ _
 generalize Pure.sum xs = sm at hs hf HSE hfl
 have HFL := hide hfl
 clear hfl
 go_enter Tryz.func58, Tryz.ntmps58
 go_wp2_with (first
  | (go_at_call 76; refine hs.mono ?_; rintro r w2 ⟨rfl, hw2⟩; obtain rfl := hw2.symm; clear hs)
  | (go_at_call 60; refine (hf _).mono ?_; rintro r w3 ⟨fo, fc, rfl, hfr, hfn, hk3⟩; obtain ⟨v4, w4, hrun4, ho4, hk4⟩ := run_appSl w3 base (.slice vo n vc) xs (Pure.fix sm 4) (HO.out.kept hk3 (by simp)) fo 4 fc HFL.out hfr.1 hfr.2.2.1 (by rw [HN.out]; omega) (Nat.le_trans hb hk3.size); obtain ⟨vo4, vc4, rfl, hvc4⟩ := own_shape ho4; rw [show (xs ++ Pure.fix sm 4).length = n + 4 by rw [List.length_append, HN.out, HFL.out]] at hrun4 ho4; have H4 := hide (ai ho4 (ai hk3 hk4)); clear hf hfr hfn hk3 ho4 hk4 hvc4)
  | (refine wpList_app_run rfl (.tmp 3) (.tmp 6) 27 27 rfl (.slice vo n vc) (.slice fo 4 fc) rfl rfl (.slice vo4 (n + 4) vc4) w4 hrun4 ?_; clear hrun4))
 go_ret
 exact ⟨⟨vo4, vc4, rfl, by rw [HSE.out]; exact H4.out.1⟩, (show Kept _ w w3 from H4.out.2.1.mono (by simp)).trans H4.out.2.2 (fun i hi _ => hi)⟩
end

end Go.Proofs.YtmklodligplbaabGreat
