/-
  TreeKeeps: the walk. (Seat ..ab.)
-/
import Derived.Test.YtjogfpogdjhglaaDoorOt
import Derived.Test.YtjogfpogdjhglaaDoorOs
import Derived.Test.YtjogfpogdjhglaaDoorOj
import Derived.Test.YtjogfpogdjhglaaDoorOq
import Derived.Test.YtjogfpogdjhglaaDoorNr
import Derived.Test.YtjogfpogdjhglaaDoorNv
import Derived.Test.YtjogfpogdjhglaaDoorNu
namespace Go.Proofs.YtjogfpogdjhglaaDoor
open Go.RowKit
set_option linter.unusedVariables false
set_option linter.unusedSimpArgs false

theorem psmall {xs : List UInt8} {M : List Ent} (h : Tn.parse xs = some M) : M.length ≤ 32 := by
  unfold Tn.parse at h
  split at h
  · cases h
  · simp only [Option.bind_eq_some_iff] at h
    obtain ⟨p, _, h2⟩ := h
    split at h2
    · rename_i h3; cases h2; exact Tn.isTree_len h3.2
    · cases h2
theorem Tk.atB {w wr : World} {mb ml : Nat} {fb fl : Nat → Rw} {g c : Nat} {vL : Value} (h : Tk w wr mb ml fb fl (.slice (some ⟨g, 0, none⟩) mb c) vL) {i : Nat} (hi : i < mb) : wr.cell? ⟨g, i, none⟩ = some (.slice (fb i).o (fb i).n (fb i).c) := by
  obtain ⟨g', c', hv, hc⟩ := h.cellB hi
  cases hv
  exact hc
theorem Tk.atL {w wr : World} {mb ml : Nat} {fb fl : Nat → Rw} {g c : Nat} {vR : Value} (h : Tk w wr mb ml fb fl vR (.slice (some ⟨g, 0, none⟩) ml c)) {i : Nat} (hi : i < ml) : wr.cell? ⟨g, i, none⟩ = some (.slice (fl i).o (fl i).n (fl i).c) := by
  obtain ⟨g', c', hv, hc⟩ := h.cellL hi
  cases hv
  exact hc
theorem Ents.oks2 {w : World} {ao : Option Addr} {L : List Ent} (h : Ents w ao L) : ∀ e ∈ L, EntOk e := fun e he => by
  obtain ⟨i, hi, rfl⟩ := List.getElem_of_mem he
  obtain ⟨_, _, _, _, h⟩ := h i hi
  simpa [List.getD, List.getElem?_eq_getElem hi] using h
theorem pk_even {α : Type} (a b : α) (j : Nat) : pk a b (2 * j) = a := by simp [pk]
theorem pk_odd {α : Type} (a b : α) (j : Nat) : pk a b (2 * j + 1) = b := by simp [pk, show (2 * j + 1) % 2 = 1 by omega]
/-- What the second loop of TreeKeeps looks at. -/
structure Tl (w wr : World) (fb fl : Nat → Rw) (vR vL : Value) (a2 a3 a4 : Option Addr) (X : List UInt8) (Y1 Y2 : List Ent) : Prop where
  tk : Tk w wr 12 12 fb fl vR vL
  sx : Sl wr a2 X
  e1 : Ents wr a3 Y1
  e2 : Ents wr a4 Y2
theorem Tl.kept {w wr wr' : World} {fb fl : Nat → Rw} {vR vL : Value} {a2 a3 a4 : Option Addr} {X : List UInt8} {Y1 Y2 : List Ent} (h : Tl w wr fb fl vR vL a2 a3 a4 X Y1 Y2) (hk : Kept [] wr wr') : Tl w wr' fb fl vR vL a2 a3 a4 X Y1 Y2 :=
  ⟨h.tk.kept hk, h.sx.kept hk (by simp), h.e1.kept hk (by simp), h.e2.kept hk (by simp)⟩

set_option maxHeartbeats 64000000 in
set_option maxRecDepth 100000 in
theorem keeps_walk (ao : Option Addr) (n cap : Nat) (L : List Ent) (bo : Option Addr) (bn bcap : Nat) (xs : List UInt8) (w : World) (hT : Tabs w) (hL : L.length = n ∧ Ents w ao L ∧ n ≤ cap ∧ cap * 56 ≤ 140737488351232 ∧ (ao = none → n = 0 ∧ cap = 0)) (hin : InB w bo bn bcap xs) :
    Calls Tryd.prog 3 #[.slice ao n cap, .slice bo bn bcap] w fun r w' => r = .returned (.bool true) ∧ Below w.heap.size w w' := by
  have hk := known_ok w hT
  have HT := hide hT
  obtain ⟨hn, hE, hnc, hcm, h0⟩ := hL
  have HE := hide hE
  have HI := hide hin
  have hbm := hin.max
  have hble := hin.le
  obtain ⟨X, hX⟩ : ∃ X, Tn.encd L = X := ⟨_, rfl⟩
  obtain ⟨Z, hZ⟩ : ∃ Z, Tn.encd [] = Z := ⟨_, rfl⟩
  obtain ⟨Y1, hY1⟩ : ∃ Y, (Tn.parse xs).getD [] = Y := ⟨_, rfl⟩
  obtain ⟨Y2, hY2⟩ : ∃ Y, (Tn.parse X).getD [] = Y := ⟨_, rfl⟩
  have hXs : X.length ≤ 1000000 := by
    rw [← hX]; unfold Tn.encd; split
    · rename_i ht
      have h3 := Tn.isTree_len ht
      have h4 := Tn.flat_len (fun i hi => by obtain ⟨_, _, _, _, h⟩ := hE i hi; exact h) ht L.length (Nat.le_refl _)
      rw [List.take_length] at h4
      simp only [Tn.encT, List.length_append, List.length_cons, List.length_nil]
      omega
    · simp
  have hXl : X.length ≤ 140737488355328 := by omega
  have HX := hide hX
  have HZ := hide hZ
  have HY1 := hide hY1
  have HY2 := hide hY2
  clear hT hE hin hX hZ hY1 hY2
  go_enter Tryd.func3, Tryd.ntmps3
  go_wp2_with (go_at_call 4; refine hk.mono ?_; rintro r w1 ⟨rfl, hb1⟩; have HB1 := hide hb1; clear hk hb1)
  have HT0 : Hid (Tk w w1 0 0 (fun _ => rw0) (fun _ => rw0) (.slice none 0 0) (.slice none 0 0)) := (Tk.start w _ _).kept (Kept.of_below HB1.out)
  go_loopw [5, 6, 7] (fun x y z wr => ∃ (i : Nat) (fb fl : Nat → Rw), i ≤ 6 ∧ z = .int .i64 i ∧ Hid (Tk w wr (2 * i) (2 * i) fb fl x y ∧ Tc i X Z Y1 Y2 fb fl)) (fun x y z wr => 6 - (intOf z).toNat)
  case atStart => exact ⟨0, _, _, by omega, rfl, HT0.out, Tc.start _ _ _ _ _ _⟩
  case round =>
    obtain ⟨i, fb, fl, hi, rfl, HS⟩ := hrel
    by_cases hlt : i < 6
    · have hbw := HS.out.1.bel
      have hen1 := encode_ok ao n cap L wr hn hnc (by omega) (HE.out.below hbw) (HT.out.below hbw)
      clear hbw
      go_upto_region 12 with (first
        | (go_at_call 5; refine hen1.mono ?_; rintro r w2 ⟨⟨v, rfl, hv⟩, hb2⟩; rw [HX.out] at hv; obtain ⟨a2, c2, hv2, hlc2, hs2, _, _, hnil2⟩ := OwnB.shape hv; subst hv2; have O2 := hide (And.intro hv (And.intro hb2 (And.intro hs2 (And.intro hnil2 hlc2)))); have T2 := hide (HS.out.1.kept (Kept.of_below hb2)); have hen2 := encode_ok none 0 0 [] w2 rfl (by omega) (by omega) (Ents.nil _ _) (HT.out.below T2.out.bel); clear hen1 hv hb2 hs2 hnil2 hlc2)
        | (go_at_call 5; refine hen2.mono ?_; rintro r w3 ⟨⟨v, rfl, hv⟩, hb3⟩; rw [HZ.out] at hv; obtain ⟨a3, c3, hv3, _⟩ := OwnB.shape hv; subst hv3; have O3 := hide (And.intro hv hb3); have T3 := hide (T2.out.kept (Kept.of_below hb3)); have hpa1 := parse_ok bo bn bcap xs w3 HI.out.len (by omega) (HI.out.sl.kept (Kept.of_below T3.out.bel) (by simp)) HI.out.nil (HT.out.below T3.out.bel); clear hen2 hv hb3)
        | (go_at_call 6; refine hpa1.mono ?_; rintro r w4 ⟨⟨v, rfl, hv⟩, hb4⟩; rw [HY1.out] at hv; obtain ⟨a4, c4, hv4, _⟩ := hv.ents; subst hv4; have O4 := hide (And.intro hv hb4); have T4 := hide (T3.out.kept (Kept.of_below hb4)); have hpa2 := parse_ok a2 X.length c2 X w4 rfl hXl ((O2.out.2.2.1.kept (Kept.of_below O3.out.2) (by simp)).kept (Kept.of_below hb4) (by simp)) O2.out.2.2.2.1 (HT.out.below T4.out.bel); clear hpa1 hv hb4)
        | (go_at_call 6; refine hpa2.mono ?_; rintro r w5 ⟨⟨v, rfl, hv⟩, hb5⟩; rw [HY2.out] at hv; obtain ⟨a5, c5, hv5, _⟩ := hv.ents; subst hv5; have O5 := hide (And.intro hv hb5); have T5 := hide (T4.out.kept (Kept.of_below hb5)); clear hpa2 hv hb5))
      have s2 := O2.out.2.1.size
      have s3 := O3.out.2.size
      have s4 := O4.out.2.size
      have s5 := O5.out.2.size
      have s1 := HS.out.1.bel.size
      have o2 : OwnB w2 wr.heap.size (.slice a2 X.length c2) X := O2.out.1
      have o3 : OwnB w3 w2.heap.size (.slice a3 Z.length c3) Z := O3.out.1
      have p2 : (rwB a2 c2 X).At 5 1 w.heap.size w5 := rwB_at (own_base (((o2.kept (Kept.of_below O3.out.2) (by simp)).kept (Kept.of_below O4.out.2) (by simp)).kept (Kept.of_below O5.out.2) (by simp)) (by omega))
      have p3 : (rwB a3 c3 Z).At 5 1 w.heap.size w5 := rwB_at (own_base ((o3.kept (Kept.of_below O4.out.2) (by simp)).kept (Kept.of_below O5.out.2) (by simp)) (by omega))
      have p4 : (rwE a4 c4 Y1).At 42 34 w.heap.size w5 := own_base (O4.out.1.kept (Kept.of_below O5.out.2) (by simp)).1 (by omega)
      have p5 : (rwE a5 c5 Y2).At 42 34 w.heap.size w5 := own_base O5.out.1.1 (by omega)
      have q2 := rwB_at O2.out.1
      have q3 := rwB_at O3.out.1
      have q4 := rwE_at O4.out.1
      have q5 := rwE_at O5.out.1
      obtain ⟨vR', w6, hrun6, ho6, hg6⟩ := run_append_two 25 23 Tryd.underlying25 Tryd.infoRow w5 w.heap.size u5 (2 * i) (vals (2 * i) fb) (rwB a2 c2 X).val (rwB a3 c3 Z).val T5.out.oR rfl rfl (by omega) T5.out.bel.size
      have T6 := T5.out.addB p2 p3 (fun j hj => off_new (HS.out.1.bf.own j hj) q2 (Nat.le_refl _)) (fun j hj => off_new (HS.out.1.bf.own j hj) q3 (by omega)) (off_new q2 q3 (Nat.le_refl _)) ho6 hg6
      have p4' : (rwE a4 c4 Y1).At 42 34 w.heap.size w6 := p4.keep hg6 (own_types p4 T5.out.oR (by decide))
      have p5' : (rwE a5 c5 Y2).At 42 34 w.heap.size w6 := p5.keep hg6 (own_types p5 T5.out.oR (by decide))
      obtain ⟨vL', w7, hrun7, ho7, hg7⟩ := run_append_two 26 22 Tryd.underlying26 Tryd.infoList w6 w.heap.size u6 (2 * i) (vals (2 * i) fl) (rwE a4 c4 Y1).val (rwE a5 c5 Y2).val T6.oL rfl rfl (by omega) T6.bel.size
      have T7 := T6.addL p4' p5' (fun j hj => off_new (HS.out.1.lf.own j hj) q4 (by omega)) (fun j hj => off_new (HS.out.1.lf.own j hj) q5 (by omega)) (off_new q4 q5 (by omega)) ho7 hg7
      have HN : Hid (Tk w w7 (2 * (i + 1)) (2 * (i + 1)) _ _ vR' vL' ∧ Tc (i + 1) X Z Y1 Y2 _ _) := ⟨T7, HS.out.2.next a2 a3 a4 a5 c2 c3 c4 c5⟩
      clear o2 o3 p2 p3 p4 p5 q2 q3 q4 q5 ho6 hg6 T6 p4' p5' ho7 hg7 T7 O2 O3 O4 O5 T2 T3 T4 T5
      have e1 : (rwB a2 c2 X).val = .slice a2 X.length c2 := rfl
      have e2 : (rwB a3 c3 Z).val = .slice a3 Z.length c3 := rfl
      have e3 : (rwE a4 c4 Y1).val = .slice a4 Y1.length c4 := rfl
      have e4 : (rwE a5 c5 Y2).val = .slice a5 Y2.length c5 := rfl
      rw [e1, e2] at hrun6
      rw [e3, e4] at hrun7
      clear e1 e2 e3 e4
      go_wp2_with (first
        | refine wpList_app_run rfl (.tmp 58) (.tmp 61) 25 25 rfl u5 (.slice (some ⟨w5.heap.size, 0, none⟩) 2 2) rfl rfl vR' w6 hrun6 ?_
        | refine wpList_app_run rfl (.tmp 63) (.tmp 66) 26 26 rfl u6 (.slice (some ⟨w6.heap.size, 0, none⟩) 2 2) rfl rfl vL' w7 hrun7 ?_)
      go_roundw
      case rel => exact ⟨i + 1, _, _, by omega, by go_num, HN.out⟩
      case measure => simp [intOf]; omega
    · obtain rfl : i = 6 := by omega
      have hbw := HS.out.1.bel
      have hre := refencode_ok ao n cap L wr hn (by omega) (HE.out.below hbw)
      have hY1l : Y1.length ≤ 32 := by
        rw [← HY1.out]
        rcases hp : Tn.parse xs with _ | M
        · simp
        · exact psmall hp
      have hY2l : Y2.length ≤ 32 := by
        rw [← HY2.out]
        rcases hp : Tn.parse X with _ | M
        · simp
        · exact psmall hp
      have hZ2 : Z = [84, 0] := by rw [← HZ.out]; rfl
      subst hZ2
      have HC := hide HS.out.2
      have HS1 := hide HS.out.1
      clear hbw HS
      go_upto_region 17 with (first
        | (go_at_call 7; refine hre.mono ?_; rintro r w2 ⟨⟨v, rfl, hv⟩, hb2⟩; rw [HX.out] at hv; obtain ⟨a2, c2, hv2, hlc2, hs2, _⟩ := OwnB.shape hv; subst hv2; have T2 := hide (HS1.out.kept (Kept.of_below hb2)); have S2 := hide hs2; have hp1 := refparse_ok bo bn bcap xs w2 HI.out.len (by omega) hble (HI.out.sl.kept (Kept.of_below T2.out.bel) (by simp)); clear hre hv hb2 hs2)
        | (go_at_call 8; refine hp1.mono ?_; rintro r w3 ⟨⟨v, rfl, hv⟩, hb3⟩; rw [HY1.out] at hv; obtain ⟨a3, c3, hv3, _, hE3, _⟩ := hv.ents; subst hv3; have T3 := hide (T2.out.kept (Kept.of_below hb3)); have E3 := hide hE3; have S3 := hide (S2.out.kept (Kept.of_below hb3) (by simp)); have hp2 := refparse_ok a2 X.length c2 X w3 rfl hXl hlc2 S3.out; clear hp1 hv hb3 hE3 S2)
        | (go_at_call 8; refine hp2.mono ?_; rintro r w4 ⟨⟨v, rfl, hv⟩, hb4⟩; rw [HY2.out] at hv; obtain ⟨a4, c4, hv4, _, hE4, _⟩ := hv.ents; subst hv4; have T4 : Hid (Tl w w4 fb fl u5 u6 a2 a3 a4 X Y1 Y2) := ⟨T3.out.kept (Kept.of_below hb4), S3.out.kept (Kept.of_below hb4) (by simp), E3.out.kept (Kept.of_below hb4) (by simp), hE4⟩; clear hp2 hv hb4 hE4 S3 E3))
      obtain ⟨gR, cR, hvR, _⟩ := T4.out.tk.cellB (i := 0) (by omega)
      subst hvR
      obtain ⟨gL, cL, hvL, _⟩ := T4.out.tk.cellL (i := 0) (by omega)
      subst hvL
      go_wp2_with (fail)
      go_loopw [22] (fun x wr => ∃ j : Nat, j ≤ 6 ∧ x = .int .i64 j ∧ Hid (Tl w wr fb fl (.slice (some ⟨gR, 0, none⟩) 12 cR) (.slice (some ⟨gL, 0, none⟩) 12 cL) a2 a3 a4 X Y1 Y2)) (fun x wr => 6 - (intOf x).toNat)
      case atStart => exact ⟨0, by omega, rfl, T4.out⟩
      case round =>
        obtain ⟨j, hj, rfl, HL⟩ := hrel
        by_cases hj6 : j < 6
        · have b1 := HC.out.b (2 * j) (by omega)
          have b2 := HC.out.b (2 * j + 1) (by omega)
          have l1 := HC.out.l (2 * j) (by omega)
          have l2 := HC.out.l (2 * j + 1) (by omega)
          rw [pk_even] at b1 l1
          rw [pk_odd] at b2 l2
          have hw : IntKind.i64.wrap (2 * (j : Int)) = ((2 * j : Nat) : Int) := by rw [IntKind.wrap_i64]; omega
          have hp12 : 2 * j + 1 < 12 := by omega
          generalize 2 * j = p at b1 b2 l1 l2 hw hp12
          have m1 : wr.cell? ⟨gR, p, none⟩ = _ := HL.out.tk.atB (i := p) (by omega)
          rw [b1.1] at m1
          have s1 := rw_sl (HL.out.tk.bf.own (p) (by omega)) b1.1 b1.2
          have hs1 := same_any (fb (p)).o a2 X.length (fb (p)).c X.length c2 X X wr rfl rfl (by omega) s1 HL.out.sx
          rw [decide_eq_true (rfl : X = X)] at hs1
          have MB : Hid (∀ W, Tl w W fb fl (.slice (some ⟨gR, 0, none⟩) 12 cR) (.slice (some ⟨gL, 0, none⟩) 12 cL) a2 a3 a4 X Y1 Y2 → W.cell? ⟨gR, p + 1, none⟩ = some (.slice (fb (p + 1)).o 2 (fb (p + 1)).c) ∧ Sl W (fb (p + 1)).o [84, 0] ∧ W.cell? ⟨gL, p, none⟩ = some (.slice (fl (p)).o Y1.length (fl (p)).c) ∧ Ents W (fl (p)).o Y1 ∧ W.cell? ⟨gL, p + 1, none⟩ = some (.slice (fl (p + 1)).o Y2.length (fl (p + 1)).c) ∧ Ents W (fl (p + 1)).o Y2) := fun W hW => by
            have q1 := hW.tk.atB (i := p + 1) (by omega)
            have q2 := hW.tk.atL (i := p) (by omega)
            have q3 := hW.tk.atL (i := p + 1) (by omega)
            rw [b2.1] at q1
            rw [l1.1] at q2
            rw [l2.1] at q3
            exact ⟨q1, rw_sl (hW.tk.bf.own (p + 1) (by omega)) b2.1 b2.2, q2, rw_ents (hW.tk.lf.own (p) (by omega)) l1.1 l1.2 hW.e1.oks2, q3, rw_ents (hW.tk.lf.own (p + 1) (by omega)) l2.1 l2.2 hW.e2.oks2⟩
          clear b1 b2 l1 l2 s1
          generalize fb (p) = rb1 at *
          generalize fb (p + 1) = rb2 at *
          generalize fl (p) = rl1 at *
          generalize fl (p + 1) = rl2 at *
          go_wp2_with (first
            | (go_at_call 9; refine hs1.mono ?_; rintro r v1 ⟨rfl, k1, rfl⟩; have L1 := hide (HL.out.kept ((Kept.refl [] wr).drewN k1)); clear hs1; generalize World.drewN wr k1 = v1 at L1 ⊢; have m2 := (MB.out _ L1.out).1; have kN : Kept [] v1 (v1.alloc (.cells #[.int .u8 84, .int .u8 0] 5)) := (Kept.refl [] v1).alloc _; have L2 := hide (L1.out.kept kN); have hs2 := same_any rb2.o (some ⟨v1.heap.size, 0, none⟩) 2 rb2.c 2 2 [84, 0] [84, 0] (v1.alloc (.cells #[.int .u8 84, .int .u8 0] 5)) rfl rfl (by omega) ((MB.out _ L2.out).2.1) (Sl.of (fun i hi => by rw [Nat.zero_add, cell_of_row _ _ _ _ _ _ (heap_new v1 (.cells #[.int .u8 84, .int .u8 0] 5))]; have hi2 : i = 0 ∨ i = 1 := (by simp at hi; omega); rcases hi2 with rfl | rfl <;> rfl)); rw [decide_eq_true (rfl : ([84, 0] : List UInt8) = [84, 0])] at hs2; clear kN)
            | (go_at_call 9; refine hs2.mono ?_; rintro r v2 ⟨rfl, k2, rfl⟩; have L3 := hide (L2.out.kept ((Kept.refl [] _).drewN k2)); clear hs2; generalize World.drewN _ k2 = v2 at L3 ⊢; have m3 := (MB.out _ L3.out).2.2.1; have hs3 := alike_any rl1.o a3 Y1.length rl1.c Y1.length c3 Y1 Y1 v2 rfl rfl (by omega) ((MB.out _ L3.out).2.2.2.1) L3.out.e1; rw [decide_eq_true (rfl : Y1 = Y1)] at hs3)
            | (go_at_call 10; refine hs3.mono ?_; rintro r v3 ⟨rfl, k3⟩; have L4 := hide (L3.out.kept k3); clear hs3 k3; have m4 := (MB.out _ L4.out).2.2.2.2.1; have hs4 := alike_any rl2.o a4 Y2.length rl2.c Y2.length c4 Y2 Y2 v3 rfl rfl (by omega) ((MB.out _ L4.out).2.2.2.2.2) L4.out.e2; rw [decide_eq_true (rfl : Y2 = Y2)] at hs4)
            | (go_at_call 10; refine hs4.mono ?_; rintro r v4 ⟨rfl, k4⟩; have L5 := hide (L4.out.kept k4); clear hs4 k4))
          go_roundw
          case rel => exact ⟨j + 1, by omega, by go_num, L5.out⟩
          case measure => simp [intOf]; omega
        · have HM : Hid (Tm w wr fb fl (.slice (some ⟨gR, 0, none⟩) 12 cR) (.slice (some ⟨gL, 0, none⟩) 12 cL) 0 0 0) := by
            refine ⟨HL.out.tk, fun j hj => ⟨pk X [84, 0] j, (HC.out.b j hj).1, (HC.out.b j hj).2, ?_, fun k _ hc => by omega⟩, fun j hj => ⟨pk Y1 Y2 j, (HC.out.l j hj).1, (HC.out.l j hj).2, ?_, ?_, fun k _ hc => by omega⟩⟩
            · unfold pk; split
              · exact hXs
              · simp
            · unfold pk; split
              · exact hY1l
              · exact hY2l
            · unfold pk; split
              · exact HL.out.e1.oks2
              · exact HL.out.e2.oks2
          clear HL HC T4 HS1 T2 T3 HX HZ HY1 HY2
          go_wp2_with (fail)
          go_loopw [23] (fun x wr => ∃ (i : Nat) (fb fl : Nat → Rw), i ≤ 12 ∧ x = .int .i64 i ∧ Hid (Tm w wr fb fl (.slice (some ⟨gR, 0, none⟩) 12 cR) (.slice (some ⟨gL, 0, none⟩) 12 cL) i 0 0)) (fun x wr => 12 - (intOf x).toNat)
          case atStart => exact ⟨0, fb, fl, by omega, rfl, HM.out⟩
          case round =>
            clear HM
            obtain ⟨i, fb, fl, hi, rfl, HM⟩ := hrel
            by_cases hi12 : i < 12
            · obtain ⟨xs0, hN, _, hNm, _⟩ := HM.out.b i hi12
              have hNm2 : (fb i).n ≤ 140737488355328 := by omega
              clear hN hNm
              generalize hro : (fb i).o = ro at *
              generalize hrn : (fb i).n = rn at *
              generalize hrc : (fb i).c = rc at *
              go_wp2_with (fail)
              go_loopw [24] (fun x wr => ∃ (k : Nat) (fb2 : Nat → Rw), k ≤ rn ∧ x = .int .i64 k ∧ Hid (Tm w wr fb2 fl (.slice (some ⟨gR, 0, none⟩) 12 cR) (.slice (some ⟨gL, 0, none⟩) 12 cL) i k 0 ∧ (fb2 i).o = ro ∧ (fb2 i).n = rn ∧ (fb2 i).c = rc)) (fun x wr => rn - (intOf x).toNat)
              case atStart => exact ⟨0, fb, by omega, rfl, HM.out, hro, hrn, hrc⟩
              case round =>
                obtain ⟨k, fb2, hk, rfl, HB⟩ := hrel
                have m1 := HB.out.1.tk.atB (i := i) hi12
                rw [HB.out.2.1, HB.out.2.2.1, HB.out.2.2.2] at m1
                by_cases hkn : k < rn
                · obtain ⟨g, rfl, cur, hg, hcs⟩ : ∃ g, ro = some ⟨g, 0, none⟩ ∧ ∃ cur, wr.heap[g]? = some (.cells cur 5 (0, 0)) ∧ k < cur.size := by
                    have hat := HB.out.1.tk.bf.own i hi12
                    unfold Rw.At Rw.val at hat
                    rw [HB.out.2.1, HB.out.2.2.1, HB.out.2.2.2] at hat
                    rcases hat.2 with ⟨_, h0⟩ | ⟨g, cp, cur, hv, _, hg, hnc, _, hcs, _⟩
                    · omega
                    · cases hv
                      exact ⟨g, rfl, cur, hg, by omega⟩
                  have hc0 : wr.cell? ⟨g, k, none⟩ = some cur[k] := by rw [cell_of_row _ _ _ _ _ _ hg]; exact Array.getElem?_eq_getElem hcs
                  have hf0 : wr.frozen? ⟨g, k, none⟩ = false := frozen_of_row _ _ _ _ _ hg
                  have hw8 : IntKind.u8.wrap (i : Int) = i := by rw [IntKind.wrap_u8]; omega
                  have HN := hide (HB.out.1.setB hi12 HB.out.2.1)
                  have HF : Hid ((upr fb2 i ⟨(fb2 i).o, (fb2 i).c, (fb2 i).n, (fb2 i).vs.set k (.int .u8 i)⟩ i).o = some ⟨g, 0, none⟩ ∧ (upr fb2 i ⟨(fb2 i).o, (fb2 i).c, (fb2 i).n, (fb2 i).vs.set k (.int .u8 i)⟩ i).n = rn ∧ (upr fb2 i ⟨(fb2 i).o, (fb2 i).c, (fb2 i).n, (fb2 i).vs.set k (.int .u8 i)⟩ i).c = rc) := by
                    rw [upr_same]; exact HB.out.2
                  clear HB hg
                  generalize cur[k] = cu at hc0
                  go_wp2
                  go_roundw
                  case rel => exact ⟨k + 1, _, by omega, by go_num, HN.out, HF.out⟩
                  case measure => simp [intOf]; omega
                · obtain rfl : k = rn := by omega
                  have hB := HB.out.1
                  obtain ⟨L0, hLN, _, hL32, _, _⟩ := hB.l i hi12
                  have hln2 : (fl i).n ≤ 32 := by omega
                  have HBn := hide HB.out.2.2.1
                  have HB1 := hide hB
                  clear hLN hL32 HB hB
                  generalize hlo : (fl i).o = lo at *
                  generalize hln : (fl i).n = ln at *
                  generalize hlc : (fl i).c = lc at *
                  go_wp2_with (fail)
                  go_loopw [25] (fun x wr => ∃ (j : Nat) (fl2 : Nat → Rw), j ≤ ln ∧ x = .int .i64 j ∧ Hid (Tm w wr fb2 fl2 (.slice (some ⟨gR, 0, none⟩) 12 cR) (.slice (some ⟨gL, 0, none⟩) 12 cL) i k j ∧ (fl2 i).o = lo ∧ (fl2 i).n = ln ∧ (fl2 i).c = lc)) (fun x wr => ln - (intOf x).toNat)
                  case atStart => exact ⟨0, fl, by omega, rfl, HB1.out, hlo, hln, hlc⟩
                  case round =>
                    clear HB1 hlo hln hlc
                    obtain ⟨k, fl2, hk, rfl, HB⟩ := hrel
                    have m1 := HB.out.1.tk.atL (i := i) hi12
                    rw [HB.out.2.1, HB.out.2.2.1, HB.out.2.2.2] at m1
                    by_cases hkn : k < ln
                    · obtain ⟨gl, rfl, cur, hg, hcs⟩ : ∃ gl, lo = some ⟨gl, 0, none⟩ ∧ ∃ cur, wr.heap[gl]? = some (.cells cur 42 (0, 0)) ∧ k * 34 + 34 ≤ cur.size := by
                        have hat := HB.out.1.tk.lf.own i hi12
                        unfold Rw.At Rw.val at hat
                        rw [HB.out.2.1, HB.out.2.2.1, HB.out.2.2.2] at hat
                        rcases hat.2 with ⟨_, h0⟩ | ⟨g, cp, cur, hv, _, hg, hnc, _, hcs, _⟩
                        · omega
                        · cases hv
                          exact ⟨g, rfl, cur, hg, by omega⟩
                      have hgn : gL ∉ [gl] := by
                        have hat := HB.out.1.tk.lf.own i hi12
                        unfold Rw.At Rw.val at hat
                        rw [HB.out.2.1] at hat
                        have ho := own_types HB.out.1.tk.oL hat (by decide)
                        intro h
                        simp at h
                        exact ho gL rfl (by simp [Value.ownBlock, h])
                      have hwok : EntOk (wro i k) := wro_ok (by omega)
                      have sc1 := str_cat (dig i) [46]
                      have sc2 := str_cat (dig i ++ [46]) (dig k)
                      have sz1 : ¬ (9223372036854775807 < (dig i).length + 1) := by have := dig_len i; omega
                      have sz2 : ¬ (9223372036854775807 < (dig i).length + 1 + (dig k).length) := by have := dig_len i; have := dig_len k; omega
                      have sz3 : ¬ (9223372036854775807 < (dig i).length + (1 + (dig k).length)) := by have := dig_len i; have := dig_len k; omega
                      have hbn := builtNK ⟨(dig i ++ [46] ++ dig k).toArray⟩ (i : Int)
                      have hwc : (Value.string ⟨(dig i ++ [46] ++ dig k).toArray⟩ :: Value.int .i64 (i : Int) :: bys (List.replicate 32 0)).toArray = (wro i k).cells.toArray := rfl
                      rw [hwc] at hbn
                      clear hwc
                      obtain ⟨ew, hew⟩ : ∃ ew, wro i k = ew := ⟨_, rfl⟩
                      rw [hew] at hbn hwok
                      have ni : (i : Int) < 12 := by omega
                      have hi100 : i < 100 := by omega
                      have hk100 : k < 100 := by omega
                      have nk : (k : Int) < (ln : Int) := by omega
                      go_upto_region 32 with (fail)
                      refine wp_region_held_drew (S := fun w' => Kept [gl] wr w') (by kernel_rfl) ((Kept.refl [gl] wr).drew) (fun h0 => ?_)
                      have kk0 : Kept [] wr wr.drew := (Kept.refl [] wr).drew
                      generalize World.drew wr = v0 at h0 kk0 ⊢
                      refine wpAnyH_take (i := 0) (v := .slice (some ⟨gL, 0, none⟩) 12 cL) rfl (by kernel_rfl) (by kernel_rfl) (by kernel_rfl) (fun _ _ _ h => h) (Or.inl ⟨by rfl, fun W hSw => by go_simp⟩) h0 ?_
                      try simp only [List.getElem_toArray, List.getElem_cons_zero, List.getElem_cons_succ, Act.put, List.setIfInBounds_toArray, List.set_cons_zero, List.set_cons_succ]
                      refine wpAnyH_take (i := 1) (v := .int .i64 i) rfl (by kernel_rfl) (by kernel_rfl) (by kernel_rfl) (fun _ _ _ h => h) (Or.inl ⟨by rfl, fun W hSw => by go_simp⟩) h0 ?_
                      try simp only [List.getElem_toArray, List.getElem_cons_zero, List.getElem_cons_succ, Act.put, List.setIfInBounds_toArray, List.set_cons_zero, List.set_cons_succ]
                      refine wpAnyH_take (i := 2) (v := .pointer (some ⟨gL, i, none⟩)) rfl (by kernel_rfl) (by kernel_rfl) (by kernel_rfl) (fun _ _ _ h => h) (Or.inl ⟨by rfl, fun W hSw => by have d := ni; go_simp⟩) h0 ?_
                      try simp only [List.getElem_toArray, List.getElem_cons_zero, List.getElem_cons_succ, Act.put, List.setIfInBounds_toArray, List.set_cons_zero, List.set_cons_succ]
                      refine wpAnyH_take (i := 3) (v := .slice (some ⟨gl, 0, none⟩) ln lc) rfl (by kernel_rfl) (by kernel_rfl) (by kernel_rfl) (fun _ _ _ h => h) (Or.inl ⟨by rfl, fun W hSw => by have c := hSw.cellOf m1 hgn; go_simp⟩) h0 ?_
                      try simp only [List.getElem_toArray, List.getElem_cons_zero, List.getElem_cons_succ, Act.put, List.setIfInBounds_toArray, List.set_cons_zero, List.set_cons_succ]
                      refine wpAnyH_take (i := 4) (v := .int .i64 k) rfl (by kernel_rfl) (by kernel_rfl) (by kernel_rfl) (fun _ _ _ h => h) (Or.inl ⟨by rfl, fun W hSw => by go_simp⟩) h0 ?_
                      try simp only [List.getElem_toArray, List.getElem_cons_zero, List.getElem_cons_succ, Act.put, List.setIfInBounds_toArray, List.set_cons_zero, List.set_cons_succ]
                      refine wpAnyH_take (i := 5) (v := .int .i64 i) rfl (by kernel_rfl) (by kernel_rfl) (by kernel_rfl) (fun _ _ _ h => h) (Or.inl ⟨by rfl, fun W hSw => by go_simp⟩) h0 ?_
                      try simp only [List.getElem_toArray, List.getElem_cons_zero, List.getElem_cons_succ, Act.put, List.setIfInBounds_toArray, List.set_cons_zero, List.set_cons_succ]
                      refine wpAnyH_take (i := 8) (v := .int .i64 k) rfl (by kernel_rfl) (by kernel_rfl) (by kernel_rfl) (fun _ _ _ h => h) (Or.inl ⟨by rfl, fun W hSw => by go_simp⟩) h0 ?_
                      try simp only [List.getElem_toArray, List.getElem_cons_zero, List.getElem_cons_succ, Act.put, List.setIfInBounds_toArray, List.set_cons_zero, List.set_cons_succ]
                      refine wpAnyH_take (i := 11) (v := .int .i64 i) rfl (by kernel_rfl) (by kernel_rfl) (by kernel_rfl) (fun _ _ _ h => h) (Or.inl ⟨by rfl, fun W hSw => by go_simp⟩) h0 ?_
                      try simp only [List.getElem_toArray, List.getElem_cons_zero, List.getElem_cons_succ, Act.put, List.setIfInBounds_toArray, List.set_cons_zero, List.set_cons_succ]
                      refine wpAnyH_ready (rs := [6]) (by kernel_rfl) (by simp) (AllReadyH.cons (i := 6) rfl (fun K hK => ?_) AllReadyH.nil)
                      rw [if_pos (by rfl)]
                      go_simp
                      refine (digits_ok i hi100 v0).mono ?_
                      rintro r v1 ⟨rfl, hq⟩
                      have kk1 : Kept [] wr v1 := kk0.trans hq (by simp)
                      refine hK.out _ _ (h0.trans hq (by simp)) (fun h1 => ?_)
                      clear hK K hq h0 kk0
                      try simp only [List.getElem_toArray, List.getElem_cons_zero, List.getElem_cons_succ, Act.put, List.setIfInBounds_toArray, List.set_cons_zero, List.set_cons_succ]
                      refine wpAnyH_take (i := 7) (v := .string ⟨(dig i ++ [46]).toArray⟩) rfl (by kernel_rfl) (by kernel_rfl) (by kernel_rfl) (fun _ _ _ h => h) (Or.inl ⟨by rfl, fun W hSw => by have c := sc1; have d := sz1; go_simp⟩) h1 ?_
                      try simp only [List.getElem_toArray, List.getElem_cons_zero, List.getElem_cons_succ, Act.put, List.setIfInBounds_toArray, List.set_cons_zero, List.set_cons_succ]
                      refine wpAnyH_ready (rs := [9]) (by kernel_rfl) (by simp) (AllReadyH.cons (i := 9) rfl (fun K hK => ?_) AllReadyH.nil)
                      rw [if_pos (by rfl)]
                      go_simp
                      refine (digits_ok k hk100 v1).mono ?_
                      rintro r v2 ⟨rfl, hq⟩
                      have kk2 : Kept [] wr v2 := kk1.trans hq (by simp)
                      refine hK.out _ _ (h1.trans hq (by simp)) (fun h2 => ?_)
                      clear hK K hq h1 kk1
                      try simp only [List.getElem_toArray, List.getElem_cons_zero, List.getElem_cons_succ, Act.put, List.setIfInBounds_toArray, List.set_cons_zero, List.set_cons_succ]
                      refine wpAnyH_take (i := 10) (v := .string ⟨(dig i ++ [46] ++ dig k).toArray⟩) rfl (by kernel_rfl) (by kernel_rfl) (by kernel_rfl) (fun _ _ _ h => h) (Or.inl ⟨by rfl, fun W hSw => by have c := sc2; have d := sz2; have d2 := sz3; go_simp⟩) h2 ?_
                      try simp only [List.getElem_toArray, List.getElem_cons_zero, List.getElem_cons_succ, Act.put, List.setIfInBounds_toArray, List.set_cons_zero, List.set_cons_succ]
                      refine wpAnyH_take (i := 12) (v := .agg ew.cells.toArray) rfl (by kernel_rfl) (by kernel_rfl) (by kernel_rfl) (fun _ _ _ h => h) (Or.inl ⟨by rfl, fun W hSw => ?_⟩) h2 ?_
                      · refine yields_build 42 [(0, .tmp 169), (1, .tmp 170)] ?_ [(0, .string ⟨(dig i ++ [46] ++ dig k).toArray⟩), (1, .int .i64 (i : Int))] ?_ _ ?_
                        · kernel_rfl
                        · kernel_rfl
                        · exact hbn
                      try simp only [List.getElem_toArray, List.getElem_cons_zero, List.getElem_cons_succ, Act.put, List.setIfInBounds_toArray, List.set_cons_zero, List.set_cons_succ]
                      refine wpAnyH_take (i := 13) (v := .pointer (some ⟨gl, k * 34, none⟩)) rfl (by kernel_rfl) (by kernel_rfl) (by kernel_rfl) (fun _ _ _ h => h) (Or.inl ⟨by rfl, fun W hSw => by have d := nk; go_simp⟩) h2 ?_
                      try simp only [List.getElem_toArray, List.getElem_cons_zero, List.getElem_cons_succ, Act.put, List.setIfInBounds_toArray, List.set_cons_zero, List.set_cons_succ]
                      have ML := HB.out.1.kept kk2
                      obtain ⟨fl3, N3, f1, f2, f3⟩ := ML.setL hi12 HB.out.2.1 (by rw [HB.out.2.2.1]; exact hkn)
                      rw [hew] at N3
                      have hth : v2.there gl (k * 34) ew.cells.toArray.size := by
                        rw [ent_size hwok]
                        exact there_row (kk2.heap hg (by simp)) _ _ hcs
                      have HN := hide (And.intro N3 (And.intro (f1.trans HB.out.2.1) (And.intro (f2.trans HB.out.2.2.1) (f3.trans HB.out.2.2.2))))
                      refine wpAnyH_ready (rs := [14]) (by kernel_rfl) (by simp) (AllReadyH.cons (i := 14) rfl (fun K hK => ?_) AllReadyH.nil)
                      rw [if_pos (by rfl)]
                      refine wp_store_mid 42 (.tmp 172) (.tmp 171) rfl gl (k * 34) ew.cells.toArray (by kernel_rfl) (by kernel_rfl) hth (by rw [ent_size hwok]; exact Tryd.infoEntry) (ent_all _) ?_
                      refine hK.out _ _ (kept_cells (by simp) _ _ _ _ h2) (fun h3 => ?_)
                      clear hK K h2 h3
                      try simp only [List.getElem_toArray, List.getElem_cons_zero, List.getElem_cons_succ, Act.put, List.setIfInBounds_toArray, List.set_cons_zero, List.set_cons_succ]
                      refine wpAnyH_done (by kernel_rfl) ?_ _
                      clear hth ML N3 f1 f2 f3 kk2 m1 hg hbn sc1 sc2 sz1 sz2 sz3 hwok HB
                      generalize World.setCells v2 _ _ _ = v3 at HN ⊢
                      go_wp2
                      go_roundw
                      case rel => exact ⟨k + 1, fl3, by omega, by go_num, HN.out⟩
                      case measure => simp [intOf]; omega
                    · have HX2 := hide (HB.out.1.next (by rw [HBn.out]; exact Nat.le_refl _) (by rw [HB.out.2.2.1]; omega))
                      go_wp2
                      go_roundw
                      case rel => exact ⟨i + 1, fb2, fl2, by omega, by go_num, HX2.out⟩
                      case measure => simp [intOf]; omega
            · have e12 : i = 12 := by omega
              replace HM := hide (by have h := HM.out; rw [e12] at h; exact h : Tm w wr fb fl (.slice (some ⟨gR, 0, none⟩) 12 cR) (.slice (some ⟨gL, 0, none⟩) 12 cL) 12 0 0)
              clear e12
              have HG0 : Hid (Tg w wr fb fl ⟨some ⟨gR, 0, none⟩, cR, 12, vals 12 fb⟩ ⟨some ⟨gL, 0, none⟩, cL, 12, vals 12 fl⟩ 0 fb 0 rw0 0 fl 0 rw0) := Tg.begin HM.out.tk
              have HCb : Hid (∀ j, j < 12 → ∃ xs : List UInt8, (fb j).n = xs.length ∧ (fb j).vs = bys xs ∧ xs.length ≤ 1000000 ∧ ∀ k, k < xs.length → (xs.getD k 0).toNat = j) := fun j hj => by
                obtain ⟨xs, q1, q2, q3, q4⟩ := HM.out.b j hj
                exact ⟨xs, q1, q2, q3, fun k hk => q4 k hk (Or.inl hj)⟩
              have HCl : Hid (∀ j, j < 12 → ∃ L : List Ent, (fl j).n = L.length ∧ (fl j).vs = rows L ∧ L.length ≤ 32 ∧ (∀ e ∈ L, EntOk e) ∧ ∀ k, k < L.length → L.getD k ent0 = wro j k) := fun j hj => by
                obtain ⟨L, q1, q2, q3, q5, q4⟩ := HM.out.l j hj
                exact ⟨L, q1, q2, q3, q5, fun k hk => q4 k hk (Or.inl hj)⟩
              clear HM
              go_wp2_with (fail)
              go_loopw [26, 27, 28] (fun x y z wr => ∃ (i : Nat) (lb ll : Nat → Rw) (rG rH : Rw), i ≤ 12 ∧ z = .int .i64 i ∧ x = .slice rG.o rG.n rG.c ∧ y = .slice rH.o rH.n rH.c ∧ Hid (Tg w wr fb fl ⟨some ⟨gR, 0, none⟩, cR, 12, vals 12 fb⟩ ⟨some ⟨gL, 0, none⟩, cL, 12, vals 12 fl⟩ i lb i rG i ll i rH ∧ Cd fb lb 70 yb i ∧ Cd fl ll 70 yl i)) (fun x y z wr => 12 - (intOf z).toNat)
              case atStart => exact ⟨0, fb, fl, rw0, rw0, by omega, rfl, rfl, rfl, HG0.out, Cd.start _ _ _ _, Cd.start _ _ _ _⟩
              case round =>
                clear HG0
                obtain ⟨i, lb, ll, rG, rH, hi, rfl, rfl, rfl, HG⟩ := hrel
                by_cases hi12 : i < 12
                · have ni : (i : Int) < 12 := by omega
                  have m1 : wr.cell? ⟨gR, i, none⟩ = some (.slice (fb i).o (fb i).n (fb i).c) := by
                    obtain ⟨g, hg, hc⟩ := rw_cell HG.out.1.gb.oR HG.out.1.gb.nR HG.out.1.gb.vR hi12
                    cases hg
                    exact hc
                  have m2 : wr.cell? ⟨gL, i, none⟩ = some (.slice (fl i).o (fl i).n (fl i).c) := by
                    obtain ⟨g, hg, hc⟩ := rw_cell HG.out.1.gl.oR HG.out.1.gl.nR HG.out.1.gl.vR hi12
                    cases hg
                    exact hc
                  have HS0 : Hid (Tg w wr fb fl ⟨some ⟨gR, 0, none⟩, cR, 12, vals 12 fb⟩ ⟨some ⟨gL, 0, none⟩, cL, 12, vals 12 fl⟩ (i + 1) (upr lb i (fb i)) i rG (i + 1) (upr ll i (fl i)) i rH ∧ (Cd fb (upr lb i (fb i)) 70 yb i ∧ Cu fb (upr lb i (fb i)) yb i 0) ∧ (Cd fl (upr ll i (fl i)) 70 yl i ∧ Cu fl (upr ll i (fl i)) yl i 0)) :=
                    ⟨HG.out.1.start hi12, ⟨HG.out.2.1.lay _, Cu.start _ _ _ _⟩, ⟨HG.out.2.2.lay _, Cu.start _ _ _ _⟩⟩
                  have hbn : (fb i).n ≤ 1000000 := by
                    obtain ⟨xs, q1, _, q3, _⟩ := HCb.out i hi12
                    omega
                  have hln : (fl i).n ≤ 32 := by
                    obtain ⟨xs, q1, _, q3, _⟩ := HCl.out i hi12
                    omega
                  clear HG
                  go_wp2_with (fail)
                  go_loopw [29, 30, 31] (fun x y z wr => ∃ (k : Nat) (lb ll : Nat → Rw), k ≤ 70 ∧ z = .int .i64 k ∧ x = .slice (lb i).o (lb i).n (lb i).c ∧ y = .slice (ll i).o (ll i).n (ll i).c ∧ Hid (Tg w wr fb fl ⟨some ⟨gR, 0, none⟩, cR, 12, vals 12 fb⟩ ⟨some ⟨gL, 0, none⟩, cL, 12, vals 12 fl⟩ (i + 1) lb i rG (i + 1) ll i rH ∧ (Cd fb lb 70 yb i ∧ Cu fb lb yb i k) ∧ (Cd fl ll 70 yl i ∧ Cu fl ll yl i k))) (fun x y z wr => 70 - (intOf z).toNat)
                  case atStart => exact ⟨0, upr lb i (fb i), upr ll i (fl i), by omega, rfl, by rw [upr_same], by rw [upr_same], HS0.out⟩
                  case round =>
                    clear HS0 m1 m2
                    obtain ⟨k, lb, ll, hk, rfl, rfl, rfl, HS⟩ := hrel
                    by_cases hk70 : k < 70
                    · obtain ⟨r1, w1, hrun1, T1, n1, v1⟩ := HS.out.1.appB hi12 (by have := HS.out.2.1.2.1; omega)
                      obtain ⟨r2, w2, hrun2, T2, n2, v2⟩ := T1.appL hi12 (by have := HS.out.2.2.2.1; omega)
                      have HN := hide (And.intro T2 (And.intro (And.intro (HS.out.2.1.1.lay r1) (HS.out.2.1.2.step n1 v1)) (And.intro (HS.out.2.2.1.lay r2) (HS.out.2.2.2.step n2 v2))))
                      have w8 : IntKind.u8.wrap (100 + (i : Int)) = 100 + (i : Int) := by rw [IntKind.wrap_u8]; omega
                      have wsub : IntKind.i64.wrap (-1 - (i : Int)) = -1 - (i : Int) := by rw [IntKind.wrap_i64]; omega
                      have hbk : Tryd.prog.built 42 [(1, .int .i64 (-1 - (i : Int)))] = some (put' i).cells.toArray := builtK _
                      have hok : EntOk (put' i) := put_ok (by omega)
                      clear HS T1 T2 n1 v1 n2 v2
                      unfold Rw.val at hrun1 hrun2
                      generalize hx1 : (lb i).o = o1 at *
                      generalize hx2 : (lb i).n = p1 at *
                      generalize hx3 : (lb i).c = c1 at *
                      generalize hx4 : (ll i).o = o2 at *
                      generalize hx5 : (ll i).n = p2 at *
                      generalize hx6 : (ll i).c = c2 at *
                      go_wp2_with (first
                        | refine wpList_app_run rfl (.tmp 191) (.tmp 195) 23 23 rfl (.slice o1 p1 c1) (.slice (some ⟨wr.heap.size, 0, none⟩) 1 1) rfl rfl (.slice r1.o r1.n r1.c) w1 hrun1 ?_
                        | refine wpList_build1 rfl (.tmp 200) rfl (put' i) rfl hok ?_
                        | refine wpList_app_run rfl (.tmp 197) (.tmp 201) 22 22 rfl (.slice o2 p2 c2) (.slice (some ⟨w1.heap.size, 0, none⟩) 1 1) rfl rfl (.slice r2.o r2.n r2.c) w2 hrun2 ?_)
                      go_roundw
                      case rel => exact ⟨k + 1, upr lb i r1, upr ll i r2, by omega, by go_num, by rw [upr_same], by rw [upr_same], HN.out⟩
                      case measure => simp [intOf]; omega
                    · obtain rfl : k = 70 := by omega
                      obtain ⟨r1, w1, hrun1, T1⟩ := HS.out.1.pushB hi12
                      obtain ⟨r2, w2, hrun2, T2⟩ := T1.pushL hi12
                      have HN := hide (And.intro T2 (And.intro (HS.out.2.1.1.next HS.out.2.1.2) (HS.out.2.2.1.next HS.out.2.2.2)))
                      clear HS T1 T2
                      unfold Rw.val at hrun1 hrun2
                      generalize hx1 : (lb i).o = o1 at *
                      generalize hx2 : (lb i).n = p1 at *
                      generalize hx3 : (lb i).c = c1 at *
                      generalize hx4 : (ll i).o = o2 at *
                      generalize hx5 : (ll i).n = p2 at *
                      generalize hx6 : (ll i).c = c2 at *
                      go_wp2_with (first
                        | refine wpList_app_run rfl (.tmp 203) (.tmp 205) 25 25 rfl (.slice rG.o rG.n rG.c) (.slice (some ⟨wr.heap.size, 0, none⟩) 1 1) rfl rfl (.slice r1.o r1.n r1.c) w1 hrun1 ?_
                        | refine wpList_app_run rfl (.tmp 207) (.tmp 209) 26 26 rfl (.slice rH.o rH.n rH.c) (.slice (some ⟨w1.heap.size, 0, none⟩) 1 1) rfl rfl (.slice r2.o r2.n r2.c) w2 hrun2 ?_)
                      go_roundw
                      case rel => exact ⟨i + 1, lb, ll, r1, r2, by omega, by go_num, rfl, rfl, HN.out⟩
                      case measure => simp [intOf]; omega
                · have e12 : i = 12 := by omega
                  replace HG := hide (by have h := HG.out; rw [e12] at h; exact h : Tg w wr fb fl ⟨some ⟨gR, 0, none⟩, cR, 12, vals 12 fb⟩ ⟨some ⟨gL, 0, none⟩, cL, 12, vals 12 fl⟩ 12 lb 12 rG 12 ll 12 rH ∧ Cd fb lb 70 yb 12 ∧ Cd fl ll 70 yl 12)
                  clear e12
                  have hrn1 := HG.out.1.gb.nG
                  have hrn2 := HG.out.1.gl.nG
                  obtain ⟨gG, hgG, _⟩ := rw_cell HG.out.1.gb.oG HG.out.1.gb.nG HG.out.1.gb.vG (i := 0) (by omega)
                  obtain ⟨gH, hgH, _⟩ := rw_cell HG.out.1.gl.oG HG.out.1.gl.nG HG.out.1.gl.vG (i := 0) (by omega)
                  have MC : Hid (∀ W, Tg w W fb fl ⟨some ⟨gR, 0, none⟩, cR, 12, vals 12 fb⟩ ⟨some ⟨gL, 0, none⟩, cL, 12, vals 12 fl⟩ 12 lb 12 rG 12 ll 12 rH → ∀ j, j < 12 → W.cell? ⟨gR, j, none⟩ = some (.slice (fb j).o (fb j).n (fb j).c) ∧ W.cell? ⟨gL, j, none⟩ = some (.slice (fl j).o (fl j).n (fl j).c) ∧ W.cell? ⟨gG, j, none⟩ = some (.slice (lb j).o (lb j).n (lb j).c) ∧ W.cell? ⟨gH, j, none⟩ = some (.slice (ll j).o (ll j).n (ll j).c)) := fun W T j hj => by
                    obtain ⟨a1, b1, d1⟩ := rw_cell T.gb.oR T.gb.nR T.gb.vR hj
                    obtain ⟨a2, b2, d2⟩ := rw_cell T.gl.oR T.gl.nR T.gl.vR hj
                    obtain ⟨a3, b3, d3⟩ := rw_cell T.gb.oG T.gb.nG T.gb.vG hj
                    obtain ⟨a4, b4, d4⟩ := rw_cell T.gl.oG T.gl.nG T.gl.vG hj
                    rw [hgG] at b3
                    rw [hgH] at b4
                    cases b1
                    cases b2
                    cases b3
                    cases b4
                    exact ⟨d1, d2, d3, d4⟩
                  have HD := hide HG.out.2
                  have HG1 := hide HG.out.1
                  clear HG
                  generalize hrc1 : rG.c = c1 at *
                  generalize hrc2 : rH.c = c2 at *
                  rw [hgG, hrn1, hgH, hrn2]
                  go_wp2_with (fail)
                  go_loopw [32] (fun x wr => ∃ j : Nat, j ≤ 12 ∧ x = .int .i64 j ∧ Hid (Tg w wr fb fl ⟨some ⟨gR, 0, none⟩, cR, 12, vals 12 fb⟩ ⟨some ⟨gL, 0, none⟩, cL, 12, vals 12 fl⟩ 12 lb 12 rG 12 ll 12 rH)) (fun x wr => 12 - (intOf x).toNat)
                  case atStart => exact ⟨0, by omega, rfl, HG1.out⟩
                  case round =>
                    clear HG1
                    obtain ⟨j, hj, rfl, HG⟩ := hrel
                    by_cases hj12 : j < 12
                    · have nj : (j : Int) < 12 := by omega
                      obtain ⟨m1, m2, m3, m4⟩ := MC.out _ HG.out j hj12
                      obtain ⟨xs1, xs2, x1, x2, x3, x4, s1, s2, x5, x6, x7⟩ := HG.out.seeB (Nat.le_refl _) HD.out.1 hj12 (HCb.out j hj12)
                      obtain ⟨L1, L2, y1, y2, y3, y4, s3, s4, y5, y6, y7⟩ := HG.out.seeL (Nat.le_refl _) HD.out.2 hj12 (HCl.out j hj12)
                      have X5 := hide x5
                      have X6 := hide x6
                      have X7 := hide x7
                      have Y5 := hide y5
                      have Y6 := hide y6
                      have Y7 := hide y7
                      clear x5 x6 x7 y5 y6 y7
                      generalize fb j = q1 at *
                      generalize lb j = q2 at *
                      generalize fl j = q3 at *
                      generalize ll j = q4 at *
                      obtain ⟨a1, t1, n1, vs1⟩ := q1
                      obtain ⟨a2, t2, n2, vs2⟩ := q2
                      obtain ⟨a3, t3, n3, vs3⟩ := q3
                      obtain ⟨a4, t4, n4, vs4⟩ := q4
                      dsimp only at *
                      have b1 : n1 ≤ 140737488355328 := by omega
                      have b2 : n2 ≤ 140737488355328 := by omega
                      have b3 : n3 ≤ 140737488355328 := by omega
                      have b4 : n4 ≤ 140737488355328 := by omega
                      have bj : j < 100 := by omega
                      have b12 : n1 ≤ n2 := by omega
                      have b34 : n3 ≤ n4 := by omega
                      have bh : n3 ≤ 100 := by omega
                      have z1 : ∀ k, n1 ≤ k → k < n1 → (xs1.getD k 0).toNat = 100 + j := fun k h1 h2 => absurd h1 (by omega)
                      have z3 : ∀ k, n3 ≤ k → k < n3 → L1.getD k ent0 = put' j := fun k h1 h2 => absurd h1 (by omega)
                      clear x3 x4 y3 y4
                      go_upto_region 50 with (fail)
                      refine wp_region_held_drew (S := fun w' => Kept [] wr w') (by kernel_rfl) ((Kept.refl [] wr).drew) (fun h0 => ?_)
                      generalize World.drew wr = v0 at h0 ⊢
                      replace s1 := Sl.kept s1 h0 (by simp)
                      replace s2 := Sl.kept s2 h0 (by simp)
                      replace s3 := Ents.kept s3 h0 (by simp)
                      replace s4 := Ents.kept s4 h0 (by simp)
                      refine wpAnyH_take (i := 0) (v := .slice (some ⟨gR, 0, none⟩) 12 cR) rfl (by kernel_rfl) (by kernel_rfl) (by kernel_rfl) (fun _ _ _ h => h) (Or.inl ⟨by rfl, fun w hSw => by go_simp⟩) h0 ?_
                      try simp only [List.getElem_toArray, List.getElem_cons_zero, List.getElem_cons_succ, Act.put, List.setIfInBounds_toArray, List.set_cons_zero, List.set_cons_succ]
                      refine wpAnyH_take (i := 1) (v := .int .i64 j) rfl (by kernel_rfl) (by kernel_rfl) (by kernel_rfl) (fun _ _ _ h => h) (Or.inl ⟨by rfl, fun w hSw => by go_simp⟩) h0 ?_
                      try simp only [List.getElem_toArray, List.getElem_cons_zero, List.getElem_cons_succ, Act.put, List.setIfInBounds_toArray, List.set_cons_zero, List.set_cons_succ]
                      refine wpAnyH_take (i := 2) (v := .pointer (some ⟨gR, j, none⟩)) rfl (by kernel_rfl) (by kernel_rfl) (by kernel_rfl) (fun _ _ _ h => h) (Or.inl ⟨by rfl, fun w hSw => by go_simp⟩) h0 ?_
                      try simp only [List.getElem_toArray, List.getElem_cons_zero, List.getElem_cons_succ, Act.put, List.setIfInBounds_toArray, List.set_cons_zero, List.set_cons_succ]
                      refine wpAnyH_take (i := 3) (v := .slice a1 n1 t1) rfl (by kernel_rfl) (by kernel_rfl) (by kernel_rfl) (fun _ _ _ h => h) (Or.inl ⟨by rfl, fun w hSw => by have c := Kept.cellOf hSw m1 (by simp); go_simp⟩) h0 ?_
                      try simp only [List.getElem_toArray, List.getElem_cons_zero, List.getElem_cons_succ, Act.put, List.setIfInBounds_toArray, List.set_cons_zero, List.set_cons_succ]
                      refine wpAnyH_take (i := 4) (v := .int .i64 j) rfl (by kernel_rfl) (by kernel_rfl) (by kernel_rfl) (fun _ _ _ h => h) (Or.inl ⟨by rfl, fun w hSw => by go_simp⟩) h0 ?_
                      try simp only [List.getElem_toArray, List.getElem_cons_zero, List.getElem_cons_succ, Act.put, List.setIfInBounds_toArray, List.set_cons_zero, List.set_cons_succ]
                      refine wpAnyH_take (i := 5) (v := .slice (some ⟨gR, 0, none⟩) 12 cR) rfl (by kernel_rfl) (by kernel_rfl) (by kernel_rfl) (fun _ _ _ h => h) (Or.inl ⟨by rfl, fun w hSw => by go_simp⟩) h0 ?_
                      try simp only [List.getElem_toArray, List.getElem_cons_zero, List.getElem_cons_succ, Act.put, List.setIfInBounds_toArray, List.set_cons_zero, List.set_cons_succ]
                      refine wpAnyH_take (i := 6) (v := .int .i64 j) rfl (by kernel_rfl) (by kernel_rfl) (by kernel_rfl) (fun _ _ _ h => h) (Or.inl ⟨by rfl, fun w hSw => by go_simp⟩) h0 ?_
                      try simp only [List.getElem_toArray, List.getElem_cons_zero, List.getElem_cons_succ, Act.put, List.setIfInBounds_toArray, List.set_cons_zero, List.set_cons_succ]
                      refine wpAnyH_take (i := 7) (v := .pointer (some ⟨gR, j, none⟩)) rfl (by kernel_rfl) (by kernel_rfl) (by kernel_rfl) (fun _ _ _ h => h) (Or.inl ⟨by rfl, fun w hSw => by go_simp⟩) h0 ?_
                      try simp only [List.getElem_toArray, List.getElem_cons_zero, List.getElem_cons_succ, Act.put, List.setIfInBounds_toArray, List.set_cons_zero, List.set_cons_succ]
                      refine wpAnyH_take (i := 8) (v := .slice a1 n1 t1) rfl (by kernel_rfl) (by kernel_rfl) (by kernel_rfl) (fun _ _ _ h => h) (Or.inl ⟨by rfl, fun w hSw => by have c := Kept.cellOf hSw m1 (by simp); go_simp⟩) h0 ?_
                      try simp only [List.getElem_toArray, List.getElem_cons_zero, List.getElem_cons_succ, Act.put, List.setIfInBounds_toArray, List.set_cons_zero, List.set_cons_succ]
                      refine wpAnyH_take (i := 9) (v := .int .i64 n1) rfl (by kernel_rfl) (by kernel_rfl) (by kernel_rfl) (fun _ _ _ h => h) (Or.inl ⟨by rfl, fun w hSw => by go_simp⟩) h0 ?_
                      try simp only [List.getElem_toArray, List.getElem_cons_zero, List.getElem_cons_succ, Act.put, List.setIfInBounds_toArray, List.set_cons_zero, List.set_cons_succ]
                      refine wpAnyH_ready (rs := [10]) (by kernel_rfl) (by simp) (AllReadyH.cons (i := 10) rfl (fun K hK => ?_) AllReadyH.nil)
                      rw [if_pos (by rfl)]
                      go_simp
                      refine (rowIs_ok a1 n1 t1 j n1 xs1 v0 x1 b1 bj (Nat.le_refl _) s1 X5.out z1).mono ?_
                      rintro e v1 ⟨rfl, hq⟩
                      replace s1 := Sl.kept s1 (hq) (by simp)
                      replace s2 := Sl.kept s2 (hq) (by simp)
                      replace s3 := Ents.kept s3 (hq) (by simp)
                      replace s4 := Ents.kept s4 (hq) (by simp)
                      refine hK.out _ _ (h0.trans hq (by simp)) (fun h1 => ?_)
                      clear hK K hq h0
                      try simp only [List.getElem_toArray, List.getElem_cons_zero, List.getElem_cons_succ, Act.put, List.setIfInBounds_toArray, List.set_cons_zero, List.set_cons_succ]
                      refine wpAnyH_take (i := 11) (v := .bool false) rfl (by kernel_rfl) (by kernel_rfl) (by kernel_rfl) (fun _ _ _ h => h) (Or.inl ⟨by rfl, fun w hSw => by go_simp⟩) h1 ?_
                      try simp only [List.getElem_toArray, List.getElem_cons_zero, List.getElem_cons_succ, Act.put, List.setIfInBounds_toArray, List.set_cons_zero, List.set_cons_succ]
                      refine wpAnyH_take (i := 12) (v := .bool false) rfl (by kernel_rfl) (by kernel_rfl) (by kernel_rfl) (fun _ _ _ h => h) (Or.inl ⟨by rfl, fun w hSw => by go_simp⟩) h1 ?_
                      try simp only [List.getElem_toArray, List.getElem_cons_zero, List.getElem_cons_succ, Act.put, List.setIfInBounds_toArray, List.set_cons_zero, List.set_cons_succ]
                      refine wpAnyH_take (i := 13) (v := .slice (some ⟨gG, 0, none⟩) 12 c1) rfl (by kernel_rfl) (by kernel_rfl) (by kernel_rfl) (fun _ _ _ h => h) (Or.inl ⟨by rfl, fun w hSw => by go_simp⟩) h1 ?_
                      try simp only [List.getElem_toArray, List.getElem_cons_zero, List.getElem_cons_succ, Act.put, List.setIfInBounds_toArray, List.set_cons_zero, List.set_cons_succ]
                      refine wpAnyH_take (i := 14) (v := .int .i64 j) rfl (by kernel_rfl) (by kernel_rfl) (by kernel_rfl) (fun _ _ _ h => h) (Or.inl ⟨by rfl, fun w hSw => by go_simp⟩) h1 ?_
                      try simp only [List.getElem_toArray, List.getElem_cons_zero, List.getElem_cons_succ, Act.put, List.setIfInBounds_toArray, List.set_cons_zero, List.set_cons_succ]
                      refine wpAnyH_take (i := 15) (v := .pointer (some ⟨gG, j, none⟩)) rfl (by kernel_rfl) (by kernel_rfl) (by kernel_rfl) (fun _ _ _ h => h) (Or.inl ⟨by rfl, fun w hSw => by go_simp⟩) h1 ?_
                      try simp only [List.getElem_toArray, List.getElem_cons_zero, List.getElem_cons_succ, Act.put, List.setIfInBounds_toArray, List.set_cons_zero, List.set_cons_succ]
                      refine wpAnyH_take (i := 16) (v := .slice a2 n2 t2) rfl (by kernel_rfl) (by kernel_rfl) (by kernel_rfl) (fun _ _ _ h => h) (Or.inl ⟨by rfl, fun w hSw => by have c := Kept.cellOf hSw m3 (by simp); go_simp⟩) h1 ?_
                      try simp only [List.getElem_toArray, List.getElem_cons_zero, List.getElem_cons_succ, Act.put, List.setIfInBounds_toArray, List.set_cons_zero, List.set_cons_succ]
                      refine wpAnyH_take (i := 17) (v := .int .i64 j) rfl (by kernel_rfl) (by kernel_rfl) (by kernel_rfl) (fun _ _ _ h => h) (Or.inl ⟨by rfl, fun w hSw => by go_simp⟩) h1 ?_
                      try simp only [List.getElem_toArray, List.getElem_cons_zero, List.getElem_cons_succ, Act.put, List.setIfInBounds_toArray, List.set_cons_zero, List.set_cons_succ]
                      refine wpAnyH_take (i := 18) (v := .slice (some ⟨gR, 0, none⟩) 12 cR) rfl (by kernel_rfl) (by kernel_rfl) (by kernel_rfl) (fun _ _ _ h => h) (Or.inl ⟨by rfl, fun w hSw => by go_simp⟩) h1 ?_
                      try simp only [List.getElem_toArray, List.getElem_cons_zero, List.getElem_cons_succ, Act.put, List.setIfInBounds_toArray, List.set_cons_zero, List.set_cons_succ]
                      refine wpAnyH_take (i := 19) (v := .int .i64 j) rfl (by kernel_rfl) (by kernel_rfl) (by kernel_rfl) (fun _ _ _ h => h) (Or.inl ⟨by rfl, fun w hSw => by go_simp⟩) h1 ?_
                      try simp only [List.getElem_toArray, List.getElem_cons_zero, List.getElem_cons_succ, Act.put, List.setIfInBounds_toArray, List.set_cons_zero, List.set_cons_succ]
                      refine wpAnyH_take (i := 20) (v := .pointer (some ⟨gR, j, none⟩)) rfl (by kernel_rfl) (by kernel_rfl) (by kernel_rfl) (fun _ _ _ h => h) (Or.inl ⟨by rfl, fun w hSw => by go_simp⟩) h1 ?_
                      try simp only [List.getElem_toArray, List.getElem_cons_zero, List.getElem_cons_succ, Act.put, List.setIfInBounds_toArray, List.set_cons_zero, List.set_cons_succ]
                      refine wpAnyH_take (i := 21) (v := .slice a1 n1 t1) rfl (by kernel_rfl) (by kernel_rfl) (by kernel_rfl) (fun _ _ _ h => h) (Or.inl ⟨by rfl, fun w hSw => by have c := Kept.cellOf hSw m1 (by simp); go_simp⟩) h1 ?_
                      try simp only [List.getElem_toArray, List.getElem_cons_zero, List.getElem_cons_succ, Act.put, List.setIfInBounds_toArray, List.set_cons_zero, List.set_cons_succ]
                      refine wpAnyH_take (i := 22) (v := .int .i64 n1) rfl (by kernel_rfl) (by kernel_rfl) (by kernel_rfl) (fun _ _ _ h => h) (Or.inl ⟨by rfl, fun w hSw => by go_simp⟩) h1 ?_
                      try simp only [List.getElem_toArray, List.getElem_cons_zero, List.getElem_cons_succ, Act.put, List.setIfInBounds_toArray, List.set_cons_zero, List.set_cons_succ]
                      refine wpAnyH_ready (rs := [23]) (by kernel_rfl) (by simp) (AllReadyH.cons (i := 23) rfl (fun K hK => ?_) AllReadyH.nil)
                      rw [if_pos (by rfl)]
                      go_simp
                      refine (rowIs_ok a2 n2 t2 j n1 xs2 v1 x2 b2 bj b12 s2 X6.out X7.out).mono ?_
                      rintro e v2 ⟨rfl, hq⟩
                      replace s1 := Sl.kept s1 (hq) (by simp)
                      replace s2 := Sl.kept s2 (hq) (by simp)
                      replace s3 := Ents.kept s3 (hq) (by simp)
                      replace s4 := Ents.kept s4 (hq) (by simp)
                      refine hK.out _ _ (h1.trans hq (by simp)) (fun h2 => ?_)
                      clear hK K hq h1
                      try simp only [List.getElem_toArray, List.getElem_cons_zero, List.getElem_cons_succ, Act.put, List.setIfInBounds_toArray, List.set_cons_zero, List.set_cons_succ]
                      refine wpAnyH_take (i := 24) (v := .bool false) rfl (by kernel_rfl) (by kernel_rfl) (by kernel_rfl) (fun _ _ _ h => h) (Or.inl ⟨by rfl, fun w hSw => by go_simp⟩) h2 ?_
                      try simp only [List.getElem_toArray, List.getElem_cons_zero, List.getElem_cons_succ, Act.put, List.setIfInBounds_toArray, List.set_cons_zero, List.set_cons_succ]
                      refine wpAnyH_take (i := 25) (v := .bool false) rfl (by kernel_rfl) (by kernel_rfl) (by kernel_rfl) (fun _ _ _ h => h) (Or.inl ⟨by rfl, fun w hSw => by go_simp⟩) h2 ?_
                      try simp only [List.getElem_toArray, List.getElem_cons_zero, List.getElem_cons_succ, Act.put, List.setIfInBounds_toArray, List.set_cons_zero, List.set_cons_succ]
                      refine wpAnyH_take (i := 26) (v := .bool false) rfl (by kernel_rfl) (by kernel_rfl) (by kernel_rfl) (fun _ _ _ h => h) (Or.inl ⟨by rfl, fun w hSw => by go_simp⟩) h2 ?_
                      try simp only [List.getElem_toArray, List.getElem_cons_zero, List.getElem_cons_succ, Act.put, List.setIfInBounds_toArray, List.set_cons_zero, List.set_cons_succ]
                      refine wpAnyH_take (i := 27) (v := .slice (some ⟨gL, 0, none⟩) 12 cL) rfl (by kernel_rfl) (by kernel_rfl) (by kernel_rfl) (fun _ _ _ h => h) (Or.inl ⟨by rfl, fun w hSw => by go_simp⟩) h2 ?_
                      try simp only [List.getElem_toArray, List.getElem_cons_zero, List.getElem_cons_succ, Act.put, List.setIfInBounds_toArray, List.set_cons_zero, List.set_cons_succ]
                      refine wpAnyH_take (i := 28) (v := .int .i64 j) rfl (by kernel_rfl) (by kernel_rfl) (by kernel_rfl) (fun _ _ _ h => h) (Or.inl ⟨by rfl, fun w hSw => by go_simp⟩) h2 ?_
                      try simp only [List.getElem_toArray, List.getElem_cons_zero, List.getElem_cons_succ, Act.put, List.setIfInBounds_toArray, List.set_cons_zero, List.set_cons_succ]
                      refine wpAnyH_take (i := 29) (v := .pointer (some ⟨gL, j, none⟩)) rfl (by kernel_rfl) (by kernel_rfl) (by kernel_rfl) (fun _ _ _ h => h) (Or.inl ⟨by rfl, fun w hSw => by go_simp⟩) h2 ?_
                      try simp only [List.getElem_toArray, List.getElem_cons_zero, List.getElem_cons_succ, Act.put, List.setIfInBounds_toArray, List.set_cons_zero, List.set_cons_succ]
                      refine wpAnyH_take (i := 30) (v := .slice a3 n3 t3) rfl (by kernel_rfl) (by kernel_rfl) (by kernel_rfl) (fun _ _ _ h => h) (Or.inl ⟨by rfl, fun w hSw => by have c := Kept.cellOf hSw m2 (by simp); go_simp⟩) h2 ?_
                      try simp only [List.getElem_toArray, List.getElem_cons_zero, List.getElem_cons_succ, Act.put, List.setIfInBounds_toArray, List.set_cons_zero, List.set_cons_succ]
                      refine wpAnyH_take (i := 31) (v := .int .i64 j) rfl (by kernel_rfl) (by kernel_rfl) (by kernel_rfl) (fun _ _ _ h => h) (Or.inl ⟨by rfl, fun w hSw => by go_simp⟩) h2 ?_
                      try simp only [List.getElem_toArray, List.getElem_cons_zero, List.getElem_cons_succ, Act.put, List.setIfInBounds_toArray, List.set_cons_zero, List.set_cons_succ]
                      refine wpAnyH_take (i := 32) (v := .slice (some ⟨gL, 0, none⟩) 12 cL) rfl (by kernel_rfl) (by kernel_rfl) (by kernel_rfl) (fun _ _ _ h => h) (Or.inl ⟨by rfl, fun w hSw => by go_simp⟩) h2 ?_
                      try simp only [List.getElem_toArray, List.getElem_cons_zero, List.getElem_cons_succ, Act.put, List.setIfInBounds_toArray, List.set_cons_zero, List.set_cons_succ]
                      refine wpAnyH_take (i := 33) (v := .int .i64 j) rfl (by kernel_rfl) (by kernel_rfl) (by kernel_rfl) (fun _ _ _ h => h) (Or.inl ⟨by rfl, fun w hSw => by go_simp⟩) h2 ?_
                      try simp only [List.getElem_toArray, List.getElem_cons_zero, List.getElem_cons_succ, Act.put, List.setIfInBounds_toArray, List.set_cons_zero, List.set_cons_succ]
                      refine wpAnyH_take (i := 34) (v := .pointer (some ⟨gL, j, none⟩)) rfl (by kernel_rfl) (by kernel_rfl) (by kernel_rfl) (fun _ _ _ h => h) (Or.inl ⟨by rfl, fun w hSw => by go_simp⟩) h2 ?_
                      try simp only [List.getElem_toArray, List.getElem_cons_zero, List.getElem_cons_succ, Act.put, List.setIfInBounds_toArray, List.set_cons_zero, List.set_cons_succ]
                      refine wpAnyH_take (i := 35) (v := .slice a3 n3 t3) rfl (by kernel_rfl) (by kernel_rfl) (by kernel_rfl) (fun _ _ _ h => h) (Or.inl ⟨by rfl, fun w hSw => by have c := Kept.cellOf hSw m2 (by simp); go_simp⟩) h2 ?_
                      try simp only [List.getElem_toArray, List.getElem_cons_zero, List.getElem_cons_succ, Act.put, List.setIfInBounds_toArray, List.set_cons_zero, List.set_cons_succ]
                      refine wpAnyH_take (i := 36) (v := .int .i64 n3) rfl (by kernel_rfl) (by kernel_rfl) (by kernel_rfl) (fun _ _ _ h => h) (Or.inl ⟨by rfl, fun w hSw => by go_simp⟩) h2 ?_
                      try simp only [List.getElem_toArray, List.getElem_cons_zero, List.getElem_cons_succ, Act.put, List.setIfInBounds_toArray, List.set_cons_zero, List.set_cons_succ]
                      refine wpAnyH_ready (rs := [37]) (by kernel_rfl) (by simp) (AllReadyH.cons (i := 37) rfl (fun K hK => ?_) AllReadyH.nil)
                      rw [if_pos (by rfl)]
                      go_simp
                      refine (listIs_ok a3 n3 t3 j n3 L1 v2 y1 b3 bj (Nat.le_refl _) bh s3 Y5.out z3).mono ?_
                      rintro e v3 ⟨rfl, hq⟩
                      replace s1 := Sl.kept s1 (hq) (by simp)
                      replace s2 := Sl.kept s2 (hq) (by simp)
                      replace s3 := Ents.kept s3 (hq) (by simp)
                      replace s4 := Ents.kept s4 (hq) (by simp)
                      refine hK.out _ _ (h2.trans hq (by simp)) (fun h3 => ?_)
                      clear hK K hq h2
                      try simp only [List.getElem_toArray, List.getElem_cons_zero, List.getElem_cons_succ, Act.put, List.setIfInBounds_toArray, List.set_cons_zero, List.set_cons_succ]
                      refine wpAnyH_take (i := 38) (v := .bool false) rfl (by kernel_rfl) (by kernel_rfl) (by kernel_rfl) (fun _ _ _ h => h) (Or.inl ⟨by rfl, fun w hSw => by go_simp⟩) h3 ?_
                      try simp only [List.getElem_toArray, List.getElem_cons_zero, List.getElem_cons_succ, Act.put, List.setIfInBounds_toArray, List.set_cons_zero, List.set_cons_succ]
                      refine wpAnyH_take (i := 39) (v := .bool false) rfl (by kernel_rfl) (by kernel_rfl) (by kernel_rfl) (fun _ _ _ h => h) (Or.inl ⟨by rfl, fun w hSw => by go_simp⟩) h3 ?_
                      try simp only [List.getElem_toArray, List.getElem_cons_zero, List.getElem_cons_succ, Act.put, List.setIfInBounds_toArray, List.set_cons_zero, List.set_cons_succ]
                      refine wpAnyH_take (i := 40) (v := .bool false) rfl (by kernel_rfl) (by kernel_rfl) (by kernel_rfl) (fun _ _ _ h => h) (Or.inl ⟨by rfl, fun w hSw => by go_simp⟩) h3 ?_
                      try simp only [List.getElem_toArray, List.getElem_cons_zero, List.getElem_cons_succ, Act.put, List.setIfInBounds_toArray, List.set_cons_zero, List.set_cons_succ]
                      refine wpAnyH_take (i := 41) (v := .slice (some ⟨gH, 0, none⟩) 12 c2) rfl (by kernel_rfl) (by kernel_rfl) (by kernel_rfl) (fun _ _ _ h => h) (Or.inl ⟨by rfl, fun w hSw => by go_simp⟩) h3 ?_
                      try simp only [List.getElem_toArray, List.getElem_cons_zero, List.getElem_cons_succ, Act.put, List.setIfInBounds_toArray, List.set_cons_zero, List.set_cons_succ]
                      refine wpAnyH_take (i := 42) (v := .int .i64 j) rfl (by kernel_rfl) (by kernel_rfl) (by kernel_rfl) (fun _ _ _ h => h) (Or.inl ⟨by rfl, fun w hSw => by go_simp⟩) h3 ?_
                      try simp only [List.getElem_toArray, List.getElem_cons_zero, List.getElem_cons_succ, Act.put, List.setIfInBounds_toArray, List.set_cons_zero, List.set_cons_succ]
                      refine wpAnyH_take (i := 43) (v := .pointer (some ⟨gH, j, none⟩)) rfl (by kernel_rfl) (by kernel_rfl) (by kernel_rfl) (fun _ _ _ h => h) (Or.inl ⟨by rfl, fun w hSw => by go_simp⟩) h3 ?_
                      try simp only [List.getElem_toArray, List.getElem_cons_zero, List.getElem_cons_succ, Act.put, List.setIfInBounds_toArray, List.set_cons_zero, List.set_cons_succ]
                      refine wpAnyH_take (i := 44) (v := .slice a4 n4 t4) rfl (by kernel_rfl) (by kernel_rfl) (by kernel_rfl) (fun _ _ _ h => h) (Or.inl ⟨by rfl, fun w hSw => by have c := Kept.cellOf hSw m4 (by simp); go_simp⟩) h3 ?_
                      try simp only [List.getElem_toArray, List.getElem_cons_zero, List.getElem_cons_succ, Act.put, List.setIfInBounds_toArray, List.set_cons_zero, List.set_cons_succ]
                      refine wpAnyH_take (i := 45) (v := .int .i64 j) rfl (by kernel_rfl) (by kernel_rfl) (by kernel_rfl) (fun _ _ _ h => h) (Or.inl ⟨by rfl, fun w hSw => by go_simp⟩) h3 ?_
                      try simp only [List.getElem_toArray, List.getElem_cons_zero, List.getElem_cons_succ, Act.put, List.setIfInBounds_toArray, List.set_cons_zero, List.set_cons_succ]
                      refine wpAnyH_take (i := 46) (v := .slice (some ⟨gL, 0, none⟩) 12 cL) rfl (by kernel_rfl) (by kernel_rfl) (by kernel_rfl) (fun _ _ _ h => h) (Or.inl ⟨by rfl, fun w hSw => by go_simp⟩) h3 ?_
                      try simp only [List.getElem_toArray, List.getElem_cons_zero, List.getElem_cons_succ, Act.put, List.setIfInBounds_toArray, List.set_cons_zero, List.set_cons_succ]
                      refine wpAnyH_take (i := 47) (v := .int .i64 j) rfl (by kernel_rfl) (by kernel_rfl) (by kernel_rfl) (fun _ _ _ h => h) (Or.inl ⟨by rfl, fun w hSw => by go_simp⟩) h3 ?_
                      try simp only [List.getElem_toArray, List.getElem_cons_zero, List.getElem_cons_succ, Act.put, List.setIfInBounds_toArray, List.set_cons_zero, List.set_cons_succ]
                      refine wpAnyH_take (i := 48) (v := .pointer (some ⟨gL, j, none⟩)) rfl (by kernel_rfl) (by kernel_rfl) (by kernel_rfl) (fun _ _ _ h => h) (Or.inl ⟨by rfl, fun w hSw => by go_simp⟩) h3 ?_
                      try simp only [List.getElem_toArray, List.getElem_cons_zero, List.getElem_cons_succ, Act.put, List.setIfInBounds_toArray, List.set_cons_zero, List.set_cons_succ]
                      refine wpAnyH_take (i := 49) (v := .slice a3 n3 t3) rfl (by kernel_rfl) (by kernel_rfl) (by kernel_rfl) (fun _ _ _ h => h) (Or.inl ⟨by rfl, fun w hSw => by have c := Kept.cellOf hSw m2 (by simp); go_simp⟩) h3 ?_
                      try simp only [List.getElem_toArray, List.getElem_cons_zero, List.getElem_cons_succ, Act.put, List.setIfInBounds_toArray, List.set_cons_zero, List.set_cons_succ]
                      refine wpAnyH_take (i := 50) (v := .int .i64 n3) rfl (by kernel_rfl) (by kernel_rfl) (by kernel_rfl) (fun _ _ _ h => h) (Or.inl ⟨by rfl, fun w hSw => by go_simp⟩) h3 ?_
                      try simp only [List.getElem_toArray, List.getElem_cons_zero, List.getElem_cons_succ, Act.put, List.setIfInBounds_toArray, List.set_cons_zero, List.set_cons_succ]
                      refine wpAnyH_ready (rs := [51]) (by kernel_rfl) (by simp) (AllReadyH.cons (i := 51) rfl (fun K hK => ?_) AllReadyH.nil)
                      rw [if_pos (by rfl)]
                      go_simp
                      refine (listIs_ok a4 n4 t4 j n3 L2 v3 y2 b4 bj b34 bh s4 Y6.out Y7.out).mono ?_
                      rintro e v4 ⟨rfl, hq⟩
                      replace s1 := Sl.kept s1 (hq) (by simp)
                      replace s2 := Sl.kept s2 (hq) (by simp)
                      replace s3 := Ents.kept s3 (hq) (by simp)
                      replace s4 := Ents.kept s4 (hq) (by simp)
                      refine hK.out _ _ (h3.trans hq (by simp)) (fun h4 => ?_)
                      clear hK K hq h3
                      try simp only [List.getElem_toArray, List.getElem_cons_zero, List.getElem_cons_succ, Act.put, List.setIfInBounds_toArray, List.set_cons_zero, List.set_cons_succ]
                      refine wpAnyH_take (i := 52) (v := .bool false) rfl (by kernel_rfl) (by kernel_rfl) (by kernel_rfl) (fun _ _ _ h => h) (Or.inl ⟨by rfl, fun w hSw => by go_simp⟩) h4 ?_
                      try simp only [List.getElem_toArray, List.getElem_cons_zero, List.getElem_cons_succ, Act.put, List.setIfInBounds_toArray, List.set_cons_zero, List.set_cons_succ]
                      refine wpAnyH_take (i := 53) (v := .bool false) rfl (by kernel_rfl) (by kernel_rfl) (by kernel_rfl) (fun _ _ _ h => h) (Or.inl ⟨by rfl, fun w hSw => by go_simp⟩) h4 ?_
                      try simp only [List.getElem_toArray, List.getElem_cons_zero, List.getElem_cons_succ, Act.put, List.setIfInBounds_toArray, List.set_cons_zero, List.set_cons_succ]
                      refine wpAnyH_done (by kernel_rfl) ?_ _
                      have HN := hide (HG.out.kept h4)
                      clear h4 s1 s2 s3 s4 m1 m2 m3 m4 X5 X6 X7 Y5 Y6 Y7
                      go_wp2
                      go_roundw
                      case rel => exact ⟨j + 1, by omega, by go_num, HN.out⟩
                      case measure => simp [intOf]; omega
                    · go_wp2
                      go_ret
                      exact ⟨rfl, HG.out.bel⟩
end Go.Proofs.YtjogfpogdjhglaaDoor
