import Derived.Test.YtmklodligplbaabGreatL18fk
open Go.RowKit
set_option linter.unusedVariables false
set_option linter.unusedSimpArgs false
set_option maxRecDepth 100000
set_option maxHeartbeats 0
namespace Go.Proofs.YtmklodligplbaabGreat
section
open Dlt
theorem wpList_buildN {ops : Array Oper} {rest : List Oper} {o : Oper} {a : Act} {w : World} {Q : Exit -> Act -> World -> Prop} (hgd : o.guard = none) (t : TypeId) (x : Operand) (ho : o.op = .buildSlice t 1 #[(0, x)]) (u : Value) (hx : a.eval x = u) {v : Value} {w' : World} (hrun : (Instr.buildSlice t 1 #[(0, u)]).run Tryz.prog w = .ok v w')
  (h : wpList Tryz.prog ops Q rest (a.put o.dst v) w') : wpList Tryz.prog ops Q (o :: rest) a w := wpList_buildTwo8 hgd t 1 #[(0, x)] ho #[(0, u)] (by simp [hx]) hrun h
theorem Tk.atB {w wr : World} {mb ml : Nat} {fb fl : Nat -> Rw} {g c : Nat} {vL : Value} (h : Tk w wr mb ml fb fl (.slice (some ⟨g, 0, none⟩) mb c) vL) {i : Nat} (hi : i < mb) : wr.cell? ⟨g, i, none⟩ = some (.slice (fb i).o (fb i).n (fb i).c) := by
 obtain ⟨g', c', hv, hc⟩ := h.cellB hi
 cases hv
 exact hc
theorem Tk.atL {w wr : World} {mb ml : Nat} {fb fl : Nat -> Rw} {g c : Nat} {vR : Value} (h : Tk w wr mb ml fb fl vR (.slice (some ⟨g, 0, none⟩) ml c)) {i : Nat} (hi : i < ml) : wr.cell? ⟨g, i, none⟩ = some (.slice (fl i).o (fl i).n (fl i).c) := by
 obtain ⟨g', c', hv, hc⟩ := h.cellL hi
 cases hv
 exact hc
theorem own18_ok (w w0 : World) (m q : Nat) (fb fl : Nat -> Rw) (gR cR gL cL : Nat) (hm : m <= 100) (hm0 : 0 < m) (hq : q <= 100) (hq0 : 0 < q) (hT : Tm w w0 m q fb fl (.slice (some ⟨gR, 0, none⟩) m cR) (.slice (some ⟨gL, 0, none⟩) q cL) 0 0 0 0) :
  Calls Tryz.prog 26 #[.slice (some ⟨gR, 0, none⟩) m cR, .slice (some ⟨gL, 0, none⟩) q cL] w0 fun e w' => e = .returned (.bool true) ∧ Below w.heap.size w w' := by
 have HT := hide hT
 clear hT
 go_enter Tryz.func26, Tryz.ntmps26
 go_wp2
 go_loopw [5] (fun x wr => ∃ (i : Nat) (fb : Nat -> Rw), i <= m ∧ x = .int .i64 i ∧ Hid (Tm w wr m q fb fl (.slice (some ⟨gR, 0, none⟩) m cR) (.slice (some ⟨gL, 0, none⟩) q cL) i 0 0 0)) (fun x wr => m - (intOf x).toNat)
 case atStart => exact ⟨0, fb, by omega, rfl, HT.out⟩
 case round =>
  clear HT
  obtain ⟨i, fb, hi, rfl, HM⟩ := hrel
  by_cases him : i < m
  ·have hNm2 := HM.out.nB him
   have him1 : (i : Int) < (m : Int) := by omega
   generalize hro : (fb i).o = ro at *
   generalize hrn : (fb i).n = rn at *
   generalize hrc : (fb i).c = rc at *
   go_wp2_with (fail)
   go_loopw [6] (fun x wr => ∃ (k : Nat) (fb2 : Nat -> Rw), k <= rn ∧ x = .int .i64 k ∧ Hid (Tm w wr m q fb2 fl (.slice (some ⟨gR, 0, none⟩) m cR) (.slice (some ⟨gL, 0, none⟩) q cL) i k 0 0 ∧ (fb2 i).o = ro ∧ (fb2 i).n = rn ∧ (fb2 i).c = rc)) (fun x wr => rn - (intOf x).toNat)
   case atStart => exact ⟨0, fb, by omega, rfl, HM.out, hro, hrn, hrc⟩
   case round =>
    clear HM hro hrn hrc
    obtain ⟨k, fb2, hk, rfl, HB⟩ := hrel
    have m1 := HB.out.1.tk.atB (i := i) him
    rw [HB.out.2.1, HB.out.2.2.1, HB.out.2.2.2] at m1
    by_cases hkn : k < rn
    ·obtain ⟨g, rfl, cur, hg, hcs⟩ : ∃ g, ro = some ⟨g, 0, none⟩ ∧ ∃ cur, wr.heap[g]? = some (.cells cur 5 (0, 0)) ∧ k < cur.size := by
      have hat := HB.out.1.tk.bf.own i him
      unfold Rw.At Rw.val at hat
      rw [HB.out.2.1, HB.out.2.2.1, HB.out.2.2.2] at hat
      rcases hat.2 with ⟨_, h0⟩ | ⟨g, cp, cur, hv, _, hg, hnc, _, hcs, _⟩
      ·omega
      ·cases hv
       exact ⟨g, rfl, cur, hg, by omega⟩
     have hc0 : wr.cell? ⟨g, k, none⟩ = some cur[k] := by rw [cell_of_row _ _ _ _ _ _ hg]; exact Array.getElem?_eq_getElem hcs
     have hf0 : wr.frozen? ⟨g, k, none⟩ = false := frozen_of_row _ _ _ _ _ hg
     have hw8 : IntKind.u8.wrap (i : Int) = i := by rw [IntKind.wrap_u8]; omega
     obtain ⟨fb3, N3, f1, f2, f3⟩ := HB.out.1.setB hm him HB.out.2.1
     have HN := hide (ai N3 (ai (f1.trans HB.out.2.1) (ai (f2.trans HB.out.2.2.1) (f3.trans HB.out.2.2.2))))
     have hkn1 : (k : Int) < (rn : Int) := by omega
     clear HB hg N3 f1 f2 f3
     generalize cur[k] = cu at hc0
     go_wp2
     go_roundw
     case rel => exact ⟨k + 1, fb3, by omega, by go_num, HN.out⟩
     case measure => simp [intOf]; omega
    ·obtain rfl : k = rn := by omega
     have HN := hide (HB.out.1.nextB (by rw [HB.out.2.2.1]; exact Nat.le_refl _))
     clear HB
     go_wp2
     go_roundw
     case rel => exact ⟨i + 1, fb2, by omega, by go_num, HN.out⟩
     case measure => simp [intOf]; omega
  ·have e12 : i = m := by omega
   have HM1 : Hid (Tm w wr m q fb fl (.slice (some ⟨gR, 0, none⟩) m cR) (.slice (some ⟨gL, 0, none⟩) q cL) m 0 0 0) := by have h := HM.out; rw [e12] at h; exact h
   have him1 : ¬ (i : Int) < (m : Int) := by omega
   clear HM e12
   go_wp2_with (fail)
   clear him him1 hi
   go_loopw [7] (fun x wr => ∃ (j : Nat) (fl : Nat -> Rw), j <= q ∧ x = .int .i64 j ∧ Hid (Tm w wr m q fb fl (.slice (some ⟨gR, 0, none⟩) m cR) (.slice (some ⟨gL, 0, none⟩) q cL) m 0 j 0)) (fun x wr => q - (intOf x).toNat)
   case atStart => exact ⟨0, fl, by omega, rfl, HM1.out⟩
   case round =>
    clear HM1
    obtain ⟨j, fl, hj, rfl, HM⟩ := hrel
    by_cases hjq : j < q
    ·have hNm2 := HM.out.nL hjq
     have hjq1 : (j : Int) < (q : Int) := by omega
     generalize hlo : (fl j).o = lo at *
     generalize hln : (fl j).n = ln at *
     generalize hlc : (fl j).c = lc at *
     go_wp2_with (fail)
     go_loopw [8] (fun x wr => ∃ (k : Nat) (fl2 : Nat -> Rw), k <= ln ∧ x = .int .i64 k ∧ Hid (Tm w wr m q fb fl2 (.slice (some ⟨gR, 0, none⟩) m cR) (.slice (some ⟨gL, 0, none⟩) q cL) m 0 j k ∧ (fl2 j).o = lo ∧ (fl2 j).n = ln ∧ (fl2 j).c = lc)) (fun x wr => ln - (intOf x).toNat)
     case atStart => exact ⟨0, fl, by omega, rfl, HM.out, hlo, hln, hlc⟩
     case round =>
      clear HM hlo hln hlc
      obtain ⟨k, fl2, hk, rfl, HB⟩ := hrel
      have m1 := HB.out.1.tk.atL (i := j) hjq
      rw [HB.out.2.1, HB.out.2.2.1, HB.out.2.2.2] at m1
      by_cases hkn : k < ln
      ·obtain ⟨gl, rfl, cur, hg, hcs⟩ : ∃ gl, lo = some ⟨gl, 0, none⟩ ∧ ∃ cur, wr.heap[gl]? = some (.cells cur 62 (0, 0)) ∧ k * 33 + 33 <= cur.size := by
        have hat := HB.out.1.tk.lf.own j hjq
        unfold Rw.At Rw.val at hat
        rw [HB.out.2.1, HB.out.2.2.1, HB.out.2.2.2] at hat
        rcases hat.2 with ⟨_, h0⟩ | ⟨g, cp, cur, hv, _, hg, hnc, _, hcs, _⟩
        ·omega
        ·cases hv
         exact ⟨g, rfl, cur, hg, by omega⟩
       have wmul : IntKind.i64.wrap (10000 * (j : Int)) = 10000 * (j : Int) := wrap64 (by omega) (by omega)
       have wadd : IntKind.i64.wrap (10000 * (j : Int) + (k : Int)) = 10000 * (j : Int) + (k : Int) := wrap64 (by omega) (by omega)
       have hb := Tryz.builtWz (10000 * (j : Int) + (k : Int))
       rw [<-wkOf_cells (v := 10000 * (j : Int) + (k : Int)) (by omega) (by omega), show wkOf (10000 * (j : Int) + (k : Int)) = wro j k from rfl] at hb
       obtain ⟨fl3, N3, f1, f2, f3⟩ := HB.out.1.setL hjq HB.out.2.1 (by rw [HB.out.2.2.1]; exact hkn)
       obtain ⟨e, he⟩ := nm (wro j k)
       rw [he] at hb N3
       have HN := hide (ai N3 (ai (f1.trans HB.out.2.1) (ai (f2.trans HB.out.2.2.1) (f3.trans HB.out.2.2.2))))
       have hkn1 : (k : Int) < (ln : Int) := by omega
       have hth : wr.there gl (k * 33) e.cells.toArray.size := by
        rw [wk_size]
        exact there_row hg _ _ hcs
       have hia := Tryz.infoWkA e
       have hal := wk_all e
       clear HB hg N3 f1 f2 f3 he hcs
       go_wp2_with (first
        | refine wpList_buildRun8 rfl 62 #[(0, .tmp 65)] rfl #[(0, .int .i64 (10000 * (j : Int) + (k : Int)))] (by simp [Act.eval, Act.put]) _ (hb _) ?_
        | refine wpList_store_mid rfl 62 (.tmp 67) (.tmp 66) rfl gl (k * 33) e.cells.toArray rfl rfl hth hia hal ?_)
       go_roundw
       case rel => exact ⟨k + 1, fl3, by omega, by go_num, HN.out⟩
       case measure => simp [intOf]; omega
      ·obtain rfl : k = ln := by omega
       have HN := hide (HB.out.1.nextL (by rw [HB.out.2.2.1]; exact Nat.le_refl _))
       clear HB
       go_wp2
       go_roundw
       case rel => exact ⟨j + 1, fl2, by omega, by go_num, HN.out⟩
       case measure => simp [intOf]; omega
    ·have e12 : j = q := by omega
     have HM1 : Hid (Tm w wr m q fb fl (.slice (some ⟨gR, 0, none⟩) m cR) (.slice (some ⟨gL, 0, none⟩) q cL) m 0 q 0) := by have h := HM.out; rw [e12] at h; exact h
     have hjq1 : ¬ (j : Int) < (q : Int) := by omega
     have HG0 : Hid (Tg w wr m q fb fl ⟨some ⟨gR, 0, none⟩, cR, m, vals m fb⟩ ⟨some ⟨gL, 0, none⟩, cL, q, vals q fl⟩ 0 fb 0 rw0 0 fl 0 rw0) := Tg.begin HM1.out.tk
     have HCb : Hid (∀ a, a < m -> ∃ xs : List UInt8, (fb a).n = xs.length ∧ (fb a).vs = bys xs ∧ xs.length <= 140737488355200 ∧ ∀ k, k < xs.length -> (xs.getD k 0).toNat = a) := fun a ha => by
      obtain ⟨xs, q1, q2, q3, q4⟩ := HM1.out.b a ha
      exact ⟨xs, q1, q2, q3, fun k hk => q4 k hk (Or.inl ha)⟩
     have HCl : Hid (∀ a, a < q -> ∃ L : List Wk, (fl a).n = L.length ∧ (fl a).vs = wrows L ∧ L.length <= 2048 ∧ ∀ k, k < L.length -> L.getD k wk0 = wro a k) := fun a ha => by
      obtain ⟨L, q1, q2, q3, q4⟩ := HM1.out.l a ha
      exact ⟨L, q1, q2, q3, fun k hk => q4 k hk (Or.inl ha)⟩
     clear HM HM1 e12
     go_wp2_with (fail)
     clear hjq hjq1 hj
     go_loopw [9, 11] (fun x z wr => ∃ (i : Nat) (lb : Nat -> Rw) (rG : Rw), i <= m ∧ z = .int .i64 i ∧ x = .slice rG.o rG.n rG.c ∧ Hid (Tg w wr m q fb fl ⟨some ⟨gR, 0, none⟩, cR, m, vals m fb⟩ ⟨some ⟨gL, 0, none⟩, cL, q, vals q fl⟩ i lb i rG 0 fl 0 rw0 ∧ Cd fb lb 70 yb i)) (fun x z wr => m - (intOf z).toNat)
     case atStart => exact ⟨0, fb, rw0, by omega, rfl, rfl, HG0.out, Cd.start _ _ _ _⟩
     case round =>
      clear HG0
      obtain ⟨i, lb, rG, hi, rfl, rfl, HG⟩ := hrel
      by_cases him : i < m
      ·have him1 : (i : Int) < (m : Int) := by omega
       have m1 : wr.cell? ⟨gR, i, none⟩ = some (.slice (fb i).o (fb i).n (fb i).c) := by
        obtain ⟨g, hg, hc⟩ := rw_cell HG.out.1.gb.oR HG.out.1.gb.nR HG.out.1.gb.vR him
        cases hg
        exact hc
       have HS0 : Hid (Tg w wr m q fb fl ⟨some ⟨gR, 0, none⟩, cR, m, vals m fb⟩ ⟨some ⟨gL, 0, none⟩, cL, q, vals q fl⟩ (i + 1) (upr lb i (fb i)) i rG 0 fl 0 rw0 ∧ Cd fb (upr lb i (fb i)) 70 yb i ∧ Cu fb (upr lb i (fb i)) yb i 0) := ⟨HG.out.1.startB him, HG.out.2.lay _, Cu.start _ _ _ _⟩
       have hbn : (fb i).n <= 140737488355200 := by
        obtain ⟨xs, q1, _, q3, _⟩ := HCb.out i him
        omega
       clear HG
       go_wp2_with (fail)
       go_loopw [12, 13] (fun x z wr => ∃ (k : Nat) (lb : Nat -> Rw), k <= 70 ∧ z = .int .i64 k ∧ x = .slice (lb i).o (lb i).n (lb i).c ∧ Hid (Tg w wr m q fb fl ⟨some ⟨gR, 0, none⟩, cR, m, vals m fb⟩ ⟨some ⟨gL, 0, none⟩, cL, q, vals q fl⟩ (i + 1) lb i rG 0 fl 0 rw0 ∧ Cd fb lb 70 yb i ∧ Cu fb lb yb i k)) (fun x z wr => 70 - (intOf z).toNat)
       case atStart => exact ⟨0, upr lb i (fb i), by omega, rfl, by rw [upr_same], HS0.out⟩
       case round =>
        clear HS0 m1
        obtain ⟨k, lb, hk, rfl, rfl, HS⟩ := hrel
        by_cases hk70 : k < 70
        ·obtain ⟨r1, w1, hrun1, T1, n1, v1⟩ := HS.out.1.appB him (by have := HS.out.2.2.1; omega)
         have HN := hide (ai T1 (ai (HS.out.2.1.lay r1) (HS.out.2.2.step n1 v1)))
         have w8 : IntKind.u8.wrap (100 + (i : Int)) = 100 + (i : Int) := by rw [IntKind.wrap_u8]; omega
         have hk1 : (k : Int) < 70 := by omega
         clear HS T1 n1 v1
         unfold Rw.val at hrun1
         generalize hx1 : (lb i).o = o1 at *
         generalize hx2 : (lb i).n = p1 at *
         generalize hx3 : (lb i).c = c1 at *
         go_wp2_with (refine wpList_app_run rfl (.tmp 82) (.tmp 86) 27 27 rfl (.slice o1 p1 c1) (.slice (some ⟨wr.heap.size, 0, none⟩) 1 1) rfl rfl (.slice r1.o r1.n r1.c) w1 hrun1 ?_)
         go_roundw
         case rel => exact ⟨k + 1, upr lb i r1, by omega, by go_num, by rw [upr_same], HN.out⟩
         case measure => simp [intOf]; omega
        ·obtain rfl : k = 70 := by omega
         obtain ⟨r1, w1, hrun1, T1⟩ := HS.out.1.pushB (by omega)
         have HN := hide (ai T1 (HS.out.2.1.next HS.out.2.2))
         clear HS T1
         unfold Rw.val at hrun1
         generalize hx1 : (lb i).o = o1 at *
         generalize hx2 : (lb i).n = p1 at *
         generalize hx3 : (lb i).c = c1 at *
         go_wp2_with (refine wpList_app_run rfl (.tmp 88) (.tmp 90) 57 57 rfl (.slice rG.o rG.n rG.c) (.slice (some ⟨wr.heap.size, 0, none⟩) 1 1) rfl rfl (.slice r1.o r1.n r1.c) w1 hrun1 ?_)
         go_roundw
         case rel => exact ⟨i + 1, lb, r1, by omega, by go_num, rfl, HN.out⟩
         case measure => simp [intOf]; omega
      ·have e12 : i = m := by omega
       have HG1 : Hid (Tg w wr m q fb fl ⟨some ⟨gR, 0, none⟩, cR, m, vals m fb⟩ ⟨some ⟨gL, 0, none⟩, cL, q, vals q fl⟩ m lb m rG 0 fl 0 rw0 ∧ Cd fb lb 70 yb m) := by have h := HG.out; rw [e12] at h; exact h
       have him1 : ¬ (i : Int) < (m : Int) := by omega
       clear HG e12
       go_wp2_with (fail)
       clear him him1 hi
       go_loopw [10, 14] (fun x z wr => ∃ (j : Nat) (ll : Nat -> Rw) (rH : Rw), j <= q ∧ z = .int .i64 j ∧ x = .slice rH.o rH.n rH.c ∧ Hid (Tg w wr m q fb fl ⟨some ⟨gR, 0, none⟩, cR, m, vals m fb⟩ ⟨some ⟨gL, 0, none⟩, cL, q, vals q fl⟩ m lb m rG j ll j rH ∧ Cd fb lb 70 yb m ∧ Cd fl ll 70 yl j)) (fun x z wr => q - (intOf z).toNat)
       case atStart => exact ⟨0, fl, rw0, by omega, rfl, rfl, HG1.out.1, HG1.out.2, Cd.start _ _ _ _⟩
       case round =>
        clear HG1
        obtain ⟨j, ll, rH, hj, rfl, rfl, HG⟩ := hrel
        by_cases hjq : j < q
        ·have hjq1 : (j : Int) < (q : Int) := by omega
         have m1 : wr.cell? ⟨gL, j, none⟩ = some (.slice (fl j).o (fl j).n (fl j).c) := by
          obtain ⟨g, hg, hc⟩ := rw_cell HG.out.1.gl.oR HG.out.1.gl.nR HG.out.1.gl.vR hjq
          cases hg
          exact hc
         have HS0 : Hid (Tg w wr m q fb fl ⟨some ⟨gR, 0, none⟩, cR, m, vals m fb⟩ ⟨some ⟨gL, 0, none⟩, cL, q, vals q fl⟩ m lb m rG (j + 1) (upr ll j (fl j)) j rH ∧ Cd fb lb 70 yb m ∧ Cd fl (upr ll j (fl j)) 70 yl j ∧ Cu fl (upr ll j (fl j)) yl j 0) := ⟨HG.out.1.startL hjq, HG.out.2.1, HG.out.2.2.lay _, Cu.start _ _ _ _⟩
         have hln : (fl j).n <= 2048 := by
          obtain ⟨xs, q1, _, q3, _⟩ := HCl.out j hjq
          omega
         clear HG
         go_wp2_with (fail)
         go_loopw [15, 16] (fun x z wr => ∃ (k : Nat) (ll : Nat -> Rw), k <= 70 ∧ z = .int .i64 k ∧ x = .slice (ll j).o (ll j).n (ll j).c ∧ Hid (Tg w wr m q fb fl ⟨some ⟨gR, 0, none⟩, cR, m, vals m fb⟩ ⟨some ⟨gL, 0, none⟩, cL, q, vals q fl⟩ m lb m rG (j + 1) ll j rH ∧ Cd fb lb 70 yb m ∧ Cd fl ll 70 yl j ∧ Cu fl ll yl j k)) (fun x z wr => 70 - (intOf z).toNat)
         case atStart => exact ⟨0, upr ll j (fl j), by omega, rfl, by rw [upr_same], HS0.out⟩
         case round =>
          clear HS0 m1
          obtain ⟨k, ll, hk, rfl, rfl, HS⟩ := hrel
          by_cases hk70 : k < 70
          ·obtain ⟨r1, w1, hrun1, T1, n1, v1⟩ := HS.out.1.appL hjq (by have := HS.out.2.2.2.1; omega)
           have HN := hide (ai T1 (ai HS.out.2.1 (ai (HS.out.2.2.1.lay r1) (HS.out.2.2.2.step n1 v1))))
           have wsub : IntKind.i64.wrap (-1 - (j : Int)) = -1 - (j : Int) := wrap64 (by omega) (by omega)
           have hk1 : (k : Int) < 70 := by omega
           have hb := Tryz.builtWz (-1 - (j : Int))
           rw [<-wkOf_cells (v := -1 - (j : Int)) (by omega) (by omega), show wkOf (-1 - (j : Int)) = wpu j from rfl] at hb
           obtain ⟨e, he⟩ := nm (wpu j)
           rw [he] at hb hrun1
           have hb1 := Tryz.builtW1 e wr
           clear HS T1 n1 v1 he
           unfold Rw.val at hrun1
           generalize hx1 : (ll j).o = o1 at *
           generalize hx2 : (ll j).n = p1 at *
           generalize hx3 : (ll j).c = c1 at *
           go_wp2_with (first
            | refine wpList_buildRun8 rfl 62 #[(0, .tmp 108)] rfl #[(0, .int .i64 (-1 - (j : Int)))] (by simp [Act.eval, Act.put]) _ (hb _) ?_
            | refine wpList_buildN rfl 24 (.tmp 109) rfl (.agg e.cells.toArray) rfl hb1 ?_
            | refine wpList_app_run rfl (.tmp 106) (.tmp 110) 24 24 rfl (.slice o1 p1 c1) (.slice (some ⟨wr.heap.size, 0, none⟩) 1 1) rfl rfl (.slice r1.o r1.n r1.c) w1 hrun1 ?_)
           go_roundw
           case rel => exact ⟨k + 1, upr ll j r1, by omega, by go_num, by rw [upr_same], HN.out⟩
           case measure => simp [intOf]; omega
          ·obtain rfl : k = 70 := by omega
           obtain ⟨r1, w1, hrun1, T1⟩ := HS.out.1.pushL (by omega)
           have HN := hide (ai T1 (ai HS.out.2.1 (HS.out.2.2.1.next HS.out.2.2.2)))
           clear HS T1
           unfold Rw.val at hrun1
           generalize hx1 : (ll j).o = o1 at *
           generalize hx2 : (ll j).n = p1 at *
           generalize hx3 : (ll j).c = c1 at *
           go_wp2_with (refine wpList_app_run rfl (.tmp 112) (.tmp 114) 58 58 rfl (.slice rH.o rH.n rH.c) (.slice (some ⟨wr.heap.size, 0, none⟩) 1 1) rfl rfl (.slice r1.o r1.n r1.c) w1 hrun1 ?_)
           go_roundw
           case rel => exact ⟨j + 1, ll, r1, by omega, by go_num, rfl, HN.out⟩
           case measure => simp [intOf]; omega
        ·have e12 : j = q := by omega
         have HG1 : Hid (Tg w wr m q fb fl ⟨some ⟨gR, 0, none⟩, cR, m, vals m fb⟩ ⟨some ⟨gL, 0, none⟩, cL, q, vals q fl⟩ m lb m rG q ll q rH ∧ Cd fb lb 70 yb m ∧ Cd fl ll 70 yl q) := by have h := HG.out; rw [e12] at h; exact h
         have hjq1 : ¬ (j : Int) < (q : Int) := by omega
         have hrn1 := HG1.out.1.gb.nG
         have hrn2 := HG1.out.1.gl.nG
         obtain ⟨gG, hgG, _⟩ := rw_cell HG1.out.1.gb.oG HG1.out.1.gb.nG HG1.out.1.gb.vG (i := 0) (by omega)
         obtain ⟨gH, hgH, _⟩ := rw_cell HG1.out.1.gl.oG HG1.out.1.gl.nG HG1.out.1.gl.vG (i := 0) (by omega)
         have MC : Hid (∀ W, Tg w W m q fb fl ⟨some ⟨gR, 0, none⟩, cR, m, vals m fb⟩ ⟨some ⟨gL, 0, none⟩, cL, q, vals q fl⟩ m lb m rG q ll q rH -> (∀ a, a < m -> W.cell? ⟨gR, a, none⟩ = some (.slice (fb a).o (fb a).n (fb a).c) ∧ W.cell? ⟨gG, a, none⟩ = some (.slice (lb a).o (lb a).n (lb a).c)) ∧ ∀ a, a < q -> W.cell? ⟨gL, a, none⟩ = some (.slice (fl a).o (fl a).n (fl a).c) ∧ W.cell? ⟨gH, a, none⟩ = some (.slice (ll a).o (ll a).n (ll a).c)) := fun W T => by
          refine ⟨fun a ha => ?_, fun a ha => ?_⟩
          ·obtain ⟨a1, b1, d1⟩ := rw_cell T.gb.oR T.gb.nR T.gb.vR ha
           obtain ⟨a3, b3, d3⟩ := rw_cell T.gb.oG T.gb.nG T.gb.vG ha
           cases b1
           rw [hgG] at b3
           cases b3
           exact ⟨d1, d3⟩
          ·obtain ⟨a1, b1, d1⟩ := rw_cell T.gl.oR T.gl.nR T.gl.vR ha
           obtain ⟨a3, b3, d3⟩ := rw_cell T.gl.oG T.gl.nG T.gl.vG ha
           cases b1
           rw [hgH] at b3
           cases b3
           exact ⟨d1, d3⟩
         have HLAST : Hid (Tg w wr m q fb fl ⟨some ⟨gR, 0, none⟩, cR, m, vals m fb⟩ ⟨some ⟨gL, 0, none⟩, cL, q, vals q fl⟩ m lb m rG q ll q rH) := HG1.out.1
         have HCD : Hid (Cd fb lb 70 yb m ∧ Cd fl ll 70 yl q) := HG1.out.2
         rw [hrn1, hrn2, hgG, hgH]
         generalize hcG : rG.c = cG
         generalize hcH : rH.c = cH
         clear HG HG1 e12 hrn1 hrn2 hcG hcH
         go_wp2_with (fail)
         clear hjq hjq1 hj
         go_loopw [17] (fun x wr => ∃ i : Nat, i <= m ∧ x = .int .i64 i ∧ Hid (Tg w wr m q fb fl ⟨some ⟨gR, 0, none⟩, cR, m, vals m fb⟩ ⟨some ⟨gL, 0, none⟩, cL, q, vals q fl⟩ m lb m rG q ll q rH)) (fun x wr => m - (intOf x).toNat)
         case atStart => exact ⟨0, by omega, rfl, HLAST.out⟩
         case round =>
          clear HLAST
          obtain ⟨i, hi, rfl, HG⟩ := hrel
          by_cases him : i < m
          ·have him1 : (i : Int) < (m : Int) := by omega
           obtain ⟨xs1, xs2, x1, x2, b12, bb, s1, s2, x5, x6, x7⟩ := HG.out.seeB hm (Nat.le_refl _) HCD.out.1 him (HCb.out i him)
           obtain ⟨m1, m3⟩ := (MC.out _ HG.out).1 i him
           have bi : i < 100 := by omega
           have X5 := hide x5
           have X6 := hide x6
           have X7 := hide x7
           have z1 : ∀ k, (fb i).n <= k -> k < (fb i).n -> (xs1.getD k 0).toNat = 100 + i := fun k h1 h2 => absurd h1 (by omega)
           clear x5 x6 x7
           generalize (fb i).o = a1 at *
           generalize (fb i).n = n1 at *
           generalize (fb i).c = tc1 at *
           generalize (lb i).o = a2 at *
           generalize (lb i).n = n2 at *
           generalize (lb i).c = tc2 at *
           have HR1 := hide (fun X (hX : Kept [] wr X) => rowIs18_ok a1 n1 tc1 i n1 xs1 X x1 (by omega) bi (Nat.le_refl _) (s1.kept hX (by simp)) X5.out z1)
           have HR2 := hide (fun X (hX : Kept [] wr X) => rowIs18_ok a2 n2 tc2 i n1 xs2 X x2 (by omega) bi (by omega) (s2.kept hX (by simp)) X6.out X7.out)
           clear z1 s1 s2 x1 x2 b12
           go_upto_region 38 with (fail)
           refine th wr fun h0 => ?_
           generalize World.drew wr = v0 at h0  ⊢
           refine t1 0 (.slice (some ⟨gR, 0, none⟩) m cR) h0 ?_
           simp only [zz]
           refine t1 1 (.int .i64 i) h0 ?_
           simp only [zz]
           refine t1 2 (.pointer (some ⟨gR, i, none⟩)) h0 ?_
           simp only [zz]
           refine t2 3 (.slice a1 n1 tc1) rfl h0 ?_ (fun w h => by have c := qc h m1; go_simp)
           simp only [zz]
           refine t1 4 (.int .i64 i) h0 ?_
           simp only [zz]
           refine t1 5 (.slice (some ⟨gR, 0, none⟩) m cR) h0 ?_
           simp only [zz]
           refine t1 6 (.int .i64 i) h0 ?_
           simp only [zz]
           refine t1 7 (.pointer (some ⟨gR, i, none⟩)) h0 ?_
           simp only [zz]
           refine t2 8 (.slice a1 n1 tc1) rfl h0 ?_ (fun w h => by have c := qc h m1; go_simp)
           simp only [zz]
           refine t1 9 (.int .i64 n1) h0 ?_
           simp only [zz]
           refine rd 10 fun K hK => ?_
           go_simp
           refine (HR1.out v0 h0).mono ?_
           rintro e v1 ⟨rfl, hq⟩
           refine hK.out _ _ (h0.tr hq) (fun h1 => ?_)
           clear hK K
           try simp only [zz]
           clear hq
           refine t1 11 (.bool false) h1 ?_
           simp only [zz]
           refine t1 12 (.bool false) h1 ?_
           simp only [zz]
           refine t1 13 (.slice (some ⟨gG, 0, none⟩) m cG) h1 ?_
           simp only [zz]
           refine t1 14 (.int .i64 i) h1 ?_
           simp only [zz]
           refine t1 15 (.pointer (some ⟨gG, i, none⟩)) h1 ?_
           simp only [zz]
           refine t2 16 (.slice a2 n2 tc2) rfl h1 ?_ (fun w h => by have c := qc h m3; go_simp)
           simp only [zz]
           refine t1 17 (.int .i64 i) h1 ?_
           simp only [zz]
           refine t1 18 (.slice (some ⟨gR, 0, none⟩) m cR) h1 ?_
           simp only [zz]
           refine t1 19 (.int .i64 i) h1 ?_
           simp only [zz]
           refine t1 20 (.pointer (some ⟨gR, i, none⟩)) h1 ?_
           simp only [zz]
           refine t2 21 (.slice a1 n1 tc1) rfl h1 ?_ (fun w h => by have c := qc h m1; go_simp)
           simp only [zz]
           refine t1 22 (.int .i64 n1) h1 ?_
           simp only [zz]
           refine rd 23 fun K hK => ?_
           go_simp
           refine (HR2.out v1 h1).mono ?_
           rintro e v2 ⟨rfl, hq⟩
           refine hK.out _ _ (h1.tr hq) (fun h2 => ?_)
           clear hK K
           try simp only [zz]
           clear hq
           refine t1 24 (.bool false) h2 ?_
           simp only [zz]
           refine t1 25 (.bool false) h2 ?_
           simp only [zz]
           refine qd ?_
           have HN := hide (HG.out.kept h2)
           clear h2 m1 m3 X5 X6 X7 HR1 HR2 HG
           go_wp2
           go_roundw
           case rel => exact ⟨i + 1, by omega, by go_num, HN.out⟩
           case measure => simp [intOf]; omega
          ·have him1 : ¬ (i : Int) < (m : Int) := by omega
           have HLAST : Hid (Tg w wr m q fb fl ⟨some ⟨gR, 0, none⟩, cR, m, vals m fb⟩ ⟨some ⟨gL, 0, none⟩, cL, q, vals q fl⟩ m lb m rG q ll q rH) := HG.out
           clear HG
           go_wp2_with (fail)
           clear him him1 hi
           go_loopw [18] (fun x wr => ∃ j : Nat, j <= q ∧ x = .int .i64 j ∧ Hid (Tg w wr m q fb fl ⟨some ⟨gR, 0, none⟩, cR, m, vals m fb⟩ ⟨some ⟨gL, 0, none⟩, cL, q, vals q fl⟩ m lb m rG q ll q rH)) (fun x wr => q - (intOf x).toNat)
           case atStart => exact ⟨0, by omega, rfl, HLAST.out⟩
           case round =>
            clear HLAST
            obtain ⟨j, hj, rfl, HG⟩ := hrel
            by_cases hjq : j < q
            ·have hjq1 : (j : Int) < (q : Int) := by omega
             obtain ⟨L1, L2, x1, x2, b12, bb, s1, s2, x5, x6, x7⟩ := HG.out.seeL (Nat.le_refl _) HCD.out.2 hjq (HCl.out j hjq)
             obtain ⟨m1, m3⟩ := (MC.out _ HG.out).2 j hjq
             have bi : j < 100 := by omega
             have X5 := hide x5
             have X6 := hide x6
             have X7 := hide x7
             have z1 : ∀ k, (fl j).n <= k -> k < (fl j).n -> L1.getD k wk0 = wpu j := fun k h1 h2 => absurd h1 (by omega)
             clear x5 x6 x7
             generalize (fl j).o = a1 at *
             generalize (fl j).n = n1 at *
             generalize (fl j).c = tc1 at *
             generalize (ll j).o = a2 at *
             generalize (ll j).n = n2 at *
             generalize (ll j).c = tc2 at *
             have HR1 := hide (fun X (hX : Kept [] wr X) => listIs18_ok a1 n1 tc1 j n1 L1 X x1 (by omega) bi (Nat.le_refl _) (s1.kept hX (by simp)) X5.out z1)
             have HR2 := hide (fun X (hX : Kept [] wr X) => listIs18_ok a2 n2 tc2 j n1 L2 X x2 (by omega) bi (by omega) (s2.kept hX (by simp)) X6.out X7.out)
             clear z1 s1 s2 x1 x2 b12
             go_upto_region 43 with (fail)
             refine th wr fun h0 => ?_
             generalize World.drew wr = v0 at h0  ⊢
             refine t1 0 (.slice (some ⟨gL, 0, none⟩) q cL) h0 ?_
             simp only [zz]
             refine t1 1 (.int .i64 j) h0 ?_
             simp only [zz]
             refine t1 2 (.pointer (some ⟨gL, j, none⟩)) h0 ?_
             simp only [zz]
             refine t2 3 (.slice a1 n1 tc1) rfl h0 ?_ (fun w h => by have c := qc h m1; go_simp)
             simp only [zz]
             refine t1 4 (.int .i64 j) h0 ?_
             simp only [zz]
             refine t1 5 (.slice (some ⟨gL, 0, none⟩) q cL) h0 ?_
             simp only [zz]
             refine t1 6 (.int .i64 j) h0 ?_
             simp only [zz]
             refine t1 7 (.pointer (some ⟨gL, j, none⟩)) h0 ?_
             simp only [zz]
             refine t2 8 (.slice a1 n1 tc1) rfl h0 ?_ (fun w h => by have c := qc h m1; go_simp)
             simp only [zz]
             refine t1 9 (.int .i64 n1) h0 ?_
             simp only [zz]
             refine rd 10 fun K hK => ?_
             go_simp
             refine (HR1.out v0 h0).mono ?_
             rintro e v1 ⟨rfl, hq⟩
             refine hK.out _ _ (h0.tr hq) (fun h1 => ?_)
             clear hK K
             try simp only [zz]
             clear hq
             refine t1 11 (.bool false) h1 ?_
             simp only [zz]
             refine t1 12 (.bool false) h1 ?_
             simp only [zz]
             refine t1 13 (.slice (some ⟨gH, 0, none⟩) q cH) h1 ?_
             simp only [zz]
             refine t1 14 (.int .i64 j) h1 ?_
             simp only [zz]
             refine t1 15 (.pointer (some ⟨gH, j, none⟩)) h1 ?_
             simp only [zz]
             refine t2 16 (.slice a2 n2 tc2) rfl h1 ?_ (fun w h => by have c := qc h m3; go_simp)
             simp only [zz]
             refine t1 17 (.int .i64 j) h1 ?_
             simp only [zz]
             refine t1 18 (.slice (some ⟨gL, 0, none⟩) q cL) h1 ?_
             simp only [zz]
             refine t1 19 (.int .i64 j) h1 ?_
             simp only [zz]
             refine t1 20 (.pointer (some ⟨gL, j, none⟩)) h1 ?_
             simp only [zz]
             refine t2 21 (.slice a1 n1 tc1) rfl h1 ?_ (fun w h => by have c := qc h m1; go_simp)
             simp only [zz]
             refine t1 22 (.int .i64 n1) h1 ?_
             simp only [zz]
             refine rd 23 fun K hK => ?_
             go_simp
             refine (HR2.out v1 h1).mono ?_
             rintro e v2 ⟨rfl, hq⟩
             refine hK.out _ _ (h1.tr hq) (fun h2 => ?_)
             clear hK K
             try simp only [zz]
             clear hq
             refine t1 24 (.bool false) h2 ?_
             simp only [zz]
             refine t1 25 (.bool false) h2 ?_
             simp only [zz]
             refine qd ?_
             have HN := hide (HG.out.kept h2)
             clear h2 m1 m3 X5 X6 X7 HR1 HR2 HG
             go_wp2
             go_roundw
             case rel => exact ⟨j + 1, by omega, by go_num, HN.out⟩
             case measure => simp [intOf]; omega
            ·have HBF := hide HG.out.bel
             clear HG
             go_wp2
             go_ret
             exact ⟨rfl, HBF.out⟩
end

section
namespace Dlt
def openB (xs : List UInt8) : Option (List UInt8) :=
 if xs.length < 4 ∨ 131072 < xs.length then none
 else if Pure.be (xs.drop (xs.length - 4)) = Pure.sum (xs.take (xs.length - 4)) then some (xs.take (xs.length - 4)) else none
theorem openB_some {xs ys : List UInt8} (h : openB xs = some ys) : xs = sealed ys ∧ xs.length <= 131072 := by
 unfold openB at h
 split at h; · cases h
 rename_i h1
 split at h
 ·rename_i h2
  injection h with h
  subst h
  refine ⟨?_, by omega⟩
  have hk : (xs.drop (xs.length - 4)).length = 4 := by rw [List.length_drop]; omega
  have hf := Pure.fix_be (xs.drop (xs.length - 4))
  rw [hk, h2] at hf
  unfold sealed
  rw [hf, List.take_append_drop]
 ·cases h
theorem openB_sealed {ys : List UInt8} (h : (sealed ys).length <= 131072) : openB (sealed ys) = some ys := by
 have hl : (sealed ys).length = ys.length + 4 := by unfold sealed; rw [List.length_append, Pure.fix_len]
 have ht : (sealed ys).take ((sealed ys).length - 4) = ys := by rw [hl]; unfold sealed; simp
 have hd : (sealed ys).drop ((sealed ys).length - 4) = Pure.fix (Pure.sum ys) 4 := by rw [hl]; unfold sealed; simp
 unfold openB
 have hs : Pure.sum ys < 256 ^ 4 := by unfold Pure.sum; omega
 rw [if_neg (by omega), ht, hd, Pure.be_fix, Nat.mod_eq_of_lt hs, if_pos rfl]
def rheadOk (xs : List UInt8) : Bool :=
 decide (mk xs = 68) && (decide ((s4 xs).e = 0) && isW (nW xs) && isZ (nZ xs) && decide (nL xs <= 131072)) && (decide ((s7 xs).e = 0) && decide (nT xs <= 131072) && decide (nI xs <= 2048))
def rdD (xs : List UInt8) : Option Dta :=
 if rheadOk xs = false then none
 else match rdIs xs (cntB xs) (s7 xs) (nI xs).toNat with
  | none => none
  | some p =>
   if (decide (p.2.e = 0) && decide (stLeft xs p.2 = 0) && decide ((total (nZ xs).toNat p.1 : Int) = nT xs)) = false then none
   else some ⟨(nW xs).toNat, (nZ xs).toNat, (nL xs).toNat, idB xs, (nT xs).toNat, idT xs, p.1, pad_len _, pad_len _⟩
theorem At.stop {xs : List UInt8} {s : Rs} {ys zs : List UInt8} (h : At xs s ys zs) (h0 : stLeft xs s = 0) : xs = ys := by
 unfold stLeft at h0
 rw [if_pos h.e, h.len] at h0
 have : zs = [] := List.length_eq_zero_iff.1 (by omega)
 rw [h.x, this, List.append_nil]
theorem rdD_some {xs : List UInt8} {d : Dta} (h : rdD xs = some d) : OkD d ∧ xs = bodyD d := by
 unfold rdD at h
 split at h; · cases h
 rename_i h0
 split at h; · cases h
 rename_i p hp
 split at h; · cases h
 rename_i he
 injection h with h
 rw [Bool.not_eq_false] at h0 he
 simp only [rheadOk, Bool.and_eq_true, decide_eq_true_eq, isW, isZ, within_iff] at h0
 simp only [Bool.and_eq_true, decide_eq_true_eq] at he
 obtain ⟨⟨h2, ⟨⟨⟨he4, h3⟩, h4⟩, h5⟩⟩, ⟨⟨e7, h6⟩, h7⟩⟩ := h0
 have e6 : (s6 xs).e = 0 := num_e0 e7
 have e5 : (s5 xs).e = 0 := raw_e0 e6
 have eB : (sB xs).e = 0 := num_e0 e5
 have e4 : (s4 xs).e = 0 := raw_e0 eB
 have e3 : (s3 xs).e = 0 := num_e0 e4
 have e2 : (s2 xs).e = 0 := num_e0 e3
 have e1 : (s1 xs).e = 0 := num_e0 e2
 obtain ⟨m, z1, hm, _, _, a1⟩ := fix_bwd (At.start xs) (n := 1) (by omega) (by omega) e1
 have hm2 : m = 68 := by
  have : mk xs = (m : Int) := hm
  omega
 subst hm2
 obtain ⟨w, z2, hw, hw2, _, a2⟩ := num_bwd (s := s1 xs) a1 e2
 obtain ⟨z, z3, hz, hz2, _, a3⟩ := num_bwd (s := s2 xs) a2 e3
 obtain ⟨l, z4, hl, hl2, _, a4⟩ := num_bwd (s := s3 xs) a3 e4
 have hw : nW xs = (w : Int) := hw
 have hz : nZ xs = (z : Int) := hz
 have hl : nL xs = (l : Int) := hl
 have hwn : w <= 32 := by omega
 have hsB : sB xs = (stRaw xs (s4 xs) (w : Nat)).2 := by unfold sB; rw [hw]
 obtain ⟨z5, hr, _, a5⟩ := raw_bwd (s := s4 xs) (n := w) a4 (by rw [<-hsB]; exact eB)
 rw [<-hsB] at a5
 obtain ⟨t, z6, ht, ht2, _, a6⟩ := num_bwd (s := sB xs) a5 e5
 have ht : nT xs = (t : Int) := ht
 have hs6 : s6 xs = (stRaw xs (s5 xs) (w : Nat)).2 := by unfold s6; rw [hw]
 obtain ⟨z7, hr2, _, a7⟩ := raw_bwd (s := s5 xs) (n := w) a6 (by rw [<-hs6]; exact e6)
 rw [<-hs6] at a7
 obtain ⟨n, z8, hn, hn2, _, a8⟩ := num_bwd (s := s6 xs) a7 e7
 have hn : nI xs = (n : Int) := hn
 obtain ⟨hok, z9, a9⟩ := rdIs_bwd (s := s7 xs) a8 hp
 have hx := a9.stop he.1.2
 have hlen := rdIs_len hp
 rw [hn, Int.toNat_natCast] at hlen
 have hcb : cntB xs = l / z := by
  unfold cntB
  rw [hl, hz, <-Int.natCast_ediv, Int.toNat_natCast]
 have eB1 : idB xs = pad (stRaw xs (s4 xs) (w : Nat)).1 := by unfold idB; rw [hw]
 have eT1 : idT xs = pad (stRaw xs (s5 xs) (w : Nat)).1 := by unfold idT; rw [hw]
 have k1 : (nW xs).toNat = w := by omega
 have k2 : (nZ xs).toNat = z := by omega
 have k3 : (nL xs).toNat = l := by omega
 have k4 : (nT xs).toNat = t := by omega
 have d1 : d.width = w := by rw [<-h]; exact k1
 have d2 : d.size = z := by rw [<-h]; exact k2
 have d3 : d.blen = l := by rw [<-h]; exact k3
 have d4 : d.tlen = t := by rw [<-h]; exact k4
 have d5 : d.bid = pad (stRaw xs (s4 xs) (w : Nat)).1 := by rw [<-h]; exact eB1
 have d6 : d.tid = pad (stRaw xs (s5 xs) (w : Nat)).1 := by rw [<-h]; exact eT1
 have d7 : d.steps = p.1 := by rw [<-h]
 have hbody : bodyD d = [] ++ Pure.fix 68 1 ++ Pure.enc w ++ Pure.enc z ++ Pure.enc l ++ (stRaw xs (s4 xs) (w : Nat)).1 ++ Pure.enc t ++ (stRaw xs (s5 xs) (w : Nat)).1 ++ Pure.enc n ++ p.1.flatMap encI := by
  unfold bodyD headD
  rw [d1, d2, d3, d4, d5, d6, d7, pad_take hr hwn, pad_take hr2 hwn, hlen]
  simp only [List.append_assoc, List.nil_append]
 refine ⟨⟨by omega, by omega, by omega, by omega, by omega, by omega, ?_, ?_, ?_, ?_, ?_⟩, ?_⟩
 ·rw [d1, d5]; exact pad_nought hr hwn
 ·rw [d1, d6]; exact pad_nought hr2 hwn
 ·rw [d7, hlen]; omega
 ·rw [d7, d2, d3, <-hcb]; exact hok
 ·rw [d7, d2, d4]
  have := he.2
  rw [k2, ht] at this
  omega
 ·rw [hbody]; exact hx
theorem rdD_body {d : Dta} (h : OkD d) : rdD (bodyD d) = some d := by
 obtain ⟨xs, hxs⟩ := nm (bodyD d)
 have hW2 := h.w2
 have hx : xs = [] ++ (Pure.fix 68 1 ++ (Pure.enc d.width ++ (Pure.enc d.size ++ (Pure.enc d.blen ++ (d.bid.take d.width ++ (Pure.enc d.tlen ++ (d.tid.take d.width ++ (Pure.enc d.steps.length ++ (d.steps.flatMap encI ++ []))))))))) := by
  rw [<-hxs]
  unfold bodyD headD
  simp only [List.append_assoc, List.nil_append, List.append_nil]
 have a0 : At xs ⟨0, 0, 0⟩ [] _ := ⟨rfl, rfl, hx⟩
 obtain ⟨f1, a1⟩ := fix_fwd a0 (by omega) (by omega) (by omega)
 have g1 : mk xs = 68 := congrArg Prod.fst f1
 obtain ⟨f2, a2⟩ := num_fwd (s := s1 xs) a1 (by omega)
 have g2 : nW xs = (d.width : Int) := congrArg Prod.fst f2
 obtain ⟨f3, a3⟩ := num_fwd (s := s2 xs) a2 (by have := h.z2; omega)
 have g3 : nZ xs = (d.size : Int) := congrArg Prod.fst f3
 obtain ⟨f4, a4⟩ := num_fwd (s := s3 xs) a3 (by have := h.b2; omega)
 have g4 : nL xs = (d.blen : Int) := congrArg Prod.fst f4
 have hbl : (d.bid.take d.width).length = d.width := by rw [List.length_take, d.hb]; omega
 have htl : (d.tid.take d.width).length = d.width := by rw [List.length_take, d.ht]; omega
 obtain ⟨f5, a5⟩ := raw_fwd (s := s4 xs) (n := d.width) a4 hbl
 have g5 : (stRaw xs (s4 xs) (nW xs)).1 = d.bid.take d.width := by rw [g2]; exact congrArg Prod.fst f5
 have hsB : sB xs = (stRaw xs (s4 xs) (d.width : Nat)).2 := by unfold sB; rw [g2]
 rw [<-hsB] at a5
 obtain ⟨f6, a6⟩ := num_fwd (s := sB xs) a5 (by have := h.t2; omega)
 have g6 : nT xs = (d.tlen : Int) := congrArg Prod.fst f6
 obtain ⟨f7, a7⟩ := raw_fwd (s := s5 xs) (n := d.width) a6 htl
 have g7 : (stRaw xs (s5 xs) (nW xs)).1 = d.tid.take d.width := by rw [g2]; exact congrArg Prod.fst f7
 have hs6 : s6 xs = (stRaw xs (s5 xs) (d.width : Nat)).2 := by unfold s6; rw [g2]
 rw [<-hs6] at a7
 obtain ⟨f8, a8⟩ := num_fwd (s := s6 xs) a7 (by have := h.few; omega)
 have g8 : nI xs = (d.steps.length : Int) := congrArg Prod.fst f8
 have hcb : cntB xs = d.blen / d.size := by
  unfold cntB
  rw [g3, g4, <-Int.natCast_ediv, Int.toNat_natCast]
 have hnb : cntB xs <= 131072 := by rw [hcb]; exact Nat.le_trans (Nat.div_le_self _ _) h.b2
 obtain ⟨s8, r1, r2⟩ := rdIs_fwd hnb d.steps (by rw [hcb]; exact h.ins) (s := s7 xs) a8 d.steps.length (Nat.le_refl _)
 rw [List.take_of_length_le (Nat.le_refl _)] at r1 r2
 rw [List.drop_of_length_le (Nat.le_refl _), List.flatMap_nil] at r2
 simp only [List.nil_append] at r2
 have hbody : bodyD d = Pure.fix 68 1 ++ Pure.enc d.width ++ Pure.enc d.size ++ Pure.enc d.blen ++ d.bid.take d.width ++ Pure.enc d.tlen ++ d.tid.take d.width ++ Pure.enc d.steps.length ++ d.steps.flatMap encI := by
  unfold bodyD headD
  simp only [List.append_assoc]
 rw [<-hbody] at r2
 rw [hxs]
 have hle : s8.e = 0 := r2.e
 have hlf : stLeft xs s8 = 0 := by unfold stLeft; rw [if_pos hle, r2.len]; rfl
 have i0 : rheadOk xs = true := by
  simp only [rheadOk, Bool.and_eq_true, decide_eq_true_eq, isW, isZ, within_iff]
  have k4 : (s4 xs).e = 0 := a4.e
  have k7 : (s7 xs).e = 0 := a8.e
  rw [g1, g2, g3, g4, g6, g8]
  have := h.w1; have := h.z1; have := h.z2; have := h.b2; have := h.t2; have := h.few
  exact ⟨⟨rfl, ⟨⟨⟨k4, by omega⟩, by omega⟩, by omega⟩⟩, ⟨⟨k7, by omega⟩, by omega⟩⟩
 unfold rdD
 rw [i0, if_neg (by simp), g8, Int.toNat_natCast, r1]
 simp only
 have i1 : (decide (s8.e = 0) && decide (stLeft xs s8 = 0) && decide ((total (nZ xs).toNat d.steps : Int) = nT xs)) = true := by
  simp only [Bool.and_eq_true, decide_eq_true_eq]
  rw [g3, g6, Int.toNat_natCast, h.sum]
  exact ⟨⟨hle, hlf⟩, rfl⟩
 rw [i1, if_neg (by simp)]
 congr 1
 refine Dta.ext' (by show (nW xs).toNat = _; omega) (by show (nZ xs).toNat = _; omega) (by show (nL xs).toNat = _; omega) ?_ (by show (nT xs).toNat = _; omega) ?_ rfl
 ·show pad (stRaw xs (s4 xs) (nW xs)).1 = d.bid
  rw [g5]; exact pad_of_nought d.hb h.nb hW2
 ·show pad (stRaw xs (s5 xs) (nW xs)).1 = d.tid
  rw [g7]; exact pad_of_nought d.ht h.nt hW2
theorem decD_rdD (xs : List UInt8) : decD xs = (openB xs).bind rdD := by
 cases h : decD xs with
 | some d =>
  obtain ⟨h1, h2, h3⟩ := decD_some h
  subst h2
  have := openB_sealed (ys := bodyD d) h3
  unfold encD
  rw [this, Option.bind_some, rdD_body h1]
 | none =>
  cases ho : openB xs with
  | none => rfl
  | some ys =>
   rw [Option.bind_some]
   cases hr : rdD ys with
   | none => rfl
   | some d =>
    obtain ⟨h1, h2⟩ := rdD_some hr
    obtain ⟨h3, h4⟩ := openB_some ho
    have : xs = encD d := by rw [h3, h2]; rfl
    rw [this] at h4
    have h5 := decD_enc h1 h4
    rw [<-this, h] at h5
    cases h5
end Dlt
end

end Go.Proofs.YtmklodligplbaabGreat
