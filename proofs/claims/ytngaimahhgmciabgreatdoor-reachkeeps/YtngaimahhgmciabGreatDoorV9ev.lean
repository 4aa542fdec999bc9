/-
  ReachKeeps: the walk. (Written by tools/v9e.py.)
-/
import Derived.Test.YtngaimahhgmciabGreatDoorV9dv
import Derived.Deep.MidRow
namespace Go.Proofs.YtngaimahhgmciabGreatDoor
open Go.RowKit Go.Lib Go.Sort
set_option linter.unusedVariables false
set_option linter.unusedSimpArgs false

theorem wpList_buildV {ops : Array Oper} {rest : List Oper} {o : Oper} {a : Act} {w : World} {Q : Exit → Act → World → Prop} (hgd : o.guard = none) (t : TypeId) (x : Operand) (ho : o.op = .buildSlice t 1 #[(0, x)]) (u : Value) (hx : a.eval x = u) {v : Value} {w' : World} (hrun : (Instr.buildSlice t 1 #[(0, u)]).run Tryz.prog w = .ok v w')
    (h : wpList Tryz.prog ops Q rest (a.put o.dst v) w') : wpList Tryz.prog ops Q (o :: rest) a w :=
  wpList_plain hgd fun K' hK' => by
    unfold Oper.wp
    simp [execOp, ho, hx, hrun, Result.andThen]
    exact hK' _ _ h
set_option maxRecDepth 100000 in
theorem Tryz.builtI1a (f : Nat → UInt8) (W : World) : (Instr.buildSlice 28 1 #[(0, .agg (bys ((List.range 32).map f)).toArray)]).run Tryz.prog W = .ok (.slice (some ⟨W.heap.size, 0, none⟩) 1 1) (W.alloc (.cells (bys ((List.range 32).map f)).toArray 36)) := by kernel_rfl
theorem Tryz.builtI1 (i : List UInt8) (h : i.length = 32) (W : World) : (Instr.buildSlice 28 1 #[(0, .agg (bys i).toArray)]).run Tryz.prog W = .ok (.slice (some ⟨W.heap.size, 0, none⟩) 1 1) (W.alloc (.cells (bys i).toArray 36)) := by
  have hh := Tryz.builtI1a (fun j => i.getD j 0) W
  rw [range32i h] at hh
  exact hh
set_option maxRecDepth 100000 in
theorem Tryz.fieldS0 (x y z : Value) (W : World) : (Instr.field 70 (.agg #[x, y, z]) 0).run Tryz.prog W = .ok x W := by kernel_rfl
theorem there_rowV {w : World} {g : Nat} {cs : Array Value} {t : TypeId} (h : w.heap[g]? = some (.cells cs t (0, 0))) (o n : Nat) (hl : o + n ≤ cs.size) : w.there g o n := fun j hj => by
  refine ⟨?_, frozen_of_row _ _ _ _ _ h⟩
  rw [cell_of_row _ _ _ _ _ _ h]
  simp [Array.getElem?_eq_getElem (show o + j < cs.size by omega)]
theorem Tk.atB {w wr : World} {mb ml : Nat} {fb fl : Nat → Rw} {g c : Nat} {vL : Value} (h : Tk w wr mb ml fb fl (.slice (some ⟨g, 0, none⟩) mb c) vL) {i : Nat} (hi : i < mb) : wr.cell? ⟨g, i, none⟩ = some (.slice (fb i).o (fb i).n (fb i).c) := by
  obtain ⟨g', c', hv, hc⟩ := h.cellB hi
  cases hv
  exact hc
theorem Tk.atL {w wr : World} {mb ml : Nat} {fb fl : Nat → Rw} {g c : Nat} {vR : Value} (h : Tk w wr mb ml fb fl vR (.slice (some ⟨g, 0, none⟩) ml c)) {i : Nat} (hi : i < ml) : wr.cell? ⟨g, i, none⟩ = some (.slice (fl i).o (fl i).n (fl i).c) := by
  obtain ⟨g', c', hv, hc⟩ := h.cellL hi
  cases hv
  exact hc
theorem tm_begin {w wr : World} {m q : Nat} {fb fl : Nat → Rw} {vR vL : Value} {X : List UInt8} {A B : List Ix} (hm : m = 6) (hq : q = 12) (h : Tk w wr m q fb fl vR vL) (hc : Kk 6 X A B fb fl) (hX : X.length ≤ 140737488355200) (hA : A.length ≤ 2199023255551) (hB : B.length ≤ 2199023255551) : Tm w wr m q fb fl vR vL 0 0 0 0 := by
  subst hm
  subst hq
  exact h.begin hc hX hA hB
theorem wrap_small9i {x : Int} (h0 : -9223372036854775808 ≤ x) (h : x ≤ 9223372036854775807) : IntKind.i64.wrap x = x := by
  simp [IntKind.wrap, IntKind.bits, IntKind.signed]
  omega
theorem keep_same {A : List (List UInt8)} {args : Array Value} {w : World} (h : Calls Tryz.prog 18 args w fun e w' => e = .returned (.bool (decide (A = A))) ∧ Kept [] w w') : Calls Tryz.prog 18 args w fun e w' => e = .returned (.bool true) ∧ Kept [] w w' := by
  rw [decide_eq_true rfl] at h
  exact h
theorem csK_len {M : List (List UInt8 × List UInt8)} {N : Nat} (h : ∀ p ∈ M, p.2.length ≤ N) (q : List UInt8) : (csK M q).length ≤ N := by
  unfold csK
  cases hm : mpf M q with
  | data xs => exact h _ (mpf_data hm)
  | lack => simp
  | fail => simp

set_option maxHeartbeats 51200000 in
set_option maxRecDepth 100000 in
theorem keeps_walk (ia : Option Addr) (in_ ic : Nat) (ra : Option Addr) (rn rc : Nat) (IL : List It9) (RL : List Rz) (qa : List UInt8) (w : World) (gl : GlE w) (tabs : Tabs w) (hI : InI w ia in_ ic IL) (hR : InZ w ra rn rc RL) (hqa : qa.length = 32) :
    Calls Tryz.prog 6 #[.slice ia in_ ic, .slice ra rn rc, .agg (bys qa).toArray] w fun e w' => e = .returned (.bool true) ∧ Kept [] w w' := by
  obtain ⟨A, hA⟩ : ∃ r, r = w.heap.size := ⟨_, rfl⟩
  obtain ⟨w1, hw1⟩ : ∃ r, r = w.alloc (.cells (bys qa).toArray 36) := ⟨_, rfl⟩
  have hk1 : Kept [] w w1 := by rw [hw1]; exact (Kept.refl [] w).alloc _
  have hA1 := new_atK w (.cells (bys qa).toArray 36)
  rw [← hA, ← hw1] at hA1
  have hkn := known9_ok w1 (gl.kept hk1) (tabs.kept hk1 (by simp))
  have HG := hide gl
  have HT := hide tabs
  have HI := hide hI
  have HR := hide hR
  have HA1 := hide hA1
  have HK01 := hide hk1
  have HQA := hide hqa
  have hrn : rn ≤ 1954687338211 := by have := hR.max; have := hR.le; omega
  clear gl tabs hI hR hk1 hA1 hqa
  go_enter Tryz.func6, Tryz.ntmps6
  go_upto_region 1 with (fail)
  rw [← hA, ← hw1]
  clear hA hw1
  go_upto_region 3 with (go_at_call 7; refine hkn.mono ?_; rintro e w2 ⟨rfl, hk2⟩; have HK2 := hide (HK01.out.trans hk2 (by simp)); have HK12 := hide hk2; have hmp := mapped9_ok ia in_ ic IL w2 (HI.out.kept HK2.out); clear hkn hk2)
  go_upto_region 4 with (go_at_call 8; refine hmp.mono ?_; rintro e w3 ⟨b1, V1, rfl, hmw, hk3⟩; have HMW1 := hide hmw; have HK23 := hide hk3; have HK3 := hide (HK2.out.trans hk3 (by simp)); have hmp2 := mapped9_ok ia in_ ic IL w3 (HI.out.kept (HK2.out.trans hk3 (by simp))); clear hmp hk3 hmw)
  go_upto_region 7 with (go_at_call 8; refine hmp2.mono ?_; rintro e w4 ⟨b2, V2, rfl, hmw, hk4⟩; have HMW2 := hide hmw; have HK34 := hide hk4; have HK4 := hide (HK3.out.trans hk4 (by simp)); clear hmp2 hk4 hmw)
  obtain ⟨M, hM⟩ : ∃ M, map9 IL (ids9 IL) = M := ⟨_, rfl⟩
  have HML : Hid (M.length ≤ 60) := hide (by rw [← hM]; exact Nat.le_trans (map9_len IL _) (ids9_len IL))
  rw [hM] at HMW1 HMW2
  have HMB : Hid (∀ p ∈ M, p.2.length ≤ 140737488355200) := hide (fun p hp => by
    rw [← hM] at hp
    unfold map9 at hp
    obtain ⟨q, hq, rfl⟩ := List.mem_map.1 hp
    obtain ⟨z, hz, e1, _⟩ := fst9_in (List.mem_filter.1 hq).1
    have hib := (HI.out.its z hz).2.inb
    rw [← e1] at hib
    have := hib.len
    have := hib.le
    have := hib.max
    show (fst9 IL q).bs.length ≤ _
    omega)
  clear hM
  obtain ⟨lo1, hlo1⟩ : ∃ r, w2.heap.size = r := ⟨_, rfl⟩
  obtain ⟨hi1, hhi1⟩ : ∃ r, w3.heap.size = r := ⟨_, rfl⟩
  obtain ⟨hi2, hhi2⟩ : ∃ r, w4.heap.size = r := ⟨_, rfl⟩
  have HGT : Hid (4 ≤ lo1 ∧ 4 ≤ hi1) := hide ⟨by rw [← hlo1]; exact Nat.le_trans HT.out.big HK2.out.size, by rw [← hhi1]; exact Nat.le_trans HT.out.big HK3.out.size⟩
  have HM1a : Hid (Ms9 lo1 hi1 b1 M V1 w4) := hide (by rw [← hlo1, ← hhi1]; exact HMW1.out.ms.keptV HK34.out)
  have HM2a : Hid (Ms9 hi1 hi2 b2 M V2 w4) := hide (by rw [← hhi1, ← hhi2]; exact HMW2.out.ms)
  have HHIa : Hid (hi1 ≤ w4.heap.size) := hide (by rw [← hhi1]; exact HK34.out.size)
  clear hlo1 hhi1 hhi2 HMW1 HMW2
  obtain ⟨rr, hrr⟩ : ∃ r, walkW (mpf M) [] (RL.map (·.root)) = r := ⟨_, rfl⟩
  have HTL : Hid (Tls (mpf M) (RL.map (·.root)) rr) := hide (by rw [← hrr]; exact walk_sem (mpf_nofail M) [] _)
  have hnlen := need_len (M := M) (roots := RL.map (·.root))
  rw [hrr, List.length_map] at hnlen
  obtain ⟨LN, hLN⟩ : ∃ l, lnK rr = l := ⟨_, rfl⟩
  obtain ⟨LL, hLL⟩ : ∃ l, canon rr.2.1.L = l := ⟨_, rfl⟩
  have HLN : Hid (lnK rr = LN) := hide hLN
  have HLL : Hid (canon rr.2.1.L = LL) := hide hLL
  have HLB : Hid (LN.length ≤ 2199023255551 ∧ LL.length ≤ 2199023255551) := hide (by
    have h1 := HML.out
    have h2 := HR.out.len
    have h3 : LL.length ≤ (canon rr.2.1.N).length := by
      rw [← hLL]
      refine nodup_le (up_nodup9 (up_canon _)) (fun q hq => ?_)
      rw [mem_canon] at hq ⊢
      exact (HTL.out.N q).2 ((HTL.out.L q).1 hq).1
    refine ⟨?_, by omega⟩
    rw [← hLN]
    unfold lnK
    split
    · omega
    · simp)
  clear hrr hnlen hLN hLL
  have hR9 := HR.out.kept HK4.out
  have hnd := needk_ok (HM1a.out.mfV HML.out) HGT.out.1 HHIa.out (HG.out.kept HK4.out) (HT.out.kept HK4.out (by simp)) ra rn rc RL hR9.len hR9.rss (by omega) hR9.far HTL.out
  rw [HLN.out] at hnd
  clear hR9
  go_upto_region 8 with (go_at_call 9; refine hnd.mono ?_; rintro e w4b ⟨vW, evW, rfl, ho1, hk1⟩; have OW := hide ho1; have K4b := hide hk1; clear hnd ho1 hk1)
  have HK4b := hide (HK4.out.trans K4b.out (by simp))
  have hR9 := HR.out.kept HK4b.out
  have hlk := lackk_ok ((HM1a.out.keptV K4b.out).mfV HML.out) HGT.out.1 (Nat.le_trans HHIa.out K4b.out.size) (HG.out.kept HK4b.out) (HT.out.kept HK4b.out (by simp)) ra rn rc RL hR9.len hR9.rss (by omega) hR9.far HTL.out
  rw [HLL.out] at hlk
  clear hR9
  go_upto_region 9 with (go_at_call 10; refine hlk.mono ?_; rintro e w5 ⟨vK, evK, rfl, ho2, hk2⟩; have OK := hide ho2; have K45 := hide hk2; clear hlk ho2 hk2)
  have HK05 := hide (HK4b.out.trans K45.out (by simp))
  have K4to5 := hide (K4b.out.trans K45.out (by simp))
  have HM1 := hide (HM1a.out.keptV K4to5.out)
  have HM2 := hide (HM2a.out.keptV K4to5.out)
  have HHI := hide (Nat.le_trans HHIa.out K4to5.out.size)
  have HG5 := hide (HG.out.kept HK05.out)
  have HT5 := hide (HT.out.kept HK05.out (by simp))
  have HI5 := hide (HI.out.kept HK05.out)
  have HR5 := hide (HR.out.kept HK05.out)
  have HA5 : Hid (w5.heap[A]? = some (.cells (bys qa).toArray 36 (0, 0))) := hide (by
    have hk := (((HK12.out.trans HK23.out (by simp)).trans HK34.out (by simp)).trans K4to5.out (by simp))
    rw [hk.block A (Array.getElem?_eq_some_iff.1 HA1.out).1 (by simp)]
    exact HA1.out)
  obtain ⟨aW, cW, eW, _⟩ := own_shape OW.out.1
  obtain ⟨aK, cK, eK, _⟩ := own_shape OK.out.1
  obtain ⟨nW, hnW⟩ : ∃ n, LN.length = n := ⟨_, rfl⟩
  obtain ⟨nK, hnK⟩ : ∃ n, LL.length = n := ⟨_, rfl⟩
  rw [hnW] at eW
  rw [hnK] at eK
  subst eW
  subst eK
  have HNW := hide hnW
  have HNK := hide hnK
  have HWN := hide (OW.out.kept K45.out (fun _ _ => by simp))
  have HWL := hide OK.out
  obtain ⟨X, hX⟩ : ∃ X, csK M qa = X := ⟨_, rfl⟩
  obtain ⟨nX, hnX⟩ : ∃ n, X.length = n := ⟨_, rfl⟩
  have HCS := hide hX
  have HNX := hide hnX
  have HXB : Hid (X.length ≤ 140737488355200 ∧ (ixs LN).length ≤ 2199023255551 ∧ (ixs LL).length ≤ 2199023255551) := hide ⟨by rw [← hX]; exact csK_len HMB.out qa, by rw [ixs_len]; exact HLB.out.1, by rw [ixs_len]; exact HLB.out.2⟩
  have HB9 : Hid (nW ≤ 9223372036854775807 ∧ nK ≤ 9223372036854775807) := hide (by have := HLB.out; omega)
  clear hnW hnK hX hnX OW OK K4b K45 HK4b K4to5 HM1a HM2a HHIa HK01 HK2 HK12 HK23 HK3 HK34 HK4 HA1 HG HT HI HR HMB HLB
  go_wp2_with (fail)
  go_loopw [9, 10, 15] (fun x9 x10 z wr => ∃ (i : Nat) (fb fl : Nat → Rw), i ≤ 6 ∧ z = .int .i64 i ∧ Hid (Tk w5 wr i (2 * i) fb fl x10 x9 ∧ Kk i X (ixs LN) (ixs LL) fb fl)) (fun x9 x10 z wr => 6 - (intOf z).toNat)
  case atStart => exact ⟨0, fun _ => rw0, fun _ => rw0, by omega, rfl, Tk.start w5 _ _, Kk.start _ _ _ _ _⟩
  case round =>
    obtain ⟨i, fb, fl, hi, rfl, HP⟩ := hrel
    by_cases hlt : i < 6
    · as_aux_lemma =>
      have hi1 : (i : Int) < 6 := by omega
      have TK := hide HP.out.1
      have KC := hide HP.out.2
      have HK5 := hide (Kept.of_below HP.out.1.bel)
      clear HP
      have hR9 := HR5.out.kept HK5.out
      have hnd := needk_ok ((HM1.out.keptV HK5.out).mfV HML.out) HGT.out.1 (Nat.le_trans HHI.out HK5.out.size) (HG5.out.kept HK5.out) (HT5.out.kept HK5.out (by simp)) ra rn rc RL hR9.len hR9.rss (by omega) hR9.far HTL.out
      rw [HLN.out] at hnd
      clear hR9
      go_upto_region 13 with (go_at_call 9; refine hnd.mono ?_; rintro e wa ⟨v1, ev1, rfl, ho1, hk1⟩; have O1 := hide ho1; have K1 := hide hk1; clear hnd ho1 hk1)
      have HK5a := hide (HK5.out.trans K1.out (by simp))
      have hR9 := HR5.out.kept HK5a.out
      have hlk := lackk_ok ((HM1.out.keptV HK5a.out).mfV HML.out) HGT.out.1 (Nat.le_trans HHI.out HK5a.out.size) (HG5.out.kept HK5a.out) (HT5.out.kept HK5a.out (by simp)) ra rn rc RL hR9.len hR9.rss (by omega) hR9.far HTL.out
      rw [HLL.out] at hlk
      clear hR9
      go_upto_region 14 with (go_at_call 10; refine hlk.mono ?_; rintro e wb ⟨v2, ev2, rfl, ho2, hk2⟩; have O2 := hide ho2; have K2 := hide hk2; clear hlk ho2 hk2)
      have HK5b := hide (HK5a.out.trans K2.out (by simp))
      have hgg := getk_ok (.map (some b1)) M qa wb ((HM1.out.keptV HK5b.out).mapAtV HGT.out.1) HQA.out
      rw [HCS.out, HNX.out] at hgg
      have hra : wb.rangeAt A 0 (bys qa) := row_rangeK ((HK5b.out.block A (Array.getElem?_eq_some_iff.1 HA5.out).1 (by simp)).trans HA5.out)
      have hqal := idl qa HQA.out
      go_upto_region 15 with (first
        | refine wpList_load_mid rfl 36 (.tmp 5) rfl A 0 rfl (bys qa) _ hra Tryz.underlying36 rfl hqal ?_
        | (go_at_call 16; refine hgg.mono ?_; rintro e wc ⟨v3, ev3, rfl, ho3, hk3⟩; have O3 := hide ho3; have K3 := hide hk3; clear hgg ho3 hk3))
      clear hra
      have HK5c := hide (HK5b.out.trans K3.out (by simp))
      obtain ⟨a1, c1, e1, _⟩ := own_shape O1.out.1
      obtain ⟨a2, c2, e2, _⟩ := own_shape O2.out.1
      obtain ⟨a3, c3, e3, _⟩ := own_shape O3.out
      rw [HNW.out] at e1
      rw [HNK.out] at e2
      subst e1
      subst e2
      subst e3
      have s5 := TK.out.bel.size
      have sa := K1.out.size
      have sb := K2.out.size
      have sc2 := K3.out.size
      have T5 := hide (TK.out.kept ((K1.out.trans K2.out (by simp)).trans K3.out (by simp)))
      have q1 : (Rw.mk a1 c1 nW (irows (ixs LN))).At 36 32 wr.heap.size wa := rwW_at O1.out HNW.out
      have q2 : (Rw.mk a2 c2 nK (irows (ixs LL))).At 36 32 wa.heap.size wb := rwW_at O2.out HNK.out
      have q3 : (Rw.mk a3 c3 nX (bys X)).At 5 1 wb.heap.size wc := by have h := O3.out; exact h
      have p1 : (Rw.mk a1 c1 nW (irows (ixs LN))).At 36 32 w5.heap.size wc := (rwW_at ((O1.out.kept K2.out (fun _ _ => by simp)).kept K3.out (fun _ _ => by simp)) HNW.out).base (by omega)
      have p2 : (Rw.mk a2 c2 nK (irows (ixs LL))).At 36 32 w5.heap.size wc := (rwW_at (O2.out.kept K3.out (fun _ _ => by simp)) HNK.out).base (by omega)
      have p3 : (Rw.mk a3 c3 nX (bys X)).At 5 1 w5.heap.size wc := q3.base (by omega)
      obtain ⟨vL', wd, hrun6, ho6, hg6⟩ := run_append_vals 63 28 Tryz.underlying63 Tryz.infoList wc w5.heap.size u9 (2 * i) (vals (2 * i) fl) [(Rw.mk a1 c1 nW (irows (ixs LN))).val, (Rw.mk a2 c2 nK (irows (ixs LL))).val] 2 rfl T5.out.oL (by simp [Rw.val, Value.oneCell']) (by omega) T5.out.bel.size
      have T6 := T5.out.addL p1 p2 (fun a ha => off_new (TK.out.lf.own a ha) q1 (Nat.le_refl _)) (fun a ha => off_new (TK.out.lf.own a ha) q2 (by omega)) (off_new q1 q2 (by omega)) ho6 hg6
      have p3' := p3.keep hg6 (own_types p3 T5.out.oL (by decide))
      obtain ⟨vR', we, hrun7, ho7, hg7⟩ := run_append_vals 64 33 Tryz.underlying64 Tryz.infoRow wd w5.heap.size u10 i (vals i fb) [(Rw.mk a3 c3 nX (bys X)).val] 1 rfl T6.oR (by simp [Rw.val, Value.oneCell']) (by omega) T6.bel.size
      have T7 := T6.addB1 p3' (fun a ha => off_new (TK.out.bf.own a ha) q3 (by omega)) ho7 hg7
      have HN : Hid (Tk w5 we (i + 1) (2 * (i + 1)) _ _ vR' vL' ∧ Kk (i + 1) X (ixs LN) (ixs LL) _ _) := ⟨T7, KC.out.next (Rw.mk a3 c3 nX (bys X)) (Rw.mk a1 c1 nW (irows (ixs LN))) (Rw.mk a2 c2 nK (irows (ixs LL))) ⟨HNX.out.symm, rfl⟩ ⟨by rw [ixs_len]; exact HNW.out.symm, rfl⟩ ⟨by rw [ixs_len]; exact HNK.out.symm, rfl⟩⟩
      have e1 : (Rw.mk a1 c1 nW (irows (ixs LN))).val = .slice a1 nW c1 := rfl
      have e2 : (Rw.mk a2 c2 nK (irows (ixs LL))).val = .slice a2 nK c2 := rfl
      have e3 : (Rw.mk a3 c3 nX (bys X)).val = .slice a3 nX c3 := rfl
      rw [e1, e2] at hrun6
      rw [e3] at hrun7
      obtain ⟨oL, nL, cL, rfl⟩ : ∃ oR nR cR, u9 = .slice oR nR cR := by
        obtain ⟨o, c, h, _⟩ := own_shape TK.out.oL
        exact ⟨o, _, c, h⟩
      obtain ⟨oR, nR, cR, rfl⟩ : ∃ oR nR cR, u10 = .slice oR nR cR := by
        obtain ⟨o, c, h, _⟩ := own_shape TK.out.oR
        exact ⟨o, _, c, h⟩
      obtain ⟨oR2, nR2, cR2, rfl⟩ : ∃ oR nR cR, vR' = .slice oR nR cR := by
        obtain ⟨o, c, h, _⟩ := own_shape ho7
        exact ⟨o, _, c, h⟩
      obtain ⟨oL2, nL2, cL2, rfl⟩ : ∃ oR nR cR, vL' = .slice oR nR cR := by
        obtain ⟨o, c, h, _⟩ := own_shape ho6
        exact ⟨o, _, c, h⟩
      clear e1 e2 e3 q1 q2 q3 p1 p2 p3 p3' ho6 hg6 T6 ho7 hg7 T7 T5 TK KC O1 O2 O3 K1 K2 K3 sa sb sc2 s5 HK5 HK5a HK5b HK5c
      go_wp2_with (first
        | (refine wpList_app_run9 rfl (.tmp 83) (.tmp 86) 63 63 rfl (.slice oL nL cL) (.slice (some ⟨wc.heap.size, 0, none⟩) 2 2) rfl rfl (.slice oL2 nL2 cL2) wd hrun6 ?_; try simp only [Act.put, List.setIfInBounds_toArray, List.set_cons_zero, List.set_cons_succ])
        | (refine wpList_app_run9 rfl (.tmp 88) (.tmp 90) 64 64 rfl (.slice oR nR cR) (.slice (some ⟨wd.heap.size, 0, none⟩) 1 1) rfl rfl (.slice oR2 nR2 cR2) we hrun7 ?_; try simp only [Act.put, List.setIfInBounds_toArray, List.set_cons_zero, List.set_cons_succ]))
      go_roundw
      case rel => exact ⟨i + 1, _, _, by omega, by go_num, HN.out⟩
      case measure => simp [intOf]; omega
    · have hm6 : 6 ≤ i := by omega
      have hi1 : ¬ (i : Int) < 6 := by omega
      have HK5z := hide (Kept.of_below HP.out.1.bel)
      obtain ⟨gR, cR, hvR, _⟩ := HP.out.1.cellB (i := 0) (by omega)
      obtain ⟨gL, cL, hvL, _⟩ := HP.out.1.cellL (i := 0) (by omega)
      subst hvR
      subst hvL
      have HE6 : Hid (i = 6) := hide (by omega)
      obtain ⟨q, hq⟩ : ∃ q, 2 * i = q := ⟨_, rfl⟩
      have HMQ : Hid (i = 6 ∧ q = 12) := hide (by omega)
      have hq12 : 12 ≤ q := by omega
      rw [hq] at HP ⊢
      obtain ⟨m, rfl⟩ : ∃ m, m = i := ⟨_, rfl⟩
      have TK := hide HP.out.1
      have KC : Hid (Kk 6 X (ixs LN) (ixs LL) fb fl) := hide (by have h := HP.out.2; rw [HE6.out] at h; exact h)
      clear HP hq HE6 hlt
      go_wp2_with (fail)
      clear hi hi1
      obtain ⟨wz, rfl⟩ : ∃ r, r = wr := ⟨_, rfl⟩
      go_loopw [22] (fun x wr => ∃ j : Nat, j ≤ 6 ∧ x = .int .i64 j ∧ Hid (Kept [] wz wr)) (fun x wr => 6 - (intOf x).toNat)
      case atStart => exact ⟨0, by omega, rfl, hide (Kept.refl _ _)⟩
      case round =>
        obtain ⟨j, hj, rfl, HP⟩ := hrel
        by_cases hlt : j < 6
        · as_aux_lemma =>
          have hlt1 : (j : Int) < 6 := by omega
          have hjm : j < m := by omega
          have hjm1 : (j : Int) < (m : Int) := by omega
          have T5 := TK.out.kept HP.out
          have HK5r := hide (HK5z.out.trans HP.out (by simp))
          have b1 := KC.out.l (2 * j) (by omega)
          have b2' := KC.out.l (2 * j + 1) (by omega)
          have b3 := KC.out.b j (by omega)
          rw [p2_0] at b1
          rw [p2_1] at b2'
          have m1 := T5.atL (i := 2 * j) (by omega)
          have m2 := T5.atL (i := 2 * j + 1) (by omega)
          have m3 := T5.atB (i := j) hjm
          have i1 := rw_wks (T5.lf.own (2 * j) (by omega)) b1.1 b1.2
          have i2 := rw_wks (T5.lf.own (2 * j + 1) (by omega)) b2'.1 b2'.2
          have i3 := rw_sl (T5.bf.own j hjm) b3.1 b3.2
          have hc30 : (fb j).o = none → (fb j).n = 0 := fun h0 => by
            rcases (T5.bf.own j hjm).2 with ⟨_, h⟩ | ⟨g, cp, cur, hv, _⟩
            · exact h
            · unfold Rw.val at hv
              injection hv with hv _ _
              rw [h0] at hv
              cases hv
          rw [ixs_back HWN.out.2] at i1
          rw [ixs_back HWL.out.2] at i2
          rw [b1.1, ixs_len, HNW.out] at m1
          rw [b2'.1, ixs_len, HNK.out] at m2
          rw [b3.1, HNX.out] at m3
          rw [b3.1, HNX.out] at hc30
          have hw0 : IntKind.i64.wrap (2 * (j : Int)) = ((2 * j : Nat) : Int) := by rw [wrap_small9i (by omega) (by omega)]; omega
          have hp1 : 2 * j + 1 < q := by omega
          obtain ⟨p, hp⟩ : ∃ p, 2 * j = p := ⟨_, rfl⟩
          rw [hp] at m1 m2 i1 i2 hw0 hp1
          have hpq : p < q := by omega
          have hpi : (p : Int) < (q : Int) := by omega
          have hw1 : IntKind.i64.wrap ((p : Int) + 1) = ((p + 1 : Nat) : Int) := by rw [wrap_small9i (by omega) (by omega)]; omega
          obtain ⟨p1, hpe⟩ : ∃ p1, p + 1 = p1 := ⟨_, rfl⟩
          rw [hpe] at m2 i2 hw1 hp1
          have hpi1 : (p1 : Int) < (q : Int) := by omega
          generalize (fl p).o = o1 at m1 i1
          generalize (fl p).c = c1 at m1
          generalize (fl p1).o = o2 at m2 i2
          generalize (fl p1).c = c2 at m2
          generalize (fb j).o = o3 at m3 i3 hc30
          generalize (fb j).c = c3 at m3
          have HS1 := hide (fun W (hW : Kept [] wr W) => keep_same (same9_ok o1 aW nW nW c1 cW LN LN W HNW.out HNW.out (i1.kept hW (fun _ _ _ => by simp)) (((HWN.out.kept HK5r.out (fun _ _ => by simp)).kept hW (fun _ _ => by simp)).ids.1) HB9.out.1 HB9.out.1))
          have HS2 := hide (fun W (hW : Kept [] wr W) => keep_same (same9_ok o2 aK nK nK c2 cK LL LL W HNK.out HNK.out (i2.kept hW (fun _ _ _ => by simp)) (((HWL.out.kept HK5r.out (fun _ _ => by simp)).kept hW (fun _ _ => by simp)).ids.1) HB9.out.2 HB9.out.2))
          obtain ⟨ao2, n2, cc2, hlk2, hcv2⟩ := mapk_text ((HM2.out.keptV HK5r.out).mapAtV HGT.out.2) qa HQA.out
          rw [HCS.out] at hcv2
          have hcv3 := fun W (hW : Kept [] wr W) => conv_sl W o3 nX c3 X HNX.out (i3.kept hW (by simp)) hc30
          have hse : (⟨X.toArray⟩ : ByteArray) = ⟨X.toArray⟩ := rfl
          have hra : wr.rangeAt A 0 (bys qa) := row_rangeK ((HK5r.out.block A (Array.getElem?_eq_some_iff.1 HA5.out).1 (by simp)).trans HA5.out)
          have hqal := idl qa HQA.out
          have HPQ := hide (And.intro hp hpe)
          clear b1 b2' b3 i1 i2 i3 T5 hp hpe hc30
          go_upto_region 20 with (fail)
          refine wp_region_held_drew (S := fun w' => Kept [] wr w') (by kernel_rfl) ((Kept.refl [] wr).drew) (fun h0 => ?_)
          generalize World.drew wr = v0 at h0  ⊢
          refine wpAnyH_take (i := 0) (v := .slice (some ⟨gL, 0, none⟩) q cL) rfl (by kernel_rfl) (by kernel_rfl) (by kernel_rfl) (fun _ _ _ h => h) (Or.inl ⟨by rfl, fun w hSw => by go_simp⟩) h0 ?_
          try simp only [List.getElem_toArray, List.getElem_cons_zero, List.getElem_cons_succ, Act.put, List.setIfInBounds_toArray, List.set_cons_zero, List.set_cons_succ]
          refine wpAnyH_take (i := 1) (v := .int .i64 j) rfl (by kernel_rfl) (by kernel_rfl) (by kernel_rfl) (fun _ _ _ h => h) (Or.inl ⟨by rfl, fun w hSw => by go_simp⟩) h0 ?_
          try simp only [List.getElem_toArray, List.getElem_cons_zero, List.getElem_cons_succ, Act.put, List.setIfInBounds_toArray, List.set_cons_zero, List.set_cons_succ]
          refine wpAnyH_take (i := 2) (v := .int .i64 p) rfl (by kernel_rfl) (by kernel_rfl) (by kernel_rfl) (fun _ _ _ h => h) (Or.inl ⟨by rfl, fun w hSw => by go_simp⟩) h0 ?_
          try simp only [List.getElem_toArray, List.getElem_cons_zero, List.getElem_cons_succ, Act.put, List.setIfInBounds_toArray, List.set_cons_zero, List.set_cons_succ]
          refine wpAnyH_take (i := 3) (v := .pointer (some ⟨gL, p, none⟩)) rfl (by kernel_rfl) (by kernel_rfl) (by kernel_rfl) (fun _ _ _ h => h) (Or.inl ⟨by rfl, fun w hSw => by go_simp⟩) h0 ?_
          try simp only [List.getElem_toArray, List.getElem_cons_zero, List.getElem_cons_succ, Act.put, List.setIfInBounds_toArray, List.set_cons_zero, List.set_cons_succ]
          refine wpAnyH_take (i := 4) (v := .slice o1 nW c1) rfl (by kernel_rfl) (by kernel_rfl) (by kernel_rfl) (fun _ _ _ h => h) (Or.inl ⟨by rfl, fun w hSw => by have c0 := Kept.cellOf hSw m1 (by simp); go_simp⟩) h0 ?_
          try simp only [List.getElem_toArray, List.getElem_cons_zero, List.getElem_cons_succ, Act.put, List.setIfInBounds_toArray, List.set_cons_zero, List.set_cons_succ]
          refine wpAnyH_take (i := 5) (v := .slice aW nW cW) rfl (by kernel_rfl) (by kernel_rfl) (by kernel_rfl) (fun _ _ _ h => h) (Or.inl ⟨by rfl, fun w hSw => by go_simp⟩) h0 ?_
          try simp only [List.getElem_toArray, List.getElem_cons_zero, List.getElem_cons_succ, Act.put, List.setIfInBounds_toArray, List.set_cons_zero, List.set_cons_succ]
          refine wpAnyH_ready (rs := [6]) (by kernel_rfl) (by simp) (AllReadyH.cons (i := 6) rfl (fun K hK => ?_) AllReadyH.nil)
          rw [if_pos (by rfl)]
          go_simp
          refine (HS1.out v0 h0).mono ?_
          rintro e v1 ⟨rfl, hq⟩
          refine hK.out _ _ (h0.trans hq (by simp)) (fun h1 => ?_)
          clear hK K
          try simp only [List.getElem_toArray, List.getElem_cons_zero, List.getElem_cons_succ, Act.put, List.setIfInBounds_toArray, List.set_cons_zero, List.set_cons_succ]
          clear hq
          refine wpAnyH_take (i := 7) (v := .bool false) rfl (by kernel_rfl) (by kernel_rfl) (by kernel_rfl) (fun _ _ _ h => h) (Or.inl ⟨by rfl, fun w hSw => by go_simp⟩) h1 ?_
          try simp only [List.getElem_toArray, List.getElem_cons_zero, List.getElem_cons_succ, Act.put, List.setIfInBounds_toArray, List.set_cons_zero, List.set_cons_succ]
          refine wpAnyH_take (i := 8) (v := .bool false) rfl (by kernel_rfl) (by kernel_rfl) (by kernel_rfl) (fun _ _ _ h => h) (Or.inl ⟨by rfl, fun w hSw => by go_simp⟩) h1 ?_
          try simp only [List.getElem_toArray, List.getElem_cons_zero, List.getElem_cons_succ, Act.put, List.setIfInBounds_toArray, List.set_cons_zero, List.set_cons_succ]
          refine wpAnyH_take (i := 9) (v := .slice (some ⟨gL, 0, none⟩) q cL) rfl (by kernel_rfl) (by kernel_rfl) (by kernel_rfl) (fun _ _ _ h => h) (Or.inl ⟨by rfl, fun w hSw => by go_simp⟩) h1 ?_
          try simp only [List.getElem_toArray, List.getElem_cons_zero, List.getElem_cons_succ, Act.put, List.setIfInBounds_toArray, List.set_cons_zero, List.set_cons_succ]
          refine wpAnyH_take (i := 10) (v := .int .i64 j) rfl (by kernel_rfl) (by kernel_rfl) (by kernel_rfl) (fun _ _ _ h => h) (Or.inl ⟨by rfl, fun w hSw => by go_simp⟩) h1 ?_
          try simp only [List.getElem_toArray, List.getElem_cons_zero, List.getElem_cons_succ, Act.put, List.setIfInBounds_toArray, List.set_cons_zero, List.set_cons_succ]
          refine wpAnyH_take (i := 11) (v := .int .i64 p) rfl (by kernel_rfl) (by kernel_rfl) (by kernel_rfl) (fun _ _ _ h => h) (Or.inl ⟨by rfl, fun w hSw => by go_simp⟩) h1 ?_
          try simp only [List.getElem_toArray, List.getElem_cons_zero, List.getElem_cons_succ, Act.put, List.setIfInBounds_toArray, List.set_cons_zero, List.set_cons_succ]
          refine wpAnyH_take (i := 12) (v := .int .i64 p1) rfl (by kernel_rfl) (by kernel_rfl) (by kernel_rfl) (fun _ _ _ h => h) (Or.inl ⟨by rfl, fun w hSw => by go_simp⟩) h1 ?_
          try simp only [List.getElem_toArray, List.getElem_cons_zero, List.getElem_cons_succ, Act.put, List.setIfInBounds_toArray, List.set_cons_zero, List.set_cons_succ]
          refine wpAnyH_take (i := 13) (v := .pointer (some ⟨gL, p1, none⟩)) rfl (by kernel_rfl) (by kernel_rfl) (by kernel_rfl) (fun _ _ _ h => h) (Or.inl ⟨by rfl, fun w hSw => by go_simp⟩) h1 ?_
          try simp only [List.getElem_toArray, List.getElem_cons_zero, List.getElem_cons_succ, Act.put, List.setIfInBounds_toArray, List.set_cons_zero, List.set_cons_succ]
          refine wpAnyH_take (i := 14) (v := .slice o2 nK c2) rfl (by kernel_rfl) (by kernel_rfl) (by kernel_rfl) (fun _ _ _ h => h) (Or.inl ⟨by rfl, fun w hSw => by have c0 := Kept.cellOf hSw m2 (by simp); go_simp⟩) h1 ?_
          try simp only [List.getElem_toArray, List.getElem_cons_zero, List.getElem_cons_succ, Act.put, List.setIfInBounds_toArray, List.set_cons_zero, List.set_cons_succ]
          refine wpAnyH_take (i := 15) (v := .slice aK nK cK) rfl (by kernel_rfl) (by kernel_rfl) (by kernel_rfl) (fun _ _ _ h => h) (Or.inl ⟨by rfl, fun w hSw => by go_simp⟩) h1 ?_
          try simp only [List.getElem_toArray, List.getElem_cons_zero, List.getElem_cons_succ, Act.put, List.setIfInBounds_toArray, List.set_cons_zero, List.set_cons_succ]
          refine wpAnyH_ready (rs := [16]) (by kernel_rfl) (by simp) (AllReadyH.cons (i := 16) rfl (fun K hK => ?_) AllReadyH.nil)
          rw [if_pos (by rfl)]
          go_simp
          refine (HS2.out v1 h1).mono ?_
          rintro e v2 ⟨rfl, hq⟩
          refine hK.out _ _ (h1.trans hq (by simp)) (fun h2 => ?_)
          clear hK K
          try simp only [List.getElem_toArray, List.getElem_cons_zero, List.getElem_cons_succ, Act.put, List.setIfInBounds_toArray, List.set_cons_zero, List.set_cons_succ]
          clear hq
          refine wpAnyH_take (i := 17) (v := .bool false) rfl (by kernel_rfl) (by kernel_rfl) (by kernel_rfl) (fun _ _ _ h => h) (Or.inl ⟨by rfl, fun w hSw => by go_simp⟩) h2 ?_
          try simp only [List.getElem_toArray, List.getElem_cons_zero, List.getElem_cons_succ, Act.put, List.setIfInBounds_toArray, List.set_cons_zero, List.set_cons_succ]
          refine wpAnyH_take (i := 18) (v := .bool false) rfl (by kernel_rfl) (by kernel_rfl) (by kernel_rfl) (fun _ _ _ h => h) (Or.inl ⟨by rfl, fun w hSw => by go_simp⟩) h2 ?_
          try simp only [List.getElem_toArray, List.getElem_cons_zero, List.getElem_cons_succ, Act.put, List.setIfInBounds_toArray, List.set_cons_zero, List.set_cons_succ]
          refine wpAnyH_take (i := 19) (v := .bool false) rfl (by kernel_rfl) (by kernel_rfl) (by kernel_rfl) (fun _ _ _ h => h) (Or.inl ⟨by rfl, fun w hSw => by go_simp⟩) h2 ?_
          try simp only [List.getElem_toArray, List.getElem_cons_zero, List.getElem_cons_succ, Act.put, List.setIfInBounds_toArray, List.set_cons_zero, List.set_cons_succ]
          refine wpAnyH_take (i := 20) (v := .slice (some ⟨gR, 0, none⟩) m cR) rfl (by kernel_rfl) (by kernel_rfl) (by kernel_rfl) (fun _ _ _ h => h) (Or.inl ⟨by rfl, fun w hSw => by go_simp⟩) h2 ?_
          try simp only [List.getElem_toArray, List.getElem_cons_zero, List.getElem_cons_succ, Act.put, List.setIfInBounds_toArray, List.set_cons_zero, List.set_cons_succ]
          refine wpAnyH_take (i := 21) (v := .int .i64 j) rfl (by kernel_rfl) (by kernel_rfl) (by kernel_rfl) (fun _ _ _ h => h) (Or.inl ⟨by rfl, fun w hSw => by go_simp⟩) h2 ?_
          try simp only [List.getElem_toArray, List.getElem_cons_zero, List.getElem_cons_succ, Act.put, List.setIfInBounds_toArray, List.set_cons_zero, List.set_cons_succ]
          refine wpAnyH_take (i := 22) (v := .pointer (some ⟨gR, j, none⟩)) rfl (by kernel_rfl) (by kernel_rfl) (by kernel_rfl) (fun _ _ _ h => h) (Or.inl ⟨by rfl, fun w hSw => by go_simp⟩) h2 ?_
          try simp only [List.getElem_toArray, List.getElem_cons_zero, List.getElem_cons_succ, Act.put, List.setIfInBounds_toArray, List.set_cons_zero, List.set_cons_succ]
          refine wpAnyH_take (i := 23) (v := .slice o3 nX c3) rfl (by kernel_rfl) (by kernel_rfl) (by kernel_rfl) (fun _ _ _ h => h) (Or.inl ⟨by rfl, fun w hSw => by have c0 := Kept.cellOf hSw m3 (by simp); go_simp⟩) h2 ?_
          try simp only [List.getElem_toArray, List.getElem_cons_zero, List.getElem_cons_succ, Act.put, List.setIfInBounds_toArray, List.set_cons_zero, List.set_cons_succ]
          refine wpAnyH_take (i := 24) (v := .string ⟨X.toArray⟩) rfl (by kernel_rfl) (by kernel_rfl) (by kernel_rfl) (fun _ _ _ h => h) (Or.inl ⟨by rfl, fun w hSw => by have c0 := hcv3 w hSw; go_simp⟩) h2 ?_
          try simp only [List.getElem_toArray, List.getElem_cons_zero, List.getElem_cons_succ, Act.put, List.setIfInBounds_toArray, List.set_cons_zero, List.set_cons_succ]
          refine wpAnyH_take (i := 25) (v := .map (some b2)) rfl (by kernel_rfl) (by kernel_rfl) (by kernel_rfl) (fun _ _ _ h => h) (Or.inl ⟨by rfl, fun w hSw => by go_simp⟩) h2 ?_
          try simp only [List.getElem_toArray, List.getElem_cons_zero, List.getElem_cons_succ, Act.put, List.setIfInBounds_toArray, List.set_cons_zero, List.set_cons_succ]
          refine wpAnyH_take (i := 26) (v := .agg (bys qa).toArray) rfl (by kernel_rfl) (by kernel_rfl) (by kernel_rfl) (fun _ _ _ h => h) (yieldsIf_load_mid (by rfl) _ _ rfl A 0 rfl (bys qa) _ (fun W h => fun jj u hu => Kept.cellOf h (hra jj u hu) (by simp)) Tryz.underlying36 rfl hqal) h2 ?_
          try simp only [List.getElem_toArray, List.getElem_cons_zero, List.getElem_cons_succ, Act.put, List.setIfInBounds_toArray, List.set_cons_zero, List.set_cons_succ]
          refine wpAnyH_take (i := 27) (v := .slice ao2 n2 cc2) rfl (by kernel_rfl) (by kernel_rfl) (by kernel_rfl) (fun _ _ _ h => h) (Or.inl ⟨by rfl, fun w hSw => by have c0 := hlk2 w hSw; go_simp⟩) h2 ?_
          try simp only [List.getElem_toArray, List.getElem_cons_zero, List.getElem_cons_succ, Act.put, List.setIfInBounds_toArray, List.set_cons_zero, List.set_cons_succ]
          refine wpAnyH_take (i := 28) (v := .string ⟨X.toArray⟩) rfl (by kernel_rfl) (by kernel_rfl) (by kernel_rfl) (fun _ _ _ h => h) (Or.inl ⟨by rfl, fun w hSw => by have c0 := hcv2 w hSw; go_simp⟩) h2 ?_
          try simp only [List.getElem_toArray, List.getElem_cons_zero, List.getElem_cons_succ, Act.put, List.setIfInBounds_toArray, List.set_cons_zero, List.set_cons_succ]
          refine wpAnyH_take (i := 29) (v := .bool false) rfl (by kernel_rfl) (by kernel_rfl) (by kernel_rfl) (fun _ _ _ h => h) (Or.inl ⟨by rfl, fun w hSw => by have c0 := hse; go_simp⟩) h2 ?_
          try simp only [List.getElem_toArray, List.getElem_cons_zero, List.getElem_cons_succ, Act.put, List.setIfInBounds_toArray, List.set_cons_zero, List.set_cons_succ]
          refine wpAnyH_take (i := 30) (v := .bool false) rfl (by kernel_rfl) (by kernel_rfl) (by kernel_rfl) (fun _ _ _ h => h) (Or.inl ⟨by rfl, fun w hSw => by go_simp⟩) h2 ?_
          try simp only [List.getElem_toArray, List.getElem_cons_zero, List.getElem_cons_succ, Act.put, List.setIfInBounds_toArray, List.set_cons_zero, List.set_cons_succ]
          refine wpAnyH_done (by kernel_rfl) ?_ _
          have HN := hide (HP.out.trans h2 (by simp))
          clear h2 m1 m2 m3 HS1 HS2 hlk2 hcv2 hcv3 hra HP
          go_wp2
          go_roundw
          case rel => exact ⟨j + 1, by omega, by go_num, HN⟩
          case measure => simp [intOf]; omega
        · have e6 : j = 6 := by omega
          have hlt1 : ¬ (j : Int) < 6 := by omega
          have HM0 : Hid (Tm w5 wr m q fb fl (.slice (some ⟨gR, 0, none⟩) m cR) (.slice (some ⟨gL, 0, none⟩) q cL) 0 0 0 0) := hide (by
            have h := TK.out.kept HP.out
            exact tm_begin HMQ.out.1 HMQ.out.2 h KC.out HXB.out.1 HXB.out.2.1 HXB.out.2.2)
          have hm : m ≤ 100 := by have := HMQ.out.1; omega
          have hm0 : 0 < m := by have := HMQ.out.1; omega
          have hq : q ≤ 100 := by have := HMQ.out.2; omega
          have hq0 : 0 < q := by have := HMQ.out.2; omega
          clear HP e6 TK KC HK5z hm6 hq12
          go_wp2_with (fail)
          clear hlt hlt1 hj
          go_loopw [23] (fun x wr => ∃ (j : Nat) (fl : Nat → Rw), j ≤ q ∧ x = .int .i64 j ∧ Hid (Tm w5 wr m q fb fl (.slice (some ⟨gR, 0, none⟩) m cR) (.slice (some ⟨gL, 0, none⟩) q cL) 0 0 j 0)) (fun x wr => q - (intOf x).toNat)
          case atStart => exact ⟨0, fl, by omega, rfl, HM0.out⟩
          case round =>
            clear HM0
            obtain ⟨j, fl, hj, rfl, HM⟩ := hrel
            by_cases hjq : j < q
            · as_aux_lemma =>
              have hNm2 := HM.out.nL hjq
              have hjq1 : (j : Int) < (q : Int) := by omega
              generalize hlo : (fl j).o = lo at *
              generalize hln : (fl j).n = ln at *
              generalize hlc : (fl j).c = lc at *
              go_wp2_with (fail)
              go_loopw [24] (fun x wr => ∃ (k : Nat) (fl2 : Nat → Rw), k ≤ ln ∧ x = .int .i64 k ∧ Hid (Tm w5 wr m q fb fl2 (.slice (some ⟨gR, 0, none⟩) m cR) (.slice (some ⟨gL, 0, none⟩) q cL) 0 0 j k ∧ (fl2 j).o = lo ∧ (fl2 j).n = ln ∧ (fl2 j).c = lc)) (fun x wr => ln - (intOf x).toNat)
              case atStart => exact ⟨0, fl, by omega, rfl, HM.out, hlo, hln, hlc⟩
              case round =>
                clear HM hlo hln hlc
                obtain ⟨k, fl2, hk, rfl, HB⟩ := hrel
                have m1 := HB.out.1.tk.atL (i := j) hjq
                rw [HB.out.2.1, HB.out.2.2.1, HB.out.2.2.2] at m1
                by_cases hkn : k < ln
                · obtain ⟨gl, rfl, cur, hg, hcs⟩ : ∃ gl, lo = some ⟨gl, 0, none⟩ ∧ ∃ cur, wr.heap[gl]? = some (.cells cur 36 (0, 0)) ∧ k * 32 + 32 ≤ cur.size := by
                    have hat := HB.out.1.tk.lf.own j hjq
                    unfold Rw.At Rw.val at hat
                    rw [HB.out.2.1, HB.out.2.2.1, HB.out.2.2.2] at hat
                    rcases hat.2 with ⟨_, h0⟩ | ⟨g, cp, cur, hv, _, hg, hnc, _, hcs, _⟩
                    · omega
                    · cases hv
                      exact ⟨g, rfl, cur, hg, by omega⟩
                  have wj : IntKind.u8.wrap (j : Int) = ((UInt8.ofNat j).toNat : Int) := wrap_byte j
                  have wk : IntKind.u8.wrap (k : Int) = ((UInt8.ofNat k).toNat : Int) := wrap_byte k
                  have hb : ∀ W, (Instr.build 36 #[(0, .int .u8 (UInt8.ofNat j).toNat), (1, .int .u8 (UInt8.ofNat k).toNat), (2, .int .u8 9)]).run Tryz.prog W = .ok (.agg (wro j k).cells.toArray) W := fun W => Tryz.buildI3 _ _ W
                  obtain ⟨fl3, N3, f1, f2, f3⟩ := HB.out.1.setL hjq HB.out.2.1 (by rw [HB.out.2.2.1]; exact hkn)
                  obtain ⟨e, he⟩ : ∃ e, wro j k = e := ⟨_, rfl⟩
                  rw [he] at hb N3
                  have HN := hide (And.intro N3 (And.intro (f1.trans HB.out.2.1) (And.intro (f2.trans HB.out.2.2.1) (f3.trans HB.out.2.2.2))))
                  have hkn1 : (k : Int) < (ln : Int) := by omega
                  have hth : wr.there gl (k * 32) e.cells.toArray.size := by
                    rw [ix_size]
                    exact there_rowV hg _ _ hcs
                  have hia : (Tryz.prog.info? 36).map (·.size) = some e.cells.toArray.size := by rw [ix_size]; exact Tryz.infoId
                  have hal := ix_all e
                  clear HB hg N3 f1 f2 f3 he hcs
                  generalize (UInt8.ofNat j).toNat = uj at wj hb
                  generalize (UInt8.ofNat k).toNat = uk at wk hb
                  go_wp2_with (first
                    | refine wpList_buildRun9 rfl 36 #[(0, .tmp 148), (1, .tmp 150), (2, .const (.int .u8 9))] rfl #[(0, .int .u8 uj), (1, .int .u8 uk), (2, .int .u8 9)] (by simp [Act.eval, Act.put]) _ (hb _) ?_
                    | refine wpList_store_mid rfl 36 (.tmp 152) (.tmp 151) rfl gl (k * 32) e.cells.toArray rfl rfl hth hia hal ?_)
                  go_roundw
                  case rel => exact ⟨k + 1, fl3, by omega, by go_num, HN.out⟩
                  case measure => simp [intOf]; omega
                · obtain rfl : k = ln := by omega
                  have HN := hide (HB.out.1.nextL (by rw [HB.out.2.2.1]; exact Nat.le_refl _))
                  clear HB
                  go_wp2
                  go_roundw
                  case rel => exact ⟨j + 1, fl2, by omega, by go_num, HN.out⟩
                  case measure => simp [intOf]; omega
            · have e12 : j = q := by omega
              have HM1 : Hid (Tm w5 wr m q fb fl (.slice (some ⟨gR, 0, none⟩) m cR) (.slice (some ⟨gL, 0, none⟩) q cL) 0 0 q 0) := by have h := HM.out; rw [e12] at h; exact h
              have hjq1 : ¬ (j : Int) < (q : Int) := by omega
              clear HM e12
              go_wp2_with (fail)
              clear hjq hjq1 hj
              go_loopw [25] (fun x wr => ∃ (i : Nat) (fb : Nat → Rw), i ≤ m ∧ x = .int .i64 i ∧ Hid (Tm w5 wr m q fb fl (.slice (some ⟨gR, 0, none⟩) m cR) (.slice (some ⟨gL, 0, none⟩) q cL) i 0 q 0)) (fun x wr => m - (intOf x).toNat)
              case atStart => exact ⟨0, fb, by omega, rfl, HM1.out⟩
              case round =>
                clear HM1
                obtain ⟨i, fb, hi, rfl, HM⟩ := hrel
                by_cases him : i < m
                · as_aux_lemma =>
                  have hNm2 := HM.out.nB him
                  have him1 : (i : Int) < (m : Int) := by omega
                  generalize hro : (fb i).o = ro at *
                  generalize hrn : (fb i).n = rn at *
                  generalize hrc : (fb i).c = rc at *
                  go_wp2_with (fail)
                  go_loopw [26] (fun x wr => ∃ (k : Nat) (fb2 : Nat → Rw), k ≤ rn ∧ x = .int .i64 k ∧ Hid (Tm w5 wr m q fb2 fl (.slice (some ⟨gR, 0, none⟩) m cR) (.slice (some ⟨gL, 0, none⟩) q cL) i k q 0 ∧ (fb2 i).o = ro ∧ (fb2 i).n = rn ∧ (fb2 i).c = rc)) (fun x wr => rn - (intOf x).toNat)
                  case atStart => exact ⟨0, fb, by omega, rfl, HM.out, hro, hrn, hrc⟩
                  case round =>
                    clear HM hro hrn hrc
                    obtain ⟨k, fb2, hk, rfl, HB⟩ := hrel
                    have m1 := HB.out.1.tk.atB (i := i) him
                    rw [HB.out.2.1, HB.out.2.2.1, HB.out.2.2.2] at m1
                    by_cases hkn : k < rn
                    · obtain ⟨g, rfl, cur, hg, hcs⟩ : ∃ g, ro = some ⟨g, 0, none⟩ ∧ ∃ cur, wr.heap[g]? = some (.cells cur 5 (0, 0)) ∧ k < cur.size := by
                        have hat := HB.out.1.tk.bf.own i him
                        unfold Rw.At Rw.val at hat
                        rw [HB.out.2.1, HB.out.2.2.1, HB.out.2.2.2] at hat
                        rcases hat.2 with ⟨_, h0⟩ | ⟨g, cp, cur, hv, _, hg, hnc, _, hcs, _⟩
                        · omega
                        · cases hv
                          exact ⟨g, rfl, cur, hg, by omega⟩
                      have hc0 : wr.cell? ⟨g, k, none⟩ = some cur[k] := by rw [cell_of_row _ _ _ _ _ _ hg]; exact Array.getElem?_eq_getElem hcs
                      have hf0 : wr.frozen? ⟨g, k, none⟩ = false := frozen_of_row _ _ _ _ _ hg
                      have hw8 : IntKind.u8.wrap (i : Int) = i := by rw [IntKind.wrap_u8]; omega
                      obtain ⟨fb3, N3, f1, f2, f3⟩ := HB.out.1.setB hm him HB.out.2.1
                      have HN := hide (And.intro N3 (And.intro (f1.trans HB.out.2.1) (And.intro (f2.trans HB.out.2.2.1) (f3.trans HB.out.2.2.2))))
                      have hkn1 : (k : Int) < (rn : Int) := by omega
                      clear HB hg N3 f1 f2 f3
                      generalize cur[k] = cu at hc0
                      go_wp2
                      go_roundw
                      case rel => exact ⟨k + 1, fb3, by omega, by go_num, HN.out⟩
                      case measure => simp [intOf]; omega
                    · obtain rfl : k = rn := by omega
                      have HN := hide (HB.out.1.nextB (by rw [HB.out.2.2.1]; exact Nat.le_refl _))
                      clear HB
                      go_wp2
                      go_roundw
                      case rel => exact ⟨i + 1, fb2, by omega, by go_num, HN.out⟩
                      case measure => simp [intOf]; omega
                · have e12 : i = m := by omega
                  have HM1 : Hid (Tm w5 wr m q fb fl (.slice (some ⟨gR, 0, none⟩) m cR) (.slice (some ⟨gL, 0, none⟩) q cL) m 0 q 0) := by have h := HM.out; rw [e12] at h; exact h
                  have him1 : ¬ (i : Int) < (m : Int) := by omega
                  have HG0 : Hid (Tg w5 wr m q fb fl ⟨some ⟨gR, 0, none⟩, cR, m, vals m fb⟩ ⟨some ⟨gL, 0, none⟩, cL, q, vals q fl⟩ 0 fb 0 rw0 0 fl 0 rw0) := Tg.begin HM1.out.tk
                  have HCb : Hid (∀ a, a < m → ∃ xs : List UInt8, (fb a).n = xs.length ∧ (fb a).vs = bys xs ∧ xs.length ≤ 140737488355200 ∧ ∀ k, k < xs.length → (xs.getD k 0).toNat = a) := fun a ha => by
                    obtain ⟨xs, q1, q2, q3, q4⟩ := HM1.out.b a ha
                    exact ⟨xs, q1, q2, q3, fun k hk => q4 k hk (Or.inl ha)⟩
                  have HCl : Hid (∀ a, a < q → ∃ L : List Ix, (fl a).n = L.length ∧ (fl a).vs = irows L ∧ L.length ≤ 2199023255551 ∧ ∀ k, k < L.length → L.getD k ix0 = wro a k) := fun a ha => by
                    obtain ⟨L, q1, q2, q3, q4⟩ := HM1.out.l a ha
                    exact ⟨L, q1, q2, q3, fun k hk => q4 k hk (Or.inl ha)⟩
                  clear HM HM1 e12
                  go_wp2_with (fail)
                  clear him him1 hi
                  go_loopw [27, 29] (fun x z wr => ∃ (j : Nat) (ll : Nat → Rw) (rH : Rw), j ≤ q ∧ z = .int .i64 j ∧ x = .slice rH.o rH.n rH.c ∧ Hid (Tg w5 wr m q fb fl ⟨some ⟨gR, 0, none⟩, cR, m, vals m fb⟩ ⟨some ⟨gL, 0, none⟩, cL, q, vals q fl⟩ 0 fb 0 rw0 j ll j rH ∧ Cd fl ll 70 yl j)) (fun x z wr => q - (intOf z).toNat)
                  case atStart => exact ⟨0, fl, rw0, by omega, rfl, rfl, HG0.out, Cd.start _ _ _ _⟩
                  case round =>
                    clear HG0
                    obtain ⟨j, ll, rH, hj, rfl, rfl, HG⟩ := hrel
                    by_cases hjq : j < q
                    · as_aux_lemma =>
                      have hjq1 : (j : Int) < (q : Int) := by omega
                      have m1 : wr.cell? ⟨gL, j, none⟩ = some (.slice (fl j).o (fl j).n (fl j).c) := by
                        obtain ⟨g, hg, hc⟩ := rw_cell HG.out.1.gl.oR HG.out.1.gl.nR HG.out.1.gl.vR hjq
                        cases hg
                        exact hc
                      have HS0 : Hid (Tg w5 wr m q fb fl ⟨some ⟨gR, 0, none⟩, cR, m, vals m fb⟩ ⟨some ⟨gL, 0, none⟩, cL, q, vals q fl⟩ 0 fb 0 rw0 (j + 1) (upr ll j (fl j)) j rH ∧ Cd fl (upr ll j (fl j)) 70 yl j ∧ Cu fl (upr ll j (fl j)) yl j 0) := ⟨HG.out.1.startL hjq, HG.out.2.lay _, Cu.start _ _ _ _⟩
                      have hln : (fl j).n ≤ 2199023255551 := by
                        obtain ⟨xs, q1, _, q3, _⟩ := HCl.out j hjq
                        omega
                      clear HG
                      go_wp2_with (fail)
                      go_loopw [30, 31] (fun x z wr => ∃ (k : Nat) (ll : Nat → Rw), k ≤ 70 ∧ z = .int .i64 k ∧ x = .slice (ll j).o (ll j).n (ll j).c ∧ Hid (Tg w5 wr m q fb fl ⟨some ⟨gR, 0, none⟩, cR, m, vals m fb⟩ ⟨some ⟨gL, 0, none⟩, cL, q, vals q fl⟩ 0 fb 0 rw0 (j + 1) ll j rH ∧ Cd fl ll 70 yl j ∧ Cu fl ll yl j k)) (fun x z wr => 70 - (intOf z).toNat)
                      case atStart => exact ⟨0, upr ll j (fl j), by omega, rfl, by rw [upr_same], HS0.out⟩
                      case round =>
                        clear HS0 m1
                        obtain ⟨k, ll, hk, rfl, rfl, HS⟩ := hrel
                        by_cases hk70 : k < 70
                        · obtain ⟨r1, w1, hrun1, T1, n1, v1⟩ := HS.out.1.appL hjq (by have := HS.out.2.2.1; omega)
                          have HN := hide (And.intro T1 (And.intro (HS.out.2.1.lay r1) (HS.out.2.2.step n1 v1)))
                          have wj : IntKind.u8.wrap (j : Int) = ((UInt8.ofNat j).toNat : Int) := wrap_byte j
                          have hk1 : (k : Int) < 70 := by omega
                          have hb : ∀ W, (Instr.build 36 #[(0, .int .u8 200), (1, .int .u8 (UInt8.ofNat j).toNat)]).run Tryz.prog W = .ok (.agg (bys (wpu j).b).toArray) W := fun W => Tryz.buildI2 _ W
                          have hcl : (wpu j).cells = bys (wpu j).b := rfl
                          rw [hcl] at hrun1
                          obtain ⟨e, he⟩ : ∃ e, wpu j = e := ⟨_, rfl⟩
                          rw [he] at hb hrun1
                          have hb1 := Tryz.builtI1 e.b e.h wr
                          clear HS T1 n1 v1 he hcl
                          generalize (UInt8.ofNat j).toNat = uj at wj hb
                          unfold Rw.val at hrun1
                          generalize hx1 : (ll j).o = o1 at *
                          generalize hx2 : (ll j).n = p1 at *
                          generalize hx3 : (ll j).c = c1 at *
                          go_wp2_with (first
                            | refine wpList_buildRun9 rfl 36 #[(0, .const (.int .u8 200)), (1, .tmp 192)] rfl #[(0, .int .u8 200), (1, .int .u8 uj)] (by simp [Act.eval, Act.put]) _ (hb _) ?_
                            | refine wpList_buildV rfl 28 (.tmp 193) rfl (.agg (bys e.b).toArray) rfl hb1 ?_
                            | refine wpList_app_run9 rfl (.tmp 190) (.tmp 194) 28 28 rfl (.slice o1 p1 c1) (.slice (some ⟨wr.heap.size, 0, none⟩) 1 1) rfl rfl (.slice r1.o r1.n r1.c) w1 hrun1 ?_)
                          go_roundw
                          case rel => exact ⟨k + 1, upr ll j r1, by omega, by go_num, by rw [upr_same], HN.out⟩
                          case measure => simp [intOf]; omega
                        · obtain rfl : k = 70 := by omega
                          obtain ⟨r1, w1, hrun1, T1⟩ := HS.out.1.pushL (by omega)
                          have HN := hide (And.intro T1 (HS.out.2.1.next HS.out.2.2))
                          clear HS T1
                          unfold Rw.val at hrun1
                          generalize hx1 : (ll j).o = o1 at *
                          generalize hx2 : (ll j).n = p1 at *
                          generalize hx3 : (ll j).c = c1 at *
                          go_wp2_with (refine wpList_app_run9 rfl (.tmp 196) (.tmp 198) 63 63 rfl (.slice rH.o rH.n rH.c) (.slice (some ⟨wr.heap.size, 0, none⟩) 1 1) rfl rfl (.slice r1.o r1.n r1.c) w1 hrun1 ?_)
                          go_roundw
                          case rel => exact ⟨j + 1, ll, r1, by omega, by go_num, rfl, HN.out⟩
                          case measure => simp [intOf]; omega
                    · have e12 : j = q := by omega
                      have HG1 : Hid (Tg w5 wr m q fb fl ⟨some ⟨gR, 0, none⟩, cR, m, vals m fb⟩ ⟨some ⟨gL, 0, none⟩, cL, q, vals q fl⟩ 0 fb 0 rw0 q ll q rH ∧ Cd fl ll 70 yl q) := by have h := HG.out; rw [e12] at h; exact h
                      have hjq1 : ¬ (j : Int) < (q : Int) := by omega
                      clear HG e12
                      go_wp2_with (fail)
                      clear hjq hjq1 hj
                      go_loopw [28, 32] (fun x z wr => ∃ (i : Nat) (lb : Nat → Rw) (rG : Rw), i ≤ m ∧ z = .int .i64 i ∧ x = .slice rG.o rG.n rG.c ∧ Hid (Tg w5 wr m q fb fl ⟨some ⟨gR, 0, none⟩, cR, m, vals m fb⟩ ⟨some ⟨gL, 0, none⟩, cL, q, vals q fl⟩ i lb i rG q ll q rH ∧ Cd fl ll 70 yl q ∧ Cd fb lb 70 yb i)) (fun x z wr => m - (intOf z).toNat)
                      case atStart => exact ⟨0, fb, rw0, by omega, rfl, rfl, HG1.out.1, HG1.out.2, Cd.start _ _ _ _⟩
                      case round =>
                        clear HG1
                        obtain ⟨i, lb, rG, hi, rfl, rfl, HG⟩ := hrel
                        by_cases him : i < m
                        · as_aux_lemma =>
                          have him1 : (i : Int) < (m : Int) := by omega
                          have m1 : wr.cell? ⟨gR, i, none⟩ = some (.slice (fb i).o (fb i).n (fb i).c) := by
                            obtain ⟨g, hg, hc⟩ := rw_cell HG.out.1.gb.oR HG.out.1.gb.nR HG.out.1.gb.vR him
                            cases hg
                            exact hc
                          have HS0 : Hid (Tg w5 wr m q fb fl ⟨some ⟨gR, 0, none⟩, cR, m, vals m fb⟩ ⟨some ⟨gL, 0, none⟩, cL, q, vals q fl⟩ (i + 1) (upr lb i (fb i)) i rG q ll q rH ∧ Cd fl ll 70 yl q ∧ Cd fb (upr lb i (fb i)) 70 yb i ∧ Cu fb (upr lb i (fb i)) yb i 0) := ⟨HG.out.1.startB him, HG.out.2.1, HG.out.2.2.lay _, Cu.start _ _ _ _⟩
                          have hbn : (fb i).n ≤ 140737488355200 := by
                            obtain ⟨xs, q1, _, q3, _⟩ := HCb.out i him
                            omega
                          clear HG
                          go_wp2_with (fail)
                          go_loopw [33, 34] (fun x z wr => ∃ (k : Nat) (lb : Nat → Rw), k ≤ 70 ∧ z = .int .i64 k ∧ x = .slice (lb i).o (lb i).n (lb i).c ∧ Hid (Tg w5 wr m q fb fl ⟨some ⟨gR, 0, none⟩, cR, m, vals m fb⟩ ⟨some ⟨gL, 0, none⟩, cL, q, vals q fl⟩ (i + 1) lb i rG q ll q rH ∧ Cd fl ll 70 yl q ∧ Cd fb lb 70 yb i ∧ Cu fb lb yb i k)) (fun x z wr => 70 - (intOf z).toNat)
                          case atStart => exact ⟨0, upr lb i (fb i), by omega, rfl, by rw [upr_same], HS0.out⟩
                          case round =>
                            clear HS0 m1
                            obtain ⟨k, lb, hk, rfl, rfl, HS⟩ := hrel
                            by_cases hk70 : k < 70
                            · obtain ⟨r1, w1, hrun1, T1, n1, v1⟩ := HS.out.1.appB him (by have := HS.out.2.2.2.1; omega)
                              have HN := hide (And.intro T1 (And.intro HS.out.2.1 (And.intro (HS.out.2.2.1.lay r1) (HS.out.2.2.2.step n1 v1))))
                              have w8 : IntKind.u8.wrap (100 + (i : Int)) = 100 + (i : Int) := by rw [IntKind.wrap_u8]; omega
                              have hk1 : (k : Int) < 70 := by omega
                              clear HS T1 n1 v1
                              unfold Rw.val at hrun1
                              generalize hx1 : (lb i).o = o1 at *
                              generalize hx2 : (lb i).n = p1 at *
                              generalize hx3 : (lb i).c = c1 at *
                              go_wp2_with (refine wpList_app_run9 rfl (.tmp 214) (.tmp 218) 33 33 rfl (.slice o1 p1 c1) (.slice (some ⟨wr.heap.size, 0, none⟩) 1 1) rfl rfl (.slice r1.o r1.n r1.c) w1 hrun1 ?_)
                              go_roundw
                              case rel => exact ⟨k + 1, upr lb i r1, by omega, by go_num, by rw [upr_same], HN.out⟩
                              case measure => simp [intOf]; omega
                            · obtain rfl : k = 70 := by omega
                              obtain ⟨r1, w1, hrun1, T1⟩ := HS.out.1.pushB (by omega)
                              have HN := hide (And.intro T1 (And.intro HS.out.2.1 (HS.out.2.2.1.next HS.out.2.2.2)))
                              clear HS T1
                              unfold Rw.val at hrun1
                              generalize hx1 : (lb i).o = o1 at *
                              generalize hx2 : (lb i).n = p1 at *
                              generalize hx3 : (lb i).c = c1 at *
                              go_wp2_with (refine wpList_app_run9 rfl (.tmp 220) (.tmp 222) 64 64 rfl (.slice rG.o rG.n rG.c) (.slice (some ⟨wr.heap.size, 0, none⟩) 1 1) rfl rfl (.slice r1.o r1.n r1.c) w1 hrun1 ?_)
                              go_roundw
                              case rel => exact ⟨i + 1, lb, r1, by omega, by go_num, rfl, HN.out⟩
                              case measure => simp [intOf]; omega
                        · have e12 : i = m := by omega
                          have HG1 : Hid (Tg w5 wr m q fb fl ⟨some ⟨gR, 0, none⟩, cR, m, vals m fb⟩ ⟨some ⟨gL, 0, none⟩, cL, q, vals q fl⟩ m lb m rG q ll q rH ∧ Cd fb lb 70 yb m ∧ Cd fl ll 70 yl q) := by have h := HG.out; rw [e12] at h; exact ⟨h.1, h.2.2, h.2.1⟩
                          have him1 : ¬ (i : Int) < (m : Int) := by omega
                          have hrn1 := HG1.out.1.gb.nG
                          have hrn2 := HG1.out.1.gl.nG
                          obtain ⟨gG, hgG, _⟩ := rw_cell HG1.out.1.gb.oG HG1.out.1.gb.nG HG1.out.1.gb.vG (i := 0) (by omega)
                          obtain ⟨gH, hgH, _⟩ := rw_cell HG1.out.1.gl.oG HG1.out.1.gl.nG HG1.out.1.gl.vG (i := 0) (by omega)
                          have MC : Hid (∀ W, Tg w5 W m q fb fl ⟨some ⟨gR, 0, none⟩, cR, m, vals m fb⟩ ⟨some ⟨gL, 0, none⟩, cL, q, vals q fl⟩ m lb m rG q ll q rH → (∀ a, a < m → W.cell? ⟨gR, a, none⟩ = some (.slice (fb a).o (fb a).n (fb a).c) ∧ W.cell? ⟨gG, a, none⟩ = some (.slice (lb a).o (lb a).n (lb a).c)) ∧ ∀ a, a < q → W.cell? ⟨gL, a, none⟩ = some (.slice (fl a).o (fl a).n (fl a).c) ∧ W.cell? ⟨gH, a, none⟩ = some (.slice (ll a).o (ll a).n (ll a).c)) := fun W T => by
                            refine ⟨fun a ha => ?_, fun a ha => ?_⟩
                            · obtain ⟨a1, b1, d1⟩ := rw_cell T.gb.oR T.gb.nR T.gb.vR ha
                              obtain ⟨a3, b3, d3⟩ := rw_cell T.gb.oG T.gb.nG T.gb.vG ha
                              cases b1
                              rw [hgG] at b3
                              cases b3
                              exact ⟨d1, d3⟩
                            · obtain ⟨a1, b1, d1⟩ := rw_cell T.gl.oR T.gl.nR T.gl.vR ha
                              obtain ⟨a3, b3, d3⟩ := rw_cell T.gl.oG T.gl.nG T.gl.vG ha
                              cases b1
                              rw [hgH] at b3
                              cases b3
                              exact ⟨d1, d3⟩
                          have HLAST : Hid (Tg w5 wr m q fb fl ⟨some ⟨gR, 0, none⟩, cR, m, vals m fb⟩ ⟨some ⟨gL, 0, none⟩, cL, q, vals q fl⟩ m lb m rG q ll q rH) := HG1.out.1
                          have HCD : Hid (Cd fb lb 70 yb m ∧ Cd fl ll 70 yl q) := HG1.out.2
                          rw [hrn1, hrn2, hgG, hgH]
                          generalize hcG : rG.c = cG
                          generalize hcH : rH.c = cH
                          clear HG HG1 e12 hrn1 hrn2 hcG hcH
                          go_wp2_with (fail)
                          clear him him1 hi
                          go_loopw [35] (fun x wr => ∃ j : Nat, j ≤ q ∧ x = .int .i64 j ∧ Hid (Tg w5 wr m q fb fl ⟨some ⟨gR, 0, none⟩, cR, m, vals m fb⟩ ⟨some ⟨gL, 0, none⟩, cL, q, vals q fl⟩ m lb m rG q ll q rH)) (fun x wr => q - (intOf x).toNat)
                          case atStart => exact ⟨0, by omega, rfl, HLAST.out⟩
                          case round =>
                            clear HLAST
                            obtain ⟨j, hi, rfl, HG⟩ := hrel
                            by_cases him : j < q
                            · as_aux_lemma =>
                              have him1 : (j : Int) < (q : Int) := by omega
                              obtain ⟨xs1, xs2, x1, x2, b12, bb, s1, s2, x5, x6, x7⟩ := HG.out.seeL (Nat.le_refl _) HCD.out.2 him (HCl.out j him)
                              obtain ⟨m1, m3⟩ := (MC.out _ HG.out).2 j him
                              have bi : j < 100 := by omega
                              have X5 := hide x5
                              have X6 := hide x6
                              have X7 := hide x7
                              have z1 : ∀ k, (fl j).n ≤ k → k < (fl j).n → xs1.getD k ix0 = wpu j := fun k h1 h2 => absurd h1 (by omega)
                              clear x5 x6 x7
                              generalize (fl j).o = a1 at *
                              generalize (fl j).n = n1 at *
                              generalize (fl j).c = tc1 at *
                              generalize (ll j).o = a2 at *
                              generalize (ll j).n = n2 at *
                              generalize (ll j).c = tc2 at *
                              have HR1 := hide (fun X (hX : Kept [] wr X) => listIs9_ok a1 n1 tc1 j n1 xs1 X x1 (by omega) bi (Nat.le_refl _) (s1.kept hX (fun _ _ _ => by simp)) X5.out z1)
                              have HR2 := hide (fun X (hX : Kept [] wr X) => listIs9_ok a2 n2 tc2 j n1 xs2 X x2 (by omega) bi (by omega) (s2.kept hX (fun _ _ _ => by simp)) X6.out X7.out)
                              clear z1 s1 s2 x1 x2 b12
                              go_upto_region 59 with (fail)
                              refine wp_region_held_drew (S := fun w' => Kept [] wr w') (by kernel_rfl) ((Kept.refl [] wr).drew) (fun h0 => ?_)
                              generalize World.drew wr = v0 at h0  ⊢
                              refine wpAnyH_take (i := 0) (v := .slice (some ⟨gL, 0, none⟩) q cL) rfl (by kernel_rfl) (by kernel_rfl) (by kernel_rfl) (fun _ _ _ h => h) (Or.inl ⟨by rfl, fun w hSw => by go_simp⟩) h0 ?_
                              try simp only [List.getElem_toArray, List.getElem_cons_zero, List.getElem_cons_succ, Act.put, List.setIfInBounds_toArray, List.set_cons_zero, List.set_cons_succ]
                              refine wpAnyH_take (i := 1) (v := .int .i64 j) rfl (by kernel_rfl) (by kernel_rfl) (by kernel_rfl) (fun _ _ _ h => h) (Or.inl ⟨by rfl, fun w hSw => by go_simp⟩) h0 ?_
                              try simp only [List.getElem_toArray, List.getElem_cons_zero, List.getElem_cons_succ, Act.put, List.setIfInBounds_toArray, List.set_cons_zero, List.set_cons_succ]
                              refine wpAnyH_take (i := 2) (v := .pointer (some ⟨gL, j, none⟩)) rfl (by kernel_rfl) (by kernel_rfl) (by kernel_rfl) (fun _ _ _ h => h) (Or.inl ⟨by rfl, fun w hSw => by go_simp⟩) h0 ?_
                              try simp only [List.getElem_toArray, List.getElem_cons_zero, List.getElem_cons_succ, Act.put, List.setIfInBounds_toArray, List.set_cons_zero, List.set_cons_succ]
                              refine wpAnyH_take (i := 3) (v := .slice a1 n1 tc1) rfl (by kernel_rfl) (by kernel_rfl) (by kernel_rfl) (fun _ _ _ h => h) (Or.inl ⟨by rfl, fun w hSw => by have c0 := Kept.cellOf hSw m1 (by simp); go_simp⟩) h0 ?_
                              try simp only [List.getElem_toArray, List.getElem_cons_zero, List.getElem_cons_succ, Act.put, List.setIfInBounds_toArray, List.set_cons_zero, List.set_cons_succ]
                              refine wpAnyH_take (i := 4) (v := .int .i64 j) rfl (by kernel_rfl) (by kernel_rfl) (by kernel_rfl) (fun _ _ _ h => h) (Or.inl ⟨by rfl, fun w hSw => by go_simp⟩) h0 ?_
                              try simp only [List.getElem_toArray, List.getElem_cons_zero, List.getElem_cons_succ, Act.put, List.setIfInBounds_toArray, List.set_cons_zero, List.set_cons_succ]
                              refine wpAnyH_take (i := 5) (v := .slice (some ⟨gL, 0, none⟩) q cL) rfl (by kernel_rfl) (by kernel_rfl) (by kernel_rfl) (fun _ _ _ h => h) (Or.inl ⟨by rfl, fun w hSw => by go_simp⟩) h0 ?_
                              try simp only [List.getElem_toArray, List.getElem_cons_zero, List.getElem_cons_succ, Act.put, List.setIfInBounds_toArray, List.set_cons_zero, List.set_cons_succ]
                              refine wpAnyH_take (i := 6) (v := .int .i64 j) rfl (by kernel_rfl) (by kernel_rfl) (by kernel_rfl) (fun _ _ _ h => h) (Or.inl ⟨by rfl, fun w hSw => by go_simp⟩) h0 ?_
                              try simp only [List.getElem_toArray, List.getElem_cons_zero, List.getElem_cons_succ, Act.put, List.setIfInBounds_toArray, List.set_cons_zero, List.set_cons_succ]
                              refine wpAnyH_take (i := 7) (v := .pointer (some ⟨gL, j, none⟩)) rfl (by kernel_rfl) (by kernel_rfl) (by kernel_rfl) (fun _ _ _ h => h) (Or.inl ⟨by rfl, fun w hSw => by go_simp⟩) h0 ?_
                              try simp only [List.getElem_toArray, List.getElem_cons_zero, List.getElem_cons_succ, Act.put, List.setIfInBounds_toArray, List.set_cons_zero, List.set_cons_succ]
                              refine wpAnyH_take (i := 8) (v := .slice a1 n1 tc1) rfl (by kernel_rfl) (by kernel_rfl) (by kernel_rfl) (fun _ _ _ h => h) (Or.inl ⟨by rfl, fun w hSw => by have c0 := Kept.cellOf hSw m1 (by simp); go_simp⟩) h0 ?_
                              try simp only [List.getElem_toArray, List.getElem_cons_zero, List.getElem_cons_succ, Act.put, List.setIfInBounds_toArray, List.set_cons_zero, List.set_cons_succ]
                              refine wpAnyH_take (i := 9) (v := .int .i64 n1) rfl (by kernel_rfl) (by kernel_rfl) (by kernel_rfl) (fun _ _ _ h => h) (Or.inl ⟨by rfl, fun w hSw => by go_simp⟩) h0 ?_
                              try simp only [List.getElem_toArray, List.getElem_cons_zero, List.getElem_cons_succ, Act.put, List.setIfInBounds_toArray, List.set_cons_zero, List.set_cons_succ]
                              refine wpAnyH_ready (rs := [10]) (by kernel_rfl) (by simp) (AllReadyH.cons (i := 10) rfl (fun K hK => ?_) AllReadyH.nil)
                              rw [if_pos (by rfl)]
                              go_simp
                              refine (HR1.out v0 h0).mono ?_
                              rintro e v1 ⟨rfl, hq⟩
                              refine hK.out _ _ (h0.trans hq (by simp)) (fun h1 => ?_)
                              clear hK K
                              try simp only [List.getElem_toArray, List.getElem_cons_zero, List.getElem_cons_succ, Act.put, List.setIfInBounds_toArray, List.set_cons_zero, List.set_cons_succ]
                              clear hq
                              refine wpAnyH_take (i := 11) (v := .bool false) rfl (by kernel_rfl) (by kernel_rfl) (by kernel_rfl) (fun _ _ _ h => h) (Or.inl ⟨by rfl, fun w hSw => by go_simp⟩) h1 ?_
                              try simp only [List.getElem_toArray, List.getElem_cons_zero, List.getElem_cons_succ, Act.put, List.setIfInBounds_toArray, List.set_cons_zero, List.set_cons_succ]
                              refine wpAnyH_take (i := 12) (v := .bool false) rfl (by kernel_rfl) (by kernel_rfl) (by kernel_rfl) (fun _ _ _ h => h) (Or.inl ⟨by rfl, fun w hSw => by go_simp⟩) h1 ?_
                              try simp only [List.getElem_toArray, List.getElem_cons_zero, List.getElem_cons_succ, Act.put, List.setIfInBounds_toArray, List.set_cons_zero, List.set_cons_succ]
                              refine wpAnyH_take (i := 13) (v := .slice (some ⟨gH, 0, none⟩) q cH) rfl (by kernel_rfl) (by kernel_rfl) (by kernel_rfl) (fun _ _ _ h => h) (Or.inl ⟨by rfl, fun w hSw => by go_simp⟩) h1 ?_
                              try simp only [List.getElem_toArray, List.getElem_cons_zero, List.getElem_cons_succ, Act.put, List.setIfInBounds_toArray, List.set_cons_zero, List.set_cons_succ]
                              refine wpAnyH_take (i := 14) (v := .int .i64 j) rfl (by kernel_rfl) (by kernel_rfl) (by kernel_rfl) (fun _ _ _ h => h) (Or.inl ⟨by rfl, fun w hSw => by go_simp⟩) h1 ?_
                              try simp only [List.getElem_toArray, List.getElem_cons_zero, List.getElem_cons_succ, Act.put, List.setIfInBounds_toArray, List.set_cons_zero, List.set_cons_succ]
                              refine wpAnyH_take (i := 15) (v := .pointer (some ⟨gH, j, none⟩)) rfl (by kernel_rfl) (by kernel_rfl) (by kernel_rfl) (fun _ _ _ h => h) (Or.inl ⟨by rfl, fun w hSw => by go_simp⟩) h1 ?_
                              try simp only [List.getElem_toArray, List.getElem_cons_zero, List.getElem_cons_succ, Act.put, List.setIfInBounds_toArray, List.set_cons_zero, List.set_cons_succ]
                              refine wpAnyH_take (i := 16) (v := .slice a2 n2 tc2) rfl (by kernel_rfl) (by kernel_rfl) (by kernel_rfl) (fun _ _ _ h => h) (Or.inl ⟨by rfl, fun w hSw => by have c0 := Kept.cellOf hSw m3 (by simp); go_simp⟩) h1 ?_
                              try simp only [List.getElem_toArray, List.getElem_cons_zero, List.getElem_cons_succ, Act.put, List.setIfInBounds_toArray, List.set_cons_zero, List.set_cons_succ]
                              refine wpAnyH_take (i := 17) (v := .int .i64 j) rfl (by kernel_rfl) (by kernel_rfl) (by kernel_rfl) (fun _ _ _ h => h) (Or.inl ⟨by rfl, fun w hSw => by go_simp⟩) h1 ?_
                              try simp only [List.getElem_toArray, List.getElem_cons_zero, List.getElem_cons_succ, Act.put, List.setIfInBounds_toArray, List.set_cons_zero, List.set_cons_succ]
                              refine wpAnyH_take (i := 18) (v := .slice (some ⟨gL, 0, none⟩) q cL) rfl (by kernel_rfl) (by kernel_rfl) (by kernel_rfl) (fun _ _ _ h => h) (Or.inl ⟨by rfl, fun w hSw => by go_simp⟩) h1 ?_
                              try simp only [List.getElem_toArray, List.getElem_cons_zero, List.getElem_cons_succ, Act.put, List.setIfInBounds_toArray, List.set_cons_zero, List.set_cons_succ]
                              refine wpAnyH_take (i := 19) (v := .int .i64 j) rfl (by kernel_rfl) (by kernel_rfl) (by kernel_rfl) (fun _ _ _ h => h) (Or.inl ⟨by rfl, fun w hSw => by go_simp⟩) h1 ?_
                              try simp only [List.getElem_toArray, List.getElem_cons_zero, List.getElem_cons_succ, Act.put, List.setIfInBounds_toArray, List.set_cons_zero, List.set_cons_succ]
                              refine wpAnyH_take (i := 20) (v := .pointer (some ⟨gL, j, none⟩)) rfl (by kernel_rfl) (by kernel_rfl) (by kernel_rfl) (fun _ _ _ h => h) (Or.inl ⟨by rfl, fun w hSw => by go_simp⟩) h1 ?_
                              try simp only [List.getElem_toArray, List.getElem_cons_zero, List.getElem_cons_succ, Act.put, List.setIfInBounds_toArray, List.set_cons_zero, List.set_cons_succ]
                              refine wpAnyH_take (i := 21) (v := .slice a1 n1 tc1) rfl (by kernel_rfl) (by kernel_rfl) (by kernel_rfl) (fun _ _ _ h => h) (Or.inl ⟨by rfl, fun w hSw => by have c0 := Kept.cellOf hSw m1 (by simp); go_simp⟩) h1 ?_
                              try simp only [List.getElem_toArray, List.getElem_cons_zero, List.getElem_cons_succ, Act.put, List.setIfInBounds_toArray, List.set_cons_zero, List.set_cons_succ]
                              refine wpAnyH_take (i := 22) (v := .int .i64 n1) rfl (by kernel_rfl) (by kernel_rfl) (by kernel_rfl) (fun _ _ _ h => h) (Or.inl ⟨by rfl, fun w hSw => by go_simp⟩) h1 ?_
                              try simp only [List.getElem_toArray, List.getElem_cons_zero, List.getElem_cons_succ, Act.put, List.setIfInBounds_toArray, List.set_cons_zero, List.set_cons_succ]
                              refine wpAnyH_ready (rs := [23]) (by kernel_rfl) (by simp) (AllReadyH.cons (i := 23) rfl (fun K hK => ?_) AllReadyH.nil)
                              rw [if_pos (by rfl)]
                              go_simp
                              refine (HR2.out v1 h1).mono ?_
                              rintro e v2 ⟨rfl, hq⟩
                              refine hK.out _ _ (h1.trans hq (by simp)) (fun h2 => ?_)
                              clear hK K
                              try simp only [List.getElem_toArray, List.getElem_cons_zero, List.getElem_cons_succ, Act.put, List.setIfInBounds_toArray, List.set_cons_zero, List.set_cons_succ]
                              clear hq
                              refine wpAnyH_take (i := 24) (v := .bool false) rfl (by kernel_rfl) (by kernel_rfl) (by kernel_rfl) (fun _ _ _ h => h) (Or.inl ⟨by rfl, fun w hSw => by go_simp⟩) h2 ?_
                              try simp only [List.getElem_toArray, List.getElem_cons_zero, List.getElem_cons_succ, Act.put, List.setIfInBounds_toArray, List.set_cons_zero, List.set_cons_succ]
                              refine wpAnyH_take (i := 25) (v := .bool false) rfl (by kernel_rfl) (by kernel_rfl) (by kernel_rfl) (fun _ _ _ h => h) (Or.inl ⟨by rfl, fun w hSw => by go_simp⟩) h2 ?_
                              try simp only [List.getElem_toArray, List.getElem_cons_zero, List.getElem_cons_succ, Act.put, List.setIfInBounds_toArray, List.set_cons_zero, List.set_cons_succ]
                              refine wpAnyH_done (by kernel_rfl) ?_ _
                              have HN := hide (HG.out.kept h2)
                              clear h2 m1 m3 X5 X6 X7 HR1 HR2 HG
                              go_wp2
                              go_roundw
                              case rel => exact ⟨j + 1, by omega, by go_num, HN.out⟩
                              case measure => simp [intOf]; omega
                            · have him1 : ¬ (j : Int) < (q : Int) := by omega
                              have HLAST : Hid (Tg w5 wr m q fb fl ⟨some ⟨gR, 0, none⟩, cR, m, vals m fb⟩ ⟨some ⟨gL, 0, none⟩, cL, q, vals q fl⟩ m lb m rG q ll q rH) := HG.out
                              clear HG
                              go_wp2_with (fail)
                              clear him him1 hi
                              go_loopw [36] (fun x wr => ∃ i : Nat, i ≤ m ∧ x = .int .i64 i ∧ Hid (Tg w5 wr m q fb fl ⟨some ⟨gR, 0, none⟩, cR, m, vals m fb⟩ ⟨some ⟨gL, 0, none⟩, cL, q, vals q fl⟩ m lb m rG q ll q rH)) (fun x wr => m - (intOf x).toNat)
                              case atStart => exact ⟨0, by omega, rfl, HLAST.out⟩
                              case round =>
                                clear HLAST
                                obtain ⟨i, hi, rfl, HG⟩ := hrel
                                by_cases him : i < m
                                · as_aux_lemma =>
                                  have him1 : (i : Int) < (m : Int) := by omega
                                  obtain ⟨xs1, xs2, x1, x2, b12, bb, s1, s2, x5, x6, x7⟩ := HG.out.seeB hm (Nat.le_refl _) HCD.out.1 him (HCb.out i him)
                                  obtain ⟨m1, m3⟩ := (MC.out _ HG.out).1 i him
                                  have bi : i < 100 := by omega
                                  have X5 := hide x5
                                  have X6 := hide x6
                                  have X7 := hide x7
                                  have z1 : ∀ k, (fb i).n ≤ k → k < (fb i).n → (xs1.getD k 0).toNat = 100 + i := fun k h1 h2 => absurd h1 (by omega)
                                  clear x5 x6 x7
                                  generalize (fb i).o = a1 at *
                                  generalize (fb i).n = n1 at *
                                  generalize (fb i).c = tc1 at *
                                  generalize (lb i).o = a2 at *
                                  generalize (lb i).n = n2 at *
                                  generalize (lb i).c = tc2 at *
                                  have HR1 := hide (fun X (hX : Kept [] wr X) => rowIs9_ok a1 n1 tc1 i n1 xs1 X x1 (by omega) bi (Nat.le_refl _) (s1.kept hX (fun _ _ _ => by simp)) X5.out z1)
                                  have HR2 := hide (fun X (hX : Kept [] wr X) => rowIs9_ok a2 n2 tc2 i n1 xs2 X x2 (by omega) bi (by omega) (s2.kept hX (fun _ _ _ => by simp)) X6.out X7.out)
                                  clear z1 s1 s2 x1 x2 b12
                                  go_upto_region 64 with (fail)
                                  refine wp_region_held_drew (S := fun w' => Kept [] wr w') (by kernel_rfl) ((Kept.refl [] wr).drew) (fun h0 => ?_)
                                  generalize World.drew wr = v0 at h0  ⊢
                                  refine wpAnyH_take (i := 0) (v := .slice (some ⟨gR, 0, none⟩) m cR) rfl (by kernel_rfl) (by kernel_rfl) (by kernel_rfl) (fun _ _ _ h => h) (Or.inl ⟨by rfl, fun w hSw => by go_simp⟩) h0 ?_
                                  try simp only [List.getElem_toArray, List.getElem_cons_zero, List.getElem_cons_succ, Act.put, List.setIfInBounds_toArray, List.set_cons_zero, List.set_cons_succ]
                                  refine wpAnyH_take (i := 1) (v := .int .i64 i) rfl (by kernel_rfl) (by kernel_rfl) (by kernel_rfl) (fun _ _ _ h => h) (Or.inl ⟨by rfl, fun w hSw => by go_simp⟩) h0 ?_
                                  try simp only [List.getElem_toArray, List.getElem_cons_zero, List.getElem_cons_succ, Act.put, List.setIfInBounds_toArray, List.set_cons_zero, List.set_cons_succ]
                                  refine wpAnyH_take (i := 2) (v := .pointer (some ⟨gR, i, none⟩)) rfl (by kernel_rfl) (by kernel_rfl) (by kernel_rfl) (fun _ _ _ h => h) (Or.inl ⟨by rfl, fun w hSw => by go_simp⟩) h0 ?_
                                  try simp only [List.getElem_toArray, List.getElem_cons_zero, List.getElem_cons_succ, Act.put, List.setIfInBounds_toArray, List.set_cons_zero, List.set_cons_succ]
                                  refine wpAnyH_take (i := 3) (v := .slice a1 n1 tc1) rfl (by kernel_rfl) (by kernel_rfl) (by kernel_rfl) (fun _ _ _ h => h) (Or.inl ⟨by rfl, fun w hSw => by have c0 := Kept.cellOf hSw m1 (by simp); go_simp⟩) h0 ?_
                                  try simp only [List.getElem_toArray, List.getElem_cons_zero, List.getElem_cons_succ, Act.put, List.setIfInBounds_toArray, List.set_cons_zero, List.set_cons_succ]
                                  refine wpAnyH_take (i := 4) (v := .int .i64 i) rfl (by kernel_rfl) (by kernel_rfl) (by kernel_rfl) (fun _ _ _ h => h) (Or.inl ⟨by rfl, fun w hSw => by go_simp⟩) h0 ?_
                                  try simp only [List.getElem_toArray, List.getElem_cons_zero, List.getElem_cons_succ, Act.put, List.setIfInBounds_toArray, List.set_cons_zero, List.set_cons_succ]
                                  refine wpAnyH_take (i := 5) (v := .slice (some ⟨gR, 0, none⟩) m cR) rfl (by kernel_rfl) (by kernel_rfl) (by kernel_rfl) (fun _ _ _ h => h) (Or.inl ⟨by rfl, fun w hSw => by go_simp⟩) h0 ?_
                                  try simp only [List.getElem_toArray, List.getElem_cons_zero, List.getElem_cons_succ, Act.put, List.setIfInBounds_toArray, List.set_cons_zero, List.set_cons_succ]
                                  refine wpAnyH_take (i := 6) (v := .int .i64 i) rfl (by kernel_rfl) (by kernel_rfl) (by kernel_rfl) (fun _ _ _ h => h) (Or.inl ⟨by rfl, fun w hSw => by go_simp⟩) h0 ?_
                                  try simp only [List.getElem_toArray, List.getElem_cons_zero, List.getElem_cons_succ, Act.put, List.setIfInBounds_toArray, List.set_cons_zero, List.set_cons_succ]
                                  refine wpAnyH_take (i := 7) (v := .pointer (some ⟨gR, i, none⟩)) rfl (by kernel_rfl) (by kernel_rfl) (by kernel_rfl) (fun _ _ _ h => h) (Or.inl ⟨by rfl, fun w hSw => by go_simp⟩) h0 ?_
                                  try simp only [List.getElem_toArray, List.getElem_cons_zero, List.getElem_cons_succ, Act.put, List.setIfInBounds_toArray, List.set_cons_zero, List.set_cons_succ]
                                  refine wpAnyH_take (i := 8) (v := .slice a1 n1 tc1) rfl (by kernel_rfl) (by kernel_rfl) (by kernel_rfl) (fun _ _ _ h => h) (Or.inl ⟨by rfl, fun w hSw => by have c0 := Kept.cellOf hSw m1 (by simp); go_simp⟩) h0 ?_
                                  try simp only [List.getElem_toArray, List.getElem_cons_zero, List.getElem_cons_succ, Act.put, List.setIfInBounds_toArray, List.set_cons_zero, List.set_cons_succ]
                                  refine wpAnyH_take (i := 9) (v := .int .i64 n1) rfl (by kernel_rfl) (by kernel_rfl) (by kernel_rfl) (fun _ _ _ h => h) (Or.inl ⟨by rfl, fun w hSw => by go_simp⟩) h0 ?_
                                  try simp only [List.getElem_toArray, List.getElem_cons_zero, List.getElem_cons_succ, Act.put, List.setIfInBounds_toArray, List.set_cons_zero, List.set_cons_succ]
                                  refine wpAnyH_ready (rs := [10]) (by kernel_rfl) (by simp) (AllReadyH.cons (i := 10) rfl (fun K hK => ?_) AllReadyH.nil)
                                  rw [if_pos (by rfl)]
                                  go_simp
                                  refine (HR1.out v0 h0).mono ?_
                                  rintro e v1 ⟨rfl, hq⟩
                                  refine hK.out _ _ (h0.trans hq (by simp)) (fun h1 => ?_)
                                  clear hK K
                                  try simp only [List.getElem_toArray, List.getElem_cons_zero, List.getElem_cons_succ, Act.put, List.setIfInBounds_toArray, List.set_cons_zero, List.set_cons_succ]
                                  clear hq
                                  refine wpAnyH_take (i := 11) (v := .bool false) rfl (by kernel_rfl) (by kernel_rfl) (by kernel_rfl) (fun _ _ _ h => h) (Or.inl ⟨by rfl, fun w hSw => by go_simp⟩) h1 ?_
                                  try simp only [List.getElem_toArray, List.getElem_cons_zero, List.getElem_cons_succ, Act.put, List.setIfInBounds_toArray, List.set_cons_zero, List.set_cons_succ]
                                  refine wpAnyH_take (i := 12) (v := .bool false) rfl (by kernel_rfl) (by kernel_rfl) (by kernel_rfl) (fun _ _ _ h => h) (Or.inl ⟨by rfl, fun w hSw => by go_simp⟩) h1 ?_
                                  try simp only [List.getElem_toArray, List.getElem_cons_zero, List.getElem_cons_succ, Act.put, List.setIfInBounds_toArray, List.set_cons_zero, List.set_cons_succ]
                                  refine wpAnyH_take (i := 13) (v := .slice (some ⟨gG, 0, none⟩) m cG) rfl (by kernel_rfl) (by kernel_rfl) (by kernel_rfl) (fun _ _ _ h => h) (Or.inl ⟨by rfl, fun w hSw => by go_simp⟩) h1 ?_
                                  try simp only [List.getElem_toArray, List.getElem_cons_zero, List.getElem_cons_succ, Act.put, List.setIfInBounds_toArray, List.set_cons_zero, List.set_cons_succ]
                                  refine wpAnyH_take (i := 14) (v := .int .i64 i) rfl (by kernel_rfl) (by kernel_rfl) (by kernel_rfl) (fun _ _ _ h => h) (Or.inl ⟨by rfl, fun w hSw => by go_simp⟩) h1 ?_
                                  try simp only [List.getElem_toArray, List.getElem_cons_zero, List.getElem_cons_succ, Act.put, List.setIfInBounds_toArray, List.set_cons_zero, List.set_cons_succ]
                                  refine wpAnyH_take (i := 15) (v := .pointer (some ⟨gG, i, none⟩)) rfl (by kernel_rfl) (by kernel_rfl) (by kernel_rfl) (fun _ _ _ h => h) (Or.inl ⟨by rfl, fun w hSw => by go_simp⟩) h1 ?_
                                  try simp only [List.getElem_toArray, List.getElem_cons_zero, List.getElem_cons_succ, Act.put, List.setIfInBounds_toArray, List.set_cons_zero, List.set_cons_succ]
                                  refine wpAnyH_take (i := 16) (v := .slice a2 n2 tc2) rfl (by kernel_rfl) (by kernel_rfl) (by kernel_rfl) (fun _ _ _ h => h) (Or.inl ⟨by rfl, fun w hSw => by have c0 := Kept.cellOf hSw m3 (by simp); go_simp⟩) h1 ?_
                                  try simp only [List.getElem_toArray, List.getElem_cons_zero, List.getElem_cons_succ, Act.put, List.setIfInBounds_toArray, List.set_cons_zero, List.set_cons_succ]
                                  refine wpAnyH_take (i := 17) (v := .int .i64 i) rfl (by kernel_rfl) (by kernel_rfl) (by kernel_rfl) (fun _ _ _ h => h) (Or.inl ⟨by rfl, fun w hSw => by go_simp⟩) h1 ?_
                                  try simp only [List.getElem_toArray, List.getElem_cons_zero, List.getElem_cons_succ, Act.put, List.setIfInBounds_toArray, List.set_cons_zero, List.set_cons_succ]
                                  refine wpAnyH_take (i := 18) (v := .slice (some ⟨gR, 0, none⟩) m cR) rfl (by kernel_rfl) (by kernel_rfl) (by kernel_rfl) (fun _ _ _ h => h) (Or.inl ⟨by rfl, fun w hSw => by go_simp⟩) h1 ?_
                                  try simp only [List.getElem_toArray, List.getElem_cons_zero, List.getElem_cons_succ, Act.put, List.setIfInBounds_toArray, List.set_cons_zero, List.set_cons_succ]
                                  refine wpAnyH_take (i := 19) (v := .int .i64 i) rfl (by kernel_rfl) (by kernel_rfl) (by kernel_rfl) (fun _ _ _ h => h) (Or.inl ⟨by rfl, fun w hSw => by go_simp⟩) h1 ?_
                                  try simp only [List.getElem_toArray, List.getElem_cons_zero, List.getElem_cons_succ, Act.put, List.setIfInBounds_toArray, List.set_cons_zero, List.set_cons_succ]
                                  refine wpAnyH_take (i := 20) (v := .pointer (some ⟨gR, i, none⟩)) rfl (by kernel_rfl) (by kernel_rfl) (by kernel_rfl) (fun _ _ _ h => h) (Or.inl ⟨by rfl, fun w hSw => by go_simp⟩) h1 ?_
                                  try simp only [List.getElem_toArray, List.getElem_cons_zero, List.getElem_cons_succ, Act.put, List.setIfInBounds_toArray, List.set_cons_zero, List.set_cons_succ]
                                  refine wpAnyH_take (i := 21) (v := .slice a1 n1 tc1) rfl (by kernel_rfl) (by kernel_rfl) (by kernel_rfl) (fun _ _ _ h => h) (Or.inl ⟨by rfl, fun w hSw => by have c0 := Kept.cellOf hSw m1 (by simp); go_simp⟩) h1 ?_
                                  try simp only [List.getElem_toArray, List.getElem_cons_zero, List.getElem_cons_succ, Act.put, List.setIfInBounds_toArray, List.set_cons_zero, List.set_cons_succ]
                                  refine wpAnyH_take (i := 22) (v := .int .i64 n1) rfl (by kernel_rfl) (by kernel_rfl) (by kernel_rfl) (fun _ _ _ h => h) (Or.inl ⟨by rfl, fun w hSw => by go_simp⟩) h1 ?_
                                  try simp only [List.getElem_toArray, List.getElem_cons_zero, List.getElem_cons_succ, Act.put, List.setIfInBounds_toArray, List.set_cons_zero, List.set_cons_succ]
                                  refine wpAnyH_ready (rs := [23]) (by kernel_rfl) (by simp) (AllReadyH.cons (i := 23) rfl (fun K hK => ?_) AllReadyH.nil)
                                  rw [if_pos (by rfl)]
                                  go_simp
                                  refine (HR2.out v1 h1).mono ?_
                                  rintro e v2 ⟨rfl, hq⟩
                                  refine hK.out _ _ (h1.trans hq (by simp)) (fun h2 => ?_)
                                  clear hK K
                                  try simp only [List.getElem_toArray, List.getElem_cons_zero, List.getElem_cons_succ, Act.put, List.setIfInBounds_toArray, List.set_cons_zero, List.set_cons_succ]
                                  clear hq
                                  refine wpAnyH_take (i := 24) (v := .bool false) rfl (by kernel_rfl) (by kernel_rfl) (by kernel_rfl) (fun _ _ _ h => h) (Or.inl ⟨by rfl, fun w hSw => by go_simp⟩) h2 ?_
                                  try simp only [List.getElem_toArray, List.getElem_cons_zero, List.getElem_cons_succ, Act.put, List.setIfInBounds_toArray, List.set_cons_zero, List.set_cons_succ]
                                  refine wpAnyH_take (i := 25) (v := .bool false) rfl (by kernel_rfl) (by kernel_rfl) (by kernel_rfl) (fun _ _ _ h => h) (Or.inl ⟨by rfl, fun w hSw => by go_simp⟩) h2 ?_
                                  try simp only [List.getElem_toArray, List.getElem_cons_zero, List.getElem_cons_succ, Act.put, List.setIfInBounds_toArray, List.set_cons_zero, List.set_cons_succ]
                                  refine wpAnyH_done (by kernel_rfl) ?_ _
                                  have HN := hide (HG.out.kept h2)
                                  clear h2 m1 m3 X5 X6 X7 HR1 HR2 HG
                                  go_wp2
                                  go_roundw
                                  case rel => exact ⟨i + 1, by omega, by go_num, HN.out⟩
                                  case measure => simp [intOf]; omega
                                · have him1 : ¬ (i : Int) < (m : Int) := by omega
                                  as_aux_lemma =>
                                    have HK5z := hide (Kept.of_below HG.out.bel)
                                    clear HG
                                    have hpl := plain9_ok ia in_ ic IL wr (HI5.out.kept HK5z.out)
                                    go_upto_region 67 with (go_at_call 21; refine hpl.mono ?_; rintro e wy ⟨vi, vd, vc, rfl, hs⟩; have HSI := hide hs.ids; have HKP := hide hs.kp; have hfd := fun W => Tryz.fieldS0 vi vd vc W; clear hpl hs)
                                    clear hfd
                                    have HK5y := hide (HK5z.out.trans HKP.out (by simp))
                                    obtain ⟨aI, cI, eI, _⟩ := own_shape HSI.out.1
                                    obtain ⟨nI, hnI⟩ : ∃ n, (ids9 IL).length = n := ⟨_, rfl⟩
                                    rw [hnI] at eI
                                    subst eI
                                    have HNI := hide hnI
                                    have hn60 : nI ≤ 60 := by rw [← hnI]; exact ids9_len IL
                                    clear hnI HKP HK5z
                                    go_wp2_with (fail)
                                    go_loopw [38] (fun x wr => ∃ k : Nat, k ≤ nI ∧ x = .int .i64 k ∧ Hid (Kept [] wy wr)) (fun x wr => nI - (intOf x).toNat)
                                    case atStart => exact ⟨0, Nat.zero_le _, rfl, hide (Kept.refl _ _)⟩
                                    case round =>
                                      obtain ⟨k, hk, rfl, HP⟩ := hrel
                                      have HK5r := hide (HK5y.out.trans HP.out (by simp))
                                      by_cases hlt : k < nI
                                      · as_aux_lemma =>
                                        have hlt1 : (k : Int) < (nI : Int) := by omega
                                        have hkl : k < (ids9 IL).length := by rw [HNI.out]; exact hlt
                                        obtain ⟨gI, oI, hao, hrq⟩ := ((HSI.out.kept HP.out (by simp)).ids.1).1 k hkl
                                        have hq : ((ids9 IL).getD k []).length = 32 := HSI.out.2 _ (getD_memI hkl)
                                        obtain ⟨qi, hqi⟩ : ∃ r, (ids9 IL).getD k [] = r := ⟨_, rfl⟩
                                        rw [hqi] at hrq hq
                                        subst hao
                                        have hql := idl qi hq
                                        obtain ⟨ao1, n1, c1, hlk1, hcv1⟩ := mapk_text ((HM1.out.keptV HK5r.out).mapAtV HGT.out.1) qi hq
                                        obtain ⟨ao2, n2, c2, hlk2, hcv2⟩ := mapk_text ((HM2.out.keptV HK5r.out).mapAtV HGT.out.2) qi hq
                                        obtain ⟨Y, hY⟩ : ∃ Y, csK M qi = Y := ⟨_, rfl⟩
                                        rw [hY] at hcv1 hcv2
                                        have hse : (⟨Y.toArray⟩ : ByteArray) = ⟨Y.toArray⟩ := rfl
                                        clear hkl hqi hq hY HK5r
                                        go_upto_region 70 with (fail)
                                        refine wp_region_held_drew (S := fun w' => Kept [] wr w') (by kernel_rfl) ((Kept.refl [] wr).drew) (fun h0 => ?_)
                                        generalize World.drew wr = v0 at h0  ⊢
                                        refine wpAnyH_take (i := 0) (v := .map (some b1)) rfl (by kernel_rfl) (by kernel_rfl) (by kernel_rfl) (fun _ _ _ h => h) (Or.inl ⟨by rfl, fun w hSw => by go_simp⟩) h0 ?_
                                        try simp only [List.getElem_toArray, List.getElem_cons_zero, List.getElem_cons_succ, Act.put, List.setIfInBounds_toArray, List.set_cons_zero, List.set_cons_succ]
                                        refine wpAnyH_take (i := 1) (v := .slice (some ⟨gI, oI, none⟩) nI cI) rfl (by kernel_rfl) (by kernel_rfl) (by kernel_rfl) (fun _ _ _ h => h) (Or.inl ⟨by rfl, fun w hSw => by go_simp⟩) h0 ?_
                                        try simp only [List.getElem_toArray, List.getElem_cons_zero, List.getElem_cons_succ, Act.put, List.setIfInBounds_toArray, List.set_cons_zero, List.set_cons_succ]
                                        refine wpAnyH_take (i := 2) (v := .int .i64 k) rfl (by kernel_rfl) (by kernel_rfl) (by kernel_rfl) (fun _ _ _ h => h) (Or.inl ⟨by rfl, fun w hSw => by go_simp⟩) h0 ?_
                                        try simp only [List.getElem_toArray, List.getElem_cons_zero, List.getElem_cons_succ, Act.put, List.setIfInBounds_toArray, List.set_cons_zero, List.set_cons_succ]
                                        refine wpAnyH_take (i := 3) (v := .pointer (some ⟨gI, oI + k * 32, none⟩)) rfl (by kernel_rfl) (by kernel_rfl) (by kernel_rfl) (fun _ _ _ h => h) (Or.inl ⟨by rfl, fun w hSw => by go_simp⟩) h0 ?_
                                        try simp only [List.getElem_toArray, List.getElem_cons_zero, List.getElem_cons_succ, Act.put, List.setIfInBounds_toArray, List.set_cons_zero, List.set_cons_succ]
                                        refine wpAnyH_take (i := 4) (v := .agg (bys qi).toArray) rfl (by kernel_rfl) (by kernel_rfl) (by kernel_rfl) (fun _ _ _ h => h) (yieldsIf_load_mid (by rfl) _ _ rfl gI (oI + k * 32) rfl (bys qi) _ (fun W h => fun jj u hu => Kept.cellOf h (hrq jj u hu) (by simp)) Tryz.underlying36 rfl hql) h0 ?_
                                        try simp only [List.getElem_toArray, List.getElem_cons_zero, List.getElem_cons_succ, Act.put, List.setIfInBounds_toArray, List.set_cons_zero, List.set_cons_succ]
                                        refine wpAnyH_take (i := 5) (v := .slice ao1 n1 c1) rfl (by kernel_rfl) (by kernel_rfl) (by kernel_rfl) (fun _ _ _ h => h) (Or.inl ⟨by rfl, fun w hSw => by have c0 := hlk1 w hSw; go_simp⟩) h0 ?_
                                        try simp only [List.getElem_toArray, List.getElem_cons_zero, List.getElem_cons_succ, Act.put, List.setIfInBounds_toArray, List.set_cons_zero, List.set_cons_succ]
                                        refine wpAnyH_take (i := 6) (v := .string ⟨Y.toArray⟩) rfl (by kernel_rfl) (by kernel_rfl) (by kernel_rfl) (fun _ _ _ h => h) (Or.inl ⟨by rfl, fun w hSw => by have c0 := hcv1 w hSw; go_simp⟩) h0 ?_
                                        try simp only [List.getElem_toArray, List.getElem_cons_zero, List.getElem_cons_succ, Act.put, List.setIfInBounds_toArray, List.set_cons_zero, List.set_cons_succ]
                                        refine wpAnyH_take (i := 7) (v := .map (some b2)) rfl (by kernel_rfl) (by kernel_rfl) (by kernel_rfl) (fun _ _ _ h => h) (Or.inl ⟨by rfl, fun w hSw => by go_simp⟩) h0 ?_
                                        try simp only [List.getElem_toArray, List.getElem_cons_zero, List.getElem_cons_succ, Act.put, List.setIfInBounds_toArray, List.set_cons_zero, List.set_cons_succ]
                                        refine wpAnyH_take (i := 8) (v := .slice (some ⟨gI, oI, none⟩) nI cI) rfl (by kernel_rfl) (by kernel_rfl) (by kernel_rfl) (fun _ _ _ h => h) (Or.inl ⟨by rfl, fun w hSw => by go_simp⟩) h0 ?_
                                        try simp only [List.getElem_toArray, List.getElem_cons_zero, List.getElem_cons_succ, Act.put, List.setIfInBounds_toArray, List.set_cons_zero, List.set_cons_succ]
                                        refine wpAnyH_take (i := 9) (v := .int .i64 k) rfl (by kernel_rfl) (by kernel_rfl) (by kernel_rfl) (fun _ _ _ h => h) (Or.inl ⟨by rfl, fun w hSw => by go_simp⟩) h0 ?_
                                        try simp only [List.getElem_toArray, List.getElem_cons_zero, List.getElem_cons_succ, Act.put, List.setIfInBounds_toArray, List.set_cons_zero, List.set_cons_succ]
                                        refine wpAnyH_take (i := 10) (v := .pointer (some ⟨gI, oI + k * 32, none⟩)) rfl (by kernel_rfl) (by kernel_rfl) (by kernel_rfl) (fun _ _ _ h => h) (Or.inl ⟨by rfl, fun w hSw => by go_simp⟩) h0 ?_
                                        try simp only [List.getElem_toArray, List.getElem_cons_zero, List.getElem_cons_succ, Act.put, List.setIfInBounds_toArray, List.set_cons_zero, List.set_cons_succ]
                                        refine wpAnyH_take (i := 11) (v := .agg (bys qi).toArray) rfl (by kernel_rfl) (by kernel_rfl) (by kernel_rfl) (fun _ _ _ h => h) (yieldsIf_load_mid (by rfl) _ _ rfl gI (oI + k * 32) rfl (bys qi) _ (fun W h => fun jj u hu => Kept.cellOf h (hrq jj u hu) (by simp)) Tryz.underlying36 rfl hql) h0 ?_
                                        try simp only [List.getElem_toArray, List.getElem_cons_zero, List.getElem_cons_succ, Act.put, List.setIfInBounds_toArray, List.set_cons_zero, List.set_cons_succ]
                                        refine wpAnyH_take (i := 12) (v := .slice ao2 n2 c2) rfl (by kernel_rfl) (by kernel_rfl) (by kernel_rfl) (fun _ _ _ h => h) (Or.inl ⟨by rfl, fun w hSw => by have c0 := hlk2 w hSw; go_simp⟩) h0 ?_
                                        try simp only [List.getElem_toArray, List.getElem_cons_zero, List.getElem_cons_succ, Act.put, List.setIfInBounds_toArray, List.set_cons_zero, List.set_cons_succ]
                                        refine wpAnyH_take (i := 13) (v := .string ⟨Y.toArray⟩) rfl (by kernel_rfl) (by kernel_rfl) (by kernel_rfl) (fun _ _ _ h => h) (Or.inl ⟨by rfl, fun w hSw => by have c0 := hcv2 w hSw; go_simp⟩) h0 ?_
                                        try simp only [List.getElem_toArray, List.getElem_cons_zero, List.getElem_cons_succ, Act.put, List.setIfInBounds_toArray, List.set_cons_zero, List.set_cons_succ]
                                        refine wpAnyH_take (i := 14) (v := .bool false) rfl (by kernel_rfl) (by kernel_rfl) (by kernel_rfl) (fun _ _ _ h => h) (Or.inl ⟨by rfl, fun w hSw => by have c0 := hse; go_simp⟩) h0 ?_
                                        try simp only [List.getElem_toArray, List.getElem_cons_zero, List.getElem_cons_succ, Act.put, List.setIfInBounds_toArray, List.set_cons_zero, List.set_cons_succ]
                                        refine wpAnyH_done (by kernel_rfl) ?_ _
                                        have HN := hide (HP.out.trans h0 (by simp))
                                        clear h0 hlk1 hlk2 hcv1 hcv2 hrq HP
                                        go_wp2
                                        go_roundw
                                        case rel => exact ⟨k + 1, by omega, by go_num, HN⟩
                                        case measure => simp [intOf]; omega
                                      · as_aux_lemma =>
                                        have hlt1 : ¬ (k : Int) < (nI : Int) := by omega
                                        have h1 := (HM1.out.keptV HK5r.out).im.size Tryz.underlying26
                                        have h2 := (HM2.out.keptV HK5r.out).im.size Tryz.underlying26
                                        rw [List.length_map] at h1 h2
                                        obtain ⟨mm, hmm⟩ : ∃ mm, M.length = mm := ⟨_, rfl⟩
                                        rw [hmm] at h1 h2
                                        have hee : ((mm : Int) == (mm : Int)) = true := by simp
                                        clear hmm HP
                                        go_wp2_with (first
                                          | (at_builtin; refine wpList_lenI rfl 26 (.tmp 312) rfl (.map (some b1)) rfl _ _ (h1 _) ?_)
                                          | (at_builtin; refine wpList_lenI rfl 26 (.tmp 314) rfl (.map (some b2)) rfl _ _ (h2 _) ?_))
                                        go_ret
                                        exact ⟨rfl, HK05.out.trans HK5r.out (by simp)⟩
end Go.Proofs.YtngaimahhgmciabGreatDoor
