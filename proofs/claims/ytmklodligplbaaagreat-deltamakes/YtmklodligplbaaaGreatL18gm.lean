import Derived.Test.YtmklodligplbaaaGreatL18fm
import Derived.Test.YtmklodligplbaaaGreatProg
import Derived.Test.YtmklodligplbaaaGreatMemm
import Derived.ProofKit
import Derived.OpenShut
import Derived.Deep.Slices
import Derived.Lib.SmallJoins
import Derived.Deep.MidRow
import Derived.Test.YtmklodligplbaaaGreatD9vm
open Go.RowKit
set_option linter.unusedVariables false
set_option linter.unusedSimpArgs false
set_option maxRecDepth 100000
set_option maxHeartbeats 51200000
namespace Go.Proofs.YtmklodligplbaaaGreat
section
open Dlt
theorem OwnW.addAll {w : World} {base : Nat} {v : Value} {L : List Wk} (h : OwnW w base v L) (hb : base <= w.heap.size) (ao : Option Addr) (n c : Nat) (M : List Wk) (hM : M.length = n) (hs : Wks w ao M) (h0 : ao = none -> n = 0 ∧ c = 0) (hl : L.length + n <= 3518437208883) :
  ∃ v' w', (Builtin.append_ #[27, 27] 27 #[v, .slice ao n c]).run Tryz.prog w = .ok v' w' ∧ OwnW w' base v' (L ++ M) ∧ Kept v.ownBlock.toList w w' := by
 obtain ⟨i0, hi, hz0, hz1, hz2⟩ := info_parts Tryz.infoWeak
 cases ao with
 | none =>
  obtain ⟨rfl, rfl⟩ := h0 rfl
  have : M = [] := List.eq_nil_of_length_eq_zero hM
  subst this
  exact ⟨v, w, run_append_owned_none (P := Tryz.prog) (w := w) base 27 27 45 i0 33 Tryz.underlying27 hi v L.length (wrows L) h, by rw [List.append_nil]; exact h, Kept.refl _ _⟩
 | some ad =>
  subst hM
  obtain ⟨v', w', hrun, h4, h5, _, _⟩ := run_append_own_at (P := Tryz.prog) w base 27 27 45 i0 (.agg zeroK) 33 40 Tryz.underlying27 hi hz0 hz1 hz2 rfl (by decide) v _ _ h ad M.length c (wrows M) (by rw [wrows_len]) (fun j u hu => by
    obtain ⟨h1, h2⟩ := wrows_back hu
    obtain ⟨b, off, e, hr⟩ := hs (j / 33) h1
    cases e
    have := hr (j % 33) u h2
    rw [Addr.add_mid]
    rw [show off + j / 33 * 33 + j % 33 = off + j by omega] at this
    exact this) (wrows_one M) (by unfold maxLen; omega) (by omega) hb
  refine ⟨v', w', hrun, ?_, (Kept.refl _ w).grown h5 (fun g hg _ => by rw [hg]; simp)⟩
  unfold OwnW
  rw [List.length_append, wrows_app]
  exact h4
def wm (i : Nat) : Wk := ⟨-7 - (i % 40 : Nat), List.replicate 32 0, by simp, wf64 (by omega) (by omega)⟩
def wms : List Wk := (List.range 40).map wm
theorem wms_len : wms.length = 40 := by simp [wms]
theorem wms_take (k : Nat) (h : k < 40) : wms.take (k + 1) = wms.take k ++ [wm k] := by
 rw [List.take_succ_eq_append_getElem (by rw [wms_len]; exact h)]
 simp [wms]
theorem wm_sum {k : Nat} (h : k < 40) : (wm k).sum = -7 - (k : Int) := by
 show (-7 - ((k % 40 : Nat) : Int)) = _
 rw [Nat.mod_eq_of_lt h]
theorem Tryz.builtWz (x : Int) (W : World) : (Instr.build 45 #[(0, .int .i64 x)]).run Tryz.prog W = .ok (.agg (.int .i64 x :: bys (List.replicate 32 0)).toArray) W := by kernel_rfl
theorem Tryz.builtWm {k : Nat} (h : k < 40) (W : World) : (Instr.build 45 #[(0, .int .i64 (-7 - (k : Int)))]).run Tryz.prog W = .ok (.agg (wm k).cells.toArray) W := by
 rw [<-wm_sum h]; exact Tryz.builtWz _ W
theorem Tryz.cutW (W : World) (ao : Option Addr) (L cap m : Nat) (hm : m <= cap) (hc : cap <= 9223372036854775807) :
  (Instr.slice 27 (.slice ao L cap) none (some (.int .i64 m)) none).run Tryz.prog W = .ok (.slice ao m cap) W := by
 have hz : (sizeOf (Tryz.prog.elem 27)).run Tryz.prog W = .ok 33 W := by kernel_rfl
 have h := run_slice_h (P := Tryz.prog) W 27 ao L cap (by kernel_rfl) .i64 m (by omega) (by omega)
 rw [h, hz]
 cases ao <;> simp [sliced, Addr.add]
theorem copied_ok (s : Sig) (ao : Option Addr) (n cap : Nat) (w : World) (hI : SigIn w s ao n cap) (h0 : ao = none -> n = 0 ∧ cap = 0) (hm : n <= 3518437208782) :
  Calls Tryz.prog 13 #[.agg (s.cells (.slice ao n cap)).toArray] w fun e w' => (∃ g gc, e = .returned (.agg (s.cells (.slice (some ⟨g, 0, none⟩) n gc)).toArray) ∧ OwnW w' w.heap.size (.slice (some ⟨g, 0, none⟩) (n + 40) gc) (s.blocks ++ wms)) ∧ Kept [] w w' := by
 have hz := Tryz.zeroSig
 have kA := ka w (.cells (s.cells (.slice ao n cap)).toArray 29)
 have kR : Kept [] (w.alloc (.cells (s.cells (.slice ao n cap)).toArray 29)) ((w.alloc (.cells (s.cells (.slice ao n cap)).toArray 29)).alloc (.cells zeroS 29)) := (Kept.refl [] _).alloc _
 have hA := (SigAt.new w s (.slice ao n cap)).kept kR (by simp)
 have hR := heap_new (w.alloc (.cells (s.cells (.slice ao n cap)).toArray 29)) (.cells zeroS 29)
 rw [show (w.alloc (.cells (s.cells (.slice ao n cap)).toArray 29)).heap.size = w.heap.size + 1 by simp] at hR
 have HI := hide (hI.kept (kA.tr kR))
 have HK := hide (kA.tr kR)
 obtain ⟨A, hAe⟩ := nm (w.heap.size)
 rw [hAe] at hA hR
 have H0 := hide h0
 clear hI h0 kA kR
 go_enter Tryz.func13, Tryz.ntmps13
 go_upto_region 1 with (fail)
 have HAW := hide hAe
 clear hAe
 generalize (w.alloc (.cells (s.cells (.slice ao n cap)).toArray 29)).alloc (.cells zeroS 29) = w1 at *
 have a5 := hA.cell (Sig.cv _ _)
 have HA := hide hA
 have HRR := hide hR
 clear hA hR
 have hadd : IntKind.i64.wrap ((n : Int) + 40) = (n : Int) + 40 := wrap64 (by omega) (by omega)
 have hds : (World.drew w1).heap.size = w1.heap.size := rfl
 refine th w1 fun h0 => ?_
 generalize World.drew w1 = v0 at h0 hds ⊢
 have HDS := hide hds
 clear hds
 refine t1 0 (.pointer (some ⟨A, 35, none⟩)) h0 ?_
 try simp only [zz]
 refine t2 1 (.slice ao n cap) rfl h0 ?_ (fun w hSw => by have c0 := Kept.cellOf hSw a5 (by simp); go_simp)
 try simp only [zz]
 refine t1 2 (.int .i64 n) h0 ?_
 try simp only [zz]
 refine t1 3 (.int .i64 ((n : Int) + 40)) h0 ?_
 try simp only [zz]
 refine t1 5 (.pointer (some ⟨A, 35, none⟩)) h0 ?_
 try simp only [zz]
 refine t2 6 (.slice ao n cap) rfl h0 ?_ (fun w hSw => by have c0 := Kept.cellOf hSw a5 (by simp); go_simp)
 try simp only [zz]
 obtain ⟨i0, hi, hz0, hz1, hz2⟩ := info_parts Tryz.infoWeak
 have hmk := run_make (P := Tryz.prog) v0 27 45 i0 (.agg zeroK) Tryz.underlying27 hi hz0 .i64 .i64 0 ((n : Int) + 40) (by omega) (by omega) (by rw [hz2]; omega) (by omega)
 rw [hz1, show ((n : Int) + 40).toNat = n + 40 by omega] at hmk
 simp only [Int.toNat_zero] at hmk
 have ho1 : OwnW (v0.alloc (.cells (madeCells (Value.agg zeroK).cells ((n + 40) * 33)) 45)) v0.heap.size (.slice (some ⟨v0.heap.size, 0, none⟩) 0 (n + 40)) [] := World.ownsRow_made v0 _ (n + 40) (Nat.le_refl _) (by unfold maxLen; omega) (size_madeCells _ _)
 have kM := ka v0 (.cells (madeCells (Value.agg zeroK).cells ((n + 40) * 33)) 45)
 generalize v0.alloc (.cells (madeCells (Value.agg zeroK).cells ((n + 40) * 33)) 45) = vm at hmk ho1 kM
 obtain ⟨v2, x2, hrun2, ho2, hk2⟩ := OwnW.addAll ho1 kM.size ao n cap s.blocks HI.out.len ((HI.out.at_.kept h0 (by simp)).kept kM (by simp)) H0.out (by simp; omega)
 rw [List.nil_append] at ho2
 have hk12 : Kept [] v0 x2 := kM.trans hk2 (fun g hg hlt => by simp [Value.ownBlock] at hg; omega)
 obtain ⟨vo2, vc2, rfl, _⟩ := own_shape ho2
 rw [HI.out.len] at hrun2
 have ho2 : OwnW x2 v0.heap.size (.slice vo2 n vc2) s.blocks := by have h := ho2; rw [HI.out.len] at h; exact h
 refine rd 4 fun K hK => ?_
 go_simp
 refine hK.out _ _ (h0.tr kM) (fun h1 => ?_)
 clear hK K
 try simp only [zz]
 refine rd 7 fun K hK => ?_
 refine wp_append_run8 _ (.tmp 9) (.tmp 11) 27 rfl (.slice (some ⟨v0.heap.size, 0, none⟩) 0 (n + 40)) (.slice ao n cap) rfl rfl hrun2 ?_
 refine hK.out _ _ (h0.tr hk12) (fun h2 => ?_)
 clear hK K h1
 try simp only [zz]
 refine t1 8 (.slice vo2 n vc2) h2 ?_
 try simp only [zz]
 refine dn ?_
 have HIN : Hid (OwnW x2 v0.heap.size (.slice vo2 n vc2) (s.blocks ++ wms.take 0) ∧ Kept [] w1 x2) := by show _ ∧ _; exact ⟨by simpa using ho2, h2⟩
 have HV0 := hide h0.size
 clear ho2 hk12 hk2 hrun2 ho1 kM hmk hi hz0 hz1 hz2 h2 h0 hadd a5
 obtain ⟨B, hB⟩ := nm (v0.heap.size)
 rw [hB] at HIN HV0
 have HAB : Hid (A + 1 < B ∧ w.heap.size = A) := ⟨Nat.lt_of_lt_of_le (gs HRR.out).1 HV0.out, HAW.out⟩
 have HBw : Hid (B = w1.heap.size) := by show _ = _; rw [<-hB, HDS.out]
 clear hB HV0 HAW HDS
 go_wp2
 go_loopw [3, 4] (fun x y wr => ∃ (k q : Nat) (vo : Option Addr) (vc : Nat), k <= 40 ∧ q = n + k ∧ x = .slice vo q vc ∧ y = .int .i64 k ∧ Hid (OwnW wr B (.slice vo q vc) (s.blocks ++ wms.take k) ∧ Kept [] w1 wr)) (fun x y wr => 40 - (intOf y).toNat)
 case atStart => exact ⟨0, n, vo2, vc2, Nat.zero_le _, rfl, rfl, rfl, HIN⟩
 case round =>
  clear HIN
  obtain ⟨k, q, vo, vc, hk, hq, rfl, rfl, HP⟩ := hrel
  have HQ := hide hq
  clear hq
  by_cases hlt : k < 40
  ·have HT := hide (wms_take k hlt)
   have hbw := Tryz.builtWm hlt
   have hwr : IntKind.i64.wrap (-7 - (k : Int)) = -7 - (k : Int) := wrap64 (by omega) (by omega)
   generalize wm k = e at HT hbw
   have hbs := Tryz.builtW1 e wr
   have kN := ka wr (.cells e.cells.toArray 45)
   obtain ⟨v4, w4, hrun4, ho4, hk4⟩ := OwnW.addAll (HP.out.1.kept kN (by simp)) (Nat.le_trans (Nat.le_trans (Nat.le_of_eq HBw.out) HP.out.2.size) kN.size) (some ⟨wr.heap.size, 0, none⟩) 1 1 [e] rfl (fun i hi => by
    obtain rfl : i = 0 := by simpa using hi
    exact ⟨wr.heap.size, 0, rfl, row_rangeK (heap_new wr (.cells e.cells.toArray 45))⟩) (fun h => by cases h) (by rw [List.length_append, List.length_take, wms_len, HI.out.len]; omega)
   obtain ⟨vo4, vc4, rfl, _⟩ := own_shape ho4
   have hll : (s.blocks ++ wms.take k ++ [e]).length = q + 1 := by rw [List.length_append, List.length_append, List.length_take, wms_len, HI.out.len, HQ.out]; simp; omega
   rw [hll] at hrun4
   have ho4 : OwnW w4 B (.slice vo4 (q + 1) vc4) (s.blocks ++ wms.take k ++ [e]) := by have h := ho4; rw [hll] at h; exact h
   have H4 : Hid (OwnW w4 B (.slice vo4 (q + 1) vc4) (s.blocks ++ wms.take (k + 1)) ∧ Kept [] w1 w4) := ⟨by rw [HT.out, <-List.append_assoc]; exact ho4, (HP.out.2.tr kN).trans hk4 (fun g hg hl2 => by have := OwnW.ge HP.out.1 (by simpa using hg); have := HBw.out; omega)⟩
   clear ho4 hk4 kN HP hll HT
   go_wp2_with (first
    | refine wpList_buildRun8 rfl 45 #[(0, .tmp 19)] rfl #[(0, .int .i64 (-7 - (k : Int)))] (by simp [Act.eval]) _ (hbw _) ?_
    | refine wpList_buildTwo8 rfl 27 1 #[(0, .tmp 20)] rfl #[(0, .agg e.cells.toArray)] (by simp [Act.eval, Act.put]) hbs ?_
    | refine wpList_appendRunL rfl (.tmp 17) (.tmp 21) 27 27 rfl (.slice vo q vc) (.slice (some ⟨wr.heap.size, 0, none⟩) 1 1) rfl rfl hrun4 ?_)
   go_roundw
   case rel => exact ⟨k + 1, q + 1, vo4, vc4, by omega, by rw [HQ.out]; rfl, rfl, by go_num, H4⟩
   case measure => simp [intOf]; omega
  ·obtain rfl : k = 40 := by omega
   have ho := HP.out.1
   rw [List.take_of_length_le (by rw [wms_len]; exact Nat.le_refl _)] at ho
   have hq0 : (s.blocks ++ wms).length = q := by rw [List.length_append, wms_len, HI.out.len, HQ.out]
   obtain ⟨g, gc, hv, hgb, hgc, hgm⟩ : ∃ g gc, (Value.slice vo q vc) = .slice (some ⟨g, 0, none⟩) q gc ∧ B <= g ∧ n + 40 <= gc ∧ gc <= 9223372036854775807 := by
    rcases ho.2 with ⟨_, h2⟩ | ⟨g, gc, cur, hv, hb, hg, hnn, hc, _⟩
    ·rw [hq0, HQ.out] at h2; omega
    ·rw [hq0] at hv hnn
     exact ⟨g, gc, hv, hb, by rw [HQ.out] at hnn; exact hnn, by unfold maxLen at hc; omega⟩
   injection hv with hv1 hv2 hv3
   subst hv1
   subst hv3
   clear hv2
   have hv2 := HQ.out
   have hcut := fun X => Tryz.cutW X (some ⟨g, 0, none⟩) (n + 40) vc n (by omega) hgm
   rw [hv2] at ho ⊢
   have HO := hide ho
   have hA2 := HA.out.kept HP.out.2 (by simp)
   have a5 := hA2.cell (Sig.cv _ _)
   have f5 := hA2.fr 35
   have hA3 := hA2.setV (.slice (some ⟨g, 0, none⟩) n vc)
   have k3 : Kept [A] wr (wr.setCell ⟨A, 35, none⟩ (.slice (some ⟨g, 0, none⟩) n vc)) := (Kept.refl [A] wr).setCell (by simp) _
   have hrz := hA3.range
   have hRz := (k3.block (A + 1) (Nat.lt_of_lt_of_le (gs HRR.out).1 HP.out.2.size) (by simp)).trans ((HP.out.2.block (A + 1) (gs HRR.out).1 (by simp)).trans HRR.out)
   have hil := Tryz.infoSig s (.slice (some ⟨g, 0, none⟩) n vc)
   have hia := Tryz.infoSigA s (.slice (some ⟨g, 0, none⟩) n vc)
   have hzs : zeroS.size = (s.cells (.slice (some ⟨g, 0, none⟩) n vc)).toArray.size := by rw [sig_size]; exact sig_size _ _
   have hal := sig_one s (.slice (some ⟨g, 0, none⟩) n vc) rfl
   have kf : Kept [A, A + 1] wr ((wr.setCell ⟨A, 35, none⟩ (.slice (some ⟨g, 0, none⟩) n vc)).setRow (A + 1) (s.cells (.slice (some ⟨g, 0, none⟩) n vc)).toArray) := (show Kept [A, A + 1] wr _ from k3.mono (by simp)).trans (kept_row _ (A + 1) _) (by simp)
   have HF : Hid ((∃ g' gc', Ending.returned (.agg (s.cells (.slice (some ⟨g, 0, none⟩) n vc)).toArray) = .returned (.agg (s.cells (.slice (some ⟨g', 0, none⟩) n gc')).toArray) ∧ OwnW ((wr.setCell ⟨A, 35, none⟩ (.slice (some ⟨g, 0, none⟩) n vc)).setRow (A + 1) (s.cells (.slice (some ⟨g, 0, none⟩) n vc)).toArray) w.heap.size (.slice (some ⟨g', 0, none⟩) (n + 40) gc') (s.blocks ++ wms)) ∧ Kept [] w ((wr.setCell ⟨A, 35, none⟩ (.slice (some ⟨g, 0, none⟩) n vc)).setRow (A + 1) (s.cells (.slice (some ⟨g, 0, none⟩) n vc)).toArray)) := by
    refine ⟨⟨g, vc, rfl, own_base (OwnW.kept HO.out kf (fun q hq => by cases hq; have := HAB.out; simp; omega)) (by have := HAB.out; omega)⟩, (HK.out.tr HP.out.2).trans kf (fun i hi hl => by simp only [List.mem_cons, List.not_mem_nil, or_false] at hi; have := HAB.out; omega)⟩
   clear ho HP hA2 hA3 k3 kf hq0 hv2
   go_wp2_with (first
    | refine wpList_load_mid rfl 29 (.tmp 1) rfl A 0 rfl (s.cells (.slice (some ⟨g, 0, none⟩) n vc)) _ hrz Tryz.underlying29 rfl hil ?_
    | refine wpList_store_rowTo rfl 29 (.tmp 2) (.tmp 29) rfl rfl (A + 1) (s.cells (.slice (some ⟨g, 0, none⟩) n vc)).toArray rfl rfl 29 zeroS hRz hia hzs hal ?_)
   refine ret_row rfl rfl (A + 1) 29 _ (0, 0) _ rfl (setRow_heap _ _ _ _ _ _ hRz) Tryz.underlying29 rfl hia ?_
   exact HF.out
theorem Wks.front {w : World} {ao : Option Addr} {L M : List Wk} (h : Wks w ao (L ++ M)) : Wks w ao L := fun i hi => by
 obtain ⟨b, off, e, hr⟩ := h i (by rw [List.length_append]; omega)
 refine ⟨b, off, e, ?_⟩
 have : (L ++ M).getD i wk0 = L.getD i wk0 := by simp [List.getD, List.getElem?_append_left hi]
 rw [this] at hr
 exact hr
structure Cpd (w : World) (B : Nat) (s : Sig) (g n gc : Nat) : Prop where
 own : OwnW w B (.slice (some ⟨g, 0, none⟩) (n + 40) gc) (s.blocks ++ wms)
 len : s.blocks.length = n
theorem Cpd.kept {l : List Nat} {w w' : World} {B : Nat} {s : Sig} {g n gc : Nat} (h : Cpd w B s g n gc) (hk : Kept l w w') (hn : g ∉ l) : Cpd w' B s g n gc := ⟨OwnW.kept h.own hk (fun q hq => by cases hq; exact hn), h.len⟩
theorem Cpd.wks {w : World} {B : Nat} {s : Sig} {g n gc : Nat} (h : Cpd w B s g n gc) : Wks w (some ⟨g, 0, none⟩) (s.blocks ++ wms) ∧ n + 40 <= gc ∧ gc <= 9223372036854775807 := by
 obtain ⟨ao, cap, e, hl, hw, _, hm⟩ := OwnW.wks h.own
 injection e with e1 e2 e3
 subst e1; subst e3
 exact ⟨hw, by rw [<-e2] at hl; exact hl, hm⟩
theorem Cpd.sig {w : World} {B : Nat} {s : Sig} {g n gc : Nat} (h : Cpd w B s g n gc) : SigIn w s (some ⟨g, 0, none⟩) n gc := ⟨h.len, by have := h.wks.2.1; omega, h.wks.2.2, h.wks.1.front⟩
theorem whole_yes (s : Sig) (B g n gc : Nat) (bo : Option Addr) (bc : Nat) (w : World) (hC : Cpd w B s g n gc) (hJ : SigIn w s bo n bc) (hm : n <= 3518437208782) :
  Calls Tryz.prog 17 #[.agg (s.cells (.slice (some ⟨g, 0, none⟩) n gc)).toArray, .agg (s.cells (.slice bo n bc)).toArray] w fun e w' => e = .returned (.bool true) ∧ Kept [] w w' := by
 have k1 := ka w (.cells (s.cells (.slice (some ⟨g, 0, none⟩) n gc)).toArray 29)
 have k2 : Kept [] (w.alloc (.cells (s.cells (.slice (some ⟨g, 0, none⟩) n gc)).toArray 29)) ((w.alloc (.cells (s.cells (.slice (some ⟨g, 0, none⟩) n gc)).toArray 29)).alloc (.cells (s.cells (.slice bo n bc)).toArray 29)) := (Kept.refl [] _).alloc _
 have hA := (SigAt.new w s (.slice (some ⟨g, 0, none⟩) n gc)).kept k2 (by simp)
 have hB := SigAt.new (w.alloc (.cells (s.cells (.slice (some ⟨g, 0, none⟩) n gc)).toArray 29)) s (.slice bo n bc)
 rw [show (w.alloc (.cells (s.cells (.slice (some ⟨g, 0, none⟩) n gc)).toArray 29)).heap.size = w.heap.size + 1 by simp] at hB
 have HK := hide (k1.tr k2)
 have HC := hide (hC.kept (k1.tr k2) (by simp))
 have HJ := hide (hJ.kept (k1.tr k2))
 obtain ⟨A, hAe⟩ := nm (w.heap.size)
 rw [hAe] at hA hB
 have hgc := hC.wks.2.1
 have hgm := hC.wks.2.2
 clear k1 k2 hC hJ
 go_enter Tryz.func17, Tryz.ntmps17
 go_upto_region 1 with (fail)
 clear hAe
 generalize (w.alloc (.cells (s.cells (.slice (some ⟨g, 0, none⟩) n gc)).toArray 29)).alloc (.cells (s.cells (.slice bo n bc)).toArray 29) = w1 at *
 have a5 := hA.cell (Sig.cv _ _)
 have HA := hide hA
 have HB := hide hB
 clear hA hB
 have hadd : IntKind.i64.wrap ((n : Int) + 40) = (n : Int) + 40 := wrap64 (by omega) (by omega)
 have hcut := fun X => Tryz.cutW X (some ⟨g, 0, none⟩) n gc (n + 40) hgc hgm
 rw [show ((n + 40 : Nat) : Int) = (n : Int) + 40 by omega] at hcut
 have HIN : Hid (Kept [] w1 w1) := Kept.refl _ _
 go_wp2
 clear hcut hadd
 go_loopw [6] (fun x wr => ∃ k : Nat, k <= 40 ∧ x = .int .i64 k ∧ Hid (Kept [] w1 wr)) (fun x wr => 40 - (intOf x).toNat)
 case atStart => exact ⟨0, Nat.zero_le _, rfl, HIN⟩
 case round =>
  clear HIN
  obtain ⟨k, hk, rfl, HP⟩ := hrel
  have a5 := HP.out.cellOf a5 (by simp)
  by_cases hlt : k < 40
  ·obtain ⟨b, off, eb, hra⟩ := (HC.out.kept HP.out (by simp)).wks.1 (n + k) (by rw [List.length_append, wms_len, HC.out.len]; omega)
   cases eb
   have hgd : (s.blocks ++ wms).getD (n + k) wk0 = wm k := by
    rw [<-HC.out.len]
    simp [List.getD, wms, hlt]
   rw [hgd, Nat.zero_add] at hra
   have hbw := Tryz.builtWm hlt
   have heq : ∀ W, (Op.equalIn 10000 45 (.agg (wm k).cells.toArray) (.agg (wm k).cells.toArray)).run Tryz.prog W = .ok true W := fun W => by rw [Tryz.eqlWk (wm k) (wm k) W, wkEq_iff.2 rfl]
   have hwr : IntKind.i64.wrap (-7 - (k : Int)) = -7 - (k : Int) := wrap64 (by omega) (by omega)
   have hwn : IntKind.i64.wrap ((n : Int) + (k : Int)) = (n : Int) + (k : Int) := wrap64 (by omega) (by omega)
   clear hgd
   generalize wm k = e at hra hbw heq
   have hiw := Tryz.infoWk e
   go_wp2_with (first
    | refine wpList_load_mid rfl 45 (.tmp 24) rfl g ((n + k) * 33) rfl e.cells _ hra Tryz.underlying45 rfl hiw ?_
    | refine wpList_buildRun8 rfl 45 #[(0, .tmp 27)] rfl #[(0, .int .i64 (-7 - (k : Int)))] (by simp [Act.eval, Act.put]) _ (hbw _) ?_)
   go_roundw
   case rel => exact ⟨k + 1, by omega, by go_num, HP⟩
   case measure => simp [intOf]; omega
  ·have hr1 := (HA.out.kept HP.out (by simp)).range
   have hr2 := (HB.out.kept HP.out (by simp)).range
   have hil := Tryz.infoSig s (.slice (some ⟨g, 0, none⟩) n gc)
   have hil2 := Tryz.infoSig s (.slice bo n bc)
   have hal := alike_yes s (some ⟨g, 0, none⟩) n gc bo bc wr ((HC.out.kept HP.out (by simp)).sig) (HJ.out.kept HP.out)
   have HKF := hide (HK.out.tr HP.out)
   clear HP
   go_wp2_with (first
    | refine wpList_load_mid rfl 29 (.tmp 2) rfl A 0 rfl (s.cells (.slice (some ⟨g, 0, none⟩) n gc)) _ hr1 Tryz.underlying29 rfl hil ?_
    | refine wpList_load_mid rfl 29 (.tmp 3) rfl (A + 1) 0 rfl (s.cells (.slice bo n bc)) _ hr2 Tryz.underlying29 rfl hil2 ?_
    | (go_at_call 10; refine hal.mono ?_; rintro r wz ⟨rfl, hkz⟩; have HZ := hide hkz; clear hal hkz))
   go_ret
   exact ⟨rfl, HKF.out.tr HZ.out⟩
end

section
open Dlt
def Dlt.Sig.turn (s : Sig) (y : Int) (hy : (Lit.int .i64 y).wf = true) : Sig := { s with blocks := match s.blocks with | [] => [] | e :: L => ⟨y, e.id, e.hid, hy⟩ :: L }
theorem Cpd.turn {w : World} {B : Nat} {s : Sig} {g n gc : Nat} (h : Cpd w B s g n gc) (hn : n ≠ 0) :
  ∃ x : Int, (Lit.int .i64 x).wf = true ∧ (∀ e L, s.blocks = e :: L -> x = e.sum) ∧ w.cell? ⟨g, 0, none⟩ = some (.int .i64 x) ∧ w.frozen? ⟨g, 0, none⟩ = false ∧ ∀ y (hy : (Lit.int .i64 y).wf = true), Cpd (w.setCell ⟨g, 0, none⟩ (.int .i64 y)) B (s.turn y hy) g n gc := by
 have hl := h.len
 cases hb : s.blocks with
 | nil => rw [hb] at hl; exact absurd hl.symm hn
 | cons e L =>
  have ho := h.own
  rcases ho.2 with ⟨e1, _⟩ | ⟨g', gc', cur, e1, hB, hg, hnn, hc, hs, ht⟩
  ·cases e1
  ·injection e1 with e1 e2 e3
   injection e1 with e1
   injection e1 with e1
   subst e1; subst e3
   have hcur : cur.toList.take ((s.blocks ++ wms).length * 33) = wrows (s.blocks ++ wms) := ht
   have hw : wrows (s.blocks ++ wms) = .int .i64 e.sum :: (bys e.id ++ wrows (L ++ wms)) := by rw [hb]; simp [wrows, Wk.cells]
   have h0 : cur[0]? = some (.int .i64 e.sum) := by
    have : (cur.toList.take ((s.blocks ++ wms).length * 33))[0]? = some (.int .i64 e.sum) := by rw [hcur, hw]; rfl
    rw [List.getElem?_take_of_lt (by rw [List.length_append, wms_len]; omega)] at this
    simpa using this
   refine ⟨e.sum, e.hs, fun e' L' h => by injection h with h1 _; rw [h1], by rw [cell_of_row _ _ _ _ _ _ hg]; exact h0, frozen_of_row _ _ _ _ _ hg, fun y hy => ⟨?_, ?_⟩⟩
   ·have hbl : (s.turn y hy).blocks = ⟨y, e.id, e.hid, hy⟩ :: L := by show (match s.blocks with | [] => [] | e :: L => _) = _; rw [hb]
    have hll : ((s.turn y hy).blocks ++ wms).length = (s.blocks ++ wms).length := by rw [hbl, hb]; simp
    unfold OwnW
    rw [hll]
    refine ⟨by rw [wrows_len, hll], .inr ⟨g, gc, cur.setIfInBounds 0 (.int .i64 y), rfl.trans (by rw [<-e2]), hB, heap_setCell_same w _ _ _ _ _ hg, hnn, hc, by rw [Array.size_setIfInBounds]; exact hs, ?_⟩⟩
    rw [Array.toList_setIfInBounds, List.take_set, hcur, hw, hbl]
    simp [wrows, Wk.cells]
   ·show (s.turn y hy).blocks.length = n
    rw [<-hl]
    show (match s.blocks with | [] => [] | e :: L => _).length = _
    rw [hb]
    rfl
theorem SigAt.turn {w : World} {O : Nat} {s : Sig} {v : Value} (h : SigAt w O s v) (y : Int) (hy : (Lit.int .i64 y).wf = true) : SigAt w O (s.turn y hy) v := ⟨h.row⟩
end

section
open Go.ChangeShapes Go.WideShapes Go.ChangeAt Go.RowKit Go.Deep Go.Joins
structure InB (w : World) (ao : Option Addr) (n cap : Nat) (xs : List UInt8) : Prop where
 len : xs.length = n
 le : n <= cap
 max : cap <= 140737488351232
 sl : Sl w ao xs
 nil : ao = none -> xs = [] ∧ cap = 0
 spot : n ≠ 0 -> ∀ a, ao = some a -> a.spot = none
theorem inb_of_ints {w : World} {a : Addr} {len cap : Nat} {zs : List Int} (hl : len <= cap) (hm : cap <= 140737488351232) (hz : zs.length = cap) (hcell : ∀ i, i < zs.length -> w.cell? (a.add i) = some (.int .u8 (zs.getD i 0))) (hwz : ∀ n ∈ zs, (Lit.int .u8 n).wf = true) :
  ∃ xs, InB w (some a) len cap xs := by
 obtain ⟨b, off, spot⟩ := a
 have hsp : len ≠ 0 -> spot = none := fun h => by simpa [Addr.add] using World.cell?_spot (hcell 0 (by omega))
 refine ⟨(zs.take len).map (fun z => UInt8.ofNat z.toNat), by simp; omega, hl, by omega, ?_, by simp, fun h a ha => by cases ha; exact hsp h⟩
 intro i hi
 have hi' : i < len := by simp at hi; omega
 have hc := hcell i (by omega)
 obtain rfl := hsp (by omega)
 refine ⟨b, off, rfl, ?_⟩
 rw [Addr.add_mid] at hc
 rw [hc]
 have hzi : i < zs.length := by omega
 have hb := bounds_u8 (hwz (zs.getD i 0) (by simp [List.getElem?_eq_getElem hzi]))
 have e : ((zs.take len).map (fun z => UInt8.ofNat z.toNat)).getD i 0 = UInt8.ofNat (zs.getD i 0).toNat := by
  simp [List.getElem?_eq_getElem hzi, hi']
 rw [e, UInt8.toNat_ofNat', Nat.mod_eq_of_lt (by omega)]
 congr 2
 omega
section
variable {H : Type} {enc : TypeId × Value -> H} {w : World}
theorem open_bytes {fuel : Nat} {v : Value} {x : DataW H × List MemPlace} (h : DataW.trod enc Tryz.prog w 0 (fun _ => true) true fuel 22 [v] = some x) (hw : ∀ n ∈ x.1.weights Tryz.prog 22, n <= reachBytes) :
  ∃ ao n cap xs, v = .slice ao n cap ∧ InB w ao n cap xs := by
 rcases open_ints Tryz.underlying22 Tryz.underlying5 (by kernel_rfl) h with ⟨hcs, _⟩ | ⟨a, l, c, zs, hcs, _, hl, hm, hz, hx, hcell, hwz⟩
 ·cases hcs
  exact ⟨none, 0, 0, [], rfl, rfl, Nat.le_refl _, by omega, Sl.nil _ _, fun _ => ⟨rfl, rfl⟩, by simp⟩
 ·cases hcs
  have hb1 : Tryz.prog.bytesOf 5 = 1 := by kernel_rfl
  have hz' : zs.length = c := by simpa using hz
  have hsz : c <= 140737488351232 := by
   have := hw ((zs.take l).length + (zs.drop l).length) (by
    rw [hx]
    simp only [DataW.weights, Tryz.underlying22, hb1, Nat.mul_one, lits, List.length_map, List.mem_cons, true_or])
   have hr : reachBytes = 140737488351232 := rfl
   rw [hr] at this
   simp at this
   omega
  obtain ⟨xs, h⟩ := inb_of_ints hl hsz hz' hcell hwz
  exact ⟨some a, l, c, xs, rfl, h⟩
end
end

section
open Dlt
theorem InB.in8 {w : World} {ao : Option Addr} {n cap : Nat} {xs : List UInt8} (h : InB w ao n cap xs) : InB8 w ao n cap xs := ⟨h.len, h.le, by have := h.le; have := h.max; omega, h.sl, h.nil⟩
theorem TellS.open {w w' : World} {e : Ending} {c : Int} {s : Sig} (h : TellS w w' e c s) : ∃ so sc, e = .returned (.tuple #[.agg (s.cells (.slice so s.blocks.length sc)).toArray, .int .i64 c]) ∧ SigIn w' s so s.blocks.length sc ∧ (s.blocks ≠ [] -> ∀ a, so = some a -> w.heap.size <= a.block) := by
 obtain ⟨v, rfl, ho⟩ := h
 obtain ⟨so, sc, rfl, hsc, hwk, hb, hm⟩ := OwnW.wks ho
 refine ⟨so, sc, rfl, ⟨rfl, hsc, hm, hwk⟩, fun _ a ha => ?_⟩
 obtain ⟨g, rfl, hg, _⟩ := hb a ha
 exact hg
theorem SigIn.row {w : World} {s : Sig} {so : Option Addr} {n sc O : Nat} {cs : Array Value} (h : SigIn w s so n sc) (hO : s.blocks ≠ [] -> ∀ a, so = some a -> a.block ≠ O) : SigIn (w.setRow O cs) s so n sc := ⟨h.len, h.le, h.max, h.at_.kept (kept_row w O cs) (fun hn a ha => by simpa using hO hn a ha)⟩
end

end Go.Proofs.YtmklodligplbaaaGreat
