import Derived.Test.YtmklodligplbaabGreatX18ek
open Go.RowKit
set_option linter.unusedVariables false
set_option linter.unusedSimpArgs false
set_option maxRecDepth 100000
set_option maxHeartbeats 0
namespace Go.Proofs.YtmklodligplbaabGreat
section
open Dlt
theorem may18_ok (s : Sig) (ao : Option Addr) (n cap : Nat) (x : Int) (w : World) (hI : SigIn w s ao n cap) (hn : n <= 1000000) :
  Calls Tryz.prog 98 #[.agg (s.cells (.slice ao n cap)).toArray, .int .i64 x] w fun e w' => ∃ t : Bool, e = .returned (.bool t) ∧ (t = false -> ∀ j, j < s.blocks.length -> (s.blocks.getD j wk0).sum ≠ x) ∧ Kept [] w w' := by
 have hA := SigAt.new w s (.slice ao n cap)
 have hK := ka w (.cells (s.cells (.slice ao n cap)).toArray 26)
 obtain ⟨G, hG⟩ := nm (w.heap.size)
 rw [hG] at hA
 have HI := hide hI
 clear hI
 go_enter Tryz.func98, Tryz.ntmps98
 go_upto_region 1 with (fail)
 try rw [hG]
 clear hG
 generalize w.alloc (.cells (s.cells (.slice ao n cap)).toArray 26) = w1 at hA hK ⊢
 have HA := hide hA
 have HK := hide hK
 clear hA hK
 have HIN : Hid (Kept [] w1 w1 ∧ ∀ j, j < 0 -> (s.blocks.getD j wk0).sum ≠ x) := ⟨Kept.refl _ _, fun j hj => by omega⟩
 go_wp2
 go_loopw [5] (fun y wr => ∃ k : Nat, k <= n ∧ y = .int .i64 k ∧ Hid (Kept [] w1 wr ∧ ∀ j, j < k -> (s.blocks.getD j wk0).sum ≠ x)) (fun y wr => n - (intOf y).toNat)
 case atStart => exact ⟨0, Nat.zero_le _, rfl, HIN⟩
 case round =>
  clear HIN
  obtain ⟨k, hk, rfl, HP⟩ := hrel
  have hAr := HA.out.kept HP.out.1 (by simp)
  have cv := hAr.cell (Sig.cv _ _)
  by_cases hlt : k < n
  ·have hlb : k < s.blocks.length := by rw [HI.out.len]; exact hlt
   obtain ⟨b, off, rfl, hrg⟩ := (HI.out.at_.kept (HK.out.tr HP.out.1) (by simp)) k hlb
   obtain ⟨e, he⟩ := nm (s.blocks.getD k wk0)
   rw [he] at hrg
   have cs : wr.cell? ⟨b, off + k * 33, none⟩ = some (.int .i64 e.sum) := by have := hrg 0 _ e.su; simpa using this
   obtain ⟨es, hes⟩ := nm (e.sum)
   rw [hes] at cs
   clear hrg hAr
   by_cases hq : es = x
   ·have hq1 : (es == x) = true := by simpa using hq
    have HKF := hide (HK.out.tr HP.out.1)
    clear hq he hes HP
    go_wp2
    go_ret
    exact ⟨true, rfl, (fun h => by cases h), HKF.out⟩
   ·have hq1 : (es == x) = false := by simpa using hq
    have HPF : Hid (Kept [] w1 wr ∧ ∀ j, j < k + 1 -> (s.blocks.getD j wk0).sum ≠ x) := ⟨HP.out.1, fun j hj => by
     by_cases h : j = k
     ·rw [h, he, hes]; exact hq
     ·exact HP.out.2 j (by omega)⟩
    clear hq he hes HP
    go_wp2
    go_roundw
    case rel => exact ⟨k + 1, by omega, by go_num, HPF⟩
    case measure => simp [intOf]; omega
  ·obtain rfl : k = n := by omega
   have HKF : Hid (Kept [] w wr ∧ ∀ j, j < s.blocks.length -> (s.blocks.getD j wk0).sum ≠ x) := ⟨HK.out.tr HP.out.1, fun j hj => HP.out.2 j (by rw [HI.out.len] at hj; exact hj)⟩
   clear hAr HP
   go_wp2
   go_ret
   exact ⟨false, rfl, fun _ => HKF.out.2, HKF.out.1⟩
def Isb (b : Bool) : Prop := b = true
theorem isb_yes : Isb true := rfl
theorem isb_no : ¬ Isb false := fun h => by cases (show false = true from h)
def FitsAt (s : Sig) (x : Int) (I : List UInt8) (j : Nat) : Prop := j < s.blocks.length ∧ (s.blocks.getD j wk0).sum = x ∧ (s.blocks.getD j wk0).id = I
theorem fits18_true (s : Sig) (ao : Option Addr) (n cap : Nat) (x : Int) (wo : Option Addr) (Z wc : Nat) (ws : List UInt8) (f : Nat) (w : World) (hI : SigIn w s ao n cap) (hW : InB8 w wo Z wc ws) (hZ : Z <= 140737488351232) (hn : n <= 1000000) (hf : f <= n) :
  Calls Tryz.prog 99 #[.agg (s.cells (.slice ao n cap)).toArray, .int .i64 x, .slice wo Z wc, .int .i64 f, .bool true] w fun e w' => ∃ r : Int, e = .returned (.int .i64 r) ∧ Kept [] w w' ∧ ((r = -1 ∧ ∀ j, f <= j -> (Isb true -> j = f) -> ¬ FitsAt s x (Sha.ident s.width ws) j) ∨ ∃ k : Nat, r = k ∧ f <= k ∧ (Isb true -> k = f) ∧ FitsAt s x (Sha.ident s.width ws) k ∧ ∀ j, f <= j -> j < k -> ¬ FitsAt s x (Sha.ident s.width ws) j) := by
 have hA0 := SigAt.new w s (.slice ao n cap)
 have hz := Tryz.zeroID
 have hb0 : ∀ W, (Instr.build 23 #[]).run Tryz.prog W = .ok (.agg zero32) W := fun W => by kernel_rfl
 have k1 := ka w (.cells (s.cells (.slice ao n cap)).toArray 26)
 obtain ⟨G, hG⟩ := nm (w.heap.size)
 rw [hG] at hA0
 have HI := hide hI
 have HW := hide hW
 obtain ⟨I1, hI1⟩ := nm (Sha.ident s.width ws)
 have hI1l : I1.length = 32 := by rw [<-hI1]; exact Sha.ident_len _ _
 have hile1 := idlen hI1l
 rw [hI1]
 have HI1 := hide hI1
 clear hI hW hI1
 go_enter Tryz.func99, Tryz.ntmps99
 go_upto_region 1 with (fail)
 try rw [hG]
 generalize w.alloc (.cells (s.cells (.slice ao n cap)).toArray 26) = w1 at hA0 k1 ⊢
 have hoz := heap_new w1 (.cells zero32 23)
 have hia : (Tryz.prog.info? 23).map (·.size) = some zero32.size := Tryz.infoID
 have hal : zero32.all (·.oneCell') = true := by kernel_rfl
 go_upto_region 2 with (first
  | refine wpList_store_rowTo rfl 23 (.tmp 11) (.tmp 14) rfl rfl w1.heap.size zero32 rfl rfl 23 zero32 hoz hia rfl hal ?_)
 have ke : Kept [] w1 ((w1.alloc (.cells zero32 23)).setRow w1.heap.size zero32) := ((Kept.refl [] w1).alloc _).trans (kept_row _ w1.heap.size _) (fun i hi hl => by simp only [List.mem_singleton] at hi; omega)
 have hQ : ((w1.alloc (.cells zero32 23)).setRow w1.heap.size zero32).heap[w1.heap.size]? = some (.cells (bys z32).toArray 23 (0, 0)) := setRow_heap _ _ _ _ _ _ hoz
 obtain ⟨Q, hQQ⟩ := nm (w1.heap.size)
 have hGQ : G < Q ∧ w.heap.size <= Q := ⟨by rw [<-hQQ]; exact hA0.lt, by rw [<-hQQ]; exact k1.size⟩
 rw [hQQ] at ke hQ ⊢
 have hA := hA0.kept ke (by simp)
 have hK := k1.tr ke
 clear hoz hia hal hQQ ke hA0 k1 hb0 hz
 generalize (w1.alloc (.cells zero32 23)).setRow Q zero32 = w2 at hA hK hQ ⊢
 have HIN : Hid (Kept [] w w2 ∧ SigAt w2 G s (.slice ao n cap) ∧ (∃ D : List UInt8, D.length = 32 ∧ w2.heap[Q]? = some (.cells (bys D).toArray 23 (0, 0)) ∧ (false = true -> D = I1)) ∧ (∀ j, f <= j -> j < f -> ¬ FitsAt s x I1 j) ∧ (Isb true -> f <= f + 1)) := ⟨hK, hA, ⟨z32, z32_len, hQ, fun h => by cases h⟩, fun j h1 h2 => by omega, fun _ => by omega⟩
 have HGQ := hide hGQ
 clear hA hK hQ hGQ
 go_wp2
 go_loopw [12, 13] (fun u v wr => ∃ (kn : Bool) (k : Nat), f <= k ∧ k <= n ∧ u = .bool kn ∧ v = .int .i64 k ∧ Hid (Kept [] w wr ∧ SigAt wr G s (.slice ao n cap) ∧ (∃ D : List UInt8, D.length = 32 ∧ wr.heap[Q]? = some (.cells (bys D).toArray 23 (0, 0)) ∧ (kn = true -> D = I1)) ∧ (∀ j, f <= j -> j < k -> ¬ FitsAt s x I1 j) ∧ (Isb true -> k <= f + 1))) (fun u v wr => n - (intOf v).toNat)
 case atStart => exact ⟨false, f, Nat.le_refl _, hf, rfl, rfl, HIN⟩
 case round =>
  clear HIN
  obtain ⟨kn, k, hfk, hk, rfl, rfl, HP⟩ := hrel
  have hAr := HP.out.2.1
  have cv := hAr.cell (Sig.cv _ _)
  have cw := hAr.cell (Sig.c0 _ _)
  by_cases hlt : k < n
  ·by_cases hstop : f < k
   ·have HKF : Hid (Kept [] w wr ∧ ∀ j, f <= j -> j = f -> ¬ FitsAt s x I1 j) := ⟨HP.out.1, fun j h1 h2 => HP.out.2.2.2.1 j h1 (by omega)⟩
    have hstop1 : (f : Int) < (k : Int) := by omega
    clear hAr HP cw
    go_wp2
    go_ret
    exact ⟨-1, rfl, HKF.out.1, .inl ⟨rfl, fun j h1 h2 => HKF.out.2 j h1 (h2 isb_yes)⟩⟩
   ·have hstop1 : ¬ (f : Int) < (k : Int) := by omega
    have HAL : Hid (Isb true -> k + 1 <= f + 1) := fun _ => by show k + 1 <= f + 1; omega
    have hlb : k < s.blocks.length := by rw [HI.out.len]; exact hlt
    obtain ⟨b, off, rfl, hrg⟩ := (HI.out.at_.kept HP.out.1 (by simp)) k hlb
    obtain ⟨e, he⟩ := nm (s.blocks.getD k wk0)
    rw [he] at hrg
    have cs : wr.cell? ⟨b, off + k * 33, none⟩ = some (.int .i64 e.sum) := by have := hrg 0 _ e.su; simpa using this
    have hri : ∀ W, Kept [] w W -> W.rangeAt b (off + k * 33 + 1) (bys e.id) := fun W hW => by
     obtain ⟨b', off', e1, h1⟩ := (HI.out.at_.kept hW (by simp)) k hlb
     injection e1 with e1
     injection e1 with e2 e3
     subst e2 e3
     rw [he] at h1
     exact wk_range h1
    have hile := idlen e.hid
    have heid := e.hid
    have HFA : Hid (FitsAt s x I1 k ↔ e.sum = x ∧ e.id = I1) := ⟨fun h => by rw [<-he]; exact h.2, fun h => ⟨hlb, by rw [he]; exact h.1, by rw [he]; exact h.2⟩⟩
    obtain ⟨es, hes⟩ := nm (e.sum)
    obtain ⟨ei, hei⟩ := nm (e.id)
    rw [hes] at cs HFA
    rw [hei] at hri hile heid HFA
    obtain ⟨wd, hwd⟩ := nm (s.width)
    rw [hwd] at cw
    clear hrg hes hei hAr he hlb
    by_cases hq : es = x
    ·have hq1 : (es != x) = false := by simpa using hq
     have HYES : Hid (ei = I1 -> f <= k ∧ (Isb true -> k = f) ∧ FitsAt s x I1 k ∧ ∀ j, f <= j -> j < k -> ¬ FitsAt s x I1 j) := fun h => ⟨hfk, fun h2 => by have := HAL.out h2; omega, HFA.out.2 ⟨hq, h⟩, HP.out.2.2.2.1⟩
     have HNO2 : Hid (¬ ei = I1 -> ∀ j, f <= j -> j < k + 1 -> ¬ FitsAt s x I1 j) := fun h j h1 h2 => by
      by_cases hj : j = k
      ·rw [hj]; exact fun hh => h (HFA.out.1 hh).2
      ·exact HP.out.2.2.2.1 j h1 (by omega)
     have HR := hide hri
     clear hq HFA hri hstop
     as_aux_lemma =>
     cases kn with
     | true =>
      obtain ⟨D, hDl, hQ, hD⟩ := HP.out.2.2.1
      obtain rfl := hD rfl
      have HSy : Hid (Kept [] w wr ∧ SigAt wr G s (.slice (some ⟨b, off, none⟩) n cap) ∧ wr.heap[Q]? = some (.cells (bys D).toArray 23 (0, 0))) := ⟨HP.out.1, HP.out.2.1, hQ⟩
      have HRY := hide (HR.out wr HP.out.1)
      clear hD hQ HP HR hDl
      go_upto_region 12 with (fail)
      clear cs cw cv hq1
      generalize wr = wy at HSy HRY ⊢
      have cvy := (HSy.out.2.1).cell (Sig.cv s (.slice (some ⟨b, off, none⟩) n cap))
      have hqr : wy.rangeAt Q 0 (bys D) := fun j u hu => by rw [Nat.zero_add, cell_of_row _ _ _ _ _ _ HSy.out.2.2]; simpa using hu
      have hriy : wy.rangeAt b (off + k * 33 + 1) (bys ei) := HRY.out
      by_cases hid : ei = D
      ·have heq : ∀ W, (Op.equalIn 10000 23 (.agg (bys ei).toArray) (.agg (bys D).toArray)).run Tryz.prog W = .ok true W := fun W => by rw [Tryz.eqlID ei D heid hI1l W, decide_eq_true hid]
       have HID := hide hid
       clear hid
       refine th wy fun h0 => ?_
       generalize World.drew wy = v0 at h0  ⊢
       refine t1 0 (.pointer (some ⟨G, 35, none⟩)) h0 ?_
       simp only [zz]
       refine t2 1 (.slice (some ⟨b, off, none⟩) n cap) rfl h0 ?_ (fun w h => by have c := qc h cvy; go_simp)
       simp only [zz]
       refine t1 2 (.int .i64 k) h0 ?_
       simp only [zz]
       refine t1 3 (.pointer (some ⟨b, off + k * 33, none⟩)) h0 ?_
       simp only [zz]
       refine t1 4 (.pointer (some ⟨b, off + k * 33 + 1, none⟩)) h0 ?_
       simp only [zz]
       refine t4 5 (.agg (bys ei).toArray) rfl (yieldsIf_load_mid (by rfl) _ _ rfl b (off + k * 33 + 1) rfl (bys ei) _ (fun W h => fun j u hu => Kept.cellOf h (hriy j u hu) (by simp)) Tryz.underlying23 rfl hile) h0 ?_
       simp only [zz]
       refine t4 6 (.agg (bys D).toArray) rfl (yieldsIf_load_mid (by rfl) _ _ rfl Q 0 rfl (bys D) _ (fun W h => fun j u hu => Kept.cellOf h (hqr j u hu) (by simp)) Tryz.underlying23 rfl hile1) h0 ?_
       simp only [zz]
       refine t1 7 (.bool true) h0 ?_
       simp only [zz]
       refine qd ?_
       have HKF : Hid (Kept [] w v0) := HSy.out.1.tr h0
       have HY1 := hide (HYES.out HID.out)
       clear h0 HSy heq hqr hriy cvy HID HRY HYES HNO2
       go_wp2
       go_ret
       exact ⟨k, rfl, HKF.out, .inr ⟨k, rfl, HY1.out⟩⟩
      ·have heq : ∀ W, (Op.equalIn 10000 23 (.agg (bys ei).toArray) (.agg (bys D).toArray)).run Tryz.prog W = .ok false W := fun W => by rw [Tryz.eqlID ei D heid hI1l W, decide_eq_false hid]
       have HID := hide hid
       clear hid
       refine th wy fun h0 => ?_
       generalize World.drew wy = v0 at h0  ⊢
       refine t1 0 (.pointer (some ⟨G, 35, none⟩)) h0 ?_
       simp only [zz]
       refine t2 1 (.slice (some ⟨b, off, none⟩) n cap) rfl h0 ?_ (fun w h => by have c := qc h cvy; go_simp)
       simp only [zz]
       refine t1 2 (.int .i64 k) h0 ?_
       simp only [zz]
       refine t1 3 (.pointer (some ⟨b, off + k * 33, none⟩)) h0 ?_
       simp only [zz]
       refine t1 4 (.pointer (some ⟨b, off + k * 33 + 1, none⟩)) h0 ?_
       simp only [zz]
       refine t4 5 (.agg (bys ei).toArray) rfl (yieldsIf_load_mid (by rfl) _ _ rfl b (off + k * 33 + 1) rfl (bys ei) _ (fun W h => fun j u hu => Kept.cellOf h (hriy j u hu) (by simp)) Tryz.underlying23 rfl hile) h0 ?_
       simp only [zz]
       refine t4 6 (.agg (bys D).toArray) rfl (yieldsIf_load_mid (by rfl) _ _ rfl Q 0 rfl (bys D) _ (fun W h => fun j u hu => Kept.cellOf h (hqr j u hu) (by simp)) Tryz.underlying23 rfl hile1) h0 ?_
       simp only [zz]
       refine t1 7 (.bool false) h0 ?_
       simp only [zz]
       refine qd ?_
       have HPF : Hid (Kept [] w v0 ∧ SigAt v0 G s (.slice (some ⟨b, off, none⟩) n cap) ∧ (∃ E : List UInt8, E.length = 32 ∧ v0.heap[Q]? = some (.cells (bys E).toArray 23 (0, 0)) ∧ (true = true -> E = D)) ∧ (∀ j, f <= j -> j < k + 1 -> ¬ FitsAt s x D j) ∧ (Isb true -> k + 1 <= f + 1)) := ⟨HSy.out.1.tr h0, HSy.out.2.1.kept h0 (by simp), ⟨D, hI1l, (h0.block Q (gs HSy.out.2.2).1 (by simp)).trans HSy.out.2.2, fun _ => rfl⟩, HNO2.out HID.out, HAL.out⟩
       clear h0 HSy heq hqr hriy cvy HID HRY HYES HNO2 HAL
       go_wp2
       go_roundw
       case rel => exact ⟨true, k + 1, by omega, by omega, rfl, by go_num, HPF⟩
       case measure => simp [intOf]; omega
     | false =>
      obtain ⟨D, hDl, hQ, _⟩ := HP.out.2.2.1
      have hof := rof_ok s.width wo Z wc ws wr HW.out.len hZ (HW.out.sl.kept HP.out.1 (by simp)) HW.out.nil
      rw [HI1.out, hwd] at hof
      have HQ := hide hQ
      have hia1 : (Tryz.prog.info? 23).map (·.size) = some (bys I1).toArray.size := by rw [show (bys I1).toArray.size = 32 by simp [bys_length, hI1l]]; exact Tryz.infoID
      have hz1 : (bys D).toArray.size = (bys I1).toArray.size := by simp [bys_length, hI1l, hDl]
      have hone := bys_all I1
      clear hQ
      go_upto_region 11 with (first
       | (go_at_call 10; refine hof.mono ?_; rintro r wx ⟨rfl, hkx⟩; have HX := hide hkx; have hQx := (hkx.block Q (gs HQ.out).1 (by simp)).trans HQ.out; clear hof hkx)
       | refine wpList_store_rowTo rfl 23 (.tmp 11) (.tmp 42) rfl rfl Q (bys I1).toArray rfl rfl 23 (bys D).toArray hQx hia1 hz1 hone ?_)
      have kq : Kept [Q] wx (wx.setRow Q (bys I1).toArray) := kept_row _ Q _
      have HSy : Hid (Kept [] w (wx.setRow Q (bys I1).toArray) ∧ SigAt (wx.setRow Q (bys I1).toArray) G s (.slice (some ⟨b, off, none⟩) n cap) ∧ (wx.setRow Q (bys I1).toArray).heap[Q]? = some (.cells (bys I1).toArray 23 (0, 0))) := ⟨(HP.out.1.tr HX.out).trans kq (fun i hi hl => by simp only [List.mem_singleton] at hi; have := HGQ.out.2; omega), (HP.out.2.1.kept HX.out (by simp)).kept kq (by have := HGQ.out.1; simp; omega), setRow_heap _ _ _ _ _ _ hQx⟩
      have HRY : Hid ((wx.setRow Q (bys I1).toArray).rangeAt b (off + k * 33 + 1) (bys ei)) := HR.out _ HSy.out.1
      clear HQ hQx hia1 hz1 hone HX kq HP HR hDl
      generalize wx.setRow Q (bys I1).toArray = wy at HSy HRY ⊢
      go_upto_region 12 with (fail)
      clear cs cw cv hq1
      have cvy := (HSy.out.2.1).cell (Sig.cv s (.slice (some ⟨b, off, none⟩) n cap))
      have hqr : wy.rangeAt Q 0 (bys I1) := fun j u hu => by rw [Nat.zero_add, cell_of_row _ _ _ _ _ _ HSy.out.2.2]; simpa using hu
      have hriy : wy.rangeAt b (off + k * 33 + 1) (bys ei) := HRY.out
      by_cases hid : ei = I1
      ·have heq : ∀ W, (Op.equalIn 10000 23 (.agg (bys ei).toArray) (.agg (bys I1).toArray)).run Tryz.prog W = .ok true W := fun W => by rw [Tryz.eqlID ei I1 heid hI1l W, decide_eq_true hid]
       have HID := hide hid
       clear hid
       refine th wy fun h0 => ?_
       generalize World.drew wy = v0 at h0  ⊢
       refine t1 0 (.pointer (some ⟨G, 35, none⟩)) h0 ?_
       simp only [zz]
       refine t2 1 (.slice (some ⟨b, off, none⟩) n cap) rfl h0 ?_ (fun w h => by have c := qc h cvy; go_simp)
       simp only [zz]
       refine t1 2 (.int .i64 k) h0 ?_
       simp only [zz]
       refine t1 3 (.pointer (some ⟨b, off + k * 33, none⟩)) h0 ?_
       simp only [zz]
       refine t1 4 (.pointer (some ⟨b, off + k * 33 + 1, none⟩)) h0 ?_
       simp only [zz]
       refine t4 5 (.agg (bys ei).toArray) rfl (yieldsIf_load_mid (by rfl) _ _ rfl b (off + k * 33 + 1) rfl (bys ei) _ (fun W h => fun j u hu => Kept.cellOf h (hriy j u hu) (by simp)) Tryz.underlying23 rfl hile) h0 ?_
       simp only [zz]
       refine t4 6 (.agg (bys I1).toArray) rfl (yieldsIf_load_mid (by rfl) _ _ rfl Q 0 rfl (bys I1) _ (fun W h => fun j u hu => Kept.cellOf h (hqr j u hu) (by simp)) Tryz.underlying23 rfl hile1) h0 ?_
       simp only [zz]
       refine t1 7 (.bool true) h0 ?_
       simp only [zz]
       refine qd ?_
       have HKF : Hid (Kept [] w v0) := HSy.out.1.tr h0
       have HY1 := hide (HYES.out HID.out)
       clear h0 HSy heq hqr hriy cvy HID HRY HYES HNO2
       go_wp2
       go_ret
       exact ⟨k, rfl, HKF.out, .inr ⟨k, rfl, HY1.out⟩⟩
      ·have heq : ∀ W, (Op.equalIn 10000 23 (.agg (bys ei).toArray) (.agg (bys I1).toArray)).run Tryz.prog W = .ok false W := fun W => by rw [Tryz.eqlID ei I1 heid hI1l W, decide_eq_false hid]
       have HID := hide hid
       clear hid
       refine th wy fun h0 => ?_
       generalize World.drew wy = v0 at h0  ⊢
       refine t1 0 (.pointer (some ⟨G, 35, none⟩)) h0 ?_
       simp only [zz]
       refine t2 1 (.slice (some ⟨b, off, none⟩) n cap) rfl h0 ?_ (fun w h => by have c := qc h cvy; go_simp)
       simp only [zz]
       refine t1 2 (.int .i64 k) h0 ?_
       simp only [zz]
       refine t1 3 (.pointer (some ⟨b, off + k * 33, none⟩)) h0 ?_
       simp only [zz]
       refine t1 4 (.pointer (some ⟨b, off + k * 33 + 1, none⟩)) h0 ?_
       simp only [zz]
       refine t4 5 (.agg (bys ei).toArray) rfl (yieldsIf_load_mid (by rfl) _ _ rfl b (off + k * 33 + 1) rfl (bys ei) _ (fun W h => fun j u hu => Kept.cellOf h (hriy j u hu) (by simp)) Tryz.underlying23 rfl hile) h0 ?_
       simp only [zz]
       refine t4 6 (.agg (bys I1).toArray) rfl (yieldsIf_load_mid (by rfl) _ _ rfl Q 0 rfl (bys I1) _ (fun W h => fun j u hu => Kept.cellOf h (hqr j u hu) (by simp)) Tryz.underlying23 rfl hile1) h0 ?_
       simp only [zz]
       refine t1 7 (.bool false) h0 ?_
       simp only [zz]
       refine qd ?_
       have HPF : Hid (Kept [] w v0 ∧ SigAt v0 G s (.slice (some ⟨b, off, none⟩) n cap) ∧ (∃ E : List UInt8, E.length = 32 ∧ v0.heap[Q]? = some (.cells (bys E).toArray 23 (0, 0)) ∧ (true = true -> E = I1)) ∧ (∀ j, f <= j -> j < k + 1 -> ¬ FitsAt s x I1 j) ∧ (Isb true -> k + 1 <= f + 1)) := ⟨HSy.out.1.tr h0, HSy.out.2.1.kept h0 (by simp), ⟨I1, hI1l, (h0.block Q (gs HSy.out.2.2).1 (by simp)).trans HSy.out.2.2, fun _ => rfl⟩, HNO2.out HID.out, HAL.out⟩
       clear h0 HSy heq hqr hriy cvy HID HRY HYES HNO2 HAL
       go_wp2
       go_roundw
       case rel => exact ⟨true, k + 1, by omega, by omega, rfl, by go_num, HPF⟩
       case measure => simp [intOf]; omega
    ·have hq1 : (es != x) = true := by simpa using hq
     have HPF : Hid (Kept [] w wr ∧ SigAt wr G s (.slice (some ⟨b, off, none⟩) n cap) ∧ (∃ D : List UInt8, D.length = 32 ∧ wr.heap[Q]? = some (.cells (bys D).toArray 23 (0, 0)) ∧ (kn = true -> D = I1)) ∧ (∀ j, f <= j -> j < k + 1 -> ¬ FitsAt s x I1 j) ∧ (Isb true -> k + 1 <= f + 1)) := ⟨HP.out.1, HP.out.2.1, HP.out.2.2.1, fun j h1 h2 => by
      by_cases hj : j = k
      ·rw [hj]; exact fun hh => hq (HFA.out.1 hh).1
      ·exact HP.out.2.2.2.1 j h1 (by omega), HAL.out⟩
     clear hq HFA HP HAL hstop
     go_wp2
     go_roundw
     case rel => exact ⟨kn, k + 1, by omega, by omega, rfl, by go_num, HPF⟩
     case measure => simp [intOf]; omega
  ·obtain rfl : k = n := by omega
   have HKF : Hid (Kept [] w wr ∧ ∀ j, f <= j -> (Isb true -> j = f) -> ¬ FitsAt s x I1 j) := ⟨HP.out.1, fun j h1 _ h3 => HP.out.2.2.2.1 j h1 (by have := h3.1; rw [HI.out.len] at this; exact this) h3⟩
   clear hAr cw HP
   go_wp2
   go_ret
   exact ⟨-1, rfl, HKF.out.1, .inl ⟨rfl, HKF.out.2⟩⟩
theorem fits18_false (s : Sig) (ao : Option Addr) (n cap : Nat) (x : Int) (wo : Option Addr) (Z wc : Nat) (ws : List UInt8) (f : Nat) (w : World) (hI : SigIn w s ao n cap) (hW : InB8 w wo Z wc ws) (hZ : Z <= 140737488351232) (hn : n <= 1000000) (hf : f <= n) :
  Calls Tryz.prog 99 #[.agg (s.cells (.slice ao n cap)).toArray, .int .i64 x, .slice wo Z wc, .int .i64 f, .bool false] w fun e w' => ∃ r : Int, e = .returned (.int .i64 r) ∧ Kept [] w w' ∧ ((r = -1 ∧ ∀ j, f <= j -> (Isb false -> j = f) -> ¬ FitsAt s x (Sha.ident s.width ws) j) ∨ ∃ k : Nat, r = k ∧ f <= k ∧ (Isb false -> k = f) ∧ FitsAt s x (Sha.ident s.width ws) k ∧ ∀ j, f <= j -> j < k -> ¬ FitsAt s x (Sha.ident s.width ws) j) := by
 have hA0 := SigAt.new w s (.slice ao n cap)
 have hz := Tryz.zeroID
 have hb0 : ∀ W, (Instr.build 23 #[]).run Tryz.prog W = .ok (.agg zero32) W := fun W => by kernel_rfl
 have k1 := ka w (.cells (s.cells (.slice ao n cap)).toArray 26)
 obtain ⟨G, hG⟩ := nm (w.heap.size)
 rw [hG] at hA0
 have HI := hide hI
 have HW := hide hW
 obtain ⟨I1, hI1⟩ := nm (Sha.ident s.width ws)
 have hI1l : I1.length = 32 := by rw [<-hI1]; exact Sha.ident_len _ _
 have hile1 := idlen hI1l
 rw [hI1]
 have HI1 := hide hI1
 clear hI hW hI1
 go_enter Tryz.func99, Tryz.ntmps99
 go_upto_region 1 with (fail)
 try rw [hG]
 generalize w.alloc (.cells (s.cells (.slice ao n cap)).toArray 26) = w1 at hA0 k1 ⊢
 have hoz := heap_new w1 (.cells zero32 23)
 have hia : (Tryz.prog.info? 23).map (·.size) = some zero32.size := Tryz.infoID
 have hal : zero32.all (·.oneCell') = true := by kernel_rfl
 go_upto_region 2 with (first
  | refine wpList_store_rowTo rfl 23 (.tmp 11) (.tmp 14) rfl rfl w1.heap.size zero32 rfl rfl 23 zero32 hoz hia rfl hal ?_)
 have ke : Kept [] w1 ((w1.alloc (.cells zero32 23)).setRow w1.heap.size zero32) := ((Kept.refl [] w1).alloc _).trans (kept_row _ w1.heap.size _) (fun i hi hl => by simp only [List.mem_singleton] at hi; omega)
 have hQ : ((w1.alloc (.cells zero32 23)).setRow w1.heap.size zero32).heap[w1.heap.size]? = some (.cells (bys z32).toArray 23 (0, 0)) := setRow_heap _ _ _ _ _ _ hoz
 obtain ⟨Q, hQQ⟩ := nm (w1.heap.size)
 have hGQ : G < Q ∧ w.heap.size <= Q := ⟨by rw [<-hQQ]; exact hA0.lt, by rw [<-hQQ]; exact k1.size⟩
 rw [hQQ] at ke hQ ⊢
 have hA := hA0.kept ke (by simp)
 have hK := k1.tr ke
 clear hoz hia hal hQQ ke hA0 k1 hb0 hz
 generalize (w1.alloc (.cells zero32 23)).setRow Q zero32 = w2 at hA hK hQ ⊢
 have HIN : Hid (Kept [] w w2 ∧ SigAt w2 G s (.slice ao n cap) ∧ (∃ D : List UInt8, D.length = 32 ∧ w2.heap[Q]? = some (.cells (bys D).toArray 23 (0, 0)) ∧ (false = true -> D = I1)) ∧ (∀ j, f <= j -> j < f -> ¬ FitsAt s x I1 j) ∧ (Isb false -> f <= f + 1)) := ⟨hK, hA, ⟨z32, z32_len, hQ, fun h => by cases h⟩, fun j h1 h2 => by omega, fun _ => by omega⟩
 have HGQ := hide hGQ
 clear hA hK hQ hGQ
 go_wp2
 go_loopw [12, 13] (fun u v wr => ∃ (kn : Bool) (k : Nat), f <= k ∧ k <= n ∧ u = .bool kn ∧ v = .int .i64 k ∧ Hid (Kept [] w wr ∧ SigAt wr G s (.slice ao n cap) ∧ (∃ D : List UInt8, D.length = 32 ∧ wr.heap[Q]? = some (.cells (bys D).toArray 23 (0, 0)) ∧ (kn = true -> D = I1)) ∧ (∀ j, f <= j -> j < k -> ¬ FitsAt s x I1 j) ∧ (Isb false -> k <= f + 1))) (fun u v wr => n - (intOf v).toNat)
 case atStart => exact ⟨false, f, Nat.le_refl _, hf, rfl, rfl, HIN⟩
 case round =>
  clear HIN
  obtain ⟨kn, k, hfk, hk, rfl, rfl, HP⟩ := hrel
  have hAr := HP.out.2.1
  have cv := hAr.cell (Sig.cv _ _)
  have cw := hAr.cell (Sig.c0 _ _)
  by_cases hlt : k < n
  ·by_cases hstop : False
   ·exact hstop.elim
   ·have HAL : Hid (Isb false -> k + 1 <= f + 1) := fun h => absurd h isb_no
    have hlb : k < s.blocks.length := by rw [HI.out.len]; exact hlt
    obtain ⟨b, off, rfl, hrg⟩ := (HI.out.at_.kept HP.out.1 (by simp)) k hlb
    obtain ⟨e, he⟩ := nm (s.blocks.getD k wk0)
    rw [he] at hrg
    have cs : wr.cell? ⟨b, off + k * 33, none⟩ = some (.int .i64 e.sum) := by have := hrg 0 _ e.su; simpa using this
    have hri : ∀ W, Kept [] w W -> W.rangeAt b (off + k * 33 + 1) (bys e.id) := fun W hW => by
     obtain ⟨b', off', e1, h1⟩ := (HI.out.at_.kept hW (by simp)) k hlb
     injection e1 with e1
     injection e1 with e2 e3
     subst e2 e3
     rw [he] at h1
     exact wk_range h1
    have hile := idlen e.hid
    have heid := e.hid
    have HFA : Hid (FitsAt s x I1 k ↔ e.sum = x ∧ e.id = I1) := ⟨fun h => by rw [<-he]; exact h.2, fun h => ⟨hlb, by rw [he]; exact h.1, by rw [he]; exact h.2⟩⟩
    obtain ⟨es, hes⟩ := nm (e.sum)
    obtain ⟨ei, hei⟩ := nm (e.id)
    rw [hes] at cs HFA
    rw [hei] at hri hile heid HFA
    obtain ⟨wd, hwd⟩ := nm (s.width)
    rw [hwd] at cw
    clear hrg hes hei hAr he hlb
    by_cases hq : es = x
    ·have hq1 : (es != x) = false := by simpa using hq
     have HYES : Hid (ei = I1 -> f <= k ∧ (Isb false -> k = f) ∧ FitsAt s x I1 k ∧ ∀ j, f <= j -> j < k -> ¬ FitsAt s x I1 j) := fun h => ⟨hfk, fun h2 => by have := HAL.out h2; omega, HFA.out.2 ⟨hq, h⟩, HP.out.2.2.2.1⟩
     have HNO2 : Hid (¬ ei = I1 -> ∀ j, f <= j -> j < k + 1 -> ¬ FitsAt s x I1 j) := fun h j h1 h2 => by
      by_cases hj : j = k
      ·rw [hj]; exact fun hh => h (HFA.out.1 hh).2
      ·exact HP.out.2.2.2.1 j h1 (by omega)
     have HR := hide hri
     clear hq HFA hri hstop
     as_aux_lemma =>
     cases kn with
     | true =>
      obtain ⟨D, hDl, hQ, hD⟩ := HP.out.2.2.1
      obtain rfl := hD rfl
      have HSy : Hid (Kept [] w wr ∧ SigAt wr G s (.slice (some ⟨b, off, none⟩) n cap) ∧ wr.heap[Q]? = some (.cells (bys D).toArray 23 (0, 0))) := ⟨HP.out.1, HP.out.2.1, hQ⟩
      have HRY := hide (HR.out wr HP.out.1)
      clear hD hQ HP HR hDl
      go_upto_region 12 with (fail)
      clear cs cw cv hq1
      generalize wr = wy at HSy HRY ⊢
      have cvy := (HSy.out.2.1).cell (Sig.cv s (.slice (some ⟨b, off, none⟩) n cap))
      have hqr : wy.rangeAt Q 0 (bys D) := fun j u hu => by rw [Nat.zero_add, cell_of_row _ _ _ _ _ _ HSy.out.2.2]; simpa using hu
      have hriy : wy.rangeAt b (off + k * 33 + 1) (bys ei) := HRY.out
      by_cases hid : ei = D
      ·have heq : ∀ W, (Op.equalIn 10000 23 (.agg (bys ei).toArray) (.agg (bys D).toArray)).run Tryz.prog W = .ok true W := fun W => by rw [Tryz.eqlID ei D heid hI1l W, decide_eq_true hid]
       have HID := hide hid
       clear hid
       refine th wy fun h0 => ?_
       generalize World.drew wy = v0 at h0  ⊢
       refine t1 0 (.pointer (some ⟨G, 35, none⟩)) h0 ?_
       simp only [zz]
       refine t2 1 (.slice (some ⟨b, off, none⟩) n cap) rfl h0 ?_ (fun w h => by have c := qc h cvy; go_simp)
       simp only [zz]
       refine t1 2 (.int .i64 k) h0 ?_
       simp only [zz]
       refine t1 3 (.pointer (some ⟨b, off + k * 33, none⟩)) h0 ?_
       simp only [zz]
       refine t1 4 (.pointer (some ⟨b, off + k * 33 + 1, none⟩)) h0 ?_
       simp only [zz]
       refine t4 5 (.agg (bys ei).toArray) rfl (yieldsIf_load_mid (by rfl) _ _ rfl b (off + k * 33 + 1) rfl (bys ei) _ (fun W h => fun j u hu => Kept.cellOf h (hriy j u hu) (by simp)) Tryz.underlying23 rfl hile) h0 ?_
       simp only [zz]
       refine t4 6 (.agg (bys D).toArray) rfl (yieldsIf_load_mid (by rfl) _ _ rfl Q 0 rfl (bys D) _ (fun W h => fun j u hu => Kept.cellOf h (hqr j u hu) (by simp)) Tryz.underlying23 rfl hile1) h0 ?_
       simp only [zz]
       refine t1 7 (.bool true) h0 ?_
       simp only [zz]
       refine qd ?_
       have HKF : Hid (Kept [] w v0) := HSy.out.1.tr h0
       have HY1 := hide (HYES.out HID.out)
       clear h0 HSy heq hqr hriy cvy HID HRY HYES HNO2
       go_wp2
       go_ret
       exact ⟨k, rfl, HKF.out, .inr ⟨k, rfl, HY1.out⟩⟩
      ·have heq : ∀ W, (Op.equalIn 10000 23 (.agg (bys ei).toArray) (.agg (bys D).toArray)).run Tryz.prog W = .ok false W := fun W => by rw [Tryz.eqlID ei D heid hI1l W, decide_eq_false hid]
       have HID := hide hid
       clear hid
       refine th wy fun h0 => ?_
       generalize World.drew wy = v0 at h0  ⊢
       refine t1 0 (.pointer (some ⟨G, 35, none⟩)) h0 ?_
       simp only [zz]
       refine t2 1 (.slice (some ⟨b, off, none⟩) n cap) rfl h0 ?_ (fun w h => by have c := qc h cvy; go_simp)
       simp only [zz]
       refine t1 2 (.int .i64 k) h0 ?_
       simp only [zz]
       refine t1 3 (.pointer (some ⟨b, off + k * 33, none⟩)) h0 ?_
       simp only [zz]
       refine t1 4 (.pointer (some ⟨b, off + k * 33 + 1, none⟩)) h0 ?_
       simp only [zz]
       refine t4 5 (.agg (bys ei).toArray) rfl (yieldsIf_load_mid (by rfl) _ _ rfl b (off + k * 33 + 1) rfl (bys ei) _ (fun W h => fun j u hu => Kept.cellOf h (hriy j u hu) (by simp)) Tryz.underlying23 rfl hile) h0 ?_
       simp only [zz]
       refine t4 6 (.agg (bys D).toArray) rfl (yieldsIf_load_mid (by rfl) _ _ rfl Q 0 rfl (bys D) _ (fun W h => fun j u hu => Kept.cellOf h (hqr j u hu) (by simp)) Tryz.underlying23 rfl hile1) h0 ?_
       simp only [zz]
       refine t1 7 (.bool false) h0 ?_
       simp only [zz]
       refine qd ?_
       have HPF : Hid (Kept [] w v0 ∧ SigAt v0 G s (.slice (some ⟨b, off, none⟩) n cap) ∧ (∃ E : List UInt8, E.length = 32 ∧ v0.heap[Q]? = some (.cells (bys E).toArray 23 (0, 0)) ∧ (true = true -> E = D)) ∧ (∀ j, f <= j -> j < k + 1 -> ¬ FitsAt s x D j) ∧ (Isb false -> k + 1 <= f + 1)) := ⟨HSy.out.1.tr h0, HSy.out.2.1.kept h0 (by simp), ⟨D, hI1l, (h0.block Q (gs HSy.out.2.2).1 (by simp)).trans HSy.out.2.2, fun _ => rfl⟩, HNO2.out HID.out, HAL.out⟩
       clear h0 HSy heq hqr hriy cvy HID HRY HYES HNO2 HAL
       go_wp2
       go_roundw
       case rel => exact ⟨true, k + 1, by omega, by omega, rfl, by go_num, HPF⟩
       case measure => simp [intOf]; omega
     | false =>
      obtain ⟨D, hDl, hQ, _⟩ := HP.out.2.2.1
      have hof := rof_ok s.width wo Z wc ws wr HW.out.len hZ (HW.out.sl.kept HP.out.1 (by simp)) HW.out.nil
      rw [HI1.out, hwd] at hof
      have HQ := hide hQ
      have hia1 : (Tryz.prog.info? 23).map (·.size) = some (bys I1).toArray.size := by rw [show (bys I1).toArray.size = 32 by simp [bys_length, hI1l]]; exact Tryz.infoID
      have hz1 : (bys D).toArray.size = (bys I1).toArray.size := by simp [bys_length, hI1l, hDl]
      have hone := bys_all I1
      clear hQ
      go_upto_region 11 with (first
       | (go_at_call 10; refine hof.mono ?_; rintro r wx ⟨rfl, hkx⟩; have HX := hide hkx; have hQx := (hkx.block Q (gs HQ.out).1 (by simp)).trans HQ.out; clear hof hkx)
       | refine wpList_store_rowTo rfl 23 (.tmp 11) (.tmp 42) rfl rfl Q (bys I1).toArray rfl rfl 23 (bys D).toArray hQx hia1 hz1 hone ?_)
      have kq : Kept [Q] wx (wx.setRow Q (bys I1).toArray) := kept_row _ Q _
      have HSy : Hid (Kept [] w (wx.setRow Q (bys I1).toArray) ∧ SigAt (wx.setRow Q (bys I1).toArray) G s (.slice (some ⟨b, off, none⟩) n cap) ∧ (wx.setRow Q (bys I1).toArray).heap[Q]? = some (.cells (bys I1).toArray 23 (0, 0))) := ⟨(HP.out.1.tr HX.out).trans kq (fun i hi hl => by simp only [List.mem_singleton] at hi; have := HGQ.out.2; omega), (HP.out.2.1.kept HX.out (by simp)).kept kq (by have := HGQ.out.1; simp; omega), setRow_heap _ _ _ _ _ _ hQx⟩
      have HRY : Hid ((wx.setRow Q (bys I1).toArray).rangeAt b (off + k * 33 + 1) (bys ei)) := HR.out _ HSy.out.1
      clear HQ hQx hia1 hz1 hone HX kq HP HR hDl
      generalize wx.setRow Q (bys I1).toArray = wy at HSy HRY ⊢
      go_upto_region 12 with (fail)
      clear cs cw cv hq1
      have cvy := (HSy.out.2.1).cell (Sig.cv s (.slice (some ⟨b, off, none⟩) n cap))
      have hqr : wy.rangeAt Q 0 (bys I1) := fun j u hu => by rw [Nat.zero_add, cell_of_row _ _ _ _ _ _ HSy.out.2.2]; simpa using hu
      have hriy : wy.rangeAt b (off + k * 33 + 1) (bys ei) := HRY.out
      by_cases hid : ei = I1
      ·have heq : ∀ W, (Op.equalIn 10000 23 (.agg (bys ei).toArray) (.agg (bys I1).toArray)).run Tryz.prog W = .ok true W := fun W => by rw [Tryz.eqlID ei I1 heid hI1l W, decide_eq_true hid]
       have HID := hide hid
       clear hid
       refine th wy fun h0 => ?_
       generalize World.drew wy = v0 at h0  ⊢
       refine t1 0 (.pointer (some ⟨G, 35, none⟩)) h0 ?_
       simp only [zz]
       refine t2 1 (.slice (some ⟨b, off, none⟩) n cap) rfl h0 ?_ (fun w h => by have c := qc h cvy; go_simp)
       simp only [zz]
       refine t1 2 (.int .i64 k) h0 ?_
       simp only [zz]
       refine t1 3 (.pointer (some ⟨b, off + k * 33, none⟩)) h0 ?_
       simp only [zz]
       refine t1 4 (.pointer (some ⟨b, off + k * 33 + 1, none⟩)) h0 ?_
       simp only [zz]
       refine t4 5 (.agg (bys ei).toArray) rfl (yieldsIf_load_mid (by rfl) _ _ rfl b (off + k * 33 + 1) rfl (bys ei) _ (fun W h => fun j u hu => Kept.cellOf h (hriy j u hu) (by simp)) Tryz.underlying23 rfl hile) h0 ?_
       simp only [zz]
       refine t4 6 (.agg (bys I1).toArray) rfl (yieldsIf_load_mid (by rfl) _ _ rfl Q 0 rfl (bys I1) _ (fun W h => fun j u hu => Kept.cellOf h (hqr j u hu) (by simp)) Tryz.underlying23 rfl hile1) h0 ?_
       simp only [zz]
       refine t1 7 (.bool true) h0 ?_
       simp only [zz]
       refine qd ?_
       have HKF : Hid (Kept [] w v0) := HSy.out.1.tr h0
       have HY1 := hide (HYES.out HID.out)
       clear h0 HSy heq hqr hriy cvy HID HRY HYES HNO2
       go_wp2
       go_ret
       exact ⟨k, rfl, HKF.out, .inr ⟨k, rfl, HY1.out⟩⟩
      ·have heq : ∀ W, (Op.equalIn 10000 23 (.agg (bys ei).toArray) (.agg (bys I1).toArray)).run Tryz.prog W = .ok false W := fun W => by rw [Tryz.eqlID ei I1 heid hI1l W, decide_eq_false hid]
       have HID := hide hid
       clear hid
       refine th wy fun h0 => ?_
       generalize World.drew wy = v0 at h0  ⊢
       refine t1 0 (.pointer (some ⟨G, 35, none⟩)) h0 ?_
       simp only [zz]
       refine t2 1 (.slice (some ⟨b, off, none⟩) n cap) rfl h0 ?_ (fun w h => by have c := qc h cvy; go_simp)
       simp only [zz]
       refine t1 2 (.int .i64 k) h0 ?_
       simp only [zz]
       refine t1 3 (.pointer (some ⟨b, off + k * 33, none⟩)) h0 ?_
       simp only [zz]
       refine t1 4 (.pointer (some ⟨b, off + k * 33 + 1, none⟩)) h0 ?_
       simp only [zz]
       refine t4 5 (.agg (bys ei).toArray) rfl (yieldsIf_load_mid (by rfl) _ _ rfl b (off + k * 33 + 1) rfl (bys ei) _ (fun W h => fun j u hu => Kept.cellOf h (hriy j u hu) (by simp)) Tryz.underlying23 rfl hile) h0 ?_
       simp only [zz]
       refine t4 6 (.agg (bys I1).toArray) rfl (yieldsIf_load_mid (by rfl) _ _ rfl Q 0 rfl (bys I1) _ (fun W h => fun j u hu => Kept.cellOf h (hqr j u hu) (by simp)) Tryz.underlying23 rfl hile1) h0 ?_
       simp only [zz]
       refine t1 7 (.bool false) h0 ?_
       simp only [zz]
       refine qd ?_
       have HPF : Hid (Kept [] w v0 ∧ SigAt v0 G s (.slice (some ⟨b, off, none⟩) n cap) ∧ (∃ E : List UInt8, E.length = 32 ∧ v0.heap[Q]? = some (.cells (bys E).toArray 23 (0, 0)) ∧ (true = true -> E = I1)) ∧ (∀ j, f <= j -> j < k + 1 -> ¬ FitsAt s x I1 j) ∧ (Isb false -> k + 1 <= f + 1)) := ⟨HSy.out.1.tr h0, HSy.out.2.1.kept h0 (by simp), ⟨I1, hI1l, (h0.block Q (gs HSy.out.2.2).1 (by simp)).trans HSy.out.2.2, fun _ => rfl⟩, HNO2.out HID.out, HAL.out⟩
       clear h0 HSy heq hqr hriy cvy HID HRY HYES HNO2 HAL
       go_wp2
       go_roundw
       case rel => exact ⟨true, k + 1, by omega, by omega, rfl, by go_num, HPF⟩
       case measure => simp [intOf]; omega
    ·have hq1 : (es != x) = true := by simpa using hq
     have HPF : Hid (Kept [] w wr ∧ SigAt wr G s (.slice (some ⟨b, off, none⟩) n cap) ∧ (∃ D : List UInt8, D.length = 32 ∧ wr.heap[Q]? = some (.cells (bys D).toArray 23 (0, 0)) ∧ (kn = true -> D = I1)) ∧ (∀ j, f <= j -> j < k + 1 -> ¬ FitsAt s x I1 j) ∧ (Isb false -> k + 1 <= f + 1)) := ⟨HP.out.1, HP.out.2.1, HP.out.2.2.1, fun j h1 h2 => by
      by_cases hj : j = k
      ·rw [hj]; exact fun hh => hq (HFA.out.1 hh).1
      ·exact HP.out.2.2.2.1 j h1 (by omega), HAL.out⟩
     clear hq HFA HP HAL hstop
     go_wp2
     go_roundw
     case rel => exact ⟨kn, k + 1, by omega, by omega, rfl, by go_num, HPF⟩
     case measure => simp [intOf]; omega
  ·obtain rfl : k = n := by omega
   have HKF : Hid (Kept [] w wr ∧ ∀ j, f <= j -> (Isb false -> j = f) -> ¬ FitsAt s x I1 j) := ⟨HP.out.1, fun j h1 _ h3 => HP.out.2.2.2.1 j h1 (by have := h3.1; rw [HI.out.len] at this; exact this) h3⟩
   clear hAr cw HP
   go_wp2
   go_ret
   exact ⟨-1, rfl, HKF.out.1, .inl ⟨rfl, HKF.out.2⟩⟩
theorem fits18_ok (s : Sig) (ao : Option Addr) (n cap : Nat) (x : Int) (wo : Option Addr) (Z wc : Nat) (ws : List UInt8) (f : Nat) (al : Bool) (w : World) (hI : SigIn w s ao n cap) (hW : InB8 w wo Z wc ws) (hZ : Z <= 140737488351232) (hn : n <= 1000000) (hf : f <= n) :
  Calls Tryz.prog 99 #[.agg (s.cells (.slice ao n cap)).toArray, .int .i64 x, .slice wo Z wc, .int .i64 f, .bool al] w fun e w' => ∃ r : Int, e = .returned (.int .i64 r) ∧ Kept [] w w' ∧ ((r = -1 ∧ ∀ j, f <= j -> (Isb al -> j = f) -> ¬ FitsAt s x (Sha.ident s.width ws) j) ∨ ∃ k : Nat, r = k ∧ f <= k ∧ (Isb al -> k = f) ∧ FitsAt s x (Sha.ident s.width ws) k ∧ ∀ j, f <= j -> j < k -> ¬ FitsAt s x (Sha.ident s.width ws) j) := by
 cases al with
 | true => exact fits18_true s ao n cap x wo Z wc ws f w hI hW hZ hn hf
 | false => exact fits18_false s ao n cap x wo Z wc ws f w hI hW hZ hn hf
end

section
open Dlt
structure Tr where
 f : Nat
 c : Nat
 ao : Option Addr
 n : Nat
 cap : Nat
 bs : List UInt8
def Tr.cells (x : Tr) : List Value := stp3 (x.f : Nat) (x.c : Nat) (.slice x.ao x.n x.cap)
def Tr.stp (x : Tr) : Stp := if 0 < x.c then .copy x.f x.c else .lit x.bs
structure Tr.Ok (w : World) (x : Tr) : Prop where
 inb : InB8 w x.ao x.n x.cap x.bs
 f : x.f <= 2147483647
 c : x.c <= 2147483647
 n : x.n <= 100000000
theorem Tr.Ok.kept {w w' : World} {x : Tr} (h : x.Ok w) (hk : Kept [] w w') : x.Ok w' := ⟨h.inb.kept hk, h.f, h.c, h.n⟩
def TrsAt (w : World) (lo : Option Addr) (T : List Tr) : Prop := ∀ i x, T[i]? = some x -> (∃ b off, lo = some ⟨b, off, none⟩ ∧ w.rangeAt b (off + i * 3) x.cells) ∧ x.Ok w
theorem TrsAt.kept {w w' : World} {lo : Option Addr} {T : List Tr} (h : TrsAt w lo T) (hk : Kept [] w w') : TrsAt w' lo T := fun i x hx => by
 obtain ⟨⟨b, off, e, hr⟩, ho⟩ := h i x hx
 exact ⟨⟨b, off, e, fun j u hu => hk.cellOf (hr j u hu) (by simp)⟩, ho.kept hk⟩
def encT (T : List Tr) : List UInt8 := T.flatMap fun x => encI x.stp
theorem encT_map (T : List Tr) : encT T = (T.map Tr.stp).flatMap encI := by unfold encT; rw [List.flatMap_map]
theorem encT_take {T : List Tr} {k : Nat} {x : Tr} (h : T[k]? = some x) : encT (T.take (k + 1)) = encT (T.take k) ++ encI x.stp := by
 obtain ⟨hl, hk⟩ := List.getElem?_eq_some_iff.1 h
 unfold encT
 rw [List.take_succ_eq_append_getElem hl, List.flatMap_append, hk]
 simp
theorem encT_le (T : List Tr) (k : Nat) : (encT (T.take k)).length <= (encT T).length := by
 conv => rhs; rw [<-List.take_append_drop k T]
 unfold encT
 rw [List.flatMap_append, List.length_append]
 omega
def writtenB (W Z N : Nat) (bid : List UInt8) (M : Nat) (tid : List UInt8) (T : List Tr) : List UInt8 :=
 sealed ([68] ++ Pure.enc W ++ Pure.enc Z ++ Pure.enc N ++ bid.take W ++ Pure.enc M ++ tid.take W ++ Pure.enc T.length ++ encT T)
theorem rtext_ok (ao : Option Addr) (n cap : Nat) (bs : List UInt8) (w : World) (h : InB8 w ao n cap bs) (hn : n <= 100000000) :
  Calls Tryz.prog 57 #[.slice ao n cap] w fun e w' => ∃ m so sc, (Pure.enc n ++ bs).length = m ∧ m <= n + 5 ∧ e = .returned (.slice so m sc) ∧ Sl w' so (Pure.enc n ++ bs) ∧ (so = none -> Pure.enc n ++ bs = [] ∧ sc = 0) ∧ Kept [] w w' := by
 have hnu := refnumber_ok n (by omega) w
 have HB := hide h
 have hl5 := Pure.enc_len5 (v := n) (by omega)
 obtain ⟨m1, hm1⟩ := nm ((Pure.enc n).length)
 have HM1 := hide hm1
 rw [hm1] at hnu hl5
 clear h hm1
 go_enter Tryz.func57, Tryz.ntmps57
 go_upto_region 2 with (go_at_call 55; refine hnu.mono ?_; rintro r w2 ⟨vb, rfl, _, ho, hk⟩; obtain ⟨so, sc, rfl, _⟩ := own_shape ho; have HO := hide (ai ho hk); clear hnu ho hk)
 have hob : OwnB w2 w.heap.size (.slice so m1 sc) (Pure.enc n) := by unfold OwnB; rw [HM1.out]; exact HO.out.1
 obtain ⟨p1, c1, x1, hrun, hoj, hkj⟩ := app18 hob HO.out.2.size ao n cap bs HB.out.len (HB.out.sl.kept HO.out.2 (by simp)) HB.out.nil (by omega)
 have HX := hide (ai hoj (own_far hob HO.out.2 (Nat.le_refl _) hkj))
 clear hob hoj hkj HO
 go_wp2_with (refine wpList_app_run rfl (.tmp 7) (.tmp 8) 27 27 rfl (.slice so m1 sc) (.slice ao n cap) rfl rfl (.slice p1 (m1 + n) c1) x1 hrun ?_; clear hrun)
 go_ret
 have hi := HX.out.1.in8
 exact ⟨m1 + n, p1, c1, hi.len, by omega, rfl, hi.sl, hi.nil, HX.out.2⟩
end

end Go.Proofs.YtmklodligplbaabGreat
