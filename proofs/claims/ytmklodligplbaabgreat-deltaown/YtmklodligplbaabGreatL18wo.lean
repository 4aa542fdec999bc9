import Derived.Test.YtmklodligplbaabGreatL18uo
open Go.RowKit
set_option linter.unusedVariables false
set_option linter.unusedSimpArgs false
set_option maxRecDepth 100000
set_option maxHeartbeats 0
namespace Go.Proofs.YtmklodligplbaabGreat
open Dlt
theorem cut_both {w : World} {ao : Option Addr} {L cap : Nat} {xs : List UInt8} (hx : InB8 w ao L cap xs) (l h m : Nat) (hm : l + m = h) (h2 : h <= L) :
  ∃ ao' c', (∀ W, (Instr.slice 27 (.slice ao L cap) (some (.int .i64 l)) (some (.int .i64 h)) none).run Tryz.prog W = .ok (.slice ao' m c') W) ∧ InB8 w ao' m c' ((xs.drop l).take m) := by
 have hle := hx.le
 have hml : ((xs.drop l).take m).length = m := by rw [List.length_take, List.length_drop, hx.len]; omega
 have hz : ∀ W, (sizeOf (Tryz.prog.elem 27)).run Tryz.prog W = .ok 1 W := fun W => by kernel_rfl
 have hr := fun W => run_slice_lh (P := Tryz.prog) W 27 ao L cap (by kernel_rfl) .i64 .i64 l h (by omega) (by omega) (by omega)
 by_cases h0 : ao = none
 ·obtain ⟨hn1, hn2⟩ := hx.nil h0
  subst h0
  have hL := hx.len
  rw [hn1] at hL hml ⊢
  simp at hL hml
  obtain rfl : m = 0 := by omega
  refine ⟨none, 0, fun W => ?_, inB8_nil w⟩
  rw [hr W, hz W]
  simp [sliced]
  omega
 ·by_cases hc : cap = l
  ·obtain rfl : m = 0 := by omega
   refine ⟨ao, 0, fun W => ?_, ⟨hml, by omega, by omega, fun i hi => by rw [hml] at hi; omega, fun e => absurd e h0⟩⟩
   rw [hr W, hz W]
   simp [sliced, hc]
   omega
  ·cases ao with
   | none => exact absurd rfl h0
   | some a =>
    refine ⟨some (a.add l), cap - l, fun W => ?_, ⟨hml, by omega, by have := hx.max; omega, ?_, fun e => by cases e⟩⟩
    ·rw [hr W, hz W]
     simp [sliced, hc]
     omega
    ·by_cases hne : xs = []
     ·subst hne; simp; exact Sl.nil _ _
     ·obtain ⟨b, off, e, _, _⟩ := hx.sl.open hne
      injection e with e
      subst e
      rw [Addr.add_mid]
      have := hx.sl
      exact this.cut l m (by rw [hx.len]; omega)
theorem rapply_long (bo : Option Addr) (bn bc : Nat) (bs : List UInt8) (ao : Option Addr) (n cap : Nat) (xs : List UInt8) (w : World) (hb : InB8 w bo bn bc bs) (h : InB8 w ao n cap xs) (hl : 131072 < bn) :
  Calls Tryz.prog 21 #[.slice bo bn bc, .slice ao n cap] w fun e w' => TellB w w' e 2 [] ∧ Kept [] w w' := by
 go_enter Tryz.func21, Tryz.ntmps21
 go_wp2
 go_ret2
 exact ⟨⟨none, 0, rfl, World.ownsRow_nil _ _ _ _⟩, Kept.refl _ _⟩
theorem rapply_none (bo : Option Addr) (bn bc : Nat) (bs : List UInt8) (ao : Option Addr) (n cap : Nat) (xs : List UInt8) (w : World) (hb : InB8 w bo bn bc bs) (h : InB8 w ao n cap xs) (hl : bn <= 131072) (hrd : Calls Tryz.prog 9 #[.slice ao n cap] w fun e w' => ReadE w w' e none ∧ Kept [] w w') :
  Calls Tryz.prog 21 #[.slice bo bn bc, .slice ao n cap] w fun e w' => TellB w w' e 180 [] ∧ Kept [] w w' := by
 have hl1 : ¬ 131072 < bn := by omega
 have hzd := Tryz.zeroDlt
 clear h hb
 go_enter Tryz.func21, Tryz.ntmps21
 go_upto_region 5 with (first
  | (go_at_call 9; refine hrd.mono ?_; rintro r wd ⟨⟨W, Z, L, N, bid, tid, v, hbl, htl, hv, rfl⟩, hkd⟩; have Hd := hide hkd; have hox := heap_new wd (.cells zeroD 34); have hiD := Tryz.infoDltA (W := W) (Z := Z) (L := L) (N := N) (v := v) hbl htl; have haD : (dltC W Z L N bid tid v).toArray.all (·.oneCell') = true := dltC_one hv; have hzs : zeroD.size = (dltC W Z L N bid tid v).toArray.size := (by rw [dltC_size hbl htl]; exact dltC_size z32_len z32_len); clear hrd hbl htl hv)
  | refine wpList_store_rowTo rfl 34 (.tmp 6) (.tmp 17) rfl rfl wd.heap.size (dltC W Z L N bid tid v).toArray rfl rfl 34 zeroD hox hiD hzs haD ?_)
 have ke : Kept [] wd ((wd.alloc (.cells zeroD 34)).setRow wd.heap.size (dltC W Z L N bid tid v).toArray) := ((Kept.refl [] wd).alloc _).trans (kept_row _ wd.heap.size _) (fun i hi hl => by simp only [List.mem_singleton] at hi; omega)
 have HKF := hide (Hd.out.tr ke)
 clear ke hox hiD haD hzs Hd hzd hkd
 generalize (wd.alloc (.cells zeroD 34)).setRow wd.heap.size (dltC W Z L N bid tid v).toArray = we at HKF ⊢
 go_wp2
 go_ret2
 exact ⟨⟨none, 0, rfl, World.ownsRow_nil _ _ _ _⟩, HKF.out⟩
theorem rapply_base (bo : Option Addr) (bn bc : Nat) (bs : List UInt8) (ao : Option Addr) (n cap : Nat) (xs : List UInt8) (w : World) (hb : InB8 w bo bn bc bs) (h : InB8 w ao n cap xs) (hl : bn <= 131072) (d : Dta) (hd : decD xs = some d) (hB : ¬ (bs.length = d.blen ∧ Sha.ident d.width bs = d.bid)) :
  Calls Tryz.prog 21 #[.slice bo bn bc, .slice ao n cap] w fun e w' => TellB w w' e 181 [] ∧ Kept [] w w' := by
 have hrd := rread_good ao n cap xs w h d hd
 rw [hd] at hrd
 have hl1 : ¬ 131072 < bn := by omega
 have hzd := Tryz.zeroDlt
 obtain ⟨q, hq⟩ := nm (d.steps.length)
 rw [show ReadE w = ReadE w from rfl] at hrd
 have HQ := hide hq
 have HB := hide hb
 clear h hb hd hq
 go_enter Tryz.func21, Tryz.ntmps21
 go_upto_region 6 with (first
  | (go_at_call 9; refine hrd.mono ?_; rintro r wd ⟨⟨T, lo, lc, hTm, hA, rfl⟩, hkd⟩; rw [HQ.out] at hA ⊢; have Hd := hide (ai hTm (ai hA hkd)); have hox := heap_new wd (.cells zeroD 34); have hiD := Tryz.infoDltA (W := ((d.width : Nat) : Int)) (Z := ((d.size : Nat) : Int)) (L := ((d.blen : Nat) : Int)) (N := ((d.tlen : Nat) : Int)) (v := .slice lo q lc) d.hb d.ht; have haD : (dltC ((d.width : Nat) : Int) ((d.size : Nat) : Int) ((d.blen : Nat) : Int) ((d.tlen : Nat) : Int) d.bid d.tid (.slice lo q lc)).toArray.all (·.oneCell') = true := dltC_one rfl; have hzs : zeroD.size = (dltC ((d.width : Nat) : Int) ((d.size : Nat) : Int) ((d.blen : Nat) : Int) ((d.tlen : Nat) : Int) d.bid d.tid (.slice lo q lc)).toArray.size := (by rw [dltC_size d.hb d.ht]; exact dltC_size z32_len z32_len); clear hrd hTm hA hkd)
  | refine wpList_store_rowTo rfl 34 (.tmp 6) (.tmp 17) rfl rfl wd.heap.size (dltC ((d.width : Nat) : Int) ((d.size : Nat) : Int) ((d.blen : Nat) : Int) ((d.tlen : Nat) : Int) d.bid d.tid (.slice lo q lc)).toArray rfl rfl 34 zeroD hox hiD hzs haD ?_)
 have ke : Kept [] wd ((wd.alloc (.cells zeroD 34)).setRow wd.heap.size (dltC ((d.width : Nat) : Int) ((d.size : Nat) : Int) ((d.blen : Nat) : Int) ((d.tlen : Nat) : Int) d.bid d.tid (.slice lo q lc)).toArray) := ((Kept.refl [] wd).alloc _).trans (kept_row _ wd.heap.size _) (fun i hi hl => by simp only [List.mem_singleton] at hi; omega)
 have hD : DltAt ((wd.alloc (.cells zeroD 34)).setRow wd.heap.size (dltC ((d.width : Nat) : Int) ((d.size : Nat) : Int) ((d.blen : Nat) : Int) ((d.tlen : Nat) : Int) d.bid d.tid (.slice lo q lc)).toArray) wd.heap.size ((d.width : Nat) : Int) ((d.size : Nat) : Int) ((d.blen : Nat) : Int) ((d.tlen : Nat) : Int) d.bid d.tid (.slice lo q lc) := ⟨setRow_heap _ _ _ _ _ _ hox, d.hb, d.ht⟩
 obtain ⟨D, hDD⟩ := nm (wd.heap.size)
 have HWD : Hid (w.heap.size <= D) := by show _ <= _; rw [<-hDD]; exact Hd.out.2.2.size
 rw [hDD] at ke hD ⊢
 have HKe := hide (Hd.out.2.2.tr ke)
 have HAe := hide (Hd.out.2.1.kept ke (by simp))
 have HTM := hide Hd.out.1
 clear hDD hox hiD haD hzs ke hzd Hd
 generalize (wd.alloc (.cells zeroD 34)).setRow D (dltC ((d.width : Nat) : Int) ((d.size : Nat) : Int) ((d.blen : Nat) : Int) ((d.tlen : Nat) : Int) d.bid d.tid (.slice lo q lc)).toArray = we at hD HKe HAe ⊢
 have c0 := hD.c (j := 0) rfl
 have c2 := hD.c (j := 2) rfl
 have HD := hide hD
 have hile := idlen d.hb
 clear hD
 have HOF := hide (fun X (hX : Kept [] we X) => rof_ok (d.width : Int) bo bn bc bs X HB.out.len (by omega) (HB.out.sl.kept (HKe.out.tr hX) (by simp)) HB.out.nil)
 obtain ⟨I1, hI1⟩ := nm (Sha.ident (d.width : Int) bs)
 have hI1l : I1.length = 32 := by rw [<-hI1]; exact Sha.ident_len _ _
 rw [hI1] at HOF
 have hbl := HB.out.len
 rw [hbl, hI1] at hB
 by_cases hL : bn = d.blen
 ·have hL1 : ((bn : Int) != ((d.blen : Nat) : Int)) = false := by simp; omega
  have hne : ¬ I1 = d.bid := fun h => hB ⟨hL, h⟩
  have heq : ∀ W, (Op.equalIn 10000 23 (.agg (bys I1).toArray) (.agg (bys d.bid).toArray)).run Tryz.prog W = .ok false W := fun W => by rw [Tryz.eqlID I1 d.bid hI1l d.hb W, decide_eq_false hne]
  clear hB hL hne hbl hI1
  refine th we fun h0 => ?_
  generalize World.drew we = v0 at h0  ⊢
  refine t1 0 (.slice bo bn bc) h0 ?_
  simp only [zz]
  refine t1 1 (.int .i64 bn) h0 ?_
  simp only [zz]
  refine t1 2 (.pointer (some ⟨D, 2, none⟩)) h0 ?_
  simp only [zz]
  refine t2 3 (.int .i64 ((d.blen : Nat) : Int)) rfl h0 ?_ (fun w h => by have c := qc h c2; go_simp)
  simp only [zz]
  refine t1 4 (.bool false) h0 ?_
  simp only [zz]
  refine t1 5 (.bool false) h0 ?_
  simp only [zz]
  refine t1 6 (.pointer (some ⟨D, 0, none⟩)) h0 ?_
  simp only [zz]
  refine t2 7 (.int .i64 ((d.width : Nat) : Int)) rfl h0 ?_ (fun w h => by have c := qc h c0; go_simp)
  simp only [zz]
  refine t1 8 (.slice bo bn bc) h0 ?_
  simp only [zz]
  refine t1 10 (.pointer (some ⟨D, 4, none⟩)) h0 ?_
  simp only [zz]
  refine t4 11 (.agg (bys d.bid).toArray) rfl (yieldsIf_load_mid (by rfl) _ _ rfl D 4 rfl (bys d.bid) _ (fun W h => (HD.out.kept h (by simp)).sb) Tryz.underlying23 rfl hile) h0 ?_
  simp only [zz]
  refine rd 9 fun K hK => ?_
  go_simp
  refine (HOF.out v0 h0).mono ?_
  rintro e v1 ⟨rfl, hk9⟩
  refine hK.out _ _ (h0.tr hk9) (fun h1 => ?_)
  clear hK K
  try simp only [zz]
  clear hk9 h0
  refine t1 12 (.bool true) h1 ?_
  simp only [zz]
  refine t1 13 (.bool true) h1 ?_
  simp only [zz]
  refine qd ?_
  have HKF := hide (HKe.out.tr h1)
  clear h1
  go_wp2
  go_ret2
  exact ⟨⟨none, 0, rfl, World.ownsRow_nil _ _ _ _⟩, HKF.out⟩
 ·have hL1 : ((bn : Int) != ((d.blen : Nat) : Int)) = true := by simp; omega
  clear hB hL hbl hI1
  refine th we fun h0 => ?_
  generalize World.drew we = v0 at h0  ⊢
  refine t1 0 (.slice bo bn bc) h0 ?_
  simp only [zz]
  refine t1 1 (.int .i64 bn) h0 ?_
  simp only [zz]
  refine t1 2 (.pointer (some ⟨D, 2, none⟩)) h0 ?_
  simp only [zz]
  refine t2 3 (.int .i64 ((d.blen : Nat) : Int)) rfl h0 ?_ (fun w h => by have c := qc h c2; go_simp)
  simp only [zz]
  refine t1 4 (.bool true) h0 ?_
  simp only [zz]
  refine t1 5 (.bool true) h0 ?_
  simp only [zz]
  refine t3 6 h0 ?_
  simp only [zz]
  refine t3 7 h0 ?_
  simp only [zz]
  refine t3 8 h0 ?_
  simp only [zz]
  refine t3 9 h0 ?_
  simp only [zz]
  refine t3 10 h0 ?_
  simp only [zz]
  refine t3 11 h0 ?_
  simp only [zz]
  refine t3 12 h0 ?_
  simp only [zz]
  refine t1 13 (.bool true) h0 ?_
  simp only [zz]
  refine qd ?_
  have HKF := hide (HKe.out.tr h0)
  clear h0
  go_wp2
  go_ret2
  exact ⟨⟨none, 0, rfl, World.ownsRow_nil _ _ _ _⟩, HKF.out⟩
theorem rapply_rest (bo : Option Addr) (bn bc : Nat) (bs : List UInt8) (ao : Option Addr) (n cap : Nat) (xs : List UInt8) (w : World) (hb : InB8 w bo bn bc bs) (h : InB8 w ao n cap xs) (hl : bn <= 131072) (d : Dta) (hd : decD xs = some d) (hB : bs.length = d.blen ∧ Sha.ident d.width bs = d.bid) (t : Bool) (ht : decide (Sha.ident d.width (doIs d.size bs d.steps) = d.tid) = t) :
  Calls Tryz.prog 21 #[.slice bo bn bc, .slice ao n cap] w fun e w' => TellB w w' e (if t then 0 else 182) (if t then doIs d.size bs d.steps else []) ∧ Kept [] w w' := by
 obtain ⟨hok, _, _⟩ := decD_some hd
 have HOK := hide hok
 have HT := hide ht
 clear hok ht
 have hrd := rread_good ao n cap xs w h d hd
 rw [hd] at hrd
 have hl1 : ¬ 131072 < bn := by omega
 have hzd := Tryz.zeroDlt
 obtain ⟨q, hq⟩ := nm (d.steps.length)
 rw [show ReadE w = ReadE w from rfl] at hrd
 have HQ := hide hq
 have HB := hide hb
 clear h hb hd hq
 go_enter Tryz.func21, Tryz.ntmps21
 go_upto_region 6 with (first
  | (go_at_call 9; refine hrd.mono ?_; rintro r wd ⟨⟨T, lo, lc, hTm, hA, rfl⟩, hkd⟩; rw [HQ.out] at hA ⊢; have Hd := hide (ai hTm (ai hA hkd)); have hox := heap_new wd (.cells zeroD 34); have hiD := Tryz.infoDltA (W := ((d.width : Nat) : Int)) (Z := ((d.size : Nat) : Int)) (L := ((d.blen : Nat) : Int)) (N := ((d.tlen : Nat) : Int)) (v := .slice lo q lc) d.hb d.ht; have haD : (dltC ((d.width : Nat) : Int) ((d.size : Nat) : Int) ((d.blen : Nat) : Int) ((d.tlen : Nat) : Int) d.bid d.tid (.slice lo q lc)).toArray.all (·.oneCell') = true := dltC_one rfl; have hzs : zeroD.size = (dltC ((d.width : Nat) : Int) ((d.size : Nat) : Int) ((d.blen : Nat) : Int) ((d.tlen : Nat) : Int) d.bid d.tid (.slice lo q lc)).toArray.size := (by rw [dltC_size d.hb d.ht]; exact dltC_size z32_len z32_len); clear hrd hTm hA hkd)
  | refine wpList_store_rowTo rfl 34 (.tmp 6) (.tmp 17) rfl rfl wd.heap.size (dltC ((d.width : Nat) : Int) ((d.size : Nat) : Int) ((d.blen : Nat) : Int) ((d.tlen : Nat) : Int) d.bid d.tid (.slice lo q lc)).toArray rfl rfl 34 zeroD hox hiD hzs haD ?_)
 have ke : Kept [] wd ((wd.alloc (.cells zeroD 34)).setRow wd.heap.size (dltC ((d.width : Nat) : Int) ((d.size : Nat) : Int) ((d.blen : Nat) : Int) ((d.tlen : Nat) : Int) d.bid d.tid (.slice lo q lc)).toArray) := ((Kept.refl [] wd).alloc _).trans (kept_row _ wd.heap.size _) (fun i hi hl => by simp only [List.mem_singleton] at hi; omega)
 have hD : DltAt ((wd.alloc (.cells zeroD 34)).setRow wd.heap.size (dltC ((d.width : Nat) : Int) ((d.size : Nat) : Int) ((d.blen : Nat) : Int) ((d.tlen : Nat) : Int) d.bid d.tid (.slice lo q lc)).toArray) wd.heap.size ((d.width : Nat) : Int) ((d.size : Nat) : Int) ((d.blen : Nat) : Int) ((d.tlen : Nat) : Int) d.bid d.tid (.slice lo q lc) := ⟨setRow_heap _ _ _ _ _ _ hox, d.hb, d.ht⟩
 obtain ⟨D, hDD⟩ := nm (wd.heap.size)
 have HWD : Hid (w.heap.size <= D) := by show _ <= _; rw [<-hDD]; exact Hd.out.2.2.size
 rw [hDD] at ke hD ⊢
 have HKe := hide (Hd.out.2.2.tr ke)
 have HAe := hide (Hd.out.2.1.kept ke (by simp))
 have HTM := hide Hd.out.1
 clear hDD hox hiD haD hzs ke hzd Hd
 generalize (wd.alloc (.cells zeroD 34)).setRow D (dltC ((d.width : Nat) : Int) ((d.size : Nat) : Int) ((d.blen : Nat) : Int) ((d.tlen : Nat) : Int) d.bid d.tid (.slice lo q lc)).toArray = we at hD HKe HAe ⊢
 have c0 := hD.c (j := 0) rfl
 have c2 := hD.c (j := 2) rfl
 have HD := hide hD
 have hile := idlen d.hb
 clear hD
 have HOF := hide (fun X (hX : Kept [] we X) => rof_ok (d.width : Int) bo bn bc bs X HB.out.len (by omega) (HB.out.sl.kept (HKe.out.tr hX) (by simp)) HB.out.nil)
 obtain ⟨I1, hI1⟩ := nm (Sha.ident (d.width : Int) bs)
 have hI1l : I1.length = 32 := by rw [<-hI1]; exact Sha.ident_len _ _
 rw [hI1] at HOF
 have hbl := HB.out.len
 rw [hbl, hI1] at hB
 obtain ⟨hL, hI⟩ := hB
 have hL1 : ((bn : Int) != ((d.blen : Nat) : Int)) = false := by simp; omega
 have heq : ∀ W, (Op.equalIn 10000 23 (.agg (bys I1).toArray) (.agg (bys d.bid).toArray)).run Tryz.prog W = .ok true W := fun W => by rw [Tryz.eqlID I1 d.bid hI1l d.hb W, decide_eq_true hI]
 have HLB := hide hL
 clear hI hL hbl hI1
 refine th we fun h0 => ?_
 generalize World.drew we = v0 at h0  ⊢
 refine t1 0 (.slice bo bn bc) h0 ?_
 simp only [zz]
 refine t1 1 (.int .i64 bn) h0 ?_
 simp only [zz]
 refine t1 2 (.pointer (some ⟨D, 2, none⟩)) h0 ?_
 simp only [zz]
 refine t2 3 (.int .i64 ((d.blen : Nat) : Int)) rfl h0 ?_ (fun w h => by have c := qc h c2; go_simp)
 simp only [zz]
 refine t1 4 (.bool false) h0 ?_
 simp only [zz]
 refine t1 5 (.bool false) h0 ?_
 simp only [zz]
 refine t1 6 (.pointer (some ⟨D, 0, none⟩)) h0 ?_
 simp only [zz]
 refine t2 7 (.int .i64 ((d.width : Nat) : Int)) rfl h0 ?_ (fun w h => by have c := qc h c0; go_simp)
 simp only [zz]
 refine t1 8 (.slice bo bn bc) h0 ?_
 simp only [zz]
 refine t1 10 (.pointer (some ⟨D, 4, none⟩)) h0 ?_
 simp only [zz]
 refine t4 11 (.agg (bys d.bid).toArray) rfl (yieldsIf_load_mid (by rfl) _ _ rfl D 4 rfl (bys d.bid) _ (fun W h => (HD.out.kept h (by simp)).sb) Tryz.underlying23 rfl hile) h0 ?_
 simp only [zz]
 refine rd 9 fun K hK => ?_
 go_simp
 refine (HOF.out v0 h0).mono ?_
 rintro e v1 ⟨rfl, hk9⟩
 refine hK.out _ _ (h0.tr hk9) (fun h1 => ?_)
 clear hK K
 try simp only [zz]
 clear hk9 h0
 refine t1 12 (.bool false) h1 ?_
 simp only [zz]
 refine t1 13 (.bool false) h1 ?_
 simp only [zz]
 refine qd ?_
 have HK1 := hide (HKe.out.tr h1)
 have HD1 := hide (HD.out.kept h1 (by simp))
 have HA1 := hide (HAe.out.kept h1 (by simp))
 clear heq hL1 c0 c2 HKe HD HAe h1 HOF
 obtain ⟨B, hBe⟩ := nm (v1.heap.size)
 have HDB : Hid (w.heap.size <= D ∧ D < B) := ⟨HWD.out, by rw [<-hBe]; exact heap_lt HD1.out.row⟩
 have HIN : Hid (OwnB v1 B (.slice none 0 0) (doIs d.size bs (d.steps.take 0)) ∧ 0 = total d.size (d.steps.take 0) ∧ Kept [] v1 v1) := ⟨World.ownsRow_nil _ _ _ _, by simp [total], Kept.refl _ _⟩
 have HQT : Hid (T.length = q) := by show _ = _; rw [<-HQ.out, <-HTM.out, List.length_map]
 have HBv : Hid (B <= v1.heap.size) := by show B <= _; rw [hBe]; exact Nat.le_refl _
 have HBe := hide hBe
 clear hBe HWD
 go_wp2
 go_loopw [8, 9] (fun x y wr => ∃ (k : Nat) (mo : Option Addr) (m mc : Nat), k <= q ∧ m <= 131072 ∧ x = .slice mo m mc ∧ y = .int .i64 k ∧ Hid (OwnB wr B (.slice mo m mc) (doIs d.size bs (d.steps.take k)) ∧ m = total d.size (d.steps.take k) ∧ Kept [] v1 wr)) (fun x y wr => q - (intOf y).toNat)
 case atStart => exact ⟨0, none, 0, 0, Nat.zero_le _, by omega, rfl, rfl, HIN⟩
 case round =>
  clear HIN
  obtain ⟨k, mo, m, mc, hk, hm, rfl, rfl, HS⟩ := hrel
  have HKr := hide (HK1.out.tr HS.out.2.2)
  have HDr := hide (HD1.out.kept HS.out.2.2 (by simp))
  have cv := HDr.out.cv
  by_cases hlt : k < q
  ·obtain ⟨x, hx⟩ : ∃ x, T[k]? = some x := ⟨_, List.getElem?_eq_getElem (by rw [HQT.out]; exact hlt)⟩
   have hAr := HA1.out.kept HS.out.2.2 (by simp)
   obtain ⟨g, rfl, hgb, hgl, hrg⟩ := hAr.cell hx
   have hsk : d.steps[k]? = some x.s := by rw [<-HTM.out, List.getElem?_map, hx]; rfl
   have hoki := HOK.out.ins x.s (List.mem_of_getElem? hsk)
   have htk := take_snoc9 hsk
   have htt := total_take d.size d.steps (k + 1)
   rw [htk, total_snoc, <-HS.out.2.1, HOK.out.sum] at htt
   have ht2 := HOK.out.t2
   obtain ⟨hin, _⟩ := hAr.lit x (List.mem_of_getElem? hx)
   rw [<-HLB.out] at hoki
   have hfz : (stF x.s + stN x.s) * d.size <= bn := by
    cases hs : x.s with
    | copy f c =>
     rw [hs] at hoki
     exact Nat.le_trans (Nat.mul_le_mul_right _ hoki.2) (Nat.div_mul_le_self _ _)
    | lit bs' => simp [stF, stN]
   have hdo : doI d.size bs x.s = stB x.s ++ (bs.drop (stF x.s * d.size)).take (stN x.s * d.size) := by
    cases hs : x.s with
    | copy f c => simp [doI, stF, stN, stB]
    | lit bs' => simp [doI, stF, stN, stB]
   rw [stp_len] at htt
   obtain ⟨xf, hxf⟩ := nm (stF x.s)
   obtain ⟨xc, hxc⟩ := nm (stN x.s)
   obtain ⟨xb, hxb⟩ := nm (stB x.s)
   have hcs : x.cells = stp3 (xf : Int) (xc : Int) (.slice x.ao x.n x.cap) := by unfold Stc.cells; rw [hxf, hxc]
   rw [hxf, hxc] at hfz
   rw [hxf, hxc, hxb] at hdo
   rw [hxc, hxb] at htt
   rw [hxb] at hin
   rw [hcs] at hrg
   obtain ⟨xo, xn, xp, hxo, hxn, hxp⟩ : ∃ xo xn xp, x.ao = xo ∧ x.n = xn ∧ x.cap = xp := ⟨_, _, _, rfl, rfl, rfl⟩
   rw [hxo, hxn, hxp] at hrg hin
   obtain ⟨lo, hlo⟩ := nm (xf * d.size)
   obtain ⟨mm, hmm⟩ := nm (xc * d.size)
   rw [Nat.add_mul, hlo, hmm] at hfz
   rw [hlo, hmm] at hdo
   rw [hmm] at htt
   have HLE : Hid (x.s.len d.size = mm + xb.length) := by show _ = _; rw [stp_len, hxc, hxb, hmm]
   have hz40 := HOK.out.z2
   have hw1 : IntKind.i64.wrap ((xf : Int) * ((d.size : Nat) : Int)) = (lo : Int) := by
    rw [<-hlo, <-Int.natCast_mul]; exact wrap64 (by omega) (by rw [hlo]; omega)
   have hxfb : xf <= 131072 := by
    have h1 : xf * 1 <= xf * d.size := Nat.mul_le_mul_left _ (by have := HOK.out.z1; omega)
    omega
   have hxcb : xc <= 131072 := by
    have h1 : xc * 1 <= xc * d.size := Nat.mul_le_mul_left _ (by have := HOK.out.z1; omega)
    omega
   have hw2 : IntKind.i64.wrap ((xf : Int) + (xc : Int)) = (xf : Int) + (xc : Int) := wrap64 (by omega) (by omega)
   have hw3 : IntKind.i64.wrap (((xf : Int) + (xc : Int)) * ((d.size : Nat) : Int)) = (lo : Int) + (mm : Int) := by
    rw [show ((xf : Int) + (xc : Int)) * ((d.size : Nat) : Int) = (lo : Int) + (mm : Int) by rw [<-hlo, <-hmm, Int.add_mul]; simp [Int.natCast_mul]]
    exact wrap64 (by omega) (by omega)
   have hi3 := Tryz.infoStp (xf : Int) (xc : Int) (.slice xo xn xp)
   have hiA := Tryz.infoStpA (xf : Int) (xc : Int) (.slice xo xn xp)
   have haS := stp3_all (xf : Int) (xc : Int) (.slice xo xn xp) rfl
   have hox := heap_new wr (.cells (stp3 0 0 (.slice none 0 0)).toArray 39)
   have hzx := Tryz.zeroStp
   have hkb : k < 9223372036854775807 := by have := HOK.out.few; rw [HQ.out] at this; omega
   have HXX := hide (ai hin (ai hfz (ai hdo (ai htk htt))))
   clear hsk hoki htk htt hin hdo hcs hxf hxc hxb hxo hxn hxp hlo hmm hgb hgl hAr hx hfz
   go_upto_region 13 with (first
    | refine wpList_load_mid rfl 39 (.tmp 45) rfl g (k * 3) rfl (stp3 (xf : Int) (xc : Int) (.slice xo xn xp)) _ hrg Tryz.underlying39 rfl hi3 ?_
    | refine wpList_store_rowTo rfl 39 (.tmp 10) (.tmp 46) rfl rfl wr.heap.size (stp3 (xf : Int) (xc : Int) (.slice xo xn xp)).toArray rfl rfl 39 (stp3 0 0 (.slice none 0 0)).toArray hox hiA rfl haS ?_)
   have ky : Kept [] wr ((wr.alloc (.cells (stp3 0 0 (.slice none 0 0)).toArray 39)).setRow wr.heap.size (stp3 (xf : Int) (xc : Int) (.slice xo xn xp)).toArray) := ((Kept.refl [] wr).alloc _).trans (kept_row _ wr.heap.size _) (fun i hi hl => by simp only [List.mem_singleton] at hi; omega)
   have hXA : ((wr.alloc (.cells (stp3 0 0 (.slice none 0 0)).toArray 39)).setRow wr.heap.size (stp3 (xf : Int) (xc : Int) (.slice xo xn xp)).toArray).heap[wr.heap.size]? = some (.cells (stp3 (xf : Int) (xc : Int) (.slice xo xn xp)).toArray 39 (0, 0)) := setRow_heap _ _ _ _ _ _ hox
   obtain ⟨X, hX⟩ := nm (wr.heap.size)
   have HBX : Hid (B <= X) := by show B <= X; rw [<-hX]; exact Nat.le_trans HBv.out HS.out.2.2.size
   rw [hX] at hXA ky ⊢
   have hOy := HS.out.1.kept ky (by simp)
   have HXA := hide hXA
   have HKy := hide ky
   have HXw := hide hX
   clear hox hiA haS hzx hXA ky hrg hi3 cv hX
   generalize (wr.alloc (.cells (stp3 0 0 (.slice none 0 0)).toArray 39)).setRow X (stp3 (xf : Int) (xc : Int) (.slice xo xn xp)).toArray = y1 at hOy HXA HKy ⊢
   have hxin := HXX.out.1.kept HKy.out
   obtain ⟨v2, y2, hrun2, hO2, hk2⟩ := run_appSl y1 B (.slice mo m mc) _ xb hOy xo xn xp hxin.len hxin.sl hxin.nil (by have := own_len hOy; rw [this]; have := HXX.out.2.2.2.2; have := hxin.len; omega) (Nat.le_trans HBX.out (Nat.le_of_lt (heap_lt HXA.out)))
   obtain ⟨o2, p2, rfl, _⟩ := own_shape hO2
   have hown : ∀ i, i ∈ (Value.slice mo m mc).ownBlock.toList -> B <= i ∧ i < X := fun i hi => by have := HS.out.1.far i (by simpa using hi); have := HXw.out; omega
   have hl2 : (doIs d.size bs (d.steps.take k) ++ xb).length = m + xb.length := by rw [List.length_append, own_len hOy]
   rw [hl2] at hrun2
   have hO2 : OwnB y2 B (.slice o2 (m + xb.length) p2) (doIs d.size bs (d.steps.take k) ++ xb) := by have h := hO2; rw [hl2] at h; exact h
   have K2 : Kept (Value.slice mo m mc).ownBlock.toList wr y2 := (HKy.out.mono (by simp)).trans hk2 (fun i hi _ => hi)
   have kw2 : Kept [] w y2 := HKr.out.trans K2 (fun i hi hl => by have := hown i hi; have := HDB.out; omega)
   obtain ⟨co, cc, hcut, hcin⟩ := cut_both (HB.out.kept kw2) lo (lo + mm) mm rfl HXX.out.2.1
   rw [show ((lo + mm : Nat) : Int) = (lo : Int) + (mm : Int) by omega] at hcut
   have c2x := (show y1.cell? ⟨X, 2, none⟩ = some (.slice xo xn xp) by rw [cell_of_row _ _ _ _ _ _ HXA.out]; rfl)
   have hXy2 := (hk2.block X (heap_lt HXA.out) (fun hm => by have := hown _ hm; omega)).trans HXA.out
   have c20 : y2.cell? ⟨X, 0, none⟩ = some (.int .i64 (xf : Int)) := by rw [cell_of_row _ _ _ _ _ _ hXy2]; rfl
   have c21 : y2.cell? ⟨X, 1, none⟩ = some (.int .i64 (xc : Int)) := by rw [cell_of_row _ _ _ _ _ _ hXy2]; rfl
   have cd1 := (HDr.out.kept K2 (fun hm => by have := hown _ hm; have := HDB.out; omega)).c (j := 1) rfl
   obtain ⟨v3, y3, hrun3, hO3, hk3⟩ := run_appSl y2 B (.slice o2 (m + xb.length) p2) _ ((bs.drop lo).take mm) hO2 co mm cc hcin.len hcin.sl hcin.nil (by have := own_len hO2; rw [this]; have := HXX.out.2.2.2.2; omega) (Nat.le_trans HBX.out (Nat.le_of_lt (heap_lt hXy2)))
   obtain ⟨o3, p3, rfl, _⟩ := own_shape hO3
   have hl3 : (doIs d.size bs (d.steps.take k) ++ xb ++ (bs.drop lo).take mm).length = m + xb.length + mm := by rw [List.length_append, own_len hO2, hcin.len]
   rw [hl3] at hrun3
   have hO3 : OwnB y3 B (.slice o3 (m + xb.length + mm) p3) (doIs d.size bs (d.steps.take k) ++ xb ++ (bs.drop lo).take mm) := by have h := hO3; rw [hl3] at h; exact h
   have hown2 : ∀ i, i ∈ (Value.slice o2 (m + xb.length) p2).ownBlock.toList -> B <= i := fun i hi => (hO2.far i (by simpa using hi)).1
   have HPF : Hid (OwnB y3 B (.slice o3 (m + xb.length + mm) p3) (doIs d.size bs (d.steps.take (k + 1))) ∧ m + xb.length + mm = total d.size (d.steps.take (k + 1)) ∧ Kept [] v1 y3) := by
    refine ⟨?_, ?_, ?_⟩
    ·rw [HXX.out.2.2.2.1, doIs_snoc, HXX.out.2.2.1, <-List.append_assoc]; exact hO3
    ·rw [HXX.out.2.2.2.1, total_snoc, <-HS.out.2.1, HLE.out]; omega
    ·exact (HS.out.2.2.trans K2 (fun i hi hl => by have := hown i hi; have := HBe.out; omega)).trans hk3 (fun i hi hl => by have := hown2 i hi; have := HBe.out; omega)
   have hm3 : m + xb.length + mm <= 131072 := by have := HXX.out.2.2.2.2; omega
   clear hO3 hk3 hO2 hk2 hown hown2 K2 kw2 hcin hXy2 hOy hxin HXX HLE HS HKr HDr hl2 hl3
   go_upto_region 14 with (refine wpList_app_run rfl (.tmp 47) (.tmp 49) 27 27 rfl (.slice mo m mc) (.slice xo xn xp) rfl rfl (.slice o2 (m + xb.length) p2) y2 hrun2 ?_)
   clear hrun2 c2x
   go_upto_region 11 with (refine wpList_app_run rfl (.tmp 51) (.tmp 66) 27 27 rfl (.slice o2 (m + xb.length) p2) (.slice co mm cc) rfl rfl (.slice o3 (m + xb.length + mm) p3) y3 hrun3 ?_)
   clear hrun3 hcut c20 c21 cd1 hw1 hw2 hw3
   go_wp2
   go_roundw
   case rel => exact ⟨k + 1, o3, m + xb.length + mm, p3, by omega, hm3, rfl, by go_num, HPF⟩
   case measure => simp [intOf]; omega
  ·obtain rfl : k = q := by omega
   have htq : d.steps.take k = d.steps := List.take_of_length_le (by rw [HQ.out]; exact Nat.le_refl _)
   have hO := HS.out.1
   rw [htq] at hO
   have hOi := own_in8 (show wr.ownsRow B 5 1 (.slice mo m mc) m (bys (doIs d.size bs d.steps)) by have h := hO; unfold OwnB at h; rw [own_len hO] at h; exact h)
   have HOF2 := hide (fun X (hX : Kept [] wr X) => rof_ok (d.width : Int) mo m mc (doIs d.size bs d.steps) X hOi.len (by omega) (hOi.sl.kept hX (by simp)) hOi.nil)
   obtain ⟨I2, hI2⟩ := nm (Sha.ident (d.width : Int) (doIs d.size bs d.steps))
   have hI2l : I2.length = 32 := by rw [<-hI2]; exact Sha.ident_len _ _
   rw [hI2] at HOF2 HT
   have c0 := HDr.out.c (j := 0) rfl
   have hile := idlen d.ht
   have HOB := hide hO
   clear hO hOi hI2 htq HS
   go_upto_region 15 with (fail)
   cases t with
   | true =>
    have hid : I2 = d.tid := of_decide_eq_true HT.out
    have heq : ∀ W, (Op.equalIn 10000 23 (.agg (bys I2).toArray) (.agg (bys d.tid).toArray)).run Tryz.prog W = .ok true W := fun W => by rw [Tryz.eqlID I2 d.tid hI2l d.ht W, decide_eq_true hid]
    clear hid HT cv
    refine th wr fun h0 => ?_
    generalize World.drew wr = v0 at h0  ⊢
    refine t1 0 (.pointer (some ⟨D, 0, none⟩)) h0 ?_
    simp only [zz]
    refine t2 1 (.int .i64 ((d.width : Nat) : Int)) rfl h0 ?_ (fun w h => by have c := qc h c0; go_simp)
    simp only [zz]
    refine t1 2 (.slice mo m mc) h0 ?_
    simp only [zz]
    refine t1 4 (.pointer (some ⟨D, 36, none⟩)) h0 ?_
    simp only [zz]
    refine t4 5 (.agg (bys d.tid).toArray) rfl (yieldsIf_load_mid (by rfl) _ _ rfl D 36 rfl (bys d.tid) _ (fun W h => (HDr.out.kept h (by simp)).st) Tryz.underlying23 rfl hile) h0 ?_
    simp only [zz]
    refine rd 3 fun K hK => ?_
    go_simp
    refine (HOF2.out v0 h0).mono ?_
    rintro e v1 ⟨rfl, hk3⟩
    refine hK.out _ _ (h0.tr hk3) (fun h1 => ?_)
    clear hK K
    try simp only [zz]
    clear hk3 h0
    refine t1 6 (.bool false) h1 ?_
    simp only [zz]
    refine qd ?_
    have HKF := hide (HKr.out.tr h1)
    have HOF := hide (HOB.out.kept h1 (by simp))
    clear h1 HOF2 c0
    go_wp2
    go_ret2
    refine ⟨⟨mo, mc, ?_, ?_⟩, HKF.out⟩
    ·rw [own_len HOF.out]; rfl
    ·have h := HOF.out
     have hl := own_len HOF.out
     unfold OwnB at h
     rw [hl] at h ⊢
     exact own_base h (by have := HDB.out; omega)
   | false =>
    have hid : ¬ I2 = d.tid := of_decide_eq_false HT.out
    have heq : ∀ W, (Op.equalIn 10000 23 (.agg (bys I2).toArray) (.agg (bys d.tid).toArray)).run Tryz.prog W = .ok false W := fun W => by rw [Tryz.eqlID I2 d.tid hI2l d.ht W, decide_eq_false hid]
    clear hid HT cv
    refine th wr fun h0 => ?_
    generalize World.drew wr = v0 at h0  ⊢
    refine t1 0 (.pointer (some ⟨D, 0, none⟩)) h0 ?_
    simp only [zz]
    refine t2 1 (.int .i64 ((d.width : Nat) : Int)) rfl h0 ?_ (fun w h => by have c := qc h c0; go_simp)
    simp only [zz]
    refine t1 2 (.slice mo m mc) h0 ?_
    simp only [zz]
    refine t1 4 (.pointer (some ⟨D, 36, none⟩)) h0 ?_
    simp only [zz]
    refine t4 5 (.agg (bys d.tid).toArray) rfl (yieldsIf_load_mid (by rfl) _ _ rfl D 36 rfl (bys d.tid) _ (fun W h => (HDr.out.kept h (by simp)).st) Tryz.underlying23 rfl hile) h0 ?_
    simp only [zz]
    refine rd 3 fun K hK => ?_
    go_simp
    refine (HOF2.out v0 h0).mono ?_
    rintro e v1 ⟨rfl, hk3⟩
    refine hK.out _ _ (h0.tr hk3) (fun h1 => ?_)
    clear hK K
    try simp only [zz]
    clear hk3 h0
    refine t1 6 (.bool true) h1 ?_
    simp only [zz]
    refine qd ?_
    have HKF := hide (HKr.out.tr h1)
    clear h1 HOF2 c0
    go_wp2
    go_ret2
    exact ⟨⟨none, 0, rfl, World.ownsRow_nil _ _ _ _⟩, HKF.out⟩
theorem rapply_ok (bo : Option Addr) (bn bc : Nat) (bs : List UInt8) (ao : Option Addr) (n cap : Nat) (xs : List UInt8) (w : World) (hb : InB8 w bo bn bc bs) (h : InB8 w ao n cap xs) :
  Calls Tryz.prog 21 #[.slice bo bn bc, .slice ao n cap] w fun e w' => TellB w w' e (applyE bs xs) (applyB bs xs) ∧ Kept [] w w' := by
 have hbl := hb.len
 by_cases hl : 131072 < bn
 ·have e1 : applyE bs xs = 2 := by unfold applyE; rw [hbl, if_pos hl]
  have e2 : applyB bs xs = [] := by unfold applyB; rw [e1, if_neg (by decide)]
  rw [e1, e2]
  exact rapply_long bo bn bc bs ao n cap xs w hb h hl
 ·cases hd : decD xs with
  | none =>
   have e1 : applyE bs xs = 180 := by unfold applyE; rw [hbl, if_neg hl, hd]
   have e2 : applyB bs xs = [] := by unfold applyB; rw [e1, if_neg (by decide)]
   rw [e1, e2]
   exact rapply_none bo bn bc bs ao n cap xs w hb h (by omega) (by have := rread_ok ao n cap xs w h; rw [hd] at this; exact this)
  | some d =>
   by_cases hB : bs.length = d.blen ∧ Sha.ident d.width bs = d.bid
   ·have hr := rapply_rest bo bn bc bs ao n cap xs w hb h (by omega) d hd hB _ rfl
    by_cases hT : Sha.ident d.width (doIs d.size bs d.steps) = d.tid
    ·have e1 : applyE bs xs = 0 := by
      unfold applyE
      rw [if_neg (by omega), hd]
      show (if _ then _ else _) = _
      rw [if_pos hB, if_pos hT]
     have e2 : applyB bs xs = doIs d.size bs d.steps := by unfold applyB; rw [if_pos e1, hd]
     rw [decide_eq_true hT, if_pos rfl, if_pos rfl] at hr
     rw [e1, e2]
     exact hr
    ·have e1 : applyE bs xs = 182 := by
      unfold applyE
      rw [if_neg (by omega), hd]
      show (if _ then _ else _) = _
      rw [if_pos hB, if_neg hT]
     have e2 : applyB bs xs = [] := by unfold applyB; rw [e1, if_neg (by decide)]
     rw [decide_eq_false hT, if_neg (by simp), if_neg (by simp)] at hr
     rw [e1, e2]
     exact hr
   ·have e1 : applyE bs xs = 181 := by
     unfold applyE
     rw [if_neg (by omega), hd]
     show (if _ then _ else _) = _
     rw [if_neg hB]
    have e2 : applyB bs xs = [] := by unfold applyB; rw [e1, if_neg (by decide)]
    rw [e1, e2]
    exact rapply_base bo bn bc bs ao n cap xs w hb h (by omega) d hd hB
end Go.Proofs.YtmklodligplbaabGreat
