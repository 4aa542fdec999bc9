import Derived.Test.YtmklodligplbaabGreatD8dl
import Derived.Test.YtmklodligplbaabGreatProg
import Derived.Test.YtmklodligplbaabGreatPurel
import Derived.Test.YtmklodligplbaabGreatMeml
namespace Go.Proofs.YtmklodligplbaabGreat
section
open Go.RowKit
open Dlt
set_option linter.unusedVariables false
set_option linter.unusedSimpArgs false
theorem wpList_load_midW {ops : Array Oper} {rest : List Oper} {op : Oper} {a : Act} {w : World} {Q : Exit → Act → World → Prop} (ty : TypeId) (x : Operand) (ho : op.op = .load ty x)
  (b o : Nat) (hx : a.eval x = .pointer (some ⟨b, o, none⟩)) (cs : List Value) (d : TypeDesc) (hc : w.rangeAt b o cs)
  (hu : Tryz.prog.underlying ty = some d) (hd : d.isRow = true) (hi : (Tryz.prog.info? ty).map (·.size) = some cs.length) (hw : Region.wanted op (yielded ops a.tmps) = true)
  (h : wpList Tryz.prog ops Q rest (a.put op.dst (.agg cs.toArray)) w) : wpList Tryz.prog ops Q (op :: rest) a w :=
 BigFrame.wpList_want hw fun _ hK => wp_load_mid ty x ho b o hx cs d hc hu hd hi (hK _ _ h)
theorem row_rangeK {w : World} {g : Nat} {cs : List Value} {t : TypeId} {f : Nat × Nat} (h : w.heap[g]? = some (.cells cs.toArray t f)) : w.rangeAt g 0 cs := fun j v hv => by
 rw [Nat.zero_add, cell_of_row _ _ _ _ _ _ h]; simpa using hv
theorem idlen {id : List UInt8} (h : id.length = 32) : (Tryz.prog.info? 23).map (·.size) = some (bys id).length := by rw [bys_length, h]; exact Tryz.infoIDS
set_option maxHeartbeats 1600000 in
set_option maxRecDepth 100000 in
theorem isWeak_ok (W : Nat) (k : Wk) (w : World) (hW : W ≤ 32) :
  Calls Tryz.prog 65 #[.int .i64 W, .agg k.cells.toArray] w fun e w' => e = .returned (.bool (okWk W k)) ∧ Kept [] w w' := by
 have hrow := row_rangeK (heap_new w (.cells k.cells.toArray 62))
 have hK : Kept [] w (w.alloc (.cells k.cells.toArray 62)) := (Kept.refl [] w).alloc _
 have c0 := hrow 0 _ k.su
 rw [Nat.zero_add] at c0
 have hid := wk_range hrow
 have hil := idlen k.hid
 have hwi := within_ok k.sum 0 4294967295 (w.alloc (.cells k.cells.toArray 62))
 have hnb := isID_ok W k.id (w.alloc (.cells k.cells.toArray 62)) hW k.hid
 have HO : Hid (okWk W k = (Dlt.within k.sum 0 4294967295 && nought W k.id)) := rfl
 generalize nought W k.id = nb at hnb HO
 generalize Dlt.within k.sum 0 4294967295 = wi at hwi HO
 clear hrow
 cases wi with
 | false =>
  go_enter Tryz.func65, Tryz.ntmps65
  go_wp2_with (go_at_call 64; refine hwi.mono ?_; rintro r w' ⟨rfl, hw⟩; obtain rfl := hw.symm)
  go_ret
  exact ⟨by rw [HO.out]; rfl, hK⟩
 | true =>
  go_enter Tryz.func65, Tryz.ntmps65
  go_wp2_with (first
   | (go_at_call 64; refine hwi.mono ?_; rintro r w' ⟨rfl, hw⟩; obtain rfl := hw.symm; clear hwi)
   | refine wpList_load_midW 23 (.tmp 10) rfl w.heap.size 1 rfl (bys k.id) _ hid Tryz.underlying23 rfl hil (by kernel_rfl) ?_
   | (go_at_call 66; refine hnb.mono ?_; rintro r w2 ⟨rfl, hk2⟩; have H2 := hide hk2; clear hnb hk2))
  go_ret
  exact ⟨by rw [HO.out]; rfl, hK.trans H2.out (by simp)⟩
theorem Tryz.infoWk (k : Wk) : (Tryz.prog.info? 62).map (·.size) = some k.cells.length := by rw [k.len]; exact Tryz.infoWeakS
theorem Tryz.infoWkA (k : Wk) : (Tryz.prog.info? 62).map (·.size) = some k.cells.toArray.size := by rw [wk_size]; exact Tryz.infoWeakS
theorem zeroK_size (k : Wk) : zeroK.size = k.cells.toArray.size := by rw [wk_size]; rfl
def withWk (w : World) (k : Wk) : World := (w.alloc (.cells zeroK 62)).setRow w.heap.size k.cells.toArray
theorem withWk_kept (w : World) (k : Wk) : Kept [] w (withWk w k) := ((Kept.refl [] w).alloc _).trans (kept_row _ _ _) (by simp)
theorem withWk_row (w : World) (k : Wk) : (withWk w k).heap[w.heap.size]? = some (.cells k.cells.toArray 62 (0, 0)) := setRow_heap _ _ _ _ _ _ (heap_new w _)
structure SigIn (w : World) (s : Sig) (ao : Option Addr) (n cap : Nat) : Prop where
 len : s.blocks.length = n
 le : n ≤ cap
 max : cap ≤ 9223372036854775807
 at_ : Wks w ao s.blocks
theorem SigIn.kept {w w' : World} {s : Sig} {ao : Option Addr} {n cap : Nat} (h : SigIn w s ao n cap) (hk : Kept [] w w') : SigIn w' s ao n cap := ⟨h.len, h.le, h.max, h.at_.kept hk (by simp)⟩
theorem all_step {L : List Wk} {k W : Nat} (hk : k < L.length) (ha : (L.take k).all (okWk W) = true) (hz : okWk W (L.getD k wk0) = true) : (L.take (k + 1)).all (okWk W) = true := by
 rw [List.take_succ_eq_append_getElem hk, List.all_append, ha]
 have e : L[k] = L.getD k wk0 := by simp [List.getElem?_eq_getElem hk]
 simp only [List.all_cons, List.all_nil, Bool.and_true, Bool.true_and]
 rw [e]; exact hz
theorem all_no {L : List Wk} {k W : Nat} (hk : k < L.length) (hz : okWk W (L.getD k wk0) = false) : L.all (okWk W) = false := by
 apply Bool.eq_false_iff.2
 intro h
 have e : L[k] = L.getD k wk0 := by simp [List.getElem?_eq_getElem hk]
 have := List.all_eq_true.1 h L[k] (List.getElem_mem _)
 rw [e, hz] at this
 cases this
set_option maxHeartbeats 3200000 in
set_option maxRecDepth 100000 in
theorem mayBe_head (s : Sig) (ao : Option Addr) (n cap : Nat) (w : World) (hI : SigIn w s ao n cap) (hb : (Dlt.isW s.width && Dlt.isZ s.size && Dlt.within s.length 0 131072) = false) :
  Calls Tryz.prog 28 #[.agg (s.cells (.slice ao n cap)).toArray] w fun e w' => e = .returned (.bool (may s)) ∧ Kept [] w w' := by
 have hA := SigAt.new w s (.slice ao n cap)
 have hK : Kept [] w (w.alloc (.cells (s.cells (.slice ao n cap)).toArray 26)) := (Kept.refl [] w).alloc _
 have c0 := hA.cell (s.c0 _)
 have c1 := hA.cell (s.c1 _)
 have c2 := hA.cell (s.c2 _)
 have HM : Hid (may s = false) := by
  show may s = false
  unfold may
  rw [hb]
  rfl
 have h1 := isWidth_ok s.width (w.alloc (.cells (s.cells (.slice ao n cap)).toArray 26))
 have h2 := isSize_ok s.size (w.alloc (.cells (s.cells (.slice ao n cap)).toArray 26))
 have h3 := within_ok s.length 0 131072 (w.alloc (.cells (s.cells (.slice ao n cap)).toArray 26))
 generalize Dlt.isW s.width = b1 at h1 hb
 generalize Dlt.isZ s.size = b2 at h2 hb
 generalize Dlt.within s.length 0 131072 = b3 at h3 hb
 clear hA hI
 cases b1 with
 | false =>
  clear hb
  go_enter Tryz.func28, Tryz.ntmps28
  go_wp2_with (go_at_call 43; refine h1.mono ?_; rintro r w' ⟨rfl, hw⟩; obtain rfl := hw.symm)
  go_ret
  exact ⟨by rw [HM.out]; rfl, hK⟩
 | true =>
  cases b2 with
  | false =>
   clear hb
   go_enter Tryz.func28, Tryz.ntmps28
   go_wp2_with (first
    | (go_at_call 43; refine h1.mono ?_; rintro r w' ⟨rfl, hw⟩; obtain rfl := hw.symm)
    | (go_at_call 44; refine h2.mono ?_; rintro r w' ⟨rfl, hw⟩; obtain rfl := hw.symm))
   go_ret
   exact ⟨by rw [HM.out]; rfl, hK⟩
  | true =>
   cases b3 with
   | true => simp at hb
   | false =>
    clear hb
    go_enter Tryz.func28, Tryz.ntmps28
    go_wp2_with (first
     | (go_at_call 43; refine h1.mono ?_; rintro r w' ⟨rfl, hw⟩; obtain rfl := hw.symm)
     | (go_at_call 44; refine h2.mono ?_; rintro r w' ⟨rfl, hw⟩; obtain rfl := hw.symm)
     | (go_at_call 64; refine h3.mono ?_; rintro r w' ⟨rfl, hw⟩; obtain rfl := hw.symm))
    go_ret
    exact ⟨by rw [HM.out]; rfl, hK⟩
set_option maxHeartbeats 6400000 in
set_option maxRecDepth 100000 in
theorem mayBe_tail (s : Sig) (ao : Option Addr) (n cap : Nat) (w : World) (hI : SigIn w s ao n cap) (hb1 : Dlt.isW s.width = true) (hb2 : Dlt.isZ s.size = true) (hb3 : Dlt.within s.length 0 131072 = true) :
  Calls Tryz.prog 28 #[.agg (s.cells (.slice ao n cap)).toArray] w fun e w' => e = .returned (.bool (may s)) ∧ Kept [] w w' := by
 have hA := SigAt.new w s (.slice ao n cap)
 have hK : Kept [] w (w.alloc (.cells (s.cells (.slice ao n cap)).toArray 26)) := (Kept.refl [] w).alloc _
 have c0 := hA.cell (s.c0 _)
 have c1 := hA.cell (s.c1 _)
 have c2 := hA.cell (s.c2 _)
 have c4 := hA.cell (s.cv _)
 have h1 := isWidth_ok s.width (w.alloc (.cells (s.cells (.slice ao n cap)).toArray 26))
 have h2 := isSize_ok s.size (w.alloc (.cells (s.cells (.slice ao n cap)).toArray 26))
 have h3 := within_ok s.length 0 131072 (w.alloc (.cells (s.cells (.slice ao n cap)).toArray 26))
 have HM : Hid (may s = (decide ((s.blocks.length : Int) = s.length / s.size) && decide (s.blocks.length ≤ 2048) && s.blocks.all (okWk s.width.toNat) && nought s.width.toNat s.base)) := by
  show may s = _
  unfold may
  rw [hb1, hb2, hb3]
  rfl
 rw [hb1] at h1
 rw [hb2] at h2
 rw [hb3] at h3
 have HI := hide (hI.kept hK)
 have HA := hide hA
 rw [isW, Dlt.within_iff] at hb1
 rw [isZ, Dlt.within_iff] at hb2
 rw [Dlt.within_iff] at hb3
 obtain ⟨W, hW⟩ := Int.eq_ofNat_of_zero_le (show 0 ≤ s.width by omega)
 have HWW := hide hW
 obtain ⟨Z, hZ⟩ := Int.eq_ofNat_of_zero_le (show 0 ≤ s.size by omega)
 obtain ⟨N, hN⟩ := Int.eq_ofNat_of_zero_le (show 0 ≤ s.length by omega)
 rw [hW] at c0 h1 hb1 HM
 rw [hZ] at c1 h2 hb2 HM
 rw [hN] at c2 h3 hb3 HM
 rw [Int.toNat_natCast, hI.len, ← Int.natCast_ediv] at HM
 have hW32 : W ≤ 32 := by omega
 obtain ⟨q, hq⟩ : ∃ q, N / Z = q := ⟨_, rfl⟩
 rw [hq] at HM
 have hqn : q ≤ 131072 := by rw [← hq]; exact Nat.le_trans (Nat.div_le_self _ _) (by omega)
 have hdiv : (N : Int).tdiv (Z : Int) = (q : Int) := by rw [← hq, Int.ofNat_tdiv]
 have hz0 : ((Z : Int) == 0) = false := by simp; omega
 have hzz : (Z : Int) ≠ 0 := by omega
 have hle := hI.le
 have hmx := hI.max
 have hmn : n ≤ 9223372036854775807 := by omega
 have hzk := Tryz.zeroWeak
 clear hA hI hW hZ hN hq hb1 hb2 hb3 hle hmx
 obtain ⟨G, hG⟩ : ∃ G, w.heap.size = G := ⟨_, rfl⟩
 rw [hG] at c0 c1 c2 c4 HA
 go_enter Tryz.func28, Tryz.ntmps28
 go_upto_region 1 with (fail)
 have HG : Hid (G < (w.alloc (.cells (s.cells (.slice ao n cap)).toArray 26)).heap.size) := by show _ < _; rw [← hG]; simp
 clear hG
 generalize w.alloc (.cells (s.cells (.slice ao n cap)).toArray 26) = w1 at *
 go_upto_region 3 with (first
  | (go_at_call 43; refine h1.mono ?_; rintro r w' ⟨rfl, hw⟩; obtain rfl := hw.symm)
  | (go_at_call 44; refine h2.mono ?_; rintro r w' ⟨rfl, hw⟩; obtain rfl := hw.symm)
  | (go_at_call 64; refine h3.mono ?_; rintro r w' ⟨rfl, hw⟩; obtain rfl := hw.symm))
 clear h1 h2 h3
 by_cases hc : n = q
 ·subst hc
  have hne : ((n : Int) != (n : Int)) = false := by simp
  by_cases hf : n ≤ 2048
  ·have hf' : ¬ (2048 : Int) < (n : Int) := by omega
   have HM2 : Hid (may s = (s.blocks.all (okWk W) && nought W s.base)) := by
    show may s = _
    rw [HM.out]; simp [hf]
   clear HM
   go_quiet (fail)
   have hk2 : Kept [] w1 (w1.drewN nq) := (Kept.refl [] w1).drewN _
   generalize w1.drewN nq = w2 at hk2 ⊢
   replace HI := hide (HI.out.kept hk2)
   replace HA := hide (HA.out.kept hk2 (by simp))
   replace HG := hide (Nat.lt_of_lt_of_le HG.out hk2.size)
   have HK2 := hide (hK.trans hk2 (by simp))
   clear hK hk2 c0 c1 c2 hne hf' hdiv hz0 hzz hqn
   replace c4 := HA.out.cell (s.cv _)
   clear c4
   have c4 := HA.out.cell (s.cv _)
   go_wp2
   go_loopw [39] (fun x wr => ∃ k : Nat, k ≤ n ∧ x = .int .i64 k ∧ Hid ((s.blocks.take k).all (okWk W) = true) ∧ Hid (Kept [] w2 wr)) (fun x wr => n - (intOf x).toNat)
   case atStart => exact ⟨0, Nat.zero_le _, rfl, rfl, Kept.refl _ _⟩
   case round =>
    obtain ⟨k, hk, rfl, HAL, HKR⟩ := hrel
    have hA := HA.out.kept HKR.out (by simp)
    have c0 := hA.cell (s.c0 _)
    rw [HWW.out] at c0
    by_cases hlt : k < n
    ·have hkl : k < s.blocks.length := by rw [HI.out.len]; exact hlt
     obtain ⟨b, off, rfl, hrg⟩ := (HI.out.at_.kept HKR.out (by simp)) k hkl
     have HS1 : Hid (okWk W (s.blocks.getD k wk0) = true → (s.blocks.take (k + 1)).all (okWk W) = true) := fun h => all_step hkl HAL.out h
     have HS2 : Hid (okWk W (s.blocks.getD k wk0) = false → s.blocks.all (okWk W) = false) := fun h => all_no hkl h
     generalize s.blocks.getD k wk0 = e at hrg HS1 HS2
     have hnz := heap_new wr (.cells zeroK 62)
     have hil := Tryz.infoWk e
     have hia := Tryz.infoWkA e
     have hzs := zeroK_size e
     have hal := wk_all e
     have hkw := withWk_kept wr e
     have hrw := row_rangeK (withWk_row wr e)
     have hiw := isWeak_ok W e (withWk wr e) hW32
     have c0' := hkw.cellOf c0 (by simp)
     clear c0 hA
     go_upto_region 8 with (first | refine wpList_load_mid rfl 62 (.tmp 41) rfl b (off + k * 33) rfl e.cells _ hrg Tryz.underlying62 rfl hil ?_ | refine wpList_store_rowTo rfl 62 (.tmp 4) (.tmp 42) rfl rfl wr.heap.size e.cells.toArray rfl rfl 62 zeroK hnz hia hzs hal ?_)
     have hW : (wr.alloc (.cells zeroK 62)).setRow wr.heap.size e.cells.toArray = withWk wr e := rfl
     rw [hW]
     have HKW := hide (HKR.out.trans hkw (by simp))
     clear hrg hia hzs hal hnz hW hkw
     generalize withWk wr e = W2 at *
     generalize okWk W e = ok at hiw HS1 HS2
     cases ok with
     | true =>
      go_wp2_with (first
       | refine wpList_load_mid rfl 62 (.tmp 4) rfl wr.heap.size 0 rfl e.cells _ hrw Tryz.underlying62 rfl hil ?_
       | (go_at_call 65; refine hiw.mono ?_; rintro r w4 ⟨rfl, hk4⟩; have HK4 := hide hk4; clear hiw hk4))
      go_roundw
      case rel => exact ⟨k + 1, by omega, by go_num, hide (HS1.out (by first | rfl | trivial)), hide (HKW.out.trans HK4.out (by simp))⟩
      case measure => simp [intOf]; omega
     | false =>
      have HF : Hid (may s = false) := by
       show may s = false
       rw [HM2.out, HS2.out rfl]; rfl
      go_wp2_with (first
       | refine wpList_load_mid rfl 62 (.tmp 4) rfl wr.heap.size 0 rfl e.cells _ hrw Tryz.underlying62 rfl hil ?_
       | (go_at_call 65; refine hiw.mono ?_; rintro r w4 ⟨rfl, hk4⟩; have HK4 := hide hk4; clear hiw hk4))
      go_ret
      exact ⟨by rw [HF.out]; rfl, (HK2.out.trans HKW.out (by simp)).trans HK4.out (by simp)⟩
    ·obtain rfl : k = n := by omega
     have HF : Hid (may s = nought W s.base) := by
      have h := HAL.out
      rw [List.take_of_length_le (by rw [HI.out.len]; exact Nat.le_refl _)] at h
      show may s = _
      rw [HM2.out, h]; rfl
     have hib := isID_ok W s.base wr hW32 s.hb
     have hbr := hA.base
     have hil := idlen s.hb
     generalize nought W s.base = nb at hib HF
     clear hA
     go_wp2_with (first
      | refine wpList_load_mid rfl 23 (.tmp 51) rfl G 3 rfl (bys s.base) _ hbr Tryz.underlying23 rfl hil ?_
      | (go_at_call 66; refine hib.mono ?_; rintro r w4 ⟨rfl, hk4⟩; have HK4 := hide hk4; clear hib hk4))
     go_ret
     exact ⟨by rw [HF.out]; rfl, (HK2.out.trans HKR.out (by simp)).trans HK4.out (by simp)⟩
  ·have hf' : (2048 : Int) < (n : Int) := by omega
   have HM2 : Hid (may s = false) := by
    show may s = _
    rw [HM.out]; simp [hf]
   go_quiet (fail)
   go_wp2
   go_ret
   exact ⟨by rw [HM2.out]; rfl, hK.drewN _⟩
 ·have hne : ((n : Int) != (q : Int)) = true := by simp; omega
  have HM2 : Hid (may s = false) := by
   show may s = _
   rw [HM.out]
   have : decide ((n : Int) = (q : Int)) = false := by simp; omega
   rw [this]; rfl
  go_quiet (fail)
  go_wp2
  go_ret
  exact ⟨by rw [HM2.out]; rfl, hK.drewN _⟩
theorem mayBe_ok (s : Sig) (ao : Option Addr) (n cap : Nat) (w : World) (hI : SigIn w s ao n cap) :
  Calls Tryz.prog 28 #[.agg (s.cells (.slice ao n cap)).toArray] w fun e w' => e = .returned (.bool (may s)) ∧ Kept [] w w' := by
 cases hb : (Dlt.isW s.width && Dlt.isZ s.size && Dlt.within s.length 0 131072) with
 | false => exact mayBe_head s ao n cap w hI hb
 | true =>
  rw [Bool.and_eq_true, Bool.and_eq_true] at hb
  exact mayBe_tail s ao n cap w hI hb.1.1 hb.1.2 hb.2
end

section
open Go.RowKit
set_option linter.unusedVariables false
set_option maxHeartbeats 400000 in
theorem sum_some (b off len cap : Nat) (xs : List UInt8) (w : World) (hm : len ≤ 9223372036854775807) (hb : b < w.heap.size) (hl : xs.length = len) (hc : ∀ i, i < xs.length → w.cell? ⟨b, off + i, none⟩ = some (.int .u8 (xs.getD i 0).toNat)) :
  Calls Tryz.prog 107 #[.slice (some ⟨b, off, none⟩) len cap] w fun e w' => e = .returned (.int .i64 (Pure.sum xs)) ∧ Below w.heap.size w w' := by
 go_enter Tryz.func107, Tryz.ntmps107
 go_wp2
 have hB : Below w.heap.size w (w.alloc (.cells ((Pure.tbl.map (fun n : Nat => Value.int .u32 n)).toArray) 183)) := (Below.refl _ _).alloc (Nat.le_refl _) _
 have hT : ∀ i : Nat, i < 16 → (w.alloc (.cells ((Pure.tbl.map (fun n : Nat => Value.int .u32 n)).toArray) 183)).cell? ⟨w.heap.size, i, none⟩ = some (.int .u32 (Pure.tb i)) := by
  intro i hi
  rw [World.cell?_alloc_new]
  simp [Pure.tb, List.getElem?_map, List.getElem?_eq_getElem (show i < Pure.tbl.length from hi)]
 have hC : ∀ i, i < len → (w.alloc (.cells ((Pure.tbl.map (fun n : Nat => Value.int .u32 n)).toArray) 183)).cell? ⟨b, off + i, none⟩ = some (.int .u8 (xs.getD i 0).toNat) := by
  intro i hi
  rw [World.cell?_alloc_lt _ _ _ hb]; exact hc i (by omega)
 simp only [Pure.tbl, List.map] at hB hT hC
 generalize w.alloc _ = w1 at hB hT hC ⊢
 go_loop [4, 10] (fun r i => ∃ k : Nat, k ≤ len ∧ i = .int .i64 k ∧ r = .int .u32 (Pure.crc 4294967295 (xs.take k))) (fun _ i => len - (intOf i).toNat)
 case atStart => exact ⟨0, Nat.zero_le _, rfl, rfl⟩
 case round =>
  obtain ⟨k, hk, rfl, rfl⟩ := hrel
  have hx1 : Pure.crc 4294967295 (xs.take k) < 4294967296 := Pure.crc_lt (by omega) _
  by_cases hlt : k < len
  ·have hcell := hC k hlt
   have hcb : (xs.getD k 0).toNat < 256 := UInt8.toNat_lt _
   have HS : Hid (Pure.crc 4294967295 (xs.take (k + 1)) = Pure.crcStep (Pure.crc 4294967295 (xs.take k)) (xs.getD k 0).toNat) := by
    show _ = _
    rw [Pure.take_snoc xs 0 k (by omega), Pure.crc_snoc]
   generalize Pure.crc 4294967295 (xs.take k) = x at hx1 HS ⊢
   generalize (xs.getD k 0).toNat = c at hcell hcb HS
   have e1 := u32_xor_nat x c hx1 (by omega)
   have b1 := Pure.xor_lt32 hx1 (show c < 4294967296 by omega)
   have e2 : bits .and .u32 ((x ^^^ c : Nat) : Int) 15 = (((x ^^^ c) % 16 : Nat) : Int) := by rw [← nat_mask4]; exact u32_and_nat (x ^^^ c) 15 b1 (by omega)
   have e3 : bits .xor .u32 ((x ^^^ c : Nat) / 16 : Int) (Pure.tb ((x ^^^ c) % 16)) = (Pure.nib (x ^^^ c) : Nat) := by
    rw [show ((x ^^^ c : Nat) / 16 : Int) = (((x ^^^ c) / 16 : Nat) : Int) by omega]
    exact u32_xor_nat _ _ (by omega) (Pure.tb_lt _)
   have HS' : Hid (Pure.crc 4294967295 (xs.take (k + 1)) = Pure.nib (Pure.nib (x ^^^ c))) := HS
   clear HS
   have b2 := Pure.nib_lt b1
   have hT1 := hT ((x ^^^ c) % 16) (by omega)
   generalize x ^^^ c = y at e1 b1 e2 e3 b2 hT1 HS'
   have e4 : bits .and .u32 (Pure.nib y : Int) 15 = ((Pure.nib y % 16 : Nat) : Int) := by rw [← nat_mask4]; exact u32_and_nat _ 15 b2 (by omega)
   have e5 : bits .xor .u32 (Pure.nib y / 16 : Int) (Pure.tb (Pure.nib y % 16)) = (Pure.nib (Pure.nib y) : Nat) := by
    rw [show (Pure.nib y / 16 : Int) = ((Pure.nib y / 16 : Nat) : Int) by omega]
    exact u32_xor_nat _ _ (by omega) (Pure.tb_lt _)
   have hT2 := hT (Pure.nib y % 16) (by omega)
   clear hC hc hB hT
   go_wp2
   go_round
   case rel => exact ⟨k + 1, by omega, by go_num, by rw [HS'.out]⟩
   case measure => simp [intOf]; omega
  ·have HT : Hid (xs.take k = xs) := List.take_of_length_le (by omega)
   have hsg : IntKind.u32.signed = false := rfl
   have e6 : bits .xor .u32 IntKind.u32.max (Pure.crc 4294967295 (xs.take k)) = (Pure.sum xs : Nat) := by
    have := u32_xor_nat 4294967295 _ (by omega) hx1
    rw [Pure.ones_xor hx1, HT.out] at this
    rw [HT.out]
    exact this
   have hsl : Pure.sum xs ≤ 4294967295 := Nat.sub_le _ _
   clear hC hc hT
   generalize Pure.crc 4294967295 (xs.take k) = x at e6 ⊢
   go_wp2
   go_ret
   exact ⟨rfl, hB⟩
set_option maxHeartbeats 400000 in
theorem sum_empty (ao : Option Addr) (cap : Nat) (w : World) :
  Calls Tryz.prog 107 #[.slice ao 0 cap] w fun e w' => e = .returned (.int .i64 (Pure.sum [])) ∧ Below w.heap.size w w' := by
 have hsg : IntKind.u32.signed = false := rfl
 have e6 : bits .xor .u32 IntKind.u32.max 4294967295 = 0 := rfl
 go_enter Tryz.func107, Tryz.ntmps107
 go_wp2
 go_loop [4, 10] (fun r i => i = .int .i64 0 ∧ r = .int .u32 4294967295) (fun _ i => 0)
 case atStart => exact ⟨rfl, rfl⟩
 case round =>
  obtain ⟨rfl, rfl⟩ := hrel
  go_wp2
  go_ret
  exact ⟨rfl, (Below.refl _ _).alloc (Nat.le_refl _) _⟩
theorem sum_any (ao : Option Addr) (cap : Nat) (xs : List UInt8) (w : World) (hm : xs.length ≤ 9223372036854775807) (h : Sl w ao xs) :
  Calls Tryz.prog 107 #[.slice ao xs.length cap] w fun e w' => e = .returned (.int .i64 (Pure.sum xs)) ∧ Below w.heap.size w w' := by
 by_cases hn : xs = []
 ·subst hn
  exact sum_empty ao cap w
 ·obtain ⟨b, off, rfl, hb, hc⟩ := h.open hn
  exact sum_some b off xs.length cap xs w hm hb rfl hc
theorem sum_n (ao : Option Addr) (n cap : Nat) (xs : List UInt8) (w : World) (hn : xs.length = n) (hm : xs.length ≤ 9223372036854775807) (h : Sl w ao xs) :
  Calls Tryz.prog 107 #[.slice ao n cap] w fun e w' => e = .returned (.int .i64 (Pure.sum xs)) ∧ Below w.heap.size w w' := by
 subst hn
 exact sum_any ao cap xs w hm h
end

end Go.Proofs.YtmklodligplbaabGreat
