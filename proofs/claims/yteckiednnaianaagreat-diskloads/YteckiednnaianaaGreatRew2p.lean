import Derived.Test.YteckiednnaianaaGreatRerp
namespace Go.Proofs.YteckiednnaianaaGreat
open Go.RowKit Dsk
set_option linter.unusedVariables false
set_option linter.unusedSimpArgs false
section
variable {w : World} {q : Nat} {S : Ds} {A : Nat → Nat} {o : Lab} {nv bv tv sv : Value}
def RTwin (w w' : World) (S : Ds) (e : Ending) : Prop := ∃ X, e = .returned (.pointer (some ⟨X, 0, none⟩)) ∧ ∃ B oX, RD w' X S B oX ∧ (∀ b, oX b ≠ 0 → w.heap.size ≤ b) ∧ Kept [] w w'
set_option maxHeartbeats 12800000 in
set_option maxRecDepth 100000 in
theorem rtwin_ok (h : RDx w q S A o nv bv tv sv) (hwf : S.Wf) {N : Nat} (hB : S.Bd N) (hN : N ≤ 268435456) :
  Calls Tryz.prog 97 #[.pointer (some ⟨q, 0, none⟩)] w fun e w' => RTwin w w' S e := by
 have hroom := hwf.room
 have hr0 : ((S.room : Int) == 0) = false := by simp; omega
 obtain ⟨no, nc, rfl⟩ := h.nvs
 obtain ⟨bo, bc, rfl⟩ := h.bvs
 obtain ⟨to, tc, rfl⟩ := h.tvs
 obtain ⟨so, sc, rfl⟩ := h.svs
 have c0 := h.cell 0 _ rfl
 have c1 := h.cell 1 _ rfl
 have c2 := h.cell 2 _ rfl
 have c3 := h.cell 3 _ rfl
 have c4 := h.cell 4 _ rfl
 have c5 := h.cell 5 _ rfl
 have c6 := h.cell 6 _ rfl
 have c7 := h.cell 7 _ rfl
 have c8 := h.cell 8 _ rfl
 have c9 := h.cell 9 _ rfl
 have c10 := h.cell 10 _ rfl
 obtain ⟨M1, hM1⟩ : ∃ M, S.shown.length = M := ⟨_, rfl⟩
 obtain ⟨M2, hM2⟩ : ∃ M, S.safe.length = M := ⟨_, rfl⟩
 obtain ⟨M3, hM3⟩ : ∃ M, S.row.length = M := ⟨_, rfl⟩
 obtain ⟨rn, hrn⟩ : ∃ M, S.reads.length = M := ⟨_, rfl⟩
 rw [hM1] at c2
 rw [hM2] at c3
 rw [hM3] at c4
 rw [hrn] at c10
 have hnm := hB.nm
 have hsh := hB.shown hwf
 have hrd := hB.reads
 have hm1 : M1 ≤ 268435456 := by omega
 have hm2 : M2 + M3 ≤ 268435456 := by omega
 have hrnb : rn ≤ 268435456 := by omega
 have HH := hide h
 have HWF := hide hwf
 have HB : Hid (S.Bd 268435456) := hide (hB.mono hN)
 have HM1 := hide hM1
 have HM2 := hide hM2
 have HM3 := hide hM3
 have HLL : Hid (S.lives.length ≤ 268435456) := hide (by have := lives_len S; omega)
 have C2 := hide c2
 have C3 := hide c3
 have C4 := hide c4
 obtain ⟨w1, hw1⟩ : ∃ w1, w1 = w.alloc (.cells #[.bool S.on, .int .i64 S.room, .slice none 0 0, .slice none 0 0, .slice none 0 0, .int .i64 S.strokes, .int .i64 S.planned, .int .i64 S.off, .int .i64 S.from_, .int .i64 S.to, .slice so rn sc] 74) := ⟨_, rfl⟩
 have hk1 : Kept [] w w1 := by rw [hw1]; exact (Kept.refl [] w).alloc _
 have hb1 : w1.heap[w.heap.size]? = some (.cells #[.bool S.on, .int .i64 S.room, .slice none 0 0, .slice none 0 0, .slice none 0 0, .int .i64 S.strokes, .int .i64 S.planned, .int .i64 S.off, .int .i64 S.from_, .int .i64 S.to, .slice so rn sc] 74 (0, 0)) := by rw [hw1]; exact (MapKept.heap_alloc w _).1
 have hs1 : w1.heap.size = w.heap.size + 1 := by rw [hw1]; simp
 have hto1 : w1.ownsRow 0 126 3 (.slice so rn sc) rn (Spv S.reads) := by
  have := own_keeps h.told (Keep.ofNone (F := fun _ => False) hk1) (fun _ _ h => h)
  rw [hrn] at this
  exact this
 obtain ⟨gs, cs, w7, hap, t1, t2, t3⟩ := run_freshS w1 60 60 126 Tryz.underlying60 Tryz.infoSpan rfl (by decide) _ _ _ hto1 (fun u hu => by
  simp only [Spv, List.mem_flatMap] at hu
  obtain ⟨s, _, hs⟩ := hu
  simp only [encSp, List.mem_cons, List.not_mem_nil, or_false] at hs
  rcases hs with rfl | rfl | rfl <;> rfl) (by unfold maxLen; omega) (by omega)
 have hb7 := (Keep.ofNone (F := fun _ => False) t2).heapOf hb1 (fun h => h)
 have d10 : w7.cell? ⟨w.heap.size, 10, none⟩ = some (.slice so rn sc) := by rw [cell_of_row w7 _ 10 _ _ _ hb7]; rfl
 have f10 : w7.frozen? ⟨w.heap.size, 10, none⟩ = false := frozen_of_row _ _ _ _ _ hb7
 have e10 : (w1.alloc (.cells #[] 126)).cell? ⟨q, 10, none⟩ = some (.slice so rn sc) := ((Kept.refl [] w1).alloc _).cellOf (hk1.cellOf c10 (by simp)) (by simp)
 obtain ⟨X, hX⟩ : ∃ X, X = w.heap.size := ⟨_, rfl⟩
 rw [← hX] at d10 f10 hb7
 obtain ⟨sv', hsv'⟩ : ∃ sv', sv' = Value.slice (some ⟨gs, 0, none⟩) rn cs := ⟨_, rfl⟩
 have HT0 : Hid (Tws w (w7.setCell ⟨X, 10, none⟩ sv') X S A A [] (fun b => if w.heap.size ≤ b ∧ b < w7.heap.size then 1 else 0) 0 (.slice none 0 0) (.slice none 0 0) sv') := hide (by
  have hk7 : Kept [] w (w7.setCell ⟨X, 10, none⟩ sv') := (hk1.trans t2 (by simp)).setCell (p := ⟨X, 10, none⟩) (fun hlt => by simp at hlt; omega) _
  have hK7 : Keep (· = X) w7 (w7.setCell ⟨X, 10, none⟩ sv') := (Keep.refl (· = X) w7).setCell (p := ⟨X, 10, none⟩) (fun _ => rfl) _
  have hs7 := t2.size
  have hsz : w7.heap.size = (w7.setCell ⟨X, 10, none⟩ sv').heap.size := by simp [World.setCell]
  have l1 : ∀ b, w.heap.size ≤ b → b < w7.heap.size → (fun b => if w.heap.size ≤ b ∧ b < w7.heap.size then 1 else 0) b = 1 := fun b h1 h2 => if_pos ⟨h1, h2⟩
  have htr : w7.ownsRow 0 126 3 sv' S.reads.length (Spv S.reads) := by rw [hsv', hrn]; exact t1
  refine ⟨⟨?_, World.ownsRow_nil _ _ _ _, World.ownsRow_nil _ _ _ _, World.ownsRow_nil _ _ _ _, own_keeps htr hK7 (own_types0 htr hb7 (by decide)), fun k hk => by simp [Ds.lives, Nm.ids, madeN] at hk, l1 X (by omega) (by omega), by simp [Value.ownBlock], by simp [Value.ownBlock], by simp [Value.ownBlock], fun g hg => l1 g ?_ (htr.lt g hg).2, fun b hb => ?_, h.pl⟩, rfl, World.ownsRow_nil _ _ _ _, World.ownsRow_nil _ _ _ _, by simp [Value.ownBlock], by simp, hk7, by simp [Value.ownBlock], by simp [Value.ownBlock], fun b hb => ?_, by simp, List.nodup_nil⟩
  ·rw [heap_setCell_same _ X 10 _ _ _ hb7]; simp
  ·rw [hsv'] at hg
   simp only [Value.ownBlock, Option.some.injEq] at hg
   omega
  ·by_cases hc : w.heap.size ≤ b ∧ b < w7.heap.size
   ·omega
   ·simp [hc] at hb
  ·by_cases hc : w.heap.size ≤ b ∧ b < w7.heap.size
   ·exact hc.1
   ·simp [hc] at hb)
 rw [← hsv'] at hap
 have hsv1 : sv'.oneCell' = true := by rw [hsv']; rfl
 have HSV := hide hsv'
 clear h hwf hB hnm hsh hrd hM1 hM2 hM3 hk1 hb1 hs1 hto1 t1 t2 t3 hb7 hsv'
 go_enter Tryz.func97, Tryz.ntmps97
 go_upto_region 7 with (fail)
 rw [← hw1, ← hX]
 clear hw1 hX hrn c0 c1 c2 c3 c4 c5 c6 c7 c8 c9 c10
 rw [HSV.out] at hap
 go_upto_region 8 with (at_builtin; refine wpList_app_run rfl _ _ 60 60 rfl _ _ rfl rfl _ _ hap ?_)
 rw [← HSV.out]
 clear d10 f10 e10 hap
 generalize w7.setCell _ _ = w9 at HT0 ⊢
 clear hsv1
 go_wp2
 go_loopw [4, 5, 6] (fun ov mv i wr => ∃ k n : Nat, k ≤ M1 ∧ n ≤ 268435456 ∧ i = .int .i64 k ∧ Hid (∃ K B oN, Tws w wr X S A B K oN n ov mv sv' ∧ True) ∧ (∃ oo oc, ov = .slice oo n oc) ∧ ∃ mo mc, mv = .slice mo n mc) (fun ov mv i wr => M1 - (intOf i).toNat)
 case atStart => exact ⟨0, 0, by omega, by omega, rfl, hide ⟨[], A, _, HT0.out, trivial⟩, ⟨_, _, rfl⟩, _, _, rfl⟩
 case round =>
  clear HT0
  obtain ⟨i, n, hi, hnb, rfl, HR, ⟨oo, oc, rfl⟩, mo, mc, rfl⟩ := hrel
  have hkw : Kept [] w wr := by obtain ⟨K, B, oN, hT, _⟩ := HR.out; exact hT.keep
  have c2 := hkw.cellOf C2.out (by simp)
  by_cases hlt : i < M1
  ·obtain ⟨⟨nm, id⟩, hp⟩ : ∃ p, S.shown[i]? = some p := ⟨S.shown[i]'(by rw [HM1.out]; exact hlt), List.getElem?_eq_getElem _⟩
   have hmem := List.mem_of_getElem? hp
   have hlv : id ∈ S.lives := Ds.shown_lives HWF.out hmem
   have hHr := HH.out.kept hkw
   obtain ⟨gn, hgn, _, cpn⟩ := nms_cell (n := M1) (l := S.shown) (A := A) (w := wr) (vo := no) (vc := nc) (by have := hHr.now; rw [HM1.out] at this ⊢; exact this) hp
   subst hgn
   obtain ⟨K, B, oN, hT, hcov⟩ := HR.out
   clear HR
   have hbl : ∀ j ∈ S.lives, ∃ cs, wr.heap[A j]? = some (.cells cs 78 (0, 0)) := fun j hj => by obtain ⟨_, _, _, _, ht⟩ := hHr.th j hj; exact ⟨_, ht.cells⟩
   have hinj : ∀ j ∈ K, A j = A id → j = id := fun j hj e => hHr.inj (hT.sub j hj) hlv e
   by_cases hid : id ∈ K
   ·have htw := twinSame_ok hT (by omega) hid hinj hbl
    have H2 : Hid (∃ K B oN, Tws w wr X S A B K oN n (.slice oo n oc) (.slice mo n mc) sv' ∧ True) := hide ⟨K, B, oN, hT, trivial⟩
    generalize A id = a0 at *
    clear hp hmem hHr hT hbl hinj hcov hid hkw
    go_wp2_with (go_at_call 108; refine htw.mono ?_; rintro e w' ⟨rfl, hw⟩; obtain rfl := hw.symm; clear htw)
    go_roundw
    case rel => exact ⟨i + 1, n, by omega, by omega, by go_num, H2, ⟨_, _, rfl⟩, _, _, rfl⟩
    case measure => simp [intOf]; omega
   ·have hnx := HWF.out.lt id hlv
    have htw := twinNew_ok hT (by omega) hid hlv (fun j hj e => hid (by rw [← hinj j hj e]; exact hj)) (hHr.th id hlv) (by have := HB.out.th id hnx; omega) (HWF.out.th id hnx) hbl
    have HNX : Hid (∀ w2 n2 ov mv B2 o2, Tws w w2 X S A B2 (K ++ [id]) o2 n2 ov mv sv' → n2 ≤ 268435456 ∧ ∃ K B oN, Tws w w2 X S A B K oN n2 ov mv sv' ∧ True) := hide (fun w2 n2 ov mv B2 o2 hT2 => ⟨by
     have h1 := nodup_le _ _ hT2.nd hT2.sub
     rw [hT2.len] at h1
     exact Nat.le_trans h1 HLL.out, K ++ [id], B2, o2, hT2, trivial⟩)
    generalize A id = a0 at *
    clear hp hmem hHr hT hbl hinj hcov hid hnx hkw
    go_wp2_with (go_at_call 108; refine htw.mono ?_; rintro e w2 ⟨ov2, mv2, n2, rfl, ⟨oo2, oc2, rfl⟩, ⟨mo2, mc2, rfl⟩, B2, o2, hT2⟩; obtain ⟨hnb2, hH2⟩ := HNX.out w2 n2 _ _ B2 o2 hT2; have H2 := hide hH2; clear htw hT2 hH2)
    go_roundw
    case rel => exact ⟨i + 1, n2, by omega, by omega, by go_num, H2, ⟨_, _, rfl⟩, _, _, rfl⟩
    case measure => simp [intOf]; omega
  ·obtain ⟨K1, B1, o1, hT1, _⟩ := HR.out
   have HT1 := hide hT1
   clear HR hT1 hkw
   go_wp2
   clear c2
   go_loopw [4, 5, 7] (fun ov mv i wr => ∃ k n : Nat, k ≤ M2 ∧ n ≤ 268435456 ∧ i = .int .i64 k ∧ Hid (∃ K B oN, Tws w wr X S A B K oN n ov mv sv' ∧ (∀ j p, j < k → S.safe[j]? = some p → p.2 ∈ K)) ∧ (∃ oo oc, ov = .slice oo n oc) ∧ ∃ mo mc, mv = .slice mo n mc) (fun ov mv i wr => M2 - (intOf i).toNat)
   case atStart => exact ⟨0, n, by omega, hnb, rfl, hide ⟨K1, B1, o1, HT1.out, fun j p hj => absurd hj (Nat.not_lt_zero _)⟩, ⟨_, _, rfl⟩, _, _, rfl⟩
   case round =>
    clear HT1
    obtain ⟨i, n, hi, hnb, rfl, HR, ⟨oo, oc, rfl⟩, mo, mc, rfl⟩ := hrel
    have hkw : Kept [] w wr := by obtain ⟨K, B, oN, hT, _⟩ := HR.out; exact hT.keep
    have c3 := hkw.cellOf C3.out (by simp)
    by_cases hlt : i < M2
    ·obtain ⟨⟨nm, id⟩, hp⟩ : ∃ p, S.safe[i]? = some p := ⟨S.safe[i]'(by rw [HM2.out]; exact hlt), List.getElem?_eq_getElem _⟩
     have hmem := List.mem_of_getElem? hp
     have hlv : id ∈ S.lives := Ds.safe_lives hmem
     have hHr := HH.out.kept hkw
     obtain ⟨gn, hgn, _, cpn⟩ := nms_cell (n := M2) (l := S.safe) (A := A) (w := wr) (vo := bo) (vc := bc) (by have := hHr.before; rw [HM2.out] at this ⊢; exact this) hp
     subst hgn
     obtain ⟨K, B, oN, hT, hcov⟩ := HR.out
     clear HR
     have hbl : ∀ j ∈ S.lives, ∃ cs, wr.heap[A j]? = some (.cells cs 78 (0, 0)) := fun j hj => by obtain ⟨_, _, _, _, ht⟩ := hHr.th j hj; exact ⟨_, ht.cells⟩
     have hinj : ∀ j ∈ K, A j = A id → j = id := fun j hj e => hHr.inj (hT.sub j hj) hlv e
     by_cases hid : id ∈ K
     ·have htw := twinSame_ok hT (by omega) hid hinj hbl
      have H2 : Hid (∃ K B oN, Tws w wr X S A B K oN n (.slice oo n oc) (.slice mo n mc) sv' ∧ (∀ j p, j < (i + 1) → S.safe[j]? = some p → p.2 ∈ K)) := hide ⟨K, B, oN, hT, fun j p hj hjp => by by_cases hji : j < i; exact hcov j p hji hjp; (obtain rfl : j = i := by omega); (rw [hp] at hjp; injection hjp with hjp; rw [← hjp]; exact hid)⟩
      generalize A id = a0 at *
      clear hp hmem hHr hT hbl hinj hcov hid hkw
      go_wp2_with (go_at_call 108; refine htw.mono ?_; rintro e w' ⟨rfl, hw⟩; obtain rfl := hw.symm; clear htw)
      go_roundw
      case rel => exact ⟨i + 1, n, by omega, by omega, by go_num, H2, ⟨_, _, rfl⟩, _, _, rfl⟩
      case measure => simp [intOf]; omega
     ·have hnx := HWF.out.lt id hlv
      have htw := twinNew_ok hT (by omega) hid hlv (fun j hj e => hid (by rw [← hinj j hj e]; exact hj)) (hHr.th id hlv) (by have := HB.out.th id hnx; omega) (HWF.out.th id hnx) hbl
      have HNX : Hid (∀ w2 n2 ov mv B2 o2, Tws w w2 X S A B2 (K ++ [id]) o2 n2 ov mv sv' → n2 ≤ 268435456 ∧ ∃ K B oN, Tws w w2 X S A B K oN n2 ov mv sv' ∧ (∀ j p, j < (i + 1) → S.safe[j]? = some p → p.2 ∈ K)) := hide (fun w2 n2 ov mv B2 o2 hT2 => ⟨by
       have h1 := nodup_le _ _ hT2.nd hT2.sub
       rw [hT2.len] at h1
       exact Nat.le_trans h1 HLL.out, K ++ [id], B2, o2, hT2, fun j p hj hjp => by by_cases hji : j < i; exact List.mem_append_left _ (hcov j p hji hjp); (obtain rfl : j = i := by omega); (rw [hp] at hjp; injection hjp with hjp; rw [← hjp]; simp)⟩)
      generalize A id = a0 at *
      clear hp hmem hHr hT hbl hinj hcov hid hnx hkw
      go_wp2_with (go_at_call 108; refine htw.mono ?_; rintro e w2 ⟨ov2, mv2, n2, rfl, ⟨oo2, oc2, rfl⟩, ⟨mo2, mc2, rfl⟩, B2, o2, hT2⟩; obtain ⟨hnb2, hH2⟩ := HNX.out w2 n2 _ _ B2 o2 hT2; have H2 := hide hH2; clear htw hT2 hH2)
      go_roundw
      case rel => exact ⟨i + 1, n2, by omega, by omega, by go_num, H2, ⟨_, _, rfl⟩, _, _, rfl⟩
      case measure => simp [intOf]; omega
    ·obtain ⟨K2, B2, o2, hT2, hc2'⟩ := HR.out
     have HT2 : Hid (Tws w wr X S A B2 K2 o2 n (.slice oo n oc) (.slice mo n mc) sv' ∧ ∀ p ∈ S.safe, p.2 ∈ K2) := hide ⟨hT2, fun p hp => by
      obtain ⟨j, hj, e⟩ := List.getElem_of_mem hp
      exact hc2' j p (by have := HM2.out; omega) (by rw [List.getElem?_eq_getElem hj, e])⟩
     clear HR hT2 hc2' hkw
     go_wp2
     clear c3
     go_loopw [4, 5, 8] (fun ov mv i wr => ∃ k n : Nat, k ≤ M3 ∧ n ≤ 268435456 ∧ i = .int .i64 k ∧ Hid (∃ K B oN, Tws w wr X S A B K oN n ov mv sv' ∧ ((∀ p ∈ S.safe, p.2 ∈ K) ∧ ∀ y ∈ madeN (S.row.take k), y ∈ K)) ∧ (∃ oo oc, ov = .slice oo n oc) ∧ ∃ mo mc, mv = .slice mo n mc) (fun ov mv i wr => M3 - (intOf i).toNat)
     case atStart => exact ⟨0, n, by omega, hnb, rfl, hide ⟨K2, B2, o2, HT2.out.1, HT2.out.2, fun k hk => by simp [madeN] at hk⟩, ⟨_, _, rfl⟩, _, _, rfl⟩
     case round =>
      clear HT2
      obtain ⟨i, n, hi, hnb, rfl, HR, ⟨oo, oc, rfl⟩, mo, mc, rfl⟩ := hrel
      have hkw : Kept [] w wr := by obtain ⟨K, B, oN, hT, _⟩ := HR.out; exact hT.keep
      have c4 := hkw.cellOf C4.out (by simp)
      by_cases hlt : i < M3
      ·obtain ⟨c, hc⟩ : ∃ c, S.row[i]? = some c := ⟨S.row[i]'(by rw [HM3.out]; exact hlt), List.getElem?_eq_getElem _⟩
       have hts : madeN (S.row.take (i + 1)) = madeN (S.row.take i) ++ c.made := by rw [List.take_add_one, hc]; exact madeN_snoc _ _
       have hHr := HH.out.kept hkw
       obtain ⟨gt, hgt⟩ : ∃ gt, to = some ⟨gt, 0, none⟩ := by
        rcases hHr.turns.2 with ⟨e, e2⟩ | ⟨gt, cap, cur, e, _⟩
        ·have := HM3.out; omega
        ·injection e with e _ _; exact ⟨gt, e⟩
       subst hgt
       obtain ⟨K, B, oN, hT, hcov⟩ := HR.out
       clear HR
       have hc3 : ∀ v, (tuV A c)[3]? = some v → wr.cell? ⟨gt, i * 4 + 3, none⟩ = some v := fun v hv => by
        have h2 := hHr.turns.cells (g := gt) rfl _ _ (tusV_at A S.row i 3 c v hc hv)
        rw [add0, Nat.mul_comm] at h2
        exact h2
       have hbl : ∀ j ∈ S.lives, ∃ cs, wr.heap[A j]? = some (.cells cs 78 (0, 0)) := fun j hj => by obtain ⟨_, _, _, _, ht⟩ := hHr.th j hj; exact ⟨_, ht.cells⟩
       by_cases hmk : ∃ nm id, c = .mk nm id
       ·obtain ⟨nm, id, rfl⟩ := hmk
        have hlv : id ∈ S.lives := List.mem_append_right _ (List.mem_flatMap.2 ⟨_, List.mem_of_getElem? hc, by simp [Nc.made]⟩)
        have cpn := hc3 _ rfl
        have hinj : ∀ j ∈ K, A j = A id → j = id := fun j hj e => hHr.inj (hT.sub j hj) hlv e
        by_cases hid : id ∈ K
        ·have htw := twinSame_ok hT (by omega) hid hinj hbl
         have H2 : Hid (∃ K B oN, Tws w wr X S A B K oN n (.slice oo n oc) (.slice mo n mc) sv' ∧ ((∀ p ∈ S.safe, p.2 ∈ K) ∧ ∀ y ∈ madeN (S.row.take (i + 1)), y ∈ K)) := hide ⟨K, B, oN, hT, hcov.1, fun k hk => by rw [hts] at hk; rcases List.mem_append.1 hk with e | e; exact hcov.2 k e; (rw [show k = id by simpa [Nc.made] using e]; exact hid)⟩
         generalize A id = a0 at *
         clear hc hHr hT hbl hinj hcov hid hkw hts hc3
         go_wp2_with (go_at_call 108; refine htw.mono ?_; rintro e w' ⟨rfl, hw⟩; obtain rfl := hw.symm; clear htw)
         go_roundw
         case rel => exact ⟨i + 1, n, by omega, by omega, by go_num, H2, ⟨_, _, rfl⟩, _, _, rfl⟩
         case measure => simp [intOf]; omega
        ·have hnx := HWF.out.lt id hlv
         have htw := twinNew_ok hT (by omega) hid hlv (fun j hj e => hid (by rw [← hinj j hj e]; exact hj)) (hHr.th id hlv) (by have := HB.out.th id hnx; omega) (HWF.out.th id hnx) hbl
         have HNX : Hid (∀ w2 n2 ov mv B2 o2, Tws w w2 X S A B2 (K ++ [id]) o2 n2 ov mv sv' → n2 ≤ 268435456 ∧ ∃ K B oN, Tws w w2 X S A B K oN n2 ov mv sv' ∧ ((∀ p ∈ S.safe, p.2 ∈ K) ∧ ∀ y ∈ madeN (S.row.take (i + 1)), y ∈ K)) := hide (fun w2 n2 ov mv B2 o2 hT2 => ⟨by
          have h1 := nodup_le _ _ hT2.nd hT2.sub
          rw [hT2.len] at h1
          exact Nat.le_trans h1 HLL.out, K ++ [id], B2, o2, hT2, fun p hp => List.mem_append_left _ (hcov.1 p hp), fun k hk => by rw [hts] at hk; rcases List.mem_append.1 hk with e | e; exact List.mem_append_left _ (hcov.2 k e); (rw [show k = id by simpa [Nc.made] using e]; simp)⟩)
         generalize A id = a0 at *
         clear hc hHr hT hbl hinj hcov hid hnx hkw hts hc3
         go_wp2_with (go_at_call 108; refine htw.mono ?_; rintro e w2 ⟨ov2, mv2, n2, rfl, ⟨oo2, oc2, rfl⟩, ⟨mo2, mc2, rfl⟩, B2, o2, hT2⟩; obtain ⟨hnb2, hH2⟩ := HNX.out w2 n2 _ _ B2 o2 hT2; have H2 := hide hH2; clear htw hT2 hH2)
         go_roundw
         case rel => exact ⟨i + 1, n2, by omega, by omega, by go_num, H2, ⟨_, _, rfl⟩, _, _, rfl⟩
         case measure => simp [intOf]; omega
       ·have hnil : (tuV A c)[3]? = some (.pointer none) ∧ c.made = [] := by
         cases c with
         | mk nm id => exact absurd ⟨nm, id, rfl⟩ hmk
         | gv f t => exact ⟨rfl, rfl⟩
         | tk n => exact ⟨rfl, rfl⟩
        have cpn := hc3 _ hnil.1
        have htw := twinNil_ok hT
        have H2 : Hid (∃ K B oN, Tws w wr X S A B K oN n (.slice oo n oc) (.slice mo n mc) sv' ∧ ((∀ p ∈ S.safe, p.2 ∈ K) ∧ ∀ y ∈ madeN (S.row.take (i + 1)), y ∈ K)) := hide ⟨K, B, oN, hT, hcov.1, fun k hk => by rw [hts, hnil.2, List.append_nil] at hk; exact hcov.2 k hk⟩
        clear hc hHr hT hbl hcov hkw hts hc3 hmk hnil
        go_wp2_with (go_at_call 108; refine htw.mono ?_; rintro e w' ⟨rfl, hw⟩; obtain rfl := hw.symm; clear htw)
        go_roundw
        case rel => exact ⟨i + 1, n, by omega, by omega, by go_num, H2, ⟨_, _, rfl⟩, _, _, rfl⟩
        case measure => simp [intOf]; omega
      ·obtain ⟨K3, B3, o3, hT3, hc3'⟩ := HR.out
       have hall : ∀ k ∈ S.lives, k ∈ K3 := fun k hk => by
        rcases List.mem_append.1 hk with e | e
        ·obtain ⟨p, hp, rfl⟩ := List.mem_map.1 e
         exact hc3'.1 p hp
        ·exact hc3'.2 k (by rw [List.take_of_length_le (by rw [HM3.out]; omega)]; exact e)
       have HZ0 : Hid (∃ B K oX fo fc, Twz w wr X S { S with shown := S.shown.take 0, safe := [], row := [] } A B K oX n (.slice oo n oc) (.slice mo n mc) (.slice fo 0 fc) (.slice none 0 0) (.slice none 0 0) sv') := hide ⟨B3, K3, o3, none, 0, hT3.rd, hT3.len, hT3.old, hT3.made, fun g hg => (hT3.newO g hg).2, fun g hg => (hT3.newM g hg).2, hT3.th, hT3.keep, hT3.lab, hall, hT3.sub⟩
       clear HR hT3 hc3' hkw hall
       go_wp2
       clear c4
       go_loopw [9] (fun i wr => ∃ k : Nat, k ≤ M1 ∧ i = .int .i64 k ∧ Hid (∃ B K oX fo fc, Twz w wr X S { S with shown := S.shown.take k, safe := [], row := [] } A B K oX n (.slice oo n oc) (.slice mo n mc) (.slice fo k fc) (.slice none 0 0) (.slice none 0 0) sv')) (fun i wr => M1 - (intOf i).toNat)
       case atStart => exact ⟨0, by omega, rfl, HZ0⟩
       case round =>
        clear HZ0
        obtain ⟨i, hi, rfl, HR⟩ := hrel
        obtain ⟨B, K, oX, fo, fc, hZ⟩ := HR.out
        clear HR
        have c2 := hZ.keep.cellOf C2.out (by simp)
        by_cases hlt : i < M1
        ·obtain ⟨⟨nm, id⟩, hp⟩ : ∃ p, S.shown[i]? = some p := ⟨S.shown[i]'(by rw [HM1.out]; exact hlt), List.getElem?_eq_getElem _⟩
         have hmem := List.mem_of_getElem? hp
         have hlv : id ∈ S.lives := Ds.shown_lives HWF.out hmem
         have hHr := HH.out.kept hZ.keep
         obtain ⟨gn, hgn, cn0, cn1⟩ := nms_cell (n := M1) (l := S.shown) (A := A) (w := wr) (vo := no) (vc := nc) (by have := hHr.now; rw [HM1.out] at this ⊢; exact this) hp
         subst hgn
         have hidK := hZ.all id hlv
         have xn := hZ.rd.cell 2 _ rfl
         have htk : S.shown.take (i + 1) = S.shown.take i ++ [(nm, id)] := by rw [List.take_add_one, hp]; rfl
         have hln : (S.shown.take i).length = i := by rw [List.length_take, HM1.out]; omega
         have HP : Hid (Calls Tryz.prog 109 #[.slice oo n oc, .slice mo n mc, .pointer (some ⟨A id, 0, none⟩)] wr.drew (fun e w' => e = .returned (.pointer (some ⟨B id, 0, none⟩)) ∧ w' = wr.drew) ∧ ∃ gA cA w5, (Builtin.append_ #[71, 71] 71 #[.slice fo i fc, .slice (some ⟨wr.drew.heap.size, 0, none⟩) 1 1]).run Tryz.prog (wr.drew.alloc (.cells #[encStr nm, .pointer (some ⟨B id, 0, none⟩)] 113)) = .ok (.slice (some ⟨gA, 0, none⟩) (i + 1) cA) w5 ∧ w5.cell? ⟨X, 2, none⟩ = some (.slice fo i fc) ∧ w5.frozen? ⟨X, 2, none⟩ = false ∧ Hid (∃ B K oX fo fc, Twz w (w5.setCell ⟨X, 2, none⟩ (.slice (some ⟨gA, 0, none⟩) (i + 1) cA)) X S { S with shown := S.shown.take (i + 1), safe := [], row := [] } A B K oX n (.slice oo n oc) (.slice mo n mc) (.slice fo (i + 1) fc) (.slice none 0 0) (.slice none 0 0) sv')) := hide (by
          have hdr : Kept [] wr wr.drew := (Kept.refl [] wr).drew
          have hKd : Keep (fun _ => False) wr wr.drew := Keep.ofNone hdr
          refine ⟨rother_walk oo mo n oc mc A B K (some ⟨A id, 0, none⟩) (some ⟨B id, 0, none⟩) wr.drew hZ.len (by omega) (.inr ⟨id, hidK, rfl, rfl, fun j hj e => hHr.inj (hZ.sub j hj) hlv e⟩) hZ.old hZ.made (fun j hj => by obtain ⟨_, _, _, _, ht⟩ := hHr.th j (hZ.sub j hj); exact ⟨_, ht.cells⟩) (fun a e => by injection e with e; subst e; obtain ⟨_, _, _, _, ht⟩ := hHr.th id hlv; exact ⟨_, _, ht.cells⟩), ?_⟩
          obtain ⟨gA, cA, w5, q1, q2, q3, q4, q5, q6, q7⟩ := RDx.addNow (p := (nm, id)) (hZ.rd.kept hdr) hln (by omega) (by simp [Value.ownBlock])
          refine ⟨gA, cA, w5, q1, q2, q3, hide ⟨B, K, oX.ext wr.drew w5 1, some ⟨gA, 0, none⟩, cA, ?_⟩⟩
          have hz := hZ.step hdr q4 q5
          have e : ({ S with shown := S.shown.take i ++ [(nm, id)], safe := [], row := [] } : Ds) = { S with shown := S.shown.take (i + 1), safe := [], row := [] } := by rw [htk]
          rw [← e]
          exact hz)
         generalize A id = a0 at *
         generalize B id = b0 at *
         clear hp hmem hHr hZ hidK htk hln
         go_upto_region 25 with (fail)
         refine wp_region_late (fun w' => Kept [] wr w') (fun i => i == 23 || i == 25) (by kernel_rfl) ?_
         have h0 : Kept [] wr wr.drew := (Kept.refl [] wr).drew
         generalize World.drew wr = v0 at h0 HP ⊢
         refine wpAnyL_free (i := 0) (v := .pointer (some ⟨X, 2, none⟩)) rfl (by kernel_rfl) (by kernel_rfl) (by kernel_rfl) (fun _ _ _ h => h) (Or.inl ⟨by rfl, fun w _ => by go_simp⟩) ?_
         try simp only [z1, z2, z3, z4, z5, z6, z7, z8]
         refine wpAnyL_take (i := 1) (v := .slice fo i fc) rfl (by kernel_rfl) (by kernel_rfl) (by kernel_rfl) (by kernel_rfl) (by kernel_rfl) (fun _ _ _ h => h) (Or.inl ⟨by rfl, fun w hSw => by have q0 := Kept.cellOf hSw xn (by simp); go_simp⟩) h0 ?_
         try simp only [z1, z2, z3, z4, z5, z6, z7, z8]
         refine wpAnyL_free (i := 2) (v := .pointer (some ⟨q, 0, none⟩)) rfl (by kernel_rfl) (by kernel_rfl) (by kernel_rfl) (fun _ _ _ h => h) (Or.inl ⟨by rfl, fun w _ => by go_simp⟩) ?_
         try simp only [z1, z2, z3, z4, z5, z6, z7, z8]
         refine wpAnyL_free (i := 3) (v := .pointer (some ⟨q, 0, none⟩)) rfl (by kernel_rfl) (by kernel_rfl) (by kernel_rfl) (fun _ _ _ h => h) (Or.inl ⟨by rfl, fun w _ => by go_simp⟩) ?_
         try simp only [z1, z2, z3, z4, z5, z6, z7, z8]
         refine wpAnyL_free (i := 4) (v := .pointer (some ⟨q, 2, none⟩)) rfl (by kernel_rfl) (by kernel_rfl) (by kernel_rfl) (fun _ _ _ h => h) (Or.inl ⟨by rfl, fun w _ => by go_simp⟩) ?_
         try simp only [z1, z2, z3, z4, z5, z6, z7, z8]
         refine wpAnyL_take (i := 5) (v := .slice (some ⟨gn, 0, none⟩) M1 nc) rfl (by kernel_rfl) (by kernel_rfl) (by kernel_rfl) (by kernel_rfl) (by kernel_rfl) (fun _ _ _ h => h) (Or.inl ⟨by rfl, fun w hSw => by have q0 := Kept.cellOf hSw c2 (by simp); go_simp⟩) h0 ?_
         try simp only [z1, z2, z3, z4, z5, z6, z7, z8]
         refine wpAnyL_free (i := 6) (v := .int .i64 i) rfl (by kernel_rfl) (by kernel_rfl) (by kernel_rfl) (fun _ _ _ h => h) (Or.inl ⟨by rfl, fun w _ => by go_simp⟩) ?_
         try simp only [z1, z2, z3, z4, z5, z6, z7, z8]
         refine wpAnyL_free (i := 7) (v := .pointer (some ⟨gn, i * 2, none⟩)) rfl (by kernel_rfl) (by kernel_rfl) (by kernel_rfl) (fun _ _ _ h => h) (Or.inl ⟨by rfl, fun w _ => by have q0 := hlt; go_simp⟩) ?_
         try simp only [z1, z2, z3, z4, z5, z6, z7, z8]
         refine wpAnyL_free (i := 8) (v := .pointer (some ⟨gn, i * 2, none⟩)) rfl (by kernel_rfl) (by kernel_rfl) (by kernel_rfl) (fun _ _ _ h => h) (Or.inl ⟨by rfl, fun w _ => by go_simp⟩) ?_
         try simp only [z1, z2, z3, z4, z5, z6, z7, z8]
         refine wpAnyL_take (i := 9) (v := encStr nm) rfl (by kernel_rfl) (by kernel_rfl) (by kernel_rfl) (by kernel_rfl) (by kernel_rfl) (fun _ _ _ h => h) (Or.inl ⟨by rfl, fun w hSw => by have q0 := Kept.cellOf hSw cn0 (by simp); go_simp⟩) h0 ?_
         try simp only [z1, z2, z3, z4, z5, z6, z7, z8]
         refine wpAnyL_free (i := 10) (v := .slice oo n oc) rfl (by kernel_rfl) (by kernel_rfl) (by kernel_rfl) (fun _ _ _ h => h) (Or.inl ⟨by rfl, fun w _ => by go_simp⟩) ?_
         try simp only [z1, z2, z3, z4, z5, z6, z7, z8]
         refine wpAnyL_free (i := 11) (v := .slice mo n mc) rfl (by kernel_rfl) (by kernel_rfl) (by kernel_rfl) (fun _ _ _ h => h) (Or.inl ⟨by rfl, fun w _ => by go_simp⟩) ?_
         try simp only [z1, z2, z3, z4, z5, z6, z7, z8]
         refine wpAnyL_free (i := 12) (v := .pointer (some ⟨q, 0, none⟩)) rfl (by kernel_rfl) (by kernel_rfl) (by kernel_rfl) (fun _ _ _ h => h) (Or.inl ⟨by rfl, fun w _ => by go_simp⟩) ?_
         try simp only [z1, z2, z3, z4, z5, z6, z7, z8]
         refine wpAnyL_free (i := 13) (v := .pointer (some ⟨q, 0, none⟩)) rfl (by kernel_rfl) (by kernel_rfl) (by kernel_rfl) (fun _ _ _ h => h) (Or.inl ⟨by rfl, fun w _ => by go_simp⟩) ?_
         try simp only [z1, z2, z3, z4, z5, z6, z7, z8]
         refine wpAnyL_free (i := 14) (v := .pointer (some ⟨q, 2, none⟩)) rfl (by kernel_rfl) (by kernel_rfl) (by kernel_rfl) (fun _ _ _ h => h) (Or.inl ⟨by rfl, fun w _ => by go_simp⟩) ?_
         try simp only [z1, z2, z3, z4, z5, z6, z7, z8]
         refine wpAnyL_take (i := 15) (v := .slice (some ⟨gn, 0, none⟩) M1 nc) rfl (by kernel_rfl) (by kernel_rfl) (by kernel_rfl) (by kernel_rfl) (by kernel_rfl) (fun _ _ _ h => h) (Or.inl ⟨by rfl, fun w hSw => by have q0 := Kept.cellOf hSw c2 (by simp); go_simp⟩) h0 ?_
         try simp only [z1, z2, z3, z4, z5, z6, z7, z8]
         refine wpAnyL_free (i := 16) (v := .int .i64 i) rfl (by kernel_rfl) (by kernel_rfl) (by kernel_rfl) (fun _ _ _ h => h) (Or.inl ⟨by rfl, fun w _ => by go_simp⟩) ?_
         try simp only [z1, z2, z3, z4, z5, z6, z7, z8]
         refine wpAnyL_free (i := 17) (v := .pointer (some ⟨gn, i * 2, none⟩)) rfl (by kernel_rfl) (by kernel_rfl) (by kernel_rfl) (fun _ _ _ h => h) (Or.inl ⟨by rfl, fun w _ => by have q0 := hlt; go_simp⟩) ?_
         try simp only [z1, z2, z3, z4, z5, z6, z7, z8]
         refine wpAnyL_free (i := 18) (v := .pointer (some ⟨gn, i * 2 + 1, none⟩)) rfl (by kernel_rfl) (by kernel_rfl) (by kernel_rfl) (fun _ _ _ h => h) (Or.inl ⟨by rfl, fun w _ => by go_simp⟩) ?_
         try simp only [z1, z2, z3, z4, z5, z6, z7, z8]
         refine wpAnyL_take (i := 19) (v := .pointer (some ⟨a0, 0, none⟩)) rfl (by kernel_rfl) (by kernel_rfl) (by kernel_rfl) (by kernel_rfl) (by kernel_rfl) (fun _ _ _ h => h) (Or.inl ⟨by rfl, fun w hSw => by have q0 := Kept.cellOf hSw cn1 (by simp); go_simp⟩) h0 ?_
         try simp only [z1, z2, z3, z4, z5, z6, z7, z8]
         obtain ⟨hot, gA, cA, w5, hap, y2, f2, H2⟩ := HP.out
         refine wpAnyL_one (i := 20) (by kernel_rfl) rfl (fun K hK => ?_)
         rw [if_pos (by rfl)]
         go_simp
         refine hot.mono ?_
         rintro e w' ⟨rfl, hw⟩
         obtain rfl := hw.symm
         refine hK.out _ _ (fun _ _ => h0) ?_
         clear hK K
         try simp only [z1, z2, z3, z4, z5, z6, z7, z8]
         refine wpAnyL_free (i := 21) (v := .agg #[encStr nm, .pointer (some ⟨b0, 0, none⟩)]) rfl (by kernel_rfl) (by kernel_rfl) (by kernel_rfl) (fun _ _ _ h => h) (Or.inl ⟨by rfl, fun w _ => by go_simp⟩) ?_
         try simp only [z1, z2, z3, z4, z5, z6, z7, z8]
         refine wpAnyL_one (i := 22) (by kernel_rfl) rfl (fun K hK => ?_)
         rw [if_pos (by rfl)]
         go_simp
         refine hK.out _ _ (fun _ _ => h0.alloc _) ?_
         clear hK K
         try simp only [z1, z2, z3, z4, z5, z6, z7, z8]
         refine wpAnyL_one (i := 23) (by kernel_rfl) rfl (fun K hK => ?_)
         rw [if_pos (by rfl)]
         refine wp_append_run (.tmp 116) (.tmp 137) 71 71 rfl (.slice fo i fc) (.slice (some ⟨v0.heap.size, 0, none⟩) 1 1) rfl rfl (.slice (some ⟨gA, 0, none⟩) (i + 1) cA) w5 hap ?_
         refine hK.out _ _ (fun _ h => by cases h) ?_
         clear hK K
         try simp only [z1, z2, z3, z4, z5, z6, z7, z8]
         refine wpAnyL_free (i := 24) (v := .pointer (some ⟨X, 2, none⟩)) rfl (by kernel_rfl) (by kernel_rfl) (by kernel_rfl) (fun _ _ _ h => h) (Or.inl ⟨by rfl, fun w _ => by go_simp⟩) ?_
         try simp only [z1, z2, z3, z4, z5, z6, z7, z8]
         refine wpAnyL_one (i := 25) (by kernel_rfl) rfl (fun K hK => ?_)
         rw [if_pos (by rfl)]
         go_simp
         refine hK.out _ _ (fun _ h => by cases h) ?_
         clear hK K
         try simp only [z1, z2, z3, z4, z5, z6, z7, z8]
         refine wpAnyL_done (by kernel_rfl) ?_ _
         go_wp2
         go_roundw
         case rel => exact ⟨i + 1, by omega, by go_num, H2⟩
         case measure => simp [intOf]; omega
        ·have HZ1 : Hid (∃ B K oX fo fc no2 nc2, Twz w wr X S { S with safe := S.safe.take 0, row := [] } A B K oX n (.slice oo n oc) (.slice mo n mc) (.slice no2 M1 nc2) (.slice fo 0 fc) (.slice none 0 0) sv' ∧ ∀ g, (Value.slice no2 M1 nc2).ownBlock = some g → (Value.slice fo 0 fc).ownBlock ≠ some g) := hide (by
          obtain rfl : i = M1 := by omega
          have e : ({ S with shown := S.shown.take i, safe := [], row := [] } : Ds) = { S with safe := S.safe.take 0, row := [] } := by rw [List.take_of_length_le (by rw [HM1.out]; omega)]; rfl
          rw [e] at hZ
          exact ⟨B, K, oX, none, 0, fo, fc, hZ, by simp [Value.ownBlock]⟩)
         clear hZ
         go_wp2
         clear c2
         go_loopw [10] (fun i wr => ∃ k : Nat, k ≤ M2 ∧ i = .int .i64 k ∧ Hid (∃ B K oX fo fc no2 nc2, Twz w wr X S { S with safe := S.safe.take k, row := [] } A B K oX n (.slice oo n oc) (.slice mo n mc) (.slice no2 M1 nc2) (.slice fo k fc) (.slice none 0 0) sv' ∧ ∀ g, (Value.slice no2 M1 nc2).ownBlock = some g → (Value.slice fo k fc).ownBlock ≠ some g)) (fun i wr => M2 - (intOf i).toNat)
         case atStart => exact ⟨0, by omega, rfl, HZ1⟩
         case round =>
          clear HZ1
          obtain ⟨i, hi, rfl, HR⟩ := hrel
          obtain ⟨B, K, oX, fo, fc, no2, nc2, hZ, hapt⟩ := HR.out
          clear HR
          have c3 := hZ.keep.cellOf C3.out (by simp)
          by_cases hlt : i < M2
          ·obtain ⟨⟨nm, id⟩, hp⟩ : ∃ p, S.safe[i]? = some p := ⟨S.safe[i]'(by rw [HM2.out]; exact hlt), List.getElem?_eq_getElem _⟩
           have hmem := List.mem_of_getElem? hp
           have hlv : id ∈ S.lives := Ds.safe_lives hmem
           have hHr := HH.out.kept hZ.keep
           obtain ⟨gn, hgn, cn0, cn1⟩ := nms_cell (n := M2) (l := S.safe) (A := A) (w := wr) (vo := bo) (vc := bc) (by have := hHr.before; rw [HM2.out] at this ⊢; exact this) hp
           subst hgn
           have hidK := hZ.all id hlv
           have xn := hZ.rd.cell 3 _ rfl
           have htk : S.safe.take (i + 1) = S.safe.take i ++ [(nm, id)] := by rw [List.take_add_one, hp]; rfl
           have hln : (S.safe.take i).length = i := by rw [List.length_take, HM2.out]; omega
           have HP : Hid (Calls Tryz.prog 109 #[.slice oo n oc, .slice mo n mc, .pointer (some ⟨A id, 0, none⟩)] wr.drew (fun e w' => e = .returned (.pointer (some ⟨B id, 0, none⟩)) ∧ w' = wr.drew) ∧ ∃ gA cA w5, (Builtin.append_ #[71, 71] 71 #[.slice fo i fc, .slice (some ⟨wr.drew.heap.size, 0, none⟩) 1 1]).run Tryz.prog (wr.drew.alloc (.cells #[encStr nm, .pointer (some ⟨B id, 0, none⟩)] 113)) = .ok (.slice (some ⟨gA, 0, none⟩) (i + 1) cA) w5 ∧ w5.cell? ⟨X, 3, none⟩ = some (.slice fo i fc) ∧ w5.frozen? ⟨X, 3, none⟩ = false ∧ Hid (∃ B K oX fo fc no2 nc2, Twz w (w5.setCell ⟨X, 3, none⟩ (.slice (some ⟨gA, 0, none⟩) (i + 1) cA)) X S { S with safe := S.safe.take (i + 1), row := [] } A B K oX n (.slice oo n oc) (.slice mo n mc) (.slice no2 M1 nc2) (.slice fo (i + 1) fc) (.slice none 0 0) sv' ∧ ∀ g, (Value.slice no2 M1 nc2).ownBlock = some g → (Value.slice fo (i + 1) fc).ownBlock ≠ some g)) := hide (by
            have hdr : Kept [] wr wr.drew := (Kept.refl [] wr).drew
            have hKd : Keep (fun _ => False) wr wr.drew := Keep.ofNone hdr
            refine ⟨rother_walk oo mo n oc mc A B K (some ⟨A id, 0, none⟩) (some ⟨B id, 0, none⟩) wr.drew hZ.len (by omega) (.inr ⟨id, hidK, rfl, rfl, fun j hj e => hHr.inj (hZ.sub j hj) hlv e⟩) hZ.old hZ.made (fun j hj => by obtain ⟨_, _, _, _, ht⟩ := hHr.th j (hZ.sub j hj); exact ⟨_, ht.cells⟩) (fun a e => by injection e with e; subst e; obtain ⟨_, _, _, _, ht⟩ := hHr.th id hlv; exact ⟨_, _, ht.cells⟩), ?_⟩
            obtain ⟨gA, cA, w5, q1, q2, q3, q4, q5, q6, q7⟩ := RDx.addBefore (p := (nm, id)) (hZ.rd.kept hdr) hln (by omega) (fun g e1 e2 => hapt g e2 e1) ((hZ.th id hidK).keep hKd (fun _ _ h => h))
            refine ⟨gA, cA, w5, q1, q2, q3, hide ⟨B, K, oX.ext wr.drew w5 1, some ⟨gA, 0, none⟩, cA, no2, nc2, ?_, fun g e1 e2 => q6 g e2 e1⟩⟩
            have hz := hZ.step hdr q4 q5
            have e : ({ S with safe := S.safe.take i ++ [(nm, id)], row := [] } : Ds) = { S with safe := S.safe.take (i + 1), row := [] } := by rw [htk]
            rw [← e]
            exact hz)
           generalize A id = a0 at *
           generalize B id = b0 at *
           clear hp hmem hHr hZ hidK htk hln hapt
           go_upto_region 29 with (fail)
           refine wp_region_late (fun w' => Kept [] wr w') (fun i => i == 23 || i == 25) (by kernel_rfl) ?_
           have h0 : Kept [] wr wr.drew := (Kept.refl [] wr).drew
           generalize World.drew wr = v0 at h0 HP ⊢
           refine wpAnyL_free (i := 0) (v := .pointer (some ⟨X, 3, none⟩)) rfl (by kernel_rfl) (by kernel_rfl) (by kernel_rfl) (fun _ _ _ h => h) (Or.inl ⟨by rfl, fun w _ => by go_simp⟩) ?_
           try simp only [z1, z2, z3, z4, z5, z6, z7, z8]
           refine wpAnyL_take (i := 1) (v := .slice fo i fc) rfl (by kernel_rfl) (by kernel_rfl) (by kernel_rfl) (by kernel_rfl) (by kernel_rfl) (fun _ _ _ h => h) (Or.inl ⟨by rfl, fun w hSw => by have q0 := Kept.cellOf hSw xn (by simp); go_simp⟩) h0 ?_
           try simp only [z1, z2, z3, z4, z5, z6, z7, z8]
           refine wpAnyL_free (i := 2) (v := .pointer (some ⟨q, 0, none⟩)) rfl (by kernel_rfl) (by kernel_rfl) (by kernel_rfl) (fun _ _ _ h => h) (Or.inl ⟨by rfl, fun w _ => by go_simp⟩) ?_
           try simp only [z1, z2, z3, z4, z5, z6, z7, z8]
           refine wpAnyL_free (i := 3) (v := .pointer (some ⟨q, 0, none⟩)) rfl (by kernel_rfl) (by kernel_rfl) (by kernel_rfl) (fun _ _ _ h => h) (Or.inl ⟨by rfl, fun w _ => by go_simp⟩) ?_
           try simp only [z1, z2, z3, z4, z5, z6, z7, z8]
           refine wpAnyL_free (i := 4) (v := .pointer (some ⟨q, 3, none⟩)) rfl (by kernel_rfl) (by kernel_rfl) (by kernel_rfl) (fun _ _ _ h => h) (Or.inl ⟨by rfl, fun w _ => by go_simp⟩) ?_
           try simp only [z1, z2, z3, z4, z5, z6, z7, z8]
           refine wpAnyL_take (i := 5) (v := .slice (some ⟨gn, 0, none⟩) M2 bc) rfl (by kernel_rfl) (by kernel_rfl) (by kernel_rfl) (by kernel_rfl) (by kernel_rfl) (fun _ _ _ h => h) (Or.inl ⟨by rfl, fun w hSw => by have q0 := Kept.cellOf hSw c3 (by simp); go_simp⟩) h0 ?_
           try simp only [z1, z2, z3, z4, z5, z6, z7, z8]
           refine wpAnyL_free (i := 6) (v := .int .i64 i) rfl (by kernel_rfl) (by kernel_rfl) (by kernel_rfl) (fun _ _ _ h => h) (Or.inl ⟨by rfl, fun w _ => by go_simp⟩) ?_
           try simp only [z1, z2, z3, z4, z5, z6, z7, z8]
           refine wpAnyL_free (i := 7) (v := .pointer (some ⟨gn, i * 2, none⟩)) rfl (by kernel_rfl) (by kernel_rfl) (by kernel_rfl) (fun _ _ _ h => h) (Or.inl ⟨by rfl, fun w _ => by have q0 := hlt; go_simp⟩) ?_
           try simp only [z1, z2, z3, z4, z5, z6, z7, z8]
           refine wpAnyL_free (i := 8) (v := .pointer (some ⟨gn, i * 2, none⟩)) rfl (by kernel_rfl) (by kernel_rfl) (by kernel_rfl) (fun _ _ _ h => h) (Or.inl ⟨by rfl, fun w _ => by go_simp⟩) ?_
           try simp only [z1, z2, z3, z4, z5, z6, z7, z8]
           refine wpAnyL_take (i := 9) (v := encStr nm) rfl (by kernel_rfl) (by kernel_rfl) (by kernel_rfl) (by kernel_rfl) (by kernel_rfl) (fun _ _ _ h => h) (Or.inl ⟨by rfl, fun w hSw => by have q0 := Kept.cellOf hSw cn0 (by simp); go_simp⟩) h0 ?_
           try simp only [z1, z2, z3, z4, z5, z6, z7, z8]
           refine wpAnyL_free (i := 10) (v := .slice oo n oc) rfl (by kernel_rfl) (by kernel_rfl) (by kernel_rfl) (fun _ _ _ h => h) (Or.inl ⟨by rfl, fun w _ => by go_simp⟩) ?_
           try simp only [z1, z2, z3, z4, z5, z6, z7, z8]
           refine wpAnyL_free (i := 11) (v := .slice mo n mc) rfl (by kernel_rfl) (by kernel_rfl) (by kernel_rfl) (fun _ _ _ h => h) (Or.inl ⟨by rfl, fun w _ => by go_simp⟩) ?_
           try simp only [z1, z2, z3, z4, z5, z6, z7, z8]
           refine wpAnyL_free (i := 12) (v := .pointer (some ⟨q, 0, none⟩)) rfl (by kernel_rfl) (by kernel_rfl) (by kernel_rfl) (fun _ _ _ h => h) (Or.inl ⟨by rfl, fun w _ => by go_simp⟩) ?_
           try simp only [z1, z2, z3, z4, z5, z6, z7, z8]
           refine wpAnyL_free (i := 13) (v := .pointer (some ⟨q, 0, none⟩)) rfl (by kernel_rfl) (by kernel_rfl) (by kernel_rfl) (fun _ _ _ h => h) (Or.inl ⟨by rfl, fun w _ => by go_simp⟩) ?_
           try simp only [z1, z2, z3, z4, z5, z6, z7, z8]
           refine wpAnyL_free (i := 14) (v := .pointer (some ⟨q, 3, none⟩)) rfl (by kernel_rfl) (by kernel_rfl) (by kernel_rfl) (fun _ _ _ h => h) (Or.inl ⟨by rfl, fun w _ => by go_simp⟩) ?_
           try simp only [z1, z2, z3, z4, z5, z6, z7, z8]
           refine wpAnyL_take (i := 15) (v := .slice (some ⟨gn, 0, none⟩) M2 bc) rfl (by kernel_rfl) (by kernel_rfl) (by kernel_rfl) (by kernel_rfl) (by kernel_rfl) (fun _ _ _ h => h) (Or.inl ⟨by rfl, fun w hSw => by have q0 := Kept.cellOf hSw c3 (by simp); go_simp⟩) h0 ?_
           try simp only [z1, z2, z3, z4, z5, z6, z7, z8]
           refine wpAnyL_free (i := 16) (v := .int .i64 i) rfl (by kernel_rfl) (by kernel_rfl) (by kernel_rfl) (fun _ _ _ h => h) (Or.inl ⟨by rfl, fun w _ => by go_simp⟩) ?_
           try simp only [z1, z2, z3, z4, z5, z6, z7, z8]
           refine wpAnyL_free (i := 17) (v := .pointer (some ⟨gn, i * 2, none⟩)) rfl (by kernel_rfl) (by kernel_rfl) (by kernel_rfl) (fun _ _ _ h => h) (Or.inl ⟨by rfl, fun w _ => by have q0 := hlt; go_simp⟩) ?_
           try simp only [z1, z2, z3, z4, z5, z6, z7, z8]
           refine wpAnyL_free (i := 18) (v := .pointer (some ⟨gn, i * 2 + 1, none⟩)) rfl (by kernel_rfl) (by kernel_rfl) (by kernel_rfl) (fun _ _ _ h => h) (Or.inl ⟨by rfl, fun w _ => by go_simp⟩) ?_
           try simp only [z1, z2, z3, z4, z5, z6, z7, z8]
           refine wpAnyL_take (i := 19) (v := .pointer (some ⟨a0, 0, none⟩)) rfl (by kernel_rfl) (by kernel_rfl) (by kernel_rfl) (by kernel_rfl) (by kernel_rfl) (fun _ _ _ h => h) (Or.inl ⟨by rfl, fun w hSw => by have q0 := Kept.cellOf hSw cn1 (by simp); go_simp⟩) h0 ?_
           try simp only [z1, z2, z3, z4, z5, z6, z7, z8]
           obtain ⟨hot, gA, cA, w5, hap, y2, f2, H2⟩ := HP.out
           refine wpAnyL_one (i := 20) (by kernel_rfl) rfl (fun K hK => ?_)
           rw [if_pos (by rfl)]
           go_simp
           refine hot.mono ?_
           rintro e w' ⟨rfl, hw⟩
           obtain rfl := hw.symm
           refine hK.out _ _ (fun _ _ => h0) ?_
           clear hK K
           try simp only [z1, z2, z3, z4, z5, z6, z7, z8]
           refine wpAnyL_free (i := 21) (v := .agg #[encStr nm, .pointer (some ⟨b0, 0, none⟩)]) rfl (by kernel_rfl) (by kernel_rfl) (by kernel_rfl) (fun _ _ _ h => h) (Or.inl ⟨by rfl, fun w _ => by go_simp⟩) ?_
           try simp only [z1, z2, z3, z4, z5, z6, z7, z8]
           refine wpAnyL_one (i := 22) (by kernel_rfl) rfl (fun K hK => ?_)
           rw [if_pos (by rfl)]
           go_simp
           refine hK.out _ _ (fun _ _ => h0.alloc _) ?_
           clear hK K
           try simp only [z1, z2, z3, z4, z5, z6, z7, z8]
           refine wpAnyL_one (i := 23) (by kernel_rfl) rfl (fun K hK => ?_)
           rw [if_pos (by rfl)]
           refine wp_append_run (.tmp 150) (.tmp 171) 71 71 rfl (.slice fo i fc) (.slice (some ⟨v0.heap.size, 0, none⟩) 1 1) rfl rfl (.slice (some ⟨gA, 0, none⟩) (i + 1) cA) w5 hap ?_
           refine hK.out _ _ (fun _ h => by cases h) ?_
           clear hK K
           try simp only [z1, z2, z3, z4, z5, z6, z7, z8]
           refine wpAnyL_free (i := 24) (v := .pointer (some ⟨X, 3, none⟩)) rfl (by kernel_rfl) (by kernel_rfl) (by kernel_rfl) (fun _ _ _ h => h) (Or.inl ⟨by rfl, fun w _ => by go_simp⟩) ?_
           try simp only [z1, z2, z3, z4, z5, z6, z7, z8]
           refine wpAnyL_one (i := 25) (by kernel_rfl) rfl (fun K hK => ?_)
           rw [if_pos (by rfl)]
           go_simp
           refine hK.out _ _ (fun _ h => by cases h) ?_
           clear hK K
           try simp only [z1, z2, z3, z4, z5, z6, z7, z8]
           refine wpAnyL_done (by kernel_rfl) ?_ _
           go_wp2
           go_roundw
           case rel => exact ⟨i + 1, by omega, by go_num, H2⟩
           case measure => simp [intOf]; omega
          ·have HZ2 : Hid (∃ B K oX fo fc no2 nc2 bo2 bc2, Twz w wr X S { S with row := S.row.take 0 } A B K oX n (.slice oo n oc) (.slice mo n mc) (.slice no2 M1 nc2) (.slice bo2 M2 bc2) (.slice fo 0 fc) sv') := hide (by
            obtain rfl : i = M2 := by omega
            have e : ({ S with safe := S.safe.take i, row := [] } : Ds) = { S with row := S.row.take 0 } := by rw [List.take_of_length_le (by rw [HM2.out]; omega)]; rfl
            rw [e] at hZ
            exact ⟨B, K, oX, none, 0, no2, nc2, fo, fc, hZ⟩)
           clear hZ hapt
           go_wp2
           clear c3
           go_loopw [11, 12] (fun i _ wr => ∃ k : Nat, k ≤ M3 ∧ i = .int .i64 k ∧ Hid (∃ B K oX fo fc no2 nc2 bo2 bc2, Twz w wr X S { S with row := S.row.take k } A B K oX n (.slice oo n oc) (.slice mo n mc) (.slice no2 M1 nc2) (.slice bo2 M2 bc2) (.slice fo k fc) sv')) (fun i _ wr => M3 - (intOf i).toNat)
           case atStart => exact ⟨0, by omega, rfl, HZ2⟩
           case round =>
            clear HZ2
            obtain ⟨i, hi, rfl, HR⟩ := hrel
            obtain ⟨B, K, oX, fo, fc, no2, nc2, bo2, bc2, hZ⟩ := HR.out
            clear HR
            have c4 := hZ.keep.cellOf C4.out (by simp)
            by_cases hlt : i < M3
            ·obtain ⟨c, hc⟩ : ∃ c, S.row[i]? = some c := ⟨S.row[i]'(by rw [HM3.out]; exact hlt), List.getElem?_eq_getElem _⟩
             have hHr := HH.out.kept hZ.keep
             obtain ⟨gt, hgt⟩ : ∃ gt, to = some ⟨gt, 0, none⟩ := by
              rcases hHr.turns.2 with ⟨e, e2⟩ | ⟨gt, cap, cur, e, _⟩
              ·have := HM3.out; omega
              ·injection e with e _ _; exact ⟨gt, e⟩
             subst hgt
             have htk : S.row.take (i + 1) = S.row.take i ++ [c] := by rw [List.take_add_one, hc]; rfl
             have hln : (S.row.take i).length = i := by rw [List.length_take, HM3.out]; omega
             obtain ⟨kd, s1, s2, ta, tb, hyA, hyB, ho1⟩ : ∃ kd s1 s2 ta tb, tuV A c = [.int .i64 kd, encStr s1, encStr s2, .pointer ta] ∧ tuV B c = [.int .i64 kd, encStr s1, encStr s2, .pointer tb] ∧ ((tb = none ∧ ta = none) ∨ ∃ id, c.made = [id] ∧ ta = some ⟨A id, 0, none⟩ ∧ tb = some ⟨B id, 0, none⟩) := by
              cases c with
              | mk nm id => exact ⟨_, _, _, _, _, rfl, rfl, .inr ⟨id, rfl, rfl, rfl⟩⟩
              | gv f t => exact ⟨_, _, _, _, _, rfl, rfl, .inl ⟨rfl, rfl⟩⟩
              | tk nm => exact ⟨_, _, _, _, _, rfl, rfl, .inl ⟨rfl, rfl⟩⟩
             have hcell : ∀ (j : Nat) (v : Value), [Value.int .i64 kd, encStr s1, encStr s2, .pointer ta][j]? = some v → wr.cell? ⟨gt, i * 4 + j, none⟩ = some v := fun j v hv => by
              have h1 := tusV_at A S.row i j c v hc (by rw [hyA]; exact hv)
              have h2 := hHr.turns.cells (g := gt) rfl _ _ h1
              rw [add0, Nat.mul_comm] at h2
              exact h2
             have z0 := hcell 0 _ rfl
             have z1 := hcell 1 _ rfl
             have z2 := hcell 2 _ rfl
             have z3 := hcell 3 (.pointer ta) rfl
             rw [Nat.add_zero] at z0
             have hlv : ∀ id, c.made = [id] → id ∈ S.lives := fun id e => List.mem_append_right _ (List.mem_flatMap.2 ⟨_, List.mem_of_getElem? hc, by rw [e]; simp⟩)
             have hot : ∀ v, Kept [] wr v → Calls Tryz.prog 109 #[.slice oo n oc, .slice mo n mc, .pointer ta] v (fun e w' => e = .returned (.pointer tb) ∧ w' = v) := fun v hv => by
              have hKv : Keep (fun _ => False) wr v := Keep.ofNone hv
              refine rother_walk oo mo n oc mc A B K ta tb v hZ.len (by omega) ?_ (own_keeps hZ.old hKv (fun _ _ h => h)) (own_keeps hZ.made hKv (fun _ _ h => h)) (fun j hj => by obtain ⟨_, _, _, _, ht⟩ := hHr.th j (hZ.sub j hj); exact ⟨_, hKv.heapOf ht.cells (fun h => h)⟩) (fun a e => ?_)
              ·rcases ho1 with ⟨e1, e2⟩ | ⟨id, e1, e2, e3⟩
               ·exact .inl ⟨e1, fun j _ e => by rw [e2] at e; cases e⟩
               ·exact .inr ⟨id, hZ.all id (hlv id e1), e2, e3, fun j hj e => hHr.inj (hZ.sub j hj) (hlv id e1) e⟩
              ·rcases ho1 with ⟨e1, e2⟩ | ⟨id, e1, e2, e3⟩
               ·rw [e2] at e; cases e
               ·rw [e2] at e
                injection e with e
                subst e
                obtain ⟨_, _, _, _, ht⟩ := hHr.th id (hlv id e1)
                exact ⟨_, _, hKv.heapOf ht.cells (fun h => h)⟩
             obtain ⟨wC, hwC⟩ : ∃ wC, wC = wr.alloc (.cells #[.int .i64 kd, .string { data := List.toArray s1 }, .string { data := List.toArray s2 }, .pointer tb] 138) := ⟨_, rfl⟩
             have hkC : Kept [] wr wC := by rw [hwC]; exact (Kept.refl [] wr).alloc _
             have hbC : wC.heap[wr.heap.size]? = some (.cells #[.int .i64 kd, .string { data := List.toArray s1 }, .string { data := List.toArray s2 }, .pointer tb] 138 (0, 0)) := by rw [hwC]; exact (MapKept.heap_alloc wr _).1
             have hRC := hZ.rd.kept hkC
             obtain ⟨g7, c7, w7', hap, d4, f7, hR7, hK7⟩ := hRC.addTurn hln (by omega) c [.int .i64 kd, encStr s1, encStr s2, .pointer tb] hyB (fun u hu => by simp only [List.mem_cons, List.not_mem_nil, or_false] at hu; rcases hu with rfl | rfl | rfl | rfl <;> rfl) (fun k hk => by
              rcases ho1 with ⟨e1, e2⟩ | ⟨id, e1, e2, e3⟩
              ·cases c with
               | mk nm id => simp only [tuV, List.cons.injEq] at hyA; obtain ⟨_, _, _, e, _⟩ := hyA; rw [e2] at e; cases e
               | gv f t => simp [Nc.made] at hk
               | tk nm => simp [Nc.made] at hk
              ·rw [e1] at hk
               rw [show k = id by simpa using hk]
               exact (hZ.th id (hZ.all id (hlv id e1))).keep (Keep.ofNone (F := fun _ => False) hkC) (fun _ _ h => h))
             have H2 : Hid (∃ B K oX fo fc no2 nc2 bo2 bc2, Twz w (w7'.setCell ⟨X, 4, none⟩ (.slice (some ⟨g7, 0, none⟩) (i + 1) c7)) X S { S with row := S.row.take (i + 1) } A B K oX n (.slice oo n oc) (.slice mo n mc) (.slice no2 M1 nc2) (.slice bo2 M2 bc2) (.slice fo (i + 1) fc) sv') := hide ⟨B, K, _, _, _, no2, nc2, bo2, bc2, by
              have hz := hZ.step hkC hR7 hK7
              rw [htk]
              exact hz⟩
             have x4 : wC.cell? ⟨X, 4, none⟩ = some (.slice fo i fc) := hRC.cell 4 _ rfl
             have k0 := cell_of_row wC _ 0 _ _ _ hbC
             have k1 := cell_of_row wC _ 1 _ _ _ hbC
             have k2 := cell_of_row wC _ 2 _ _ _ hbC
             have k3 := cell_of_row wC _ 3 _ _ _ hbC
             simp only [List.getElem?_toArray, List.getElem?_cons_zero, List.getElem?_cons_succ] at k0 k1 k2 k3
             have hot1 := hot (wr.alloc (.cells #[.int .i64 kd, .string { data := List.toArray s1 }, .string { data := List.toArray s2 }, .pointer ta] 138)) ((Kept.refl [] wr).alloc _)
             obtain ⟨CC, hCC⟩ : ∃ CC, CC = wr.heap.size := ⟨_, rfl⟩
             rw [← hCC] at k0 k1 k2 k3
             clear hc hHr hZ htk hln hyA hyB ho1 hcell hlv hot hkC hbC hRC hR7 hK7
             go_upto_region 35 with (go_at_call 109; refine hot1.mono ?_; rintro e w' ⟨rfl, hw⟩; obtain rfl := hw; clear hot1)
             rw [← hwC, ← hCC]
             clear hwC hCC z0 z1 z2 z3 c4
             go_wp2_with (at_builtin; refine wpList_app_run rfl _ _ 72 72 rfl _ _ rfl rfl _ _ hap ?_)
             go_roundw
             case rel => exact ⟨i + 1, by omega, by go_num, H2⟩
             case measure => simp [intOf]; omega
            ·have HE : Hid (∃ B oX, RD wr X S B oX ∧ (∀ b, oX b ≠ 0 → w.heap.size ≤ b) ∧ Kept [] w wr) := hide (by
              obtain rfl : i = M3 := by omega
              have e : ({ S with row := S.row.take i } : Ds) = S := by rw [List.take_of_length_le (by rw [HM3.out]; omega)]
              rw [e] at hZ
              exact ⟨B, oX, ⟨HWF.out, _, _, _, _, hZ.rd⟩, hZ.lab, hZ.keep⟩)
             clear hZ
             go_wp2
             go_ret
             exact ⟨X, rfl, HE.out⟩
end
end Go.Proofs.YteckiednnaianaaGreat
