import Derived.Test.YtodihkdmneihiaaGreatDoorRetp
import Derived.Test.YtodihkdmneihiaaGreatDoorGnp
namespace Go.Proofs.YtodihkdmneihiaaGreatDoor
open Go.RowKit Dsk
set_option linter.unusedVariables false
set_option linter.unusedSimpArgs false
theorem take_madeN (r : List Nc) (n : Nat) {k : Nat} (h : k ∈ madeN (r.take n)) : k ∈ madeN r := (Ds.made_take r n).subset h
theorem units_take (r : List Ch) (k : Nat) : unitsOf (r.take k) ≤ unitsOf r := by
 induction r generalizing k with
 | nil => simp [unitsOf]
 | cons c r ih =>
  cases k with
  | zero => simp [unitsOf]
  | succ k => have := ih k; simp only [List.take_succ_cons, unitsOf]; omega
theorem chd_one {w : World} {c : Ch} {dv : Value} (h : ChD w (c, dv)) : dv.oneCell' = true := by
 obtain ⟨_, _, e, _⟩ := OwnB.shape (show OwnB w dv (chD c).length (chD c) from h)
 rw [show dv = _ from e]
 rfl
section
variable {w : World} {q : Nat} {S : Ds} {A : Nat → Nat} {o : Lab} {nv bv tv sv : Value}
theorem crash_store (h : RDx w q S A o nv bv tv sv) (hwf : S.Wf) (ps : List Int) {w5 wr : World} (hk5 : Kept [] w w5) {f : Value} {A' : Nat → Nat} {o' : Lab} (hC : Crs w5 wr o (Ds.crashTh ps 0 (S.crashNm ps) S.th) (S.crashNm ps) (S.crashNm ps).length f A' o') :
  RAft w ((((((((wr.setCell ⟨q, 2, none⟩ f).setCell ⟨q, 3, none⟩ f).setCell ⟨q, 4, none⟩ (.slice none 0 0)).setCell ⟨q, 0, none⟩ (.bool true)).setCell ⟨q, 7, none⟩ (.int .i64 0)).setCell ⟨q, 8, none⟩ (.int .i64 0)).setCell ⟨q, 9, none⟩ (.int .i64 0)).setCell ⟨q, 5, none⟩ (.int .i64 0) |>.setCell ⟨q, 6, none⟩ (.int .i64 0)) q (S.crash ps) o := by
 have hkr : Kept [] w wr := hk5.trans hC.keep (by simp)
 have hcr := (h.kept hkr).cells
 have hrow := hC.row
 rw [List.take_length] at hrow
 have hk : Keep (· = q) wr ((((((((wr.setCell ⟨q, 2, none⟩ f).setCell ⟨q, 3, none⟩ f).setCell ⟨q, 4, none⟩ (.slice none 0 0)).setCell ⟨q, 0, none⟩ (.bool true)).setCell ⟨q, 7, none⟩ (.int .i64 0)).setCell ⟨q, 8, none⟩ (.int .i64 0)).setCell ⟨q, 9, none⟩ (.int .i64 0)).setCell ⟨q, 5, none⟩ (.int .i64 0) |>.setCell ⟨q, 6, none⟩ (.int .i64 0)) :=
  (((((((((Keep.refl (· = q) wr).setCell (p := ⟨q, 2, none⟩) (fun _ => rfl) _).setCell (p := ⟨q, 3, none⟩) (fun _ => rfl) _).setCell (p := ⟨q, 4, none⟩) (fun _ => rfl) _).setCell (p := ⟨q, 0, none⟩) (fun _ => rfl) _).setCell (p := ⟨q, 7, none⟩) (fun _ => rfl) _).setCell (p := ⟨q, 8, none⟩) (fun _ => rfl) _).setCell (p := ⟨q, 9, none⟩) (fun _ => rfl) _).setCell (p := ⟨q, 5, none⟩) (fun _ => rfl) _).setCell (p := ⟨q, 6, none⟩) (fun _ => rfl) _
 have hq5 : q < w5.heap.size := Nat.lt_of_lt_of_le h.qlt hk5.size
 have ho : ∀ b, b < w.heap.size → o' b = o b := fun b hb => hC.old b (Nat.lt_of_lt_of_le hb hk5.size)
 have htold := own_keeps h.told (Keep.ofNone (F := fun _ => False) hkr) (fun _ _ h => h)
 refine ⟨A', o', ⟨hwf.crash ps, f, f, .slice none 0 0, sv, ⟨?_, own_keeps hrow hk (own_types0 hrow hcr (by decide)), own_keeps hrow hk (own_types0 hrow hcr (by decide)), World.ownsRow_nil _ _ _ _, own_keeps htold hk (own_types0 htold hcr (by decide)), ?_, (ho q h.qlt).trans h.lq, fun g hg => (hC.new g hg).2, fun g hg => (hC.new g hg).2, by simp [Value.ownBlock], fun g hg => (ho g (h.told.lt g hg).2).trans (h.ls g hg), fun b hb => Nat.lt_of_lt_of_le (hC.lim b hb) hk.size, (show (Lit.int .i64 0).wf = true ∧ (Lit.int .i64 0).wf = true ∧ (Lit.int .i64 0).wf = true from ⟨by decide, by decide, by decide⟩)⟩⟩, fun b hb hn => by rw [ho b hb] at hn; exact hn, ?_⟩
 ·rw [heap_setCell_same _ q 6 _ _ _ (heap_setCell_same _ q 5 _ _ _ (heap_setCell_same _ q 9 _ _ _ (heap_setCell_same _ q 8 _ _ _ (heap_setCell_same _ q 7 _ _ _ (heap_setCell_same _ q 0 _ _ _ (heap_setCell_same _ q 4 _ _ _ (heap_setCell_same _ q 3 _ _ _ (heap_setCell_same _ q 2 _ _ _ hcr))))))))]
  simp [Ds.crash]
 ·intro k hk'
  have hm : k ∈ (S.crashNm ps).ids := by simpa [Ds.lives, Ds.crash, madeN] using hk'
  obtain ⟨n, hn⟩ := Nm.mem_ids.1 hm
  have h1 := hC.th (n, k) (by rw [List.take_length]; exact hn)
  exact h1.keep hk (fun b hb e => by
   rw [show b = q from e, ho q h.qlt, h.lq] at hb
   omega)
 ·exact (Keep.ofNone hkr).trans hk (fun i e _ => by show o i ≠ 0; rw [show i = q from e, h.lq]; decide)
set_option maxHeartbeats 6400000 in
set_option maxRecDepth 100000 in
theorem rcrash_ok (h : RDx w q S A o nv bv tv sv) (hwf : S.Wf) {N : Nat} (hB : S.Bd N) (hN : N ≤ 268435456) (po : Option Addr) (pn pc : Nat) (ps : List Int) (hpl : ps.length = pn) (hpn : pn ≤ 17592186044416) (hps : Ints w po ps) (hpw : ∀ p ∈ ps, (Lit.int .i64 p).wf = true) :
  Calls Tryz.prog 40 #[.pointer (some ⟨q, 0, none⟩), .slice po pn pc] w fun e w' => e = .returned (.tuple #[]) ∧ RAft w w' q (S.crash ps) o := by
 have hroom := hwf.room
 obtain ⟨bo0, bc0, rfl⟩ := h.bvs
 obtain ⟨to0, tc0, rfl⟩ := h.tvs
 have c1 := h.cell 1 _ rfl
 have c3 := h.cell 3 _ rfl
 have c4 := h.cell 4 _ rfl
 have hnm := hB.nm
 have hr0 := (S.room : Int) |> fun _ => (show ((S.room : Int) == 0) = false by simp; omega)
 obtain ⟨tn, htn⟩ : ∃ tn, S.row.length = tn := ⟨_, rfl⟩
 obtain ⟨sn, hsn⟩ : ∃ sn, S.safe.length = sn := ⟨_, rfl⟩
 rw [htn] at c4
 rw [hsn] at c3
 have hrd0 := rround_ok po pn pc ps 0 tn w hpl hpn (by omega) (by omega) hps hpw
 obtain ⟨n, hn⟩ : ∃ n, rnd (ps.getD 0 0) tn = n := ⟨_, rfl⟩
 have hnt : n ≤ tn := by rw [← hn]; exact rnd_le _ _
 rw [hn] at hrd0
 have HCN : Hid (S.crashNm ps = Dsk.runN S.safe (S.row.take n)) := hide (by unfold Ds.crashNm; rw [htn, hn])
 have HH := hide h
 have HWF := hide hwf
 have HTN := hide htn
 have HSN := hide hsn
 have HPS := hide hps
 have HPL := hide hpl
 have HPW := hide hpw
 have HB := hide hB
 have hsl : sn + tn ≤ 268435456 := by omega
 have HC4 := hide c4
 have HST0 : Hid (Kept [] w w ∧ w.ownsRow 0 139 2 (.slice bo0 sn bc0) (Dsk.runN S.safe (S.row.take 0)).length (nmsV A (Dsk.runN S.safe (S.row.take 0))) ∧ (Dsk.runN S.safe (S.row.take 0)).length = sn) := hide ⟨Kept.refl _ _, by show w.ownsRow 0 139 2 (.slice bo0 sn bc0) S.safe.length (nmsV A S.safe); have := h.before; rw [hsn] at this ⊢; exact this, hsn⟩
 clear h hwf hB hnm htn hsn hn hpl hpw
 go_enter Tryz.func40, Tryz.ntmps40
 go_wp2_with (go_at_call 89; refine hrd0.mono ?_; rintro e w' ⟨rfl, hw⟩; obtain rfl := hw.symm; clear hrd0)
 clear c1 c3 c4
 go_loopw [4, 6] (fun f i wr => ∃ k x : Nat, k ≤ n ∧ x ≤ sn + k ∧ i = .int .i64 k ∧ Hid (Kept [] w wr ∧ wr.ownsRow 0 139 2 f (Dsk.runN S.safe (S.row.take k)).length (nmsV A (Dsk.runN S.safe (S.row.take k))) ∧ (Dsk.runN S.safe (S.row.take k)).length = x) ∧ ∃ fo fc, f = .slice fo x fc) (fun f i wr => n - (intOf i).toNat)
 case atStart => exact ⟨0, sn, by omega, by omega, rfl, HST0, _, _, rfl⟩
 case round =>
  clear HST0
  obtain ⟨k, x, hk, hx, rfl, HR, fo, fc, rfl⟩ := hrel
  obtain ⟨hkw, hrow, hlen⟩ := HR.out
  clear HR
  by_cases hlt : k < n
  ·obtain ⟨c, hc⟩ : ∃ c, S.row[k]? = some c := ⟨S.row[k]'(by rw [HTN.out]; omega), List.getElem?_eq_getElem _⟩
   have hts : S.row.take (k + 1) = S.row.take k ++ [c] := by rw [List.take_add_one, hc]; rfl
   have hok : c.ok (Dsk.runN S.safe (S.row.take k)) := by
    have := okN_take S.safe S.row (k + 1) HWF.out.ok
    rw [hts, okN_snoc] at this
    exact this.2
   have hup : (Dsk.runN S.safe (S.row.take k)).Up := runN_up HWF.out.up _
   have hstep : Dsk.runN S.safe (S.row.take (k + 1)) = c.apply (Dsk.runN S.safe (S.row.take k)) := by rw [hts, runN_snoc]
   have hHr := HH.out.kept hkw
   obtain ⟨gt, rfl⟩ : ∃ gt, to0 = some ⟨gt, 0, none⟩ := by
    rcases hHr.turns.2 with ⟨e, e2⟩ | ⟨gt, cap, cur, e, _⟩
    ·have := HTN.out; omega
    ·injection e with e _ _; exact ⟨gt, e⟩
   obtain ⟨y0, y1, y2, y3, hy⟩ : ∃ y0 y1 y2 y3, tuV A c = [y0, y1, y2, y3] := by cases c <;> exact ⟨_, _, _, _, rfl⟩
   have hcell : ∀ (j : Nat) (v : Value), [y0, y1, y2, y3][j]? = some v → wr.cell? ⟨gt, k * 4 + j, none⟩ = some v := fun j v hv => by
    have h1 := tusV_at A S.row k j c v hc (by rw [hy]; exact hv)
    have h2 := hHr.turns.cells (g := gt) rfl _ _ h1
    rw [add0, Nat.mul_comm] at h2
    exact h2
   have z0 := hcell 0 y0 rfl
   have z1 := hcell 1 y1 rfl
   have z2 := hcell 2 y2 rfl
   have z3 := hcell 3 y3 rfl
   have one : y0.oneCell' = true ∧ y1.oneCell' = true ∧ y2.oneCell' = true ∧ y3.oneCell' = true := by
    cases c <;> (simp only [tuV, List.cons.injEq, and_true] at hy; obtain ⟨rfl, rfl, rfl, rfl⟩ := hy; exact ⟨rfl, rfl, rfl, rfl⟩)
   rw [Nat.add_zero] at z0
   have hlr : (Dsk.runN S.safe (S.row.take k)).length = x := hlen
   have htu := turn_ok fo x fc A (Dsk.runN S.safe (S.row.take k)) c #[y0, y1, y2, y3] (by rw [hy]) wr hlr (by omega) hup hok (by rw [hlr] at hrow; exact hrow)
   have d4 := hkw.cellOf HC4.out (by simp)
   have hx1 := apply_len (Dsk.runN S.safe (S.row.take k)) c
   rw [hlr] at hx1
   have HNX : Hid (∀ w2 v2, Bl wr w2 A v2 (c.apply (Dsk.runN S.safe (S.row.take k))) → Kept [] w w2 ∧ w2.ownsRow 0 139 2 v2 (Dsk.runN S.safe (S.row.take (k + 1))).length (nmsV A (Dsk.runN S.safe (S.row.take (k + 1))))) := hide (fun w2 v2 hb => by
    rw [hstep]
    exact ⟨hkw.trans hb.keep (by simp), hb.row⟩)
   obtain ⟨x2, hx2⟩ : ∃ x2, (c.apply (Dsk.runN S.safe (S.row.take k))).length = x2 := ⟨_, rfl⟩
   have HX2 : Hid ((Dsk.runN S.safe (S.row.take (k + 1))).length = x2) := hide (by rw [hstep]; exact hx2)
   rw [hx2] at hx1
   have HX3 := hide hx2
   clear hHr hc hts hok hup hstep hy hcell hrow hlen hlr hx2
   go_wp2_with (go_at_call 74; refine htu.mono ?_; rintro e w2 ⟨v2, rfl, hB2⟩; obtain ⟨vo2, vc2, e2⟩ := hB2.shape; rw [HX3.out] at e2; subst e2; have H2 := hide (HNX.out w2 _ hB2); clear htu hB2)
   go_roundw
   case rel => exact ⟨k + 1, x2, by omega, by omega, by go_num, hide ⟨H2.out.1, H2.out.2, HX2.out⟩, _, _, rfl⟩
   case measure => simp [intOf]; omega
  ·obtain rfl : k = n := by omega
   obtain ⟨w5, hw5⟩ : ∃ w5, w5 = wr := ⟨_, rfl⟩
   rw [← hw5] at hkw hrow ⊢
   clear hw5
   have hrow2 : w5.ownsRow 0 139 2 (.slice fo x fc) (S.crashNm ps).length (nmsV A (S.crashNm ps)) := by rw [HCN.out]; exact hrow
   have hLlen : (S.crashNm ps).length = x := by rw [HCN.out]; exact hlen
   obtain ⟨M, hMx⟩ : ∃ M, M = x := ⟨_, rfl⟩
   rw [← hMx] at hrow2 hLlen hx ⊢
   have HL := hide hLlen
   have HLR := hide hrow2
   have HK5 := hide hkw
   have HND : Hid ((S.crashNm ps).ids.Nodup) := hide (HWF.out.crashIds ps)
   have HLT : Hid (∀ p ∈ S.crashNm ps, p.2 ∈ S.lives) := hide (fun p hp => by
    have h1 : p.2 ∈ (S.crashNm ps).ids := List.mem_map.2 ⟨p, hp, rfl⟩
    rw [HCN.out] at h1
    have h2 := runN_ids_sub _ h1
    rcases List.mem_append.1 h2 with e | e
    ·exact List.mem_append_left _ e
    ·exact List.mem_append_right _ (take_madeN _ _ e))
   have HS5 : Hid (Crs w5 w5 o (Ds.crashTh ps 0 (S.crashNm ps) S.th) (S.crashNm ps) 0 (.slice none 0 0) A o) := hide (Crs.start (fun b hb => Nat.lt_of_lt_of_le (HH.out.lim b hb) hkw.size))
   have HPS5 : Hid (Ints w5 po ps) := hide (HPS.out.kept (Keep.ofNone (F := fun _ => False) hkw) (fun _ _ _ h => h))
   clear hrow hrow2 hlen hLlen hkw hMx
   obtain ⟨lo, hlo⟩ : ∃ lo, lo = fo := ⟨_, rfl⟩
   obtain ⟨lc, hlc⟩ : ∃ lc, lc = fc := ⟨_, rfl⟩
   rw [← hlo, ← hlc] at HLR ⊢
   clear hlo hlc
   go_wp2
   go_loopw [7, 8, 9, 10, 11, 12, 13, 14, 15] (fun f i _ _ _ _ _ _ _ wr => ∃ k : Nat, k ≤ M ∧ i = .int .i64 k ∧ Hid (∃ A' o', Crs w5 wr o (Ds.crashTh ps 0 (S.crashNm ps) S.th) (S.crashNm ps) k f A' o') ∧ ∃ fo fc, f = .slice fo k fc) (fun f i _ _ _ _ _ _ _ wr => M - (intOf i).toNat)
   case atStart => exact ⟨0, by omega, rfl, hide ⟨A, o, HS5.out⟩, none, 0, rfl⟩
   case round =>
    clear HS5
    obtain ⟨i, hi, rfl, HR, fo, fc, rfl⟩ := hrel
    by_cases hiM : i < M
    ·obtain ⟨A', o', hR⟩ := HR.out
     clear HR
     obtain ⟨⟨nm, id⟩, hp⟩ : ∃ p, (S.crashNm ps)[i]? = some p := ⟨(S.crashNm ps)[i]'(by rw [HL.out]; exact hiM), List.getElem?_eq_getElem _⟩
     have hmem := List.mem_of_getElem? hp
     obtain ⟨gl, rfl, hl0, hl1⟩ := nms_cell (n := M) (A := A) (w := w5) (vo := lo) (vc := lc) (by have := HLR.out; exact this) hp
     have hHr := HH.out.kept (HK5.out.trans hR.keep (by simp))
     obtain ⟨s1, h1, r1, R1, ht⟩ := hHr.th id (HLT.out _ hmem)
     have hnx : id < S.nx := HWF.out.lt id (HLT.out _ hmem)
     have hbd := HB.out.th id hnx
     have hokt := HWF.out.th id hnx
     have hRl : R1.length = (S.th id).row.length := by rw [← ht.eq]; simp
     obtain ⟨ro, rc, rfl, _⟩ := own_shape ht.row
     obtain ⟨so, sc, rfl, _⟩ := ht.safe.shape
     obtain ⟨wi, hwi⟩ : ∃ wi, wi = wr := ⟨_, rfl⟩
     rw [← hwi] at hR ht hHr ⊢
     clear hwi
     have t0 : wi.cell? ⟨A id, 0, none⟩ = some (.slice so (S.th id).safe.length sc) := by rw [cell_of_row wi _ 0 _ _ _ ht.cells]; rfl
     have t2 : wi.cell? ⟨A id, 2, none⟩ = some (.slice ro R1.length rc) := by rw [cell_of_row wi _ 2 _ _ _ ht.cells]; rfl
     have hcr : Ds.crashTh ps 0 (S.crashNm ps) S.th id = (S.th id).crash (ps.getD (i + 1) 0) := by have := crashTh_at ps (S.crashNm ps) HND.out S.th 0 i (nm, id) hp; rw [Nat.zero_add] at this; exact this
     obtain ⟨rn, hrn⟩ : ∃ rn, R1.length = rn := ⟨_, rfl⟩
     obtain ⟨zs, hzs⟩ : ∃ zs, (S.th id).safe.length = zs := ⟨_, rfl⟩
     have HT := hide ht
     have hrw := ht.row
     rw [hrn] at t2 hRl hrw
     rw [hzs] at t0
     have hrow3 : ∀ (j : Nat) (p : Ch × Value), R1[j]? = some p → ∃ gr, ro = some ⟨gr, 0, none⟩ ∧ wi.cell? ⟨gr, j * 3, none⟩ = some (.bool (isCut p.1)) ∧ wi.cell? ⟨gr, j * 3 + 1, none⟩ = some (.int .i64 p.1.place) ∧ wi.cell? ⟨gr, j * 3 + 2, none⟩ = some p.2 := fun j p hj => by
      have hjl := (List.getElem?_eq_some_iff.1 hj).1
      obtain ⟨gr, e⟩ : ∃ gr, ro = some ⟨gr, 0, none⟩ := by
       rcases hrw.2 with ⟨e, e2⟩ | ⟨gr, cap, cur, e, _⟩
       ·omega
       ·injection e with e _ _; exact ⟨gr, e⟩
      subst e
      refine ⟨gr, rfl, ?_, ?_, ?_⟩
      ·have := hrw.cells (g := gr) rfl _ _ (chsV_at R1 j 0 p _ hj rfl); rw [add0, Nat.mul_comm] at this; exact this
      ·have := hrw.cells (g := gr) rfl _ _ (chsV_at R1 j 1 p _ hj rfl); rw [add0, Nat.mul_comm] at this; exact this
      ·have := hrw.cells (g := gr) rfl _ _ (chsV_at R1 j 2 p _ hj rfl); rw [add0, Nat.mul_comm] at this; exact this
     have HR3 := hide hrow3
     have HRD : Hid (∀ p ∈ R1, ChD wi p) := hide ht.data
     have HEQ : Hid (R1.map (·.1) = (S.th id).row) := hide ht.eq
     have HZS := hide hzs
     have HRN := hide hrn
     have HRL := hide hRl
     have HBD := hide hbd
     have HOK := hide hokt
     have HCR := hide hcr
     have HRR := hide hR
     have HPP := hide hp
     have HT0 := hide t0
     have HT2 := hide t2
     have hl1i := hR.keep.cellOf hl1 (by simp)
     have hl0i := hR.keep.cellOf hl0 (by simp)
     have HL0 := hide hl0i
     have HPI : Hid (Ints wi po ps) := hide (HPS5.out.kept (Keep.ofNone (F := fun _ => False) hR.keep) (fun _ _ _ h => h))
     have hrnb : rn ≤ 268435456 := by omega
     have hzsb : zs ≤ 268435456 := by omega
     clear ht hHr hrw hrow3 hzs hrn hRl hbd hokt hcr hR hp hl0 hl1 t0 hl0i hmem
     obtain ⟨ab0, hab0⟩ : ∃ ab0, ab0 = A id := ⟨_, rfl⟩
     rw [← hab0] at hl1i t2 HT0 HT2
     clear hab0
     go_wp2
     clear t2 hl1i
     go_loopw [10, 11] (fun u j wr => ∃ k v : Nat, k ≤ rn ∧ j = .int .i64 k ∧ u = .int .i64 v ∧ v ≤ 268435456 ∧ Hid (Kept [] wi wr ∧ unitsOf ((S.th id).row.take k) = v)) (fun u j wr => rn - (intOf j).toNat)
     case atStart => exact ⟨0, 0, by omega, rfl, rfl, by omega, hide ⟨Kept.refl _ _, by simp [unitsOf]⟩⟩
     case round =>
      obtain ⟨k, v, hk, rfl, rfl, hv, HU⟩ := hrel
      obtain ⟨hku, hun⟩ := HU.out
      clear HU
      have t2 := hku.cellOf HT2.out (by simp)
      by_cases hlt : k < rn
      ·obtain ⟨⟨c, dv⟩, hck⟩ : ∃ p, R1[k]? = some p := ⟨R1[k]'(by rw [HRN.out]; exact hlt), List.getElem?_eq_getElem _⟩
       obtain ⟨gr, rfl, r0, r1', r2⟩ := HR3.out k _ hck
       replace r0 := hku.cellOf r0 (by simp)
       replace r1' := hku.cellOf r1' (by simp)
       replace r2 := hku.cellOf r2 (by simp)
       have hrc : (S.th id).row[k]? = some c := by rw [← HEQ.out]; simp [hck]
       have hst : unitsOf ((S.th id).row.take (k + 1)) = v + c.units := by rw [List.take_add_one, hrc]; show unitsOf (_ ++ [c]) = _; rw [unitsOf_snoc, hun]
       have hle : v + c.units ≤ 268435456 := by
        rw [← hst]
        have h1 : unitsOf ((S.th id).row.take (k + 1)) ≤ unitsOf (S.th id).row := units_take _ _
        have := HBD.out
        omega
       have hud := (HRD.out _ (List.mem_of_getElem? hck)).keep (Keep.ofNone (F := fun _ => False) hku) (fun _ _ h => h)
       have huc := runits_ok c dv wr hud
       have HNX : Hid (∀ w2, Kept [] wr w2 → Kept [] wi w2 ∧ unitsOf ((S.th id).row.take (k + 1)) = v + c.units) := hide (fun w2 h2 => ⟨hku.trans h2 (by simp), hst⟩)
       have hdv1 : dv.oneCell' = true := chd_one hud
       simp only at r0 r1' r2
       generalize isCut c = ic at r0 huc
       generalize c.place = pl at r1' huc
       generalize c.units = un at huc HNX hle
       clear hck hrc hst hun hud hku
       go_wp2_with (go_at_call 90; refine huc.mono ?_; rintro e w2 ⟨rfl, hk2⟩; have H2 := hide (HNX.out w2 hk2); clear huc hk2)
       go_roundw
       case rel => exact ⟨k + 1, v + un, by omega, by go_num, by go_num, by omega, H2⟩
       case measure => simp [intOf]; omega
      ·have hall : unitsOf (S.th id).row = v := by rw [← hun, List.take_of_length_le (by rw [← HRL.out]; omega)]
       have hrd := rround_ok po pn pc ps (i + 1) v wr HPL.out hpn (by omega) (by omega) (HPI.out.kept (Keep.ofNone (F := fun _ => False) hku) (fun _ _ _ h => h)) HPW.out
       obtain ⟨lf, hlf⟩ : ∃ lf, rnd (ps.getD (i + 1) 0) v = lf := ⟨_, rfl⟩
       have hlfv : lf ≤ v := by rw [← hlf]; exact rnd_le _ _
       rw [hlf] at hrd
       have HGO : Hid (torn (S.th id).safe (S.th id).row lf = ((S.th id).crash (ps.getD (i + 1) 0)).safe ∧ ((S.th id).crash (ps.getD (i + 1) 0)).shown = ((S.th id).crash (ps.getD (i + 1) 0)).safe ∧ ((S.th id).crash (ps.getD (i + 1) 0)).row = []) := hide ⟨by unfold Th.crash; rw [hall, hlf], rfl, rfl⟩
       have hcast : ((i : Int) + 1) = ((i + 1 : Nat) : Int) := by omega
       have hfit := HOK.out.1
       have HTOR : Hid (Tor (torn (S.th id).safe (S.th id).row lf) (S.th id).safe (S.th id).row 0 lf) := hide ⟨by simp, fun _ => by simpa using hfit, by have := HBD.out; simp only [List.drop_zero]; omega⟩
       have t0 := hku.cellOf HT0.out (by simp)
       have hsafe : OwnB wr (.slice so zs sc) zs (S.th id).safe := by
        have := HT.out.safe.kept hku
        rw [HZS.out] at this
        exact this
       have hcp := copiedB_ok (.slice so zs sc) zs (S.th id).safe wr hsafe (by omega)
       have HKU := hide hku
       clear hun hall hlf hfit hku hsafe
       rw [← hcast] at hrd
       clear hcast
       go_wp2_with (first
        | (go_at_call 89; refine hrd.mono ?_; rintro e w' ⟨rfl, hw⟩; obtain rfl := hw.symm; clear hrd)
        | (go_at_call 82; refine hcp.mono ?_; rintro e wc ⟨gb, cb, rfl, hrb, hkb, hgb⟩; have HBB := hide (And.intro hrb (And.intro hkb hgb)); clear hcp hrb hkb hgb))
       have HCG0 : Hid (Cg wi wc (.slice (some ⟨gb, 0, none⟩) zs cb) (S.th id).safe) := hide (by
        obtain ⟨q1, q2, q3⟩ := HBB.out
        exact ⟨by rw [HZS.out]; exact q1, fun g e => by simp only [Value.ownBlock] at e; injection e with e; rw [← e]; exact Nat.le_trans HKU.out.size q3, HKU.out.trans q2 (by simp)⟩)
       clear HBB t0 t2
       go_loopw [12, 13, 14, 15] (fun l b j _ wr => ∃ k lv bn : Nat, k ≤ rn ∧ j = .int .i64 k ∧ l = .int .i64 lv ∧ lv ≤ 268435456 ∧ bn ≤ 268435456 ∧ Hid (∃ cur, Cg wi wr b cur ∧ cur.length = bn ∧ Tor (torn (S.th id).safe (S.th id).row lf) cur (S.th id).row k lv) ∧ ∃ bo bc, b = .slice bo bn bc) (fun l b j _ wr => rn - (intOf j).toNat)
       case atStart => exact ⟨0, lf, zs, by omega, rfl, rfl, by omega, by omega, hide ⟨(S.th id).safe, HCG0.out, HZS.out, HTOR.out⟩, _, _, rfl⟩
       case round =>
        clear HCG0 HTOR
        obtain ⟨k, lv, bn, hk, rfl, rfl, hlv, hbn, HQ, bo, bc, rfl⟩ := hrel
        obtain ⟨cur, hcg, hcl, htor⟩ := HQ.out
        clear HQ
        have t2 := hcg.keep.cellOf HT2.out (by simp)
        by_cases hcond : k < rn ∧ 0 < lv
        ·obtain ⟨hk1, hk2⟩ := hcond
         obtain ⟨⟨c, dv⟩, hck⟩ : ∃ p, R1[k]? = some p := ⟨R1[k]'(by rw [HRN.out]; exact hk1), List.getElem?_eq_getElem _⟩
         obtain ⟨gr, rfl, r0, r1', r2⟩ := HR3.out k _ hck
         replace r0 := hcg.keep.cellOf r0 (by simp)
         replace r1' := hcg.keep.cellOf r1' (by simp)
         replace r2 := hcg.keep.cellOf r2 (by simp)
         have hrc : (S.th id).row[k]? = some c := by rw [← HEQ.out]; simp [hck]
         obtain ⟨hts, hpl2, hct, hln⟩ := htor.step hrc hk2 rfl
         have hdK : ∀ W, Kept [] wr W → ChD W (c, dv) := fun W hW => ((HRD.out _ (List.mem_of_getElem? hck)).keep (Keep.ofNone (F := fun _ => False) hcg.keep) (fun _ _ h => h)).keep (Keep.ofNone (F := fun _ => False) hW) (fun _ _ h => h)
         have hdv1 : dv.oneCell' = true := chd_one (hdK wr (Kept.refl _ _))
         have huc := runits_ok c dv wr (hdK wr (Kept.refl _ _))
         have HCH : Hid (∀ W, Kept [] wr W → Calls Tryz.prog 79 #[.slice bo bn bc, .agg #[.bool (isCut c), .int .i64 c.place, dv], .int .i64 (min lv c.units : Nat)] W fun e w' => ∃ v, e = .returned v ∧ Cg W w' v (c.apply cur (min lv c.units))) := hide (fun W hW => change_ok bo bn bc (min lv c.units) cur c dv W (by
           have := OwnB.of hcg.row
           rw [hcl] at this
           exact this.kept hW) (hdK W hW) (by rw [← hcl]; exact hpl2) (Nat.min_le_right _ _) hct (by rw [hcl] at hln; omega))
         have hal := c.apply_len cur (min lv c.units) hpl2
         have HNX : Hid (∀ W W2 v, Kept [] wr W → Cg W W2 v (c.apply cur (min lv c.units)) → ∃ cur', Cg wi W2 v cur' ∧ cur' = c.apply cur (min lv c.units) ∧ Tor (torn (S.th id).safe (S.th id).row lf) cur' (S.th id).row (k + 1) (lv - min lv c.units)) := hide (fun W W2 v hW h2 => ⟨_, ⟨h2.row, fun g hg => Nat.le_trans (Nat.le_trans hcg.keep.size hW.size) (h2.new g hg), hcg.keep.trans (hW.trans h2.keep (by simp)) (by simp)⟩, rfl, hts⟩)
         obtain ⟨bn2, hbn2⟩ : ∃ bn2, (c.apply cur (min lv c.units)).length = bn2 := ⟨_, rfl⟩
         have hbn2b : bn2 ≤ 268435456 := by rw [← hbn2]; have := hts.len; omega
         have HBN := hide hbn2
         have hbnK : ∀ W, Kept [] wr W → W.cell? ⟨ab0, 2, none⟩ = some (.slice (some ⟨gr, 0, none⟩) rn rc) ∧ W.cell? ⟨gr, k * 3, none⟩ = some (.bool (isCut c)) ∧ W.cell? ⟨gr, k * 3 + 1, none⟩ = some (.int .i64 c.place) ∧ W.cell? ⟨gr, k * 3 + 2, none⟩ = some dv := fun W hW => ⟨hW.cellOf t2 (by simp), hW.cellOf r0 (by simp), hW.cellOf r1' (by simp), hW.cellOf r2 (by simp)⟩
         have HCK := hide hbnK
         simp only at r0 r1' r2
         clear hck hrc htor hcl hdK hts hpl2 hct hln hal hbn2 hcg hbnK
         generalize isCut c = ic at r0 huc HCH HCK
         generalize c.place = pl at r1' huc HCH HCK
         by_cases hbig : lv < c.units
         ·have hmin : min lv c.units = lv := by omega
          rw [hmin] at HCH HNX HBN
          have hgt : (lv : Int) < (c.units : Int) := by omega
          generalize c.units = un at huc hgt hbig hmin
          have hself : lv - lv = 0 := Nat.sub_self _
          clear hmin
          go_upto_region 25 with (go_at_call 90; refine huc.mono ?_; rintro e w2 ⟨rfl, hk2'⟩; have HK2 := hide hk2'; clear huc hk2' r0 r1' r2 t2)
          obtain ⟨u2, x0, x1, x2⟩ := HCK.out w2 HK2.out
          have hch := HCH.out w2 HK2.out
          go_wp2_with (go_at_call 79; refine hch.mono ?_; rintro e w3 ⟨v3, rfl, hB3⟩; obtain ⟨vo3, vc3, e3, _⟩ := own_shape hB3.row; rw [HBN.out] at e3; subst e3; have H3 := hide (HNX.out w2 w3 _ HK2.out hB3); clear hch hB3)
          go_roundw
          case rel =>
           refine ⟨k + 1, 0, bn2, by omega, by go_num, by go_num, by omega, hbn2b, hide ?_, _, _, rfl⟩
           obtain ⟨cur', g1, g2, g3⟩ := H3.out
           rw [hself] at g3
           exact ⟨cur', g1, by rw [g2]; exact HBN.out, g3⟩
          case measure => simp [intOf]; omega
         ·have hmin : min lv c.units = c.units := by omega
          rw [hmin] at HCH HNX HBN
          have hgt : ¬ (lv : Int) < (c.units : Int) := by omega
          have hle2 : c.units ≤ lv := by omega
          generalize c.units = un at huc hgt hbig hmin HCH HNX HBN hle2
          clear hmin
          go_upto_region 25 with (go_at_call 90; refine huc.mono ?_; rintro e w2 ⟨rfl, hk2'⟩; have HK2 := hide hk2'; clear huc hk2' r0 r1' r2 t2)
          obtain ⟨u2, x0, x1, x2⟩ := HCK.out w2 HK2.out
          have hch := HCH.out w2 HK2.out
          go_wp2_with (go_at_call 79; refine hch.mono ?_; rintro e w3 ⟨v3, rfl, hB3⟩; obtain ⟨vo3, vc3, e3, _⟩ := own_shape hB3.row; rw [HBN.out] at e3; subst e3; have H3 := hide (HNX.out w2 w3 _ HK2.out hB3); clear hch hB3)
          go_roundw
          case rel =>
           refine ⟨k + 1, lv - un, bn2, by omega, by go_num, by go_num, by omega, hbn2b, hide ?_, _, _, rfl⟩
           obtain ⟨cur', g1, g2, g3⟩ := H3.out
           exact ⟨cur', g1, by rw [g2]; exact HBN.out, g3⟩
          case measure => simp [intOf]; omega
        ·have hend := htor.end0 (by rw [← HRL.out]; omega)
         obtain ⟨w6, hw6⟩ : ∃ w6, w6 = wr := ⟨_, rfl⟩
         rw [← hw6] at hcg t2 ⊢
         clear hw6
         obtain ⟨G1, G2, G3⟩ := HGO.out
         have hBf : OwnB w6 (.slice bo bn bc) bn cur := by have := OwnB.of hcg.row; rw [hcl] at this; exact this
         have hn6 := hcg.keep.cellOf HL0.out (by simp)
         have HCP : Hid (∀ v, Kept [] w6 v → _) := hide (fun v (hv : Kept [] w6 v) => copiedB_ok (.slice bo bn bc) bn cur v (hBf.kept hv) (by omega))
         have HST : Hid (∀ v, Kept [] w6 v → ∀ g7 c7 w7, w7.ownsRow 0 5 1 (.slice (some ⟨g7, 0, none⟩) bn c7) bn (bys cur) → Kept [] v w7 → v.heap.size ≤ g7 → ∃ ga gc w8, (Builtin.append_ #[76, 76] 76 #[.slice fo i fc, .slice (some ⟨w7.heap.size + 1, 0, none⟩) 1 1]).run Tryz.prog ((w7.alloc (.cells #[.slice bo bn bc, .slice (some ⟨g7, 0, none⟩) bn c7, .slice none 0 0] 132)).alloc (.cells #[encStr nm, .pointer (some ⟨w7.heap.size, 0, none⟩)] 139)) = .ok (.slice (some ⟨ga, 0, none⟩) (i + 1) gc) w8 ∧ Hid (∃ A2 o2, Crs w5 w8 o (Ds.crashTh ps 0 (S.crashNm ps) S.th) (S.crashNm ps) (i + 1) (.slice (some ⟨ga, 0, none⟩) (i + 1) gc) A2 o2)) := hide (fun v hv g7 c7 w7 h1 h2 h3 => by
          have hk7 : Kept [] wi w7 := hcg.keep.trans (hv.trans h2 (by simp)) (by simp)
          have hkt := hk7.alloc (.cells #[.slice bo bn bc, .slice (some ⟨g7, 0, none⟩) bn c7, .slice none 0 0] 132)
          have hka : Kept [] w7 (w7.alloc (.cells #[.slice bo bn bc, .slice (some ⟨g7, 0, none⟩) bn c7, .slice none 0 0] 132)) := (Kept.refl [] w7).alloc _
          have hB1 : OwnB (w7.alloc (.cells #[.slice bo bn bc, .slice (some ⟨g7, 0, none⟩) bn c7, .slice none 0 0] 132)) (.slice bo bn bc) bn cur := ((hBf.kept hv).kept h2).kept hka
          have hB2 : OwnB (w7.alloc (.cells #[.slice bo bn bc, .slice (some ⟨g7, 0, none⟩) bn c7, .slice none 0 0] 132)) (.slice (some ⟨g7, 0, none⟩) bn c7) bn cur := (OwnB.of h1).kept hka
          have e1 : (Ds.crashTh ps 0 (S.crashNm ps) S.th id).safe = cur := by rw [HCR.out, ← G1, ← hend]
          have e2 : (Ds.crashTh ps 0 (S.crashNm ps) S.th id).shown = cur := by rw [HCR.out, G2, ← G1, ← hend]
          have hst := HRR.out.step (wt := w7.alloc (.cells #[.slice bo bn bc, .slice (some ⟨g7, 0, none⟩) bn c7, .slice none 0 0] 132)) (n := nm) (k := id) HPP.out HND.out (by omega) hkt (ab := w7.heap.size) (sv := .slice bo bn bc) (hv := .slice (some ⟨g7, 0, none⟩) bn c7) hk7.size (MapKept.heap_alloc w7 _).1 (by rw [HCR.out]; exact G3) (by rw [e1, hcl]; exact hB1) (by rw [e2, hcl]; exact hB2) hcg.new (fun g e => by simp only [Value.ownBlock] at e; injection e with e; rw [← e]; exact Nat.le_trans (Nat.le_trans hcg.keep.size hv.size) h3)
          have hsz : (w7.alloc (.cells #[.slice bo bn bc, .slice (some ⟨g7, 0, none⟩) bn c7, .slice none 0 0] 132)).heap.size = w7.heap.size + 1 := by simp
          rw [hsz] at hst
          obtain ⟨ga, gc, w8, q1, q2⟩ := hst
          exact ⟨ga, gc, w8, q1, hide q2⟩)
         by_cases hkn : k < rn
         ·obtain rfl : lv = 0 := by omega
          clear hcg hcl htor hBf hend G1 G2 G3 hcond
          go_upto_region 27 with (fail)
          refine wp_region_late (fun w' => Kept [] w6 w') (fun i => i == 13) (by kernel_rfl) ?_
          have h0 : Kept [] w6 w6.drew := (Kept.refl [] w6).drew
          generalize World.drew w6 = v0 at h0  ⊢
          refine wpAnyL_free (i := 0) (v := .slice fo i fc) rfl (by kernel_rfl) (by kernel_rfl) (by kernel_rfl) (fun _ _ _ h => h) (Or.inl ⟨by rfl, fun w _ => by go_simp⟩) ?_
          try simp only [z1, z2, z3, z4, z5, z6, z7, z8]
          refine wpAnyL_free (i := 1) (v := .slice (some ⟨gl, 0, none⟩) M lc) rfl (by kernel_rfl) (by kernel_rfl) (by kernel_rfl) (fun _ _ _ h => h) (Or.inl ⟨by rfl, fun w _ => by go_simp⟩) ?_
          try simp only [z1, z2, z3, z4, z5, z6, z7, z8]
          refine wpAnyL_free (i := 2) (v := .int .i64 i) rfl (by kernel_rfl) (by kernel_rfl) (by kernel_rfl) (fun _ _ _ h => h) (Or.inl ⟨by rfl, fun w _ => by go_simp⟩) ?_
          try simp only [z1, z2, z3, z4, z5, z6, z7, z8]
          refine wpAnyL_free (i := 3) (v := .pointer (some ⟨gl, i * 2, none⟩)) rfl (by kernel_rfl) (by kernel_rfl) (by kernel_rfl) (fun _ _ _ h => h) (Or.inl ⟨by rfl, fun w _ => by have q0 := hiM; go_simp⟩) ?_
          try simp only [z1, z2, z3, z4, z5, z6, z7, z8]
          refine wpAnyL_free (i := 4) (v := .pointer (some ⟨gl, i * 2, none⟩)) rfl (by kernel_rfl) (by kernel_rfl) (by kernel_rfl) (fun _ _ _ h => h) (Or.inl ⟨by rfl, fun w _ => by go_simp⟩) ?_
          try simp only [z1, z2, z3, z4, z5, z6, z7, z8]
          refine wpAnyL_take (i := 5) (v := encStr nm) rfl (by kernel_rfl) (by kernel_rfl) (by kernel_rfl) (by kernel_rfl) (by kernel_rfl) (fun _ _ _ h => h) (Or.inl ⟨by rfl, fun w hSw => by have q0 := Kept.cellOf hSw hn6 (by simp); go_simp⟩) h0 ?_
          try simp only [z1, z2, z3, z4, z5, z6, z7, z8]
          refine wpAnyL_free (i := 6) (v := .slice bo bn bc) rfl (by kernel_rfl) (by kernel_rfl) (by kernel_rfl) (fun _ _ _ h => h) (Or.inl ⟨by rfl, fun w _ => by go_simp⟩) ?_
          try simp only [z1, z2, z3, z4, z5, z6, z7, z8]
          refine wpAnyL_free (i := 7) (v := .slice bo bn bc) rfl (by kernel_rfl) (by kernel_rfl) (by kernel_rfl) (fun _ _ _ h => h) (Or.inl ⟨by rfl, fun w _ => by go_simp⟩) ?_
          try simp only [z1, z2, z3, z4, z5, z6, z7, z8]
          refine wpAnyL_one (i := 8) (by kernel_rfl) rfl (fun K hK => ?_)
          rw [if_pos (by rfl)]
          go_simp
          refine (HCP.out v0 h0).mono ?_
          rintro e w7 ⟨g7, c7, rfl, hr7, hk7, hg7⟩
          obtain ⟨ga, gc, w8, hap, H8⟩ := HST.out v0 h0 g7 c7 w7 hr7 hk7 hg7
          refine hK.out _ _ (fun _ _ => h0.trans hk7 (by simp)) ?_
          clear hK K
          try simp only [z1, z2, z3, z4, z5, z6, z7, z8]
          refine wpAnyL_free (i := 9) (v := .agg #[.slice bo bn bc, .slice (some ⟨g7, 0, none⟩) bn c7, .slice none 0 0]) rfl (by kernel_rfl) (by kernel_rfl) (by kernel_rfl) (fun _ _ _ h => h) (Or.inl ⟨by rfl, fun w _ => by go_simp⟩) ?_
          try simp only [z1, z2, z3, z4, z5, z6, z7, z8]
          refine wpAnyL_one (i := 10) (by kernel_rfl) rfl (fun K hK => ?_)
          rw [if_pos (by rfl)]
          go_simp
          refine hK.out _ _ (fun _ _ => (h0.trans hk7 (by simp)).alloc _) ?_
          clear hK K
          try simp only [z1, z2, z3, z4, z5, z6, z7, z8]
          refine wpAnyL_free (i := 11) (v := .agg #[encStr nm, .pointer (some ⟨w7.heap.size, 0, none⟩)]) rfl (by kernel_rfl) (by kernel_rfl) (by kernel_rfl) (fun _ _ _ h => h) (Or.inl ⟨by rfl, fun w _ => by go_simp⟩) ?_
          try simp only [z1, z2, z3, z4, z5, z6, z7, z8]
          refine wpAnyL_one (i := 12) (by kernel_rfl) rfl (fun K hK => ?_)
          rw [if_pos (by rfl)]
          go_simp
          refine hK.out _ _ (fun _ _ => ((h0.trans hk7 (by simp)).alloc _).alloc _) ?_
          clear hK K
          try simp only [z1, z2, z3, z4, z5, z6, z7, z8]
          refine wpAnyL_one (i := 13) (by kernel_rfl) rfl (fun K hK => ?_)
          rw [if_pos (by rfl)]
          refine wp_append_run (.tmp 128) (.tmp 140) 76 76 rfl (.slice fo i fc) (.slice (some ⟨w7.heap.size + 1, 0, none⟩) 1 1) rfl rfl (.slice (some ⟨ga, 0, none⟩) (i + 1) gc) w8 hap ?_
          refine hK.out _ _ (fun _ h => by cases h) ?_
          clear hK K
          try simp only [z1, z2, z3, z4, z5, z6, z7, z8]
          refine wpAnyL_free (i := 14) (v := .slice (some ⟨ga, 0, none⟩) (i + 1) gc) rfl (by kernel_rfl) (by kernel_rfl) (by kernel_rfl) (fun _ _ _ h => h) (Or.inl ⟨by rfl, fun w _ => by go_simp⟩) ?_
          try simp only [z1, z2, z3, z4, z5, z6, z7, z8]
          refine wpAnyL_done (by kernel_rfl) ?_ _
          go_wp2
          go_roundw
          case rel => exact ⟨i + 1, by omega, by go_num, H8, _, _, rfl⟩
          case measure => simp [intOf]; omega
         ·clear hcg hcl htor hBf hend G1 G2 G3 hcond
          go_upto_region 27 with (fail)
          refine wp_region_late (fun w' => Kept [] w6 w') (fun i => i == 13) (by kernel_rfl) ?_
          have h0 : Kept [] w6 w6.drew := (Kept.refl [] w6).drew
          generalize World.drew w6 = v0 at h0  ⊢
          refine wpAnyL_free (i := 0) (v := .slice fo i fc) rfl (by kernel_rfl) (by kernel_rfl) (by kernel_rfl) (fun _ _ _ h => h) (Or.inl ⟨by rfl, fun w _ => by go_simp⟩) ?_
          try simp only [z1, z2, z3, z4, z5, z6, z7, z8]
          refine wpAnyL_free (i := 1) (v := .slice (some ⟨gl, 0, none⟩) M lc) rfl (by kernel_rfl) (by kernel_rfl) (by kernel_rfl) (fun _ _ _ h => h) (Or.inl ⟨by rfl, fun w _ => by go_simp⟩) ?_
          try simp only [z1, z2, z3, z4, z5, z6, z7, z8]
          refine wpAnyL_free (i := 2) (v := .int .i64 i) rfl (by kernel_rfl) (by kernel_rfl) (by kernel_rfl) (fun _ _ _ h => h) (Or.inl ⟨by rfl, fun w _ => by go_simp⟩) ?_
          try simp only [z1, z2, z3, z4, z5, z6, z7, z8]
          refine wpAnyL_free (i := 3) (v := .pointer (some ⟨gl, i * 2, none⟩)) rfl (by kernel_rfl) (by kernel_rfl) (by kernel_rfl) (fun _ _ _ h => h) (Or.inl ⟨by rfl, fun w _ => by have q0 := hiM; go_simp⟩) ?_
          try simp only [z1, z2, z3, z4, z5, z6, z7, z8]
          refine wpAnyL_free (i := 4) (v := .pointer (some ⟨gl, i * 2, none⟩)) rfl (by kernel_rfl) (by kernel_rfl) (by kernel_rfl) (fun _ _ _ h => h) (Or.inl ⟨by rfl, fun w _ => by go_simp⟩) ?_
          try simp only [z1, z2, z3, z4, z5, z6, z7, z8]
          refine wpAnyL_take (i := 5) (v := encStr nm) rfl (by kernel_rfl) (by kernel_rfl) (by kernel_rfl) (by kernel_rfl) (by kernel_rfl) (fun _ _ _ h => h) (Or.inl ⟨by rfl, fun w hSw => by have q0 := Kept.cellOf hSw hn6 (by simp); go_simp⟩) h0 ?_
          try simp only [z1, z2, z3, z4, z5, z6, z7, z8]
          refine wpAnyL_free (i := 6) (v := .slice bo bn bc) rfl (by kernel_rfl) (by kernel_rfl) (by kernel_rfl) (fun _ _ _ h => h) (Or.inl ⟨by rfl, fun w _ => by go_simp⟩) ?_
          try simp only [z1, z2, z3, z4, z5, z6, z7, z8]
          refine wpAnyL_free (i := 7) (v := .slice bo bn bc) rfl (by kernel_rfl) (by kernel_rfl) (by kernel_rfl) (fun _ _ _ h => h) (Or.inl ⟨by rfl, fun w _ => by go_simp⟩) ?_
          try simp only [z1, z2, z3, z4, z5, z6, z7, z8]
          refine wpAnyL_one (i := 8) (by kernel_rfl) rfl (fun K hK => ?_)
          rw [if_pos (by rfl)]
          go_simp
          refine (HCP.out v0 h0).mono ?_
          rintro e w7 ⟨g7, c7, rfl, hr7, hk7, hg7⟩
          obtain ⟨ga, gc, w8, hap, H8⟩ := HST.out v0 h0 g7 c7 w7 hr7 hk7 hg7
          refine hK.out _ _ (fun _ _ => h0.trans hk7 (by simp)) ?_
          clear hK K
          try simp only [z1, z2, z3, z4, z5, z6, z7, z8]
          refine wpAnyL_free (i := 9) (v := .agg #[.slice bo bn bc, .slice (some ⟨g7, 0, none⟩) bn c7, .slice none 0 0]) rfl (by kernel_rfl) (by kernel_rfl) (by kernel_rfl) (fun _ _ _ h => h) (Or.inl ⟨by rfl, fun w _ => by go_simp⟩) ?_
          try simp only [z1, z2, z3, z4, z5, z6, z7, z8]
          refine wpAnyL_one (i := 10) (by kernel_rfl) rfl (fun K hK => ?_)
          rw [if_pos (by rfl)]
          go_simp
          refine hK.out _ _ (fun _ _ => (h0.trans hk7 (by simp)).alloc _) ?_
          clear hK K
          try simp only [z1, z2, z3, z4, z5, z6, z7, z8]
          refine wpAnyL_free (i := 11) (v := .agg #[encStr nm, .pointer (some ⟨w7.heap.size, 0, none⟩)]) rfl (by kernel_rfl) (by kernel_rfl) (by kernel_rfl) (fun _ _ _ h => h) (Or.inl ⟨by rfl, fun w _ => by go_simp⟩) ?_
          try simp only [z1, z2, z3, z4, z5, z6, z7, z8]
          refine wpAnyL_one (i := 12) (by kernel_rfl) rfl (fun K hK => ?_)
          rw [if_pos (by rfl)]
          go_simp
          refine hK.out _ _ (fun _ _ => ((h0.trans hk7 (by simp)).alloc _).alloc _) ?_
          clear hK K
          try simp only [z1, z2, z3, z4, z5, z6, z7, z8]
          refine wpAnyL_one (i := 13) (by kernel_rfl) rfl (fun K hK => ?_)
          rw [if_pos (by rfl)]
          refine wp_append_run (.tmp 128) (.tmp 140) 76 76 rfl (.slice fo i fc) (.slice (some ⟨w7.heap.size + 1, 0, none⟩) 1 1) rfl rfl (.slice (some ⟨ga, 0, none⟩) (i + 1) gc) w8 hap ?_
          refine hK.out _ _ (fun _ h => by cases h) ?_
          clear hK K
          try simp only [z1, z2, z3, z4, z5, z6, z7, z8]
          refine wpAnyL_free (i := 14) (v := .slice (some ⟨ga, 0, none⟩) (i + 1) gc) rfl (by kernel_rfl) (by kernel_rfl) (by kernel_rfl) (fun _ _ _ h => h) (Or.inl ⟨by rfl, fun w _ => by go_simp⟩) ?_
          try simp only [z1, z2, z3, z4, z5, z6, z7, z8]
          refine wpAnyL_done (by kernel_rfl) ?_ _
          go_wp2
          go_roundw
          case rel => exact ⟨i + 1, by omega, by go_num, H8, _, _, rfl⟩
          case measure => simp [intOf]; omega
    ·obtain rfl : i = M := by omega
     obtain ⟨A', o', hR⟩ := HR.out
     have HFIN := hide (crash_store HH.out HWF.out ps HK5.out (by rw [HL.out]; exact hR))
     have hHr := HH.out.kept (HK5.out.trans hR.keep (by simp))
     have c0 := hHr.cell 0 _ rfl
     have c2 := hHr.cell 2 _ rfl
     have c3 := hHr.cell 3 _ rfl
     have c4 := hHr.cell 4 _ rfl
     have c5 := hHr.cell 5 _ rfl
     have c6 := hHr.cell 6 _ rfl
     have c7 := hHr.cell 7 _ rfl
     have c8 := hHr.cell 8 _ rfl
     have c9 := hHr.cell 9 _ rfl
     have fz : ∀ j, wr.frozen? ⟨q, j, none⟩ = false := fun j => frozen_of_row _ _ _ _ _ hHr.cells
     have f0 := fz 0
     have f2 := fz 2
     have f3 := fz 3
     have f4 := fz 4
     have f5 := fz 5
     have f6 := fz 6
     have f7 := fz 7
     have f8 := fz 8
     have f9 := fz 9
     clear HR hR hHr fz
     go_wp2
     first | refine bodyPost_end (results_none rfl _ _ _) rfl ?_ | refine bodyPost_ret (results_none rfl _ _ _) rfl ?_
     exact ⟨rfl, HFIN.out⟩
end
end Go.Proofs.YtodihkdmneihiaaGreatDoor
