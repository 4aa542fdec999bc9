/-
  Contract: Disk.Twin.
-/
import Derived.Test.YtmoaaimjgdbelaaGreatKfp
import Derived.Test.YtmoaaimjgdbelaaGreatHlp
namespace Go.Proofs.YtmoaaimjgdbelaaGreat
open Go.RowKit Dsk
set_option linter.unusedVariables false
set_option linter.unusedSimpArgs false
theorem rho_get {S : Ds} (hw : S.Wf) {j : Nat} (hj : j < S.lives.length) : S.rho S.lives[j] = j := by
  have hm : S.lives[j] ∈ S.lives := List.getElem_mem _
  have h1 := Ds.rho_lt hm
  have h2 := Ds.rho_back hm
  rw [List.getD_eq_getElem?_getD, List.getElem?_eq_getElem h1] at h2
  exact (List.getElem_inj hw.nodup).1 h2
/-- The twin as a disk. -/
theorem TwB.disk {S : Ds} {w1 w9 w5 w6 w7 : World} {db mb mh rb q : Nat} {rv sv : Value} {A : Nat → Nat} {o : Lab} (h : TwB S w1 w9 db mb mh rb rv S.row.length A o) (hw : S.Wf) (hpl : (Lit.int .i64 S.off).wf = true ∧ (Lit.int .i64 S.from_).wf = true ∧ (Lit.int .i64 S.to).wf = true)
    (hq : q < w1.heap.size) (h5 : w9.heap.size ≤ w5.heap.size) (h6 : w5.heap.size ≤ w6.heap.size) (hK : Keep (fun b => b = rb ∨ b = q) w9 w7) (h7 : w6.heap.size ≤ w7.heap.size)
    (hQ : w7.heap[q]? = some (.cells #[.int .i64 S.room, .bool S.on, .map (some mb), rv, .map (some mh), .int .i64 S.strokes, .int .i64 S.off, .int .i64 S.from_, .int .i64 S.to, .int .i64 S.planned, sv] 70 (0, 0)))
    (hs : w7.ownsRow 0 127 3 sv S.reads.length (S.reads.flatMap encSp)) (hsg : ∀ g, sv.ownBlock = some g → w5.heap.size ≤ g ∧ g < w6.heap.size) :
    PD w7 q S.compact A (fun b => if b = q then 1 else o.ext w5 w6 1 b) := by
  have hoq : o q = 0 := Classical.byContradiction fun hn => by have := (h.lim q hn).1; omega
  have old : ∀ b, b < w9.heap.size → b ≠ q → (fun b => if b = q then 1 else o.ext w5 w6 1 b) b = o b := fun b hb hn => by
    show (if b = q then 1 else o.ext w5 w6 1 b) = o b
    rw [if_neg hn]
    exact Lab.ext_old (by omega)
  have hml := h.mapS.lt
  have hhl := h.mapH.lt
  have nq : ∀ b, o b ≠ 0 → b ≠ q := fun b hb e => by rw [e] at hb; exact hb hoq
  have nrb : ∀ b, o b ≠ 0 → ¬ (b = rb ∨ b = q) := fun b hb e => by
    rcases e with e | e
    · rw [e] at hb; exact hb h.nr
    · exact nq b hb e
  have htk : S.row.take S.row.length = S.row := List.take_length
  refine ⟨mb, mh, rv, sv, hw.compact, hQ, h.ne, h.mapS.keep hK (nrb mb (by rw [h.lm]; decide)), ?_, ?_, hs, fun j hj => ?_, by simp, ?_, ?_, fun g hg => ?_, fun g hg => ?_, fun b hb => ?_, hpl⟩
  · have := h.mapH.keep hK (nrb mh (by rw [h.lh]; decide))
    rw [htk, ren_run, ← hw.shown] at this
    exact this
  · have := own_keeps h.row hK (fun g hg => nrb g (by rw [h.lr g hg]; decide))
    rw [htk] at this
    exact this
  · have hj2 : j < S.lives.length := hj
    have hm : S.lives[j] ∈ S.safe.ids ++ madeN (S.row.take S.row.length) := by rw [htk]; exact List.getElem_mem _
    have h8 := h.th _ hm
    rw [rho_get hw hj2] at h8
    have e : S.compact.th j = S.th S.lives[j] := by
      show S.th (S.lives.getD j 0) = _
      rw [List.getD_eq_getElem?_getD, List.getElem?_eq_getElem hj2]
      rfl
    rw [e]
    obtain ⟨r1, s1, h9⟩ := h8
    have h10 := h9.keep hK (fun g hg => nrb g (by rw [hg]; omega))
    exact ⟨r1, s1, h10.cells, h10.row, h10.shown, (old _ h9.lt (nq _ (by rw [h9.lb]; omega))).trans h9.lb, fun g hg => (old g (h9.row.lt g hg).2 (nq g (by rw [h9.lr g hg]; omega))).trans (h9.lr g hg), fun g hg => (old g (h9.shown.lt hg) (nq g (by rw [h9.ls g hg]; omega))).trans (h9.ls g hg)⟩
  · exact (old mb hml (nq mb (by rw [h.lm]; decide))).trans h.lm
  · exact (old mh hhl (nq mh (by rw [h.lh]; decide))).trans h.lh
  · exact (old g (h.row.lt g hg).2 (nq g (by rw [h.lr g hg]; decide))).trans (h.lr g hg)
  · have hg2 := hsg g hg
    have hz := h.keep.size
    show (if g = q then 1 else o.ext w5 w6 1 g) = 1
    rw [if_neg (by omega)]
    exact Lab.ext_new hg2.1 hg2.2
  · have hz := h.keep.size
    by_cases e : b = q
    · omega
    · have hb2 : o.ext w5 w6 1 b ≠ 0 := by
        have : (if b = q then 1 else o.ext w5 w6 1 b) ≠ 0 := hb
        rwa [if_neg e] at this
      by_cases hb5 : b < w5.heap.size
      · omega
      · by_cases hb6 : b < w6.heap.size
        · omega
        · simp [Lab.ext, hb5, hb6] at hb2

set_option maxHeartbeats 4000000 in
set_option maxRecDepth 100000 in
theorem twin_ok {w : World} {p : Nat} {S : Ds} {A : Nat → Nat} {o : Lab} {N : Nat} (h : PD w p S A o) (hB : S.Bd N) (hN : N ≤ 268435456) : Calls Tryz.prog 20 #[.pointer (some ⟨p, 0, none⟩)] w fun e w' => ∃ q, e = .returned (.pointer (some ⟨q, 0, none⟩)) ∧ At w w' q S.compact N := by
  obtain ⟨ms, mh, rv, sv, h⟩ := h
  have hno := isNone_ok h
  obtain ⟨ro, rc, rfl, _⟩ := own_shape h.row
  obtain ⟨so, sc, rfl, _⟩ := own_shape h.reads
  have HP := hide (And.intro h hB)
  obtain ⟨w1, hw1⟩ : ∃ w1, w1 = w.alloc (.cells #[.int .i64 S.room, .bool S.on, .map (some ms), .slice ro S.row.length rc, .map (some mh), .int .i64 S.strokes, .int .i64 S.off, .int .i64 S.from_, .int .i64 S.to, .int .i64 S.planned, .slice so S.reads.length sc] 70) := ⟨_, rfl⟩
  have hk1 : Kept [] w w1 := by rw [hw1]; exact (Kept.refl [] w).alloc _
  have hb1 : w1.heap[w.heap.size]? = some (.cells #[.int .i64 S.room, .bool S.on, .map (some ms), .slice ro S.row.length rc, .map (some mh), .int .i64 S.strokes, .int .i64 S.off, .int .i64 S.from_, .int .i64 S.to, .int .i64 S.planned, .slice so S.reads.length sc] 70 (0, 0)) := by rw [hw1]; exact (MapKept.heap_alloc w _).1
  have h1 := h.keep (Keep.ofNone (F := fun _ => False) hk1) (fun _ _ h => h)
  have hdt := dirTwin_ok h1 hB hN
  have hpl := (Array.getElem?_eq_some_iff.1 h.cells).1
  have i0 := h.c0
  have i1 := h.c1
  have i2 : w.cell? ⟨p, 2, none⟩ = some (.map (some ms)) := h.c 2
  have i3 : w.cell? ⟨p, 3, none⟩ = some (.slice ro S.row.length rc) := h.c 3
  have i4 : w.cell? ⟨p, 4, none⟩ = some (.map (some mh)) := h.c 4
  have i5 : w.cell? ⟨p, 5, none⟩ = some (.int .i64 S.strokes) := h.c 5
  have i6 : w.cell? ⟨p, 6, none⟩ = some (.int .i64 S.off) := h.c 6
  have i7 : w.cell? ⟨p, 7, none⟩ = some (.int .i64 S.from_) := h.c 7
  have i8 : w.cell? ⟨p, 8, none⟩ = some (.int .i64 S.to) := h.c 8
  have i9 : w.cell? ⟨p, 9, none⟩ = some (.int .i64 S.planned) := h.c 9
  have i10 : w.cell? ⟨p, 10, none⟩ = some (.slice so S.reads.length sc) := h.c 10
  clear h hB h1
  go_enter Tryz.func20, Tryz.ntmps20
  go_upto_region 4 with (go_at_call 76; refine hno.mono ?_; rintro e w' ⟨rfl, hw⟩; obtain rfl := hw.symm; clear hno)
  rw [← hw1]
  clear hw1 i0 i1 i2 i3 i4 i5 i6 i7 i8 i9
  have hq1 : w.heap.size < w1.heap.size := (Array.getElem?_eq_some_iff.1 hb1).1
  generalize hqe : w.heap.size = q at hb1 hq1 ⊢
  go_upto_region 5 with (go_at_call 77; refine hdt.mono ?_; rintro e w4 ⟨mb, mh', rv', A', o', db, rb, w9, rfl, hT, hK4⟩; clear hdt; obtain ⟨ro2, rc2, rfl, _⟩ := own_shape hT.row; have hb9 : w9.heap[q]? = some (.cells #[.int .i64 S.room, .bool S.on, .map (some ms), .slice ro S.row.length rc, .map (some mh), .int .i64 S.strokes, .int .i64 S.off, .int .i64 S.from_, .int .i64 S.to, .int .i64 S.planned, .slice so S.reads.length sc] 70 (0, 0)) := (Keep.ofNone (F := fun _ => False) hT.keep).heapOf hb1 (fun h => h); have hqr : ¬ q = rb := (fun e => by
      have := hT.res
      rw [← e, hb9] at this
      injection this with this
      injection this with _ h2 _
      exact absurd h2 (by decide)); have hb4 := hK4.heapOf hb9 hqr; have q2 : w4.cell? ⟨q, 2, none⟩ = some (.map (some ms)) := (by rw [cell_of_row w4 _ 2 _ _ _ hb4]; rfl); have q3 : w4.cell? ⟨q, 3, none⟩ = some (.slice ro S.row.length rc) := (by rw [cell_of_row w4 _ 3 _ _ _ hb4]; rfl); have q4 : w4.cell? ⟨q, 4, none⟩ = some (.map (some mh)) := (by rw [cell_of_row w4 _ 4 _ _ _ hb4]; rfl); have f2 : w4.frozen? ⟨q, 2, none⟩ = false := frozen_of_row w4 q 2 _ _ hb4; have f3 : w4.frozen? ⟨q, 3, none⟩ = false := frozen_of_row w4 q 3 _ _ hb4; have f4 : w4.frozen? ⟨q, 4, none⟩ = false := frozen_of_row w4 q 4 _ _ hb4; have HT := hide hT; clear hT; generalize hql : ((S.row.take S.row.length).map (Nc.ren S.rho)).length = ql at *)
  obtain ⟨w5, hw5⟩ : ∃ w5, w5 = ((w4.setCell ⟨q, 2, none⟩ (.map (some mb))).setCell ⟨q, 3, none⟩ (.slice ro2 ql rc2)).setCell ⟨q, 4, none⟩ (.map (some mh')) := ⟨_, rfl⟩
  have x1 := heap_setCell_same w4 q 2 _ _ (.map (some mb)) hb4
  have x2 := heap_setCell_same (w4.setCell ⟨q, 2, none⟩ (.map (some mb))) q 3 _ _ (.slice ro2 ql rc2) x1
  have x3 := heap_setCell_same ((w4.setCell ⟨q, 2, none⟩ (.map (some mb))).setCell ⟨q, 3, none⟩ (.slice ro2 ql rc2)) q 4 _ _ (.map (some mh')) x2
  have hK5 : Keep (· = q) w4 w5 := by rw [hw5]; exact (((Keep.refl (· = q) w4).setCell (p := ⟨q, 2, none⟩) (fun _ => rfl) _).setCell (p := ⟨q, 3, none⟩) (fun _ => rfl) _).setCell (p := ⟨q, 4, none⟩) (fun _ => rfl) _
  have hb5 : w5.heap[q]? = some (.cells #[.int .i64 S.room, .bool S.on, .map (some mb), .slice ro2 ql rc2, .map (some mh'), .int .i64 S.strokes, .int .i64 S.off, .int .i64 S.from_, .int .i64 S.to, .int .i64 S.planned, .slice so S.reads.length sc] 70 (0, 0)) := by rw [hw5]; exact x3
  rw [← hw5]
  clear hw5 x1 x2 x3 q2 q3 q4 f2 f3 f4
  have hrbge : w.heap.size ≤ rb := Nat.le_trans hk1.size HT.out.gr
  have k15 : Kept [] w w5 := by
    have a1 := hk1.trans HT.out.keep (by simp)
    have a2 : Keep (fun b => b = rb ∨ b = q) w9 w5 := (hK4.mono (fun i e _ => .inl e)).trans hK5 (fun i e _ => .inr e)
    exact ⟨a2.os.trans a1.os, a2.tape.trans a1.tape, a2.output.trans a1.output, Nat.le_trans a1.size a2.size, fun i hi _ => (a2.block i (Nat.lt_of_lt_of_le hi a1.size) (fun e => by omega)).trans (a1.block i hi (by simp))⟩
  have j10 := k15.cellOf i10 (by simp)
  have hrd5 := own_keeps HP.out.1.reads (Keep.ofNone (F := fun _ => False) k15) (fun _ _ h => h)
  have hcl := cloneS_ok _ _ _ w5 hrd5 (encSp_one S.reads) (by have := HP.out.2.reads; omega)
  clear hrd5 i10
  go_upto_region 6 with (go_at_call 78; refine hcl.mono ?_; rintro e w6 ⟨sv6, rfl, ho6, hk6⟩; clear hcl; obtain ⟨so6, sc6, rfl, _⟩ := own_shape ho6; have hb6 := (Keep.ofNone (F := fun _ => False) hk6).heapOf hb5 (fun h => h); have q10 : w6.cell? ⟨q, 10, none⟩ = some (.slice so S.reads.length sc) := (by rw [cell_of_row w6 _ 10 _ _ _ hb6]; rfl); have f10 : w6.frozen? ⟨q, 10, none⟩ = false := frozen_of_row w6 q 10 _ _ hb6)
  obtain ⟨w7, hw7⟩ : ∃ w7, w7 = w6.setCell ⟨q, 10, none⟩ (.slice so6 S.reads.length sc6) := ⟨_, rfl⟩
  have x7 := heap_setCell_same w6 q 10 _ _ (.slice so6 S.reads.length sc6) hb6
  rw [← hw7] at x7 ⊢
  have hK7 : Keep (· = q) w6 w7 := by rw [hw7]; exact (Keep.refl (· = q) w6).setCell (p := ⟨q, 10, none⟩) (fun _ => rfl) _
  have hq6 : (Value.slice so6 S.reads.length sc6).ownBlock ≠ some q := own_ne ho6 hb6 (by decide)
  have hKA : Keep (fun b => b = rb ∨ b = q) w9 w7 := (((hK4.mono (fun i e _ => .inl e)).trans hK5 (fun i e _ => .inr e)).kept hk6).trans hK7 (fun i e _ => .inr e)
  have z45 := hK5.size
  have z94 := hK4.size
  have z7 := hK7.size
  have hPD := HT.out.disk HP.out.1.wf HP.out.1.pl hq1 (by omega) hk6.size hKA z7 x7 (own_keeps (ownsRow_base_a ho6 (Nat.zero_le _)) hK7 (fun g hg e => hq6 (by rw [← e]; exact hg))) (fun g hg => ho6.lt g hg)
  have HAT : Hid (At w w7 q S.compact N) := hide ⟨A', _, hPD, fun b hb => by
      have hz := HT.out.keep.size
      have hz1 := hk1.size
      by_cases e : b = q
      · omega
      · have hb2 : o'.ext w5 w6 1 b ≠ 0 := by
          have : (if b = q then 1 else o'.ext w5 w6 1 b) ≠ 0 := hb
          rwa [if_neg e] at this
        by_cases hb5' : b < w5.heap.size
        · rw [Lab.ext_old hb5'] at hb2
          have := (HT.out.lim b hb2).1
          omega
        · omega, by
      have a3 : Keep (· = q) w5 w7 := (Keep.ofNone hk6).trans hK7 (fun i e _ => e)
      exact ⟨a3.os.trans k15.os, a3.tape.trans k15.tape, a3.output.trans k15.output, Nat.le_trans k15.size a3.size, fun i hi _ => (a3.block i (Nat.lt_of_lt_of_le hi k15.size) (fun e => by omega)).trans (k15.block i hi (by simp))⟩, HP.out.2.compact HP.out.1.wf⟩
  clear hPD hKA hK7 hw7 x7 hb6 hb5 hb4 hb9 hb1 ho6 hk6 q10 f10 j10 hK5 hK4
  go_wp2
  go_ret
  exact ⟨q, rfl, HAT.out⟩
end Go.Proofs.YtmoaaimjgdbelaaGreat
