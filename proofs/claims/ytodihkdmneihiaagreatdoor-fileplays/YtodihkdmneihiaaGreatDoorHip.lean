import Derived.Test.YtodihkdmneihiaaGreatDoorHcp
import Derived.Shelf.SlIter.Nil
import Derived.Shelf.SortM.Plain
import Derived.Shelf.SortM.SortNone
import Derived.Test.YtodihkdmneihiaaGreatDoorGwp
namespace Go.Proofs.YtodihkdmneihiaaGreatDoor
section
open Go.RowKit Dsk
set_option linter.unusedVariables false
set_option linter.unusedSimpArgs false
set_option maxHeartbeats 800000 in
set_option maxRecDepth 100000 in
theorem strokes_ok {w : World} {p : Nat} {S : Ds} {A : Nat → Nat} {o : Lab} (h : PD w p S A o) : Calls Tryz.prog 14 #[.pointer (some ⟨p, 0, none⟩)] w fun e w' => e = .returned (.int .i64 S.strokes) ∧ w' = w := by
 obtain ⟨ms, mh, rv, sv, h⟩ := h
 have c5 := h.c5
 clear h
 go_enter Tryz.func14, Tryz.ntmps14
 go_wp2
 go_ret
 exact ⟨rfl, rfl⟩
set_option maxHeartbeats 800000 in
set_option maxRecDepth 100000 in
theorem isNone_ok {w : World} {p : Nat} {S : Ds} {A : Nat → Nat} {o : Lab} {ms mh : Nat} {rv sv : Value} (h : PDx w p S A o ms mh rv sv) : Calls Tryz.prog 84 #[.pointer (some ⟨p, 0, none⟩)] w fun e w' => e = .returned (.bool false) ∧ w' = w := by
 have c0 := h.c0
 have hr := h.wf.room
 have hz : ((S.room : Int) == 0) = false := by simp; omega
 clear h
 go_enter Tryz.func84, Tryz.ntmps84
 go_wp2
 go_ret
 exact ⟨rfl, rfl⟩
theorem offD_ok {w : World} {p : Nat} {S : Ds} {A : Nat → Nat} {o : Lab} (h : PD w p S A o) : Calls Tryz.prog 41 #[.pointer (some ⟨p, 0, none⟩)] w fun e w' => e = .returned (.bool (!S.on)) ∧ w' = w := by
 obtain ⟨ms, mh, rv, sv, h⟩ := h
 exact off_ok h
set_option maxHeartbeats 800000 in
set_option maxRecDepth 100000 in
theorem plan_ok {w : World} {p : Nat} {S : Ds} {A : Nat → Nat} {o : Lab} (h : PD w p S A o) (a b c : Int) (hp : (Lit.int .i64 a).wf = true ∧ (Lit.int .i64 b).wf = true ∧ (Lit.int .i64 c).wf = true) : Calls Tryz.prog 37 #[.pointer (some ⟨p, 0, none⟩), .agg #[.int .i64 a, .int .i64 b, .int .i64 c]] w fun e w' => e = .returned (.tuple #[]) ∧ Aft w w' p (S.setPlan a b c) o := by
 obtain ⟨ms, mh, rv, sv, h⟩ := h
 obtain ⟨w0, hw0⟩ : ∃ w0, w0 = w.alloc (.cells #[.int .i64 a, .int .i64 b, .int .i64 c] 30) := ⟨_, rfl⟩
 have hk0 : Kept [] w w0 := by rw [hw0]; exact (Kept.refl [] w).alloc _
 have h0 := h.keep (Keep.ofNone (F := fun _ => False) hk0) (fun _ _ h => h)
 have hoff := off_ok h0
 have hb0 : w0.heap[w.heap.size]? = some (.cells #[.int .i64 a, .int .i64 b, .int .i64 c] 30 (0, 0)) := by rw [hw0]; exact (MapKept.heap_alloc w _).1
 have i0 : w0.cell? ⟨w.heap.size, 0, none⟩ = some (.int .i64 a) := by rw [cell_of_row w0 _ 0 _ _ _ hb0]; rfl
 have i1 : w0.cell? ⟨w.heap.size, 1, none⟩ = some (.int .i64 b) := by rw [cell_of_row w0 _ 1 _ _ _ hb0]; rfl
 have i2 : w0.cell? ⟨w.heap.size, 2, none⟩ = some (.int .i64 c) := by rw [cell_of_row w0 _ 2 _ _ _ hb0]; rfl
 by_cases hon : S.on = true
 ·rw [hon] at hoff
  have HC : Hid (S.setPlan a b c = { S with off := a, from_ := b, to := c, planned := 0 }) := hide (by simp [Ds.setPlan, hon])
  have c6 := h0.c6
  have c7 := h0.c7
  have c8 := h0.c8
  have c9 := h0.c9
  have f6 := h0.fr 6
  have f7 := h0.fr 7
  have f8 := h0.fr 8
  have f9 := h0.fr 9
  have FIN : Hid (Aft w ((((w0.setCell ⟨p, 6, none⟩ (.int .i64 a)).setCell ⟨p, 7, none⟩ (.int .i64 b)).setCell ⟨p, 8, none⟩ (.int .i64 c)).setCell ⟨p, 9, none⟩ (.int .i64 0)) p (S.setPlan a b c) o) := by
   have hK : Keep (· = p) w0 ((((w0.setCell ⟨p, 6, none⟩ (.int .i64 a)).setCell ⟨p, 7, none⟩ (.int .i64 b)).setCell ⟨p, 8, none⟩ (.int .i64 c)).setCell ⟨p, 9, none⟩ (.int .i64 0)) := ((((Keep.refl (· = p) w0).setCell (p := ⟨p, 6, none⟩) (fun _ => rfl) _).setCell (p := ⟨p, 7, none⟩) (fun _ => rfl) _).setCell (p := ⟨p, 8, none⟩) (fun _ => rfl) _).setCell (p := ⟨p, 9, none⟩) (fun _ => rfl) _
   have q6 := heap_setCell_same w0 p 6 _ _ (.int .i64 a) h0.cells
   have q7 := heap_setCell_same _ p 7 _ _ (.int .i64 b) q6
   have q8 := heap_setCell_same _ p 8 _ _ (.int .i64 c) q7
   have q9 := heap_setCell_same _ p 9 _ _ (.int .i64 0) q8
   rw [HC.out]
   have hwf := h.wf.setPlan a b c
   rw [HC.out] at hwf
   exact Aft.trans (Lab.Ext.refl _ _) (Keep.ofNone hk0) (Aft.of (h0.recell hK hwf q9 rfl rfl rfl rfl rfl rfl hp) (mine_p h0 hK))
  have HI := hide hb0
  clear h h0 hb0 hk0 HC
  go_enter Tryz.func37, Tryz.ntmps37
  go_upto_region 1 with (fail)
  rw [← hw0]
  clear hw0
  go_wp2_with (go_at_call 41; refine hoff.mono ?_; rintro e w' ⟨rfl, rfl⟩)
  first | refine bodyPost_end (results_none rfl _ _ _) rfl ?_ | refine bodyPost_ret (results_none rfl _ _ _) rfl ?_
  exact ⟨rfl, FIN.out⟩
 ·simp only [Bool.not_eq_true] at hon
  rw [hon] at hoff
  have FIN : Hid (Aft w w0 p (S.setPlan a b c) o) := by
   have : S.setPlan a b c = S := by simp [Ds.setPlan, hon]
   rw [this]
   exact Aft.of h0 (Keep.ofNone hk0)
  clear h h0 hb0 hk0
  go_enter Tryz.func37, Tryz.ntmps37
  go_upto_region 1 with (fail)
  rw [← hw0]
  clear hw0
  go_wp2_with (go_at_call 41; refine hoff.mono ?_; rintro e w' ⟨rfl, rfl⟩)
  first | refine bodyPost_end (results_none rfl _ _ _) rfl ?_ | refine bodyPost_ret (results_none rfl _ _ _) rfl ?_
  exact ⟨rfl, FIN.out⟩
set_option maxHeartbeats 800000 in
set_option maxRecDepth 100000 in
theorem size_ok {w : World} {p : Nat} {S : Ds} {A : Nat → Nat} {o : Lab} (h : PD w p S A o) (nm : By) (hnl : nm.length ≤ 4611686018427387904) : Calls Tryz.prog 54 #[.pointer (some ⟨p, 0, none⟩), encStr nm] w fun e w' => e = .returned (.tuple #[.int .i64 (S.size nm), .int .i64 (S.find nm).1]) ∧ w' = w := by
 obtain ⟨ms, mh, rv, sv, h⟩ := h
 have hfd := find_ok h nm hnl
 by_cases h0 : (S.find nm).1 = 0
 ·obtain ⟨hon, hnm, hmem, hlt⟩ := Ds.find_ok h.wf h0
  have hv : findV S A nm = .pointer (some ⟨A (S.find nm).2, 0, none⟩) := by unfold findV; rw [if_pos h0]
  have HC : Hid (S.size nm = (S.th (S.find nm).2).shown.length) := hide (by simp [Ds.size, h0])
  have HE := hide h0
  rw [hv, h0] at hfd
  generalize (S.find nm).2 = k at hfd HC hlt
  obtain ⟨rv1, sv1, ht⟩ := h.th k hlt
  obtain ⟨so, sc, rfl, _⟩ := ht.shown.shape
  have i2 := ht.th0.c2
  clear h ht h0 hv hmem hnm hon
  go_enter Tryz.func54, Tryz.ntmps54
  go_wp2_with (go_at_call 67; refine hfd.mono ?_; rintro e w' ⟨rfl, rfl⟩; clear hfd)
  go_ret2
  exact ⟨by rw [HC.out, HE.out]; rfl, rfl⟩
 ·have hv : findV S A nm = .pointer none := by unfold findV; rw [if_neg h0]
  have HC : Hid (S.size nm = 0) := hide (by simp [Ds.size, h0])
  rw [hv] at hfd
  generalize (S.find nm).1 = E at hfd h0
  have e0 : (E != 0) = true := by simpa using h0
  clear h h0 hv
  go_enter Tryz.func54, Tryz.ntmps54
  go_wp2_with (go_at_call 67; refine hfd.mono ?_; rintro e w' ⟨rfl, rfl⟩; clear hfd)
  go_ret2
  exact ⟨by rw [HC.out]; rfl, rfl⟩
end

section
open Go.RowKit Dsk
set_option linter.unusedVariables false
set_option linter.unusedSimpArgs false
set_option maxRecDepth 100000 in
theorem Tryz.cutMid (W : World) (ao : Option Addr) (L cap a m : Nat) (xs : By) (hs : Sl W ao xs) (hx : xs.length = L) (hL : L ≤ cap) (h : a + m ≤ L) (h0 : ao = none → cap = 0) :
  ∃ ao', (Instr.slice 28 (.slice ao L cap) (some (.int .i64 a)) (some (.int .i64 ((a : Int) + (m : Int)))) none).run Tryz.prog W = .ok (.slice ao' m (cap - a)) W ∧ Sl W ao' ((xs.drop a).take m) ∧ (ao' = none → m = 0 ∧ cap - a = 0) := by
 have hz : (sizeOf (Tryz.prog.elem 28)).run Tryz.prog W = .ok 1 W := by kernel_rfl
 have hr := run_slice_lh (P := Tryz.prog) W 28 ao L cap (by kernel_rfl) .i64 .i64 a ((a : Int) + (m : Int)) (by omega) (by omega) (by omega)
 have hm : (((a : Int) + (m : Int)).toNat - a) = m := by omega
 rw [hr, hz]
 cases ao with
 | none =>
  have := h0 rfl
  subst this
  refine ⟨none, by simp [sliced, hm], ?_, fun _ => ⟨by omega, by omega⟩⟩
  have : (xs.drop a).take m = [] := by apply List.eq_nil_of_length_eq_zero; simp; omega
  rw [this]
  exact Sl.nil _ _
 | some ad =>
  by_cases hc : cap = a
  ·refine ⟨some ad, by simp [sliced, hc]; omega, ?_, by simp⟩
   have : (xs.drop a).take m = [] := by apply List.eq_nil_of_length_eq_zero; simp; omega
   rw [this]
   exact Sl.nil _ _
  ·refine ⟨some (ad.add a), by simp [sliced, hc, hm], ?_, by simp⟩
   intro i hi
   simp only [List.length_take, List.length_drop] at hi
   obtain ⟨b', off', e', hcell⟩ := hs (a + i) (by omega)
   injection e' with e'
   subst e'
   refine ⟨b', off' + a, by rw [show ((⟨b', off', none⟩ : Addr).add a) = ⟨b', off' + a, none⟩ from by unfold Addr.add; by_cases h : a = 0 <;> simp [h]], ?_⟩
   rw [Nat.add_assoc, hcell]
   have hi2 : i < m := by omega
   simp [List.getElem?_take, hi2, List.getElem?_drop]
def AftB (w w' : World) (p : Nat) (S' : Ds) (o : Lab) (v : Value) (xs : By) : Prop := ∃ A' o', PD w' p S' A' o' ∧ o.Ext o' w ∧ Keep o.mine w w' ∧ OwnB w' v xs.length xs ∧ (∀ g, v.ownBlock = some g → w.heap.size ≤ g ∧ o' g = 0)
theorem PDx.told {w w' : World} {p : Nat} {S : Ds} {A : Nat → Nat} {o : Lab} {ms mh : Nat} {rv sv sv' : Value} (h : PDx w p S A o ms mh rv sv) (s : Dsk.Span) (hwf : ({ S with reads := S.reads ++ [s] } : Ds).Wf)
  (hc : w'.heap[p]? = some (.cells #[.int .i64 S.room, .bool S.on, .map (some ms), rv, .map (some mh), .int .i64 S.strokes, .int .i64 S.off, .int .i64 S.from_, .int .i64 S.to, .int .i64 S.planned, sv'] 97 (0, 0)))
  (hr : w'.ownsRow 0 164 3 sv' (S.reads.length + 1) (S.reads.flatMap encSp ++ encSp s)) (hK : Keep (fun k => k = p ∨ sv.ownBlock = some k) w w') (hl : ∀ g, sv'.ownBlock = some g → sv.ownBlock = some g ∨ w.heap.size ≤ g) :
  PDx w' p { S with reads := S.reads ++ [s] } A (o.ext w w' 1) ms mh rv sv' ∧ Keep (fun b => o b = 1) w w' := by
 have hF : ∀ b, (b = p ∨ sv.ownBlock = some b) → o b = 1 := fun b hb => by
  rcases hb with rfl | e
  ·exact h.lp
  ·exact h.ls b e
 have old : ∀ b, b < w.heap.size → o.ext w w' 1 b = o b := fun b hb => Lab.ext_old hb
 refine ⟨⟨hwf, hc, h.ne, h.safe.keep hK ?_, h.shown.keep hK ?_, own_keeps h.row hK (fun g hg => ?_), ?_, fun j hj => (h.th j hj).ext hK (fun g hg e2 => by have := hF g e2; omega), (old p h.lt).trans h.lp, (old _ h.safe.lt).trans h.lm, (old _ h.shown.lt).trans h.lh, fun g hg => (old g (h.row.lt g hg).2).trans (h.lr g hg), fun g hg => ?_, lim_ext h.lim hK.size, h.pl⟩, hK.mono (fun b hb _ => hF b hb)⟩
 ·rintro (e | e)
  ·exact h.ne_m e
  ·exact own_nmap h.reads h.safe.blk e
 ·rintro (e | e)
  ·exact h.ne_h e
  ·exact own_nmap h.reads h.shown.blk e
 ·rintro (e | e)
  ·exact h.ne_r (by rw [hg, e])
  ·exact own_two h.row h.reads (by decide) g hg e
 ·have e1 : ({ S with reads := S.reads ++ [s] } : Ds).reads.length = S.reads.length + 1 := by simp
  have e2 : ({ S with reads := S.reads ++ [s] } : Ds).reads.flatMap encSp = S.reads.flatMap encSp ++ encSp s := by simp
  rw [e1, e2]
  exact hr
 ·rcases hl g hg with e | e
  ·exact (old g (h.reads.lt g e).2).trans (h.ls g e)
  ·exact Lab.ext_new e (hr.lt g hg).2
set_option maxHeartbeats 1600000 in
set_option maxRecDepth 100000 in
theorem read_ok {w : World} {p : Nat} {S : Ds} {A : Nat → Nat} {o : Lab} {N : Nat} (h : PD w p S A o) (hB : S.Bd N) (hN : N ≤ 268435456) (nm : By) (hnl : nm.length ≤ 4611686018427387904) (a m : Int) :
  Calls Tryz.prog 55 #[.pointer (some ⟨p, 0, none⟩), encStr nm, .int .i64 a, .int .i64 m] w fun e w' => ∃ v, e = .returned (.tuple #[v, .int .i64 (S.readOk nm a m)]) ∧ AftB w w' p (S.read nm a m) o v (S.readBytes nm a m) := by
 obtain ⟨ms, mh, rv, sv, h⟩ := h
 have hfd := find_ok h nm hnl
 have HNO : Hid (∀ E : Int, E ≠ 0 → S.readOk nm a m = E → AftB w w p (S.read nm a m) o (.slice none 0 0) (S.readBytes nm a m)) := fun E hE he => by
  have e1 : S.read nm a m = S := by unfold Ds.read; rw [he, if_neg hE]
  have e2 : S.readBytes nm a m = [] := by unfold Ds.readBytes; rw [he, if_neg hE]
  rw [e1, e2]
  exact ⟨A, o, ⟨ms, mh, rv, sv, h⟩, Lab.Ext.refl _ _, Keep.refl _ _, OwnB.nil _, by simp [Value.ownBlock]⟩
 by_cases h0 : (S.find nm).1 = 0
 ·obtain ⟨hon, hnm, hmem, hlt⟩ := Ds.find_ok h.wf h0
  have hv : findV S A nm = .pointer (some ⟨A (S.find nm).2, 0, none⟩) := by unfold findV; rw [if_pos h0]
  have HC : Hid (S.readOk nm a m = if a < 0 ∨ m < 0 ∨ ((S.th (S.find nm).2).shown.length : Int) < a ∨ ((S.th (S.find nm).2).shown.length : Int) - a < m then 54 else 0) := hide (by simp [Ds.readOk, h0])
  have HD : Hid (S.readOk nm a m = 0 → S.readBytes nm a m = ((S.th (S.find nm).2).shown.drop a.toNat).take m.toNat ∧ S.read nm a m = { S with reads := S.reads ++ [⟨nm, a.toNat, m.toNat⟩] }) := fun he => by
   unfold Ds.readBytes Ds.read
   rw [he, if_pos rfl, if_pos rfl]
   exact ⟨rfl, rfl⟩
  rw [hv, h0] at hfd
  generalize (S.find nm).2 = k at hfd HC hlt HD
  obtain ⟨rv1, sv1, ht⟩ := h.th k hlt
  obtain ⟨so, sc, rfl, hsc, hscm, hs0, hs1⟩ := ht.shown.shape
  have i2 := ht.th0.c2
  have hlen := hB.len h.wf hlt
  by_cases hbad : a < 0 ∨ m < 0 ∨ ((S.th k).shown.length : Int) < a ∨ ((S.th k).shown.length : Int) - a < m
  ·have he : S.readOk nm a m = 54 := by rw [HC.out, if_pos hbad]
   have H54 := hide (HNO.out 54 (by decide) he)
   have HE := hide he
   clear h hB ht h0 hv hmem hnm hon HC HD HNO he hs0 hs1
   generalize (S.th k).shown.length = L at i2 hlen hbad hsc
   by_cases b1 : a < 0
   ·go_enter Tryz.func55, Tryz.ntmps55
    go_wp2_with (go_at_call 67; refine hfd.mono ?_; rintro e w' ⟨rfl, rfl⟩; clear hfd)
    go_ret2
    exact ⟨_, by rw [HE.out]; rfl, H54.out⟩
   by_cases b2 : m < 0
   ·go_enter Tryz.func55, Tryz.ntmps55
    go_wp2_with (go_at_call 67; refine hfd.mono ?_; rintro e w' ⟨rfl, rfl⟩; clear hfd)
    go_ret2
    exact ⟨_, by rw [HE.out]; rfl, H54.out⟩
   by_cases b3 : (L : Int) < a
   ·go_enter Tryz.func55, Tryz.ntmps55
    go_wp2_with (go_at_call 67; refine hfd.mono ?_; rintro e w' ⟨rfl, rfl⟩; clear hfd)
    go_ret2
    exact ⟨_, by rw [HE.out]; rfl, H54.out⟩
   have b4 : (L : Int) - a < m := by omega
   clear hbad
   go_enter Tryz.func55, Tryz.ntmps55
   go_wp2_with (go_at_call 67; refine hfd.mono ?_; rintro e w' ⟨rfl, rfl⟩; clear hfd)
   go_ret2
   exact ⟨_, by rw [HE.out]; rfl, H54.out⟩
  ·obtain ⟨x, rfl⟩ : ∃ x : Nat, a = x := ⟨a.toNat, by omega⟩
   obtain ⟨y, rfl⟩ : ∃ y : Nat, m = y := ⟨m.toNat, by omega⟩
   have he : S.readOk nm x y = 0 := by rw [HC.out, if_neg hbad]
   obtain ⟨hb1, hb2⟩ := HD.out he
   simp only [Int.toNat_natCast] at hb1 hb2
   have hwfr := h.wf.read nm x y
   rw [hb2] at hwfr
   obtain ⟨to, tc, rfl, _⟩ := own_shape h.reads
   have c10 := h.c10
   obtain ⟨g, c2, w1, hrun, ho1, hk1, hg1, hlt1⟩ := run_app (P := Tryz.prog) w 78 78 164 Tryz.underlying78 Tryz.infoSpan rfl (by decide) _ S.reads.length _ h.reads (encSp ⟨nm, x, y⟩) rfl (by simp [encSp, Value.oneCell']) (by unfold maxLen; have := hB.reads; omega) (by have := hB.reads; omega)
   have hK1 := hk1 (fun k => (Value.slice to S.reads.length tc).ownBlock = some k) (fun k e => e)
   have hQ1 := hK1.heapOf h.cells h.ne_s
   have hgp : g ≠ p := by rcases hg1 with e | e; exact fun e2 => h.ne_s (by rw [← e, e2]); have := h.lt; omega
   obtain ⟨w2, hw2⟩ : ∃ w2, w2 = w1.setCell ⟨p, 10, none⟩ (.slice (some ⟨g, 0, none⟩) (S.reads.length + 1) c2) := ⟨_, rfl⟩
   have hK2 : Keep (· = p) w1 w2 := by rw [hw2]; exact (Keep.refl (· = p) w1).setCell (p := ⟨p, 10, none⟩) (fun _ => rfl) _
   have hQ2 := heap_setCell_same w1 p 10 _ _ (.slice (some ⟨g, 0, none⟩) (S.reads.length + 1) c2) hQ1
   rw [← hw2] at hQ2
   have ho2 := own_keeps ho1 hK2 (fun k e e2 => by simp only [Value.ownBlock, Option.some.injEq] at e; exact hgp (by rw [e, e2]))
   have hK02 : Keep (fun k => k = p ∨ (Value.slice to S.reads.length tc).ownBlock = some k) w w2 := (hK1.mono (fun k e _ => .inr e)).trans hK2 (fun k e _ => .inl e)
   obtain ⟨hP2, hKo⟩ := h.told ⟨nm, x, y⟩ hwfr hQ2 ho2 hK02 (fun k e => by
    simp only [Value.ownBlock, Option.some.injEq] at e
    subst e
    rcases hg1 with e | e
    ·exact .inl e.symm
    ·exact .inr e)
   have d10 : w1.cell? ⟨p, 10, none⟩ = some (.slice to S.reads.length tc) := by rw [cell_of_row w1 p 10 _ _ _ hQ1]; rfl
   have f10 : w1.frozen? ⟨p, 10, none⟩ = false := frozen_of_row w1 p 10 _ _ hQ1
   have ht2 := ht.keep hKo (fun g hg => by omega)
   have j2 := ht2.th0.c2
   obtain ⟨ao', hcut, hsl, hnil⟩ := Tryz.cutMid w2 so (S.th k).shown.length sc x y (S.th k).shown ht2.shown.sl rfl hsc (by omega) (fun e => (hs0 e).2)
   rw [← hb1] at hsl
   have hyl : (S.readBytes nm x y).length = y := by rw [hb1]; simp; omega
   have hcl := cloneB_ok ao' y (sc - x) (S.readBytes nm x y) w2 hyl hsl hnil (by omega)
   have hxy : (x : Int) + (y : Int) = ((x + y : Nat) : Int) := by omega
   have hwr : IntKind.i64.wrap ((x : Int) + (y : Int)) = ((x + y : Nat) : Int) := by rw [IntWalk.i64_in _ (by omega)]; omega
   have FIN : Hid (∀ w3 v, OwnB w3 v y (S.readBytes nm x y) → Kept [] w2 w3 → (∀ g, v.ownBlock = some g → w2.heap.size ≤ g) → AftB w w3 p (S.read nm x y) o v (S.readBytes nm x y)) := fun w3 v hv hk hn => by
    have hP3 := hP2.keep (Keep.ofNone (F := fun _ => False) hk) (fun _ _ h => h)
    refine ⟨A, o.ext w w2 1, ?_, Ext_ext _ _ _ _, (mine_k hKo).kept hk, by rw [hyl]; exact hv, fun g hg => ⟨Nat.le_trans hKo.size (hn g hg), ?_⟩⟩
    ·rw [hb2]; exact ⟨_, _, _, _, hP3⟩
    ·have := hn g hg
     have := hKo.size
     unfold Lab.ext
     rw [if_neg (by omega), if_neg (by omega)]
   have HE := hide he
   have HXY := hide hxy
   clear h hB ht h0 hv hmem hnm hon HC HD HNO he hs0 hs1 hb1 hb2 hwfr ho1 hk1 hg1 hK1 hQ1 hK2 hQ2 ho2 hK02 hP2 hKo ht2 hsl hnil hxy hscm hgp hlt1
   generalize (S.th k).shown.length = L at i2 hlen hbad j2 hcut hsc
   have b1 : ¬ ((x : Int) < 0) := by omega
   have b2 : ¬ ((y : Int) < 0) := by omega
   have b3 : ¬ ((L : Int) < x) := by omega
   have b4 : ¬ ((L : Int) - x < y) := by omega
   clear hbad
   simp only [encSp] at hrun
   go_enter Tryz.func55, Tryz.ntmps55
   go_upto_region 7 with (first
    | (go_at_call 67; refine hfd.mono ?_; rintro e w' ⟨rfl, rfl⟩; clear hfd)
    | (at_builtin; refine wpList_app_run rfl _ _ 78 78 rfl _ _ rfl rfl _ _ hrun ?_))
   try rw [← hw2]
   clear hw2 hrun d10 f10 c10 i2
   go_wp2_with (go_at_call 91; refine hcl.mono ?_; rintro e w3 ⟨v, rfl, hv3, hk3, hn3⟩; have H3 := hide (FIN.out w3 v hv3 hk3 hn3); obtain ⟨vo, vc, rfl, _⟩ := hv3.shape; clear hv3 hk3 hn3)
   go_ret2
   exact ⟨_, by rw [HE.out]; rfl, H3.out⟩
 ·have hv : findV S A nm = .pointer none := by unfold findV; rw [if_neg h0]
  have he : S.readOk nm a m = (S.find nm).1 := by simp [Ds.readOk, h0]
  have HF := hide (HNO.out _ h0 he)
  have HE := hide he
  rw [hv] at hfd
  clear h hB HNO he
  generalize (S.find nm).1 = E at hfd h0 HE
  have e0 : (E != 0) = true := by simpa using h0
  clear h0 hv
  go_enter Tryz.func55, Tryz.ntmps55
  go_wp2_with (go_at_call 67; refine hfd.mono ?_; rintro e w' ⟨rfl, rfl⟩; clear hfd)
  go_ret2
  exact ⟨_, by rw [HE.out]; rfl, HF.out⟩
end

section
open Go.RowKit Go.Maps Go.Sort Go.Shelf
set_option linter.unusedVariables false
def Tryz.keysL_ren : Go.Shelf.Ren := ⟨fun | 7 => 113 | 10 => 123 | n => n, fun | 23 => 92 | 26 => 9 | 3 => 114 | 28 => 194 | 0 => 0 | 27 => 193 | 33 => 81 | 4 => 4 | n => n, fun | n => n⟩
theorem Tryz.keysL : Go.Proofs.SlLaysZ.n7 Tryz.prog Tryz.keysL_ren where
 mixed := by kernel_rfl
 f7 := ⟨"maps.Keys[freight/disk.names,string,*freight/disk.thing]", by decide, Tryz.func113.trans (congrArg some (by kernel_rfl))⟩
 f10 := ⟨"maps.Keys[freight/disk.names,string,*freight/disk.thing]$1", by decide, Tryz.func123.trans (congrArg some (by kernel_rfl))⟩
 t0 := Tryz.underlying0
 a0 := Tryz.isAgg0
 z0 := Tryz.sizeOf0
 v0 := Tryz.zeroValue0
 t4 := Tryz.underlying4
 a4 := Tryz.isAgg4
 z4 := Tryz.sizeOf4
 v4 := Tryz.zeroValue4
 t23 := Tryz.underlying92
 a23 := Tryz.isAgg92
 z23 := Tryz.sizeOf92
 v23 := Tryz.zeroValue92
 t26 := Tryz.underlying9
 a26 := Tryz.isAgg9
 z26 := Tryz.sizeOf9
 v26 := Tryz.zeroValue9
 t27 := Tryz.underlying193
 a27 := Tryz.isAgg193
 z27 := Tryz.sizeOf193
 v27 := Tryz.zeroValue193
 t28 := Tryz.underlying194
 a28 := Tryz.isAgg194
 z28 := Tryz.sizeOf194
 v28 := Tryz.zeroValue194
 t33 := Tryz.underlying81
 a33 := Tryz.isAgg81
 z33 := Tryz.sizeOf81
 v33 := Tryz.zeroValue81
def Tryz.sortedL_ren : Go.Shelf.Ren := ⟨fun | 6 => 112 | 8 => 121 | 9 => 122 | 11 => 125 | 13 => 127 | 12 => 126 | 23 => 137 | 24 => 138 | 14 => 128 | 15 => 129 | 16 => 130 | 17 => 131 | 18 => 132 | 19 => 133 | 20 => 134 | 21 => 135 | 22 => 136 | 25 => 139 | 26 => 140 | 27 => 141 | 28 => 142 | 29 => 143 | 30 => 144 | 31 => 145 | n => n, fun | 26 => 9 | 28 => 194 | 24 => 111 | 0 => 0 | 3 => 3 | 37 => 217 | 48 => 227 | 50 => 229 | 4 => 4 | 40 => 220 | 39 => 219 | 45 => 224 | 5 => 5 | 9 => 9 | 51 => 230 | 55 => 234 | 57 => 236 | 58 => 108 | 33 => 81 | n => n, fun | n => n⟩
theorem Tryz.sortedL : Go.Proofs.SlLaysZ.n6 Tryz.prog Tryz.sortedL_ren where
 mixed := by kernel_rfl
 f6 := ⟨"slices.Sorted[string]", by decide, Tryz.func112.trans (congrArg some (by kernel_rfl))⟩
 f8 := ⟨"slices.Collect[string]", by decide, Tryz.func121.trans (congrArg some (by kernel_rfl))⟩
 f11 := ⟨"slices.AppendSeq[[]string,string]", by decide, Tryz.func125.trans (congrArg some (by kernel_rfl))⟩
 t0 := Tryz.underlying0
 a0 := Tryz.isAgg0
 z0 := Tryz.sizeOf0
 v0 := Tryz.zeroValue0
 t24 := Tryz.underlying111
 a24 := Tryz.isAgg111
 z24 := Tryz.sizeOf111
 v24 := Tryz.zeroValue111
 t26 := Tryz.underlying9
 a26 := Tryz.isAgg9
 z26 := Tryz.sizeOf9
 v26 := Tryz.zeroValue9
 t28 := Tryz.underlying194
 a28 := Tryz.isAgg194
 z28 := Tryz.sizeOf194
 v28 := Tryz.zeroValue194
 i26 := by kernel_rfl
def Tryz.sortL_ren : Go.Shelf.Ren := ⟨fun | 6 => 122 | 8 => 127 | 9 => 126 | 19 => 137 | 20 => 138 | 21 => 128 | 22 => 129 | 23 => 130 | 24 => 131 | 25 => 132 | 26 => 133 | 27 => 134 | 28 => 135 | 29 => 136 | 36 => 139 | 31 => 140 | 32 => 141 | 37 => 142 | 38 => 143 | 39 => 144 | 41 => 145 | n => n, fun | 27 => 111 | 29 => 9 | 3 => 3 | 32 => 217 | 26 => 111 | 0 => 0 | 44 => 227 | 46 => 229 | 4 => 4 | 36 => 220 | 35 => 219 | 41 => 224 | 5 => 5 | 9 => 9 | 53 => 230 | 57 => 234 | 63 => 236 | 64 => 108 | n => n, fun | n => n⟩
theorem Tryz.sortL : Go.Proofs.SlLaysM.n6 Tryz.prog Tryz.sortL_ren where
 mixed := by kernel_rfl
 f6 := ⟨"slices.Sort[[]string,string]", by decide, Tryz.func122.trans (congrArg some (by kernel_rfl))⟩
 f8 := Tryz.func127.trans (congrArg some (by kernel_rfl))
 f9 := ⟨"slices.pdqsortOrdered[string]", by decide, Tryz.func126.trans (congrArg some (by kernel_rfl))⟩
 f19 := Tryz.func137.trans (congrArg some (by kernel_rfl))
 f20 := Tryz.func138.trans (congrArg some (by kernel_rfl))
 f21 := ⟨"slices.insertionSortOrdered[string]", by decide, Tryz.func128.trans (congrArg some (by kernel_rfl))⟩
 f22 := ⟨"slices.heapSortOrdered[string]", by decide, Tryz.func129.trans (congrArg some (by kernel_rfl))⟩
 f23 := ⟨"slices.breakPatternsOrdered[string]", by decide, Tryz.func130.trans (congrArg some (by kernel_rfl))⟩
 f24 := ⟨"slices.choosePivotOrdered[string]", by decide, Tryz.func131.trans (congrArg some (by kernel_rfl))⟩
 f25 := ⟨"slices.reverseRangeOrdered[string]", by decide, Tryz.func132.trans (congrArg some (by kernel_rfl))⟩
 f26 := ⟨"slices.partialInsertionSortOrdered[string]", by decide, Tryz.func133.trans (congrArg some (by kernel_rfl))⟩
 f27 := ⟨"cmp.Less[string]", by decide, Tryz.func134.trans (congrArg some (by kernel_rfl))⟩
 f28 := ⟨"slices.partitionEqualOrdered[string]", by decide, Tryz.func135.trans (congrArg some (by kernel_rfl))⟩
 f29 := ⟨"slices.partitionOrdered[string]", by decide, Tryz.func136.trans (congrArg some (by kernel_rfl))⟩
 f31 := Tryz.func140.trans (congrArg some (by kernel_rfl))
 f32 := Tryz.func141.trans (congrArg some (by kernel_rfl))
 f36 := ⟨"slices.siftDownOrdered[string]", by decide, Tryz.func139.trans (congrArg some (by kernel_rfl))⟩
 f37 := ⟨"slices.medianAdjacentOrdered[string]", by decide, Tryz.func142.trans (congrArg some (by kernel_rfl))⟩
 f38 := ⟨"slices.medianOrdered[string]", by decide, Tryz.func143.trans (congrArg some (by kernel_rfl))⟩
 f39 := ⟨"cmp.isNaN[string]", by decide, Tryz.func144.trans (congrArg some (by kernel_rfl))⟩
 f41 := ⟨"slices.order2Ordered[string]", by decide, Tryz.func145.trans (congrArg some (by kernel_rfl))⟩
 t0 := Tryz.underlying0
 a0 := Tryz.isAgg0
 z0 := Tryz.sizeOf0
 v0 := Tryz.zeroValue0
 t3 := Tryz.underlying3
 a3 := Tryz.isAgg3
 z3 := Tryz.sizeOf3
 v3 := Tryz.zeroValue3
 t4 := Tryz.underlying4
 a4 := Tryz.isAgg4
 z4 := Tryz.sizeOf4
 v4 := Tryz.zeroValue4
 t5 := Tryz.underlying5
 a5 := Tryz.isAgg5
 z5 := Tryz.sizeOf5
 v5 := Tryz.zeroValue5
 t9 := Tryz.underlying9
 a9 := Tryz.isAgg9
 z9 := Tryz.sizeOf9
 v9 := Tryz.zeroValue9
 t26 := Tryz.underlying111
 a26 := Tryz.isAgg111
 z26 := Tryz.sizeOf111
 v26 := Tryz.zeroValue111
 t27 := Tryz.underlying111
 a27 := Tryz.isAgg111
 z27 := Tryz.sizeOf111
 v27 := Tryz.zeroValue111
 t29 := Tryz.underlying9
 a29 := Tryz.isAgg9
 z29 := Tryz.sizeOf9
 v29 := Tryz.zeroValue9
 t32 := Tryz.underlying217
 a32 := Tryz.isAgg217
 z32 := Tryz.sizeOf217
 v32 := Tryz.zeroValue217
 t35 := Tryz.underlying219
 a35 := Tryz.isAgg219
 z35 := Tryz.sizeOf219
 v35 := Tryz.zeroValue219
 t36 := Tryz.underlying220
 a36 := Tryz.isAgg220
 z36 := Tryz.sizeOf220
 v36 := Tryz.zeroValue220
 t41 := Tryz.underlying224
 a41 := Tryz.isAgg224
 z41 := Tryz.sizeOf224
 v41 := Tryz.zeroValue224
 t44 := Tryz.underlying227
 a44 := Tryz.isAgg227
 z44 := Tryz.sizeOf227
 v44 := Tryz.zeroValue227
 t46 := Tryz.underlying229
 a46 := Tryz.isAgg229
 z46 := Tryz.sizeOf229
 v46 := Tryz.zeroValue229
 t53 := Tryz.underlying230
 a53 := Tryz.isAgg230
 z53 := Tryz.sizeOf230
 v53 := Tryz.zeroValue230
 t57 := Tryz.underlying234
 a57 := Tryz.isAgg234
 z57 := Tryz.sizeOf234
 v57 := Tryz.zeroValue234
 t63 := Tryz.underlying236
 a63 := Tryz.isAgg236
 z63 := Tryz.sizeOf236
 v63 := Tryz.zeroValue236
 t64 := Tryz.underlying108
 a64 := Tryz.isAgg108
 z64 := Tryz.sizeOf108
 v64 := Tryz.zeroValue108
theorem Tryz.sortsL (m : Nat) : AnyZ.SortsIn Tryz.prog Tryz.sortedL_ren Fence.wide m :=
 ⟨fun blk off cap ss W hH hblk hsz => callsIn_wide.2 (AnyM.slices_Sort_string Tryz.sortL blk off cap ss W hH hblk hsz),
   fun p cap W => callsIn_wide.2 (AnyM.slices_Sort_string_none Tryz.sortL p cap W)⟩
theorem Tryz.keysIn (mb : Option Nat) (W : World) : CallsIn Fence.wide 5 Tryz.prog 113 #[.map mb] W fun e w' => e = .returned (.func (.func 123) #[] #[.pointer (some ⟨W.heap.size, 0, none⟩)]) ∧ w' = W.alloc (.cells #[.map mb] 92) :=
 AnyZ.keys_in Tryz.keysL Fence.wide 5 trivial rfl mb W
set_option maxHeartbeats 1000000 in
theorem Tryz.sortedIn {H : Type} (b nn : Nat) (D0 : DataW H) (R : Value → Option (DataW H × List MemPlace)) (w : World) (hown : w.ownsMap Tryz.prog 9 R b nn D0) (hmax : Maps.size D0 ≤ maxLen) (hbytes : Maps.size D0 * 16 ≤ 140737488355328) :
  CallsIn Fence.wide 5 Tryz.prog 112 #[.func (.func 123) #[] #[.pointer (some ⟨w.heap.size, 0, none⟩)]] (w.alloc (.cells #[.map (some b)] 92)) fun e w' => ∃ (v : Value) (ss : List (List UInt8)), e = .returned v ∧ ss.Perm (strKeys D0) ∧
   w'.ownsRow (w.alloc (.cells #[.map (some b)] 92)).heap.size 9 1 v ss.length ((ss.mergeSort (fun x y => decide (x ≤ y))).map encStr) ∧ (v = .slice none 0 0 ↔ ss = []) ∧ Below (w.alloc (.cells #[.map (some b)] 92)).heap.size (w.alloc (.cells #[.map (some b)] 92)) w' := by
 have hbl := hown.lt
 have hseq : SeqGives Fence.wide 2 Tryz.prog 123 #[.pointer (some ⟨w.heap.size, 0, none⟩)] encStr (fun ss => ss.Perm (strKeys D0)) (Maps.size D0) (w.alloc (.cells #[.map (some b)] 92)) :=
  AnyZ.keys_gives (ρ := Tryz.keysL_ren) { Tryz.keysL with } Fence.wide _ trivial rfl (by omega) w.heap.size b nn D0 _ (by simp) (by simp) (by
   obtain ⟨es, clock, hb, Ft, hs, hD⟩ := hown
   exact ⟨es, clock, (Below.heap_alloc _ _ b hbl).trans hb, Ft, hs, hD⟩)
 exact AnyZ.sorted_in Tryz.sortedL Fence.wide 5 trivial trivial trivial trivial rfl (by omega) (Tryz.sortsL _) (enters_of Tryz.func122 (by kernel_rfl) rfl) 123 #[.pointer (some ⟨w.heap.size, 0, none⟩)] trivial (enters_of Tryz.func123 (by kernel_rfl) rfl) _ _ hmax hbytes _ hseq
open Dsk in
set_option maxHeartbeats 1000000 in
set_option maxRecDepth 100000 in
theorem rising_ok (b : Nat) (A : Nat → Nat) (l : Nm) (w : World) (h : Mp w b A l) (hup : l.Up) (hl : l.length ≤ 1073741824) :
  Calls Tryz.prog 87 #[.map (some b)] w fun e w' => ∃ v, e = .returned v ∧ w'.ownsRow w.heap.size 9 1 v l.length (l.keys.map encStr) ∧ Below w.heap.size w w' := by
 have hmax : Maps.size (nmD A l) ≤ maxLen := by rw [nmD_size]; unfold maxLen; omega
 have hbytes : Maps.size (nmD A l) * 16 ≤ 140737488355328 := by rw [nmD_size]; omega
 have hS := Tryz.sortedIn b l.length (nmD A l) ptrElem w h hmax hbytes
 have hfK : Fence.wide.fn 113 := trivial
 have hfS : Fence.wide.fn 112 := trivial
 refine (callsIn_wide (n := 6)).1 ?_
 refine callsIn_of_wp Tryz.func87 rfl trivial ?_ rfl
 simp only [Tryz.ntmps87, List.size_toArray, List.length_cons, List.length_nil, Nat.reduceAdd, Nat.reduceSub, Array.replicate_succ, Array.replicate_zero, List.push_toArray, List.append_toArray, List.nil_append, List.cons_append]
 gi_wp2_with (first
  | (gi_at_call 113; refine (Tryz.keysIn _ _).mono ?_; rintro e w' ⟨rfl, rfl⟩)
  | (gi_at_call 112; refine hS.mono ?_; rintro e w' ⟨v, ss, rfl, hP, hrow, hnil, hb⟩))
 go_ret
 rw [nmD_keys] at hP
 rw [keys_sorted hup ss hP] at hrow
 have hlen : ss.length = l.length := by rw [hP.length_eq]; simp [Nm.keys]
 rw [hlen] at hrow
 exact ⟨v, rfl, ownsRow_base_a hrow (by simp), ((Below.refl _ w).alloc (Nat.le_refl _) _).trans (hb.mono (by simp))⟩
end

end Go.Proofs.YtodihkdmneihiaaGreatDoor
