import Derived.Test.YtodihkdmneihiaaGreatDoorReep
import Derived.Test.YtodihkdmneihiaaGreatDoorHop
import Derived.Deep.RegionHeld
namespace Go.Proofs.YtodihkdmneihiaaGreatDoor
section
open Go.RowKit Dsk
set_option linter.unusedVariables false
set_option linter.unusedSimpArgs false
def endE (b : Bool) (x : Int) : Int := if b then 50 else x
def Ds.cnt (S : Ds) : Ds := { S with strokes := S.strokes + 1, planned := S.planned + 1 }
theorem Ds.wfCnt {S : Ds} (h : S.Wf) : (Ds.cnt S).Wf := ⟨h.room, h.up, h.shown, h.ok, h.nodup, h.lt, h.nm, h.nmr, h.th⟩
section
variable {w : World} {q : Nat} {S : Ds} {A : Nat → Nat} {o : Lab} {nv bv tv sv : Value}
set_option maxHeartbeats 800000 in
set_option maxRecDepth 100000 in
theorem roff_ok (h : RDx w q S A o nv bv tv sv) : Calls Tryz.prog 42 #[.pointer (some ⟨q, 0, none⟩)] w fun e w' => e = .returned (.bool (!S.on)) ∧ w' = w := by
 have c0 := h.cell 0 _ rfl
 clear h
 go_enter Tryz.func42, Tryz.ntmps42
 go_wp2
 go_ret
 exact ⟨rfl, rfl⟩
set_option maxHeartbeats 800000 in
set_option maxRecDepth 100000 in
theorem rstrokes_ok (h : RDx w q S A o nv bv tv sv) : Calls Tryz.prog 43 #[.pointer (some ⟨q, 0, none⟩)] w fun e w' => e = .returned (.int .i64 S.strokes) ∧ w' = w := by
 have c0 := h.cell 5 _ rfl
 clear h
 go_enter Tryz.func43, Tryz.ntmps43
 go_wp2
 go_ret
 exact ⟨rfl, rfl⟩
set_option maxHeartbeats 1600000 in
set_option maxRecDepth 100000 in
theorem rused_ok (h : RDx w q S A o nv bv tv sv) (hlv : ∀ p ∈ S.shown, p.2 ∈ S.lives) (hn : S.shown.length ≤ 268435456) (hb : ∀ p ∈ S.shown, (S.th p.2).shown.length ≤ 268435456) : Calls Tryz.prog 109 #[.pointer (some ⟨q, 0, none⟩)] w fun e w' => e = .returned (.int .i64 S.used) ∧ w' = w := by
 obtain ⟨no, nc, rfl⟩ := h.nvs
 have c2 := h.cell 2 _ rfl
 obtain ⟨M, hM⟩ : ∃ M, S.shown.length = M := ⟨_, rfl⟩
 rw [hM] at hn c2 h
 have HM := hide hM
 have HH := hide h
 have HLV := hide hlv
 have HBD := hide hb
 clear h hlv hb hM
 go_enter Tryz.func109, Tryz.ntmps109
 go_wp2
 go_loopw [3, 4] (fun x i wr => ∃ k u : Nat, k ≤ M ∧ i = .int .i64 k ∧ x = .int .i64 u ∧ u ≤ k * 268435456 ∧ wr = w ∧ Hid (usedUp S k = u)) (fun x i wr => M - (intOf i).toNat)
 case atStart => exact ⟨0, 0, by omega, rfl, rfl, by omega, rfl, hide (usedUp_zero S)⟩
 case round =>
  obtain ⟨k, u, hk, rfl, rfl, hu, hwr, HU⟩ := hrel
  obtain rfl := hwr.symm
  by_cases hlt : k < M
  ·obtain ⟨⟨nm, id⟩, hp⟩ : ∃ q, S.shown[k]? = some q := ⟨S.shown[k]'(by rw [HM.out]; exact hlt), List.getElem?_eq_getElem _⟩
   have hmem := List.mem_of_getElem? hp
   obtain ⟨g, rfl, hc0, hc1⟩ := nms_cell (n := M) (by have := HH.out.now; rw [HM.out] at this ⊢; exact this) hp
   obtain ⟨sv1, hv1, rv1, R1, ht⟩ := HH.out.th id (HLV.out _ hmem)
   obtain ⟨bo, bc, rfl, _⟩ := ht.shown.shape
   have hts : w.cell? ⟨A id, 1, none⟩ = some (.slice bo (S.th id).shown.length bc) := by rw [cell_of_row w _ 1 _ _ _ ht.cells]; rfl
   have hle := HBD.out _ hmem
   have hst := usedUp_step S hp
   simp only at hle hst
   generalize (S.th id).shown.length = z at hts hle hst
   have HU2 : Hid (usedUp S (k + 1) = u + z) := hide (by rw [hst, HU.out])
   generalize A id = ab at hts hc1
   clear ht hst hmem hp HU hc0
   go_wp2
   go_roundw
   case rel => exact ⟨k + 1, u + z, by omega, by go_num, by go_num, by omega, trivial, HU2⟩
   case measure => simp [intOf]; omega
  ·have HE : Hid (S.used = u) := hide (by rw [← usedUp_all S (k := k) (by rw [HM.out]; omega)]; exact HU.out)
   go_wp2
   go_ret
   exact ⟨by rw [HE.out]; rfl, rfl⟩
set_option maxHeartbeats 1600000 in
set_option maxRecDepth 100000 in
theorem rstroke_ok (h : RDx w q S A o nv bv tv sv) (h1 : S.strokes ≤ 536870912) (h2 : S.planned ≤ 536870912) : Calls Tryz.prog 72 #[.pointer (some ⟨q, 0, none⟩)] w fun e w' => e = .returned (.tuple #[.bool S.lacks, .bool S.goesOff]) ∧ RDx w' q (Ds.cnt S) A o nv bv tv sv ∧ Keep (· = q) w w' := by
 have c5 := h.cell 5 _ rfl
 have c6 := h.cell 6 _ rfl
 have c7 := h.cell 7 _ rfl
 have c8 := h.cell 8 _ rfl
 have c9 := h.cell 9 _ rfl
 have f5 : w.frozen? ⟨q, 5, none⟩ = false := frozen_of_row _ _ _ _ _ h.cells
 have f6 : w.frozen? ⟨q, 6, none⟩ = false := frozen_of_row _ _ _ _ _ h.cells
 have HF : Hid (∀ j, RDx (((w.setCell ⟨q, 5, none⟩ (.int .i64 ((S.strokes : Int) + 1))).setCell ⟨q, 6, none⟩ (.int .i64 ((S.planned : Int) + 1))).drewN j) q (Ds.cnt S) A o nv bv tv sv ∧ Keep (· = q) w (((w.setCell ⟨q, 5, none⟩ (.int .i64 ((S.strokes : Int) + 1))).setCell ⟨q, 6, none⟩ (.int .i64 ((S.planned : Int) + 1))).drewN j)) := hide (fun j => by
  have hk : Keep (· = q) w (((w.setCell ⟨q, 5, none⟩ (.int .i64 ((S.strokes : Int) + 1))).setCell ⟨q, 6, none⟩ (.int .i64 ((S.planned : Int) + 1))).drewN j) := (((Keep.refl (· = q) w).setCell (p := ⟨q, 5, none⟩) (fun _ => rfl) _).setCell (p := ⟨q, 6, none⟩) (fun _ => rfl) _).drewN j
  refine ⟨RDx.put (S' := Ds.cnt S) h hk ?_ h.now h.before h.turns h.told h.th h.ln h.lb h.lt h.ls h.pl, hk⟩
  show (World.setCell (World.setCell w _ _) _ _).heap[q]? = _
  rw [heap_setCell_same _ q 6 _ _ _ (heap_setCell_same _ q 5 _ _ _ h.cells)]
  simp [Ds.cnt])
 have HLK : Hid (S.lacks = (decide (S.from_ ≤ (S.planned : Int) + 1) && decide ((S.planned : Int) + 1 ≤ S.to))) := hide rfl
 have HGO : Hid (S.goesOff = decide ((S.planned : Int) + 1 = S.off)) := hide rfl
 clear h
 generalize S.lacks = L at HLK
 generalize S.goesOff = G at HGO
 generalize S.from_ = xf at c8 HLK
 generalize S.to = xt at c9 HLK
 generalize S.off = xo at c7 HGO
 generalize S.strokes = x5 at c5 h1 HF
 generalize S.planned = x6 at c6 h2 HF HLK HGO
 go_enter Tryz.func72, Tryz.ntmps72
 go_upto_region 3 with (fail)
 have HFF := HF.out
 obtain ⟨w1, hw1⟩ : ∃ w1, w1 = (w.setCell ⟨q, 5, none⟩ (.int .i64 ((x5 : Int) + 1))).setCell ⟨q, 6, none⟩ (.int .i64 ((x6 : Int) + 1)) := ⟨_, rfl⟩
 have d6 : w1.cell? ⟨q, 6, none⟩ = some (.int .i64 ((x6 : Int) + 1)) := by rw [hw1]; exact World.cell?_setCell_same _ _ _ (by rw [World.cell?_setCell_other _ _ _ _ (by intro e; cases e)]; exact c6)
 have d7 : w1.cell? ⟨q, 7, none⟩ = some (.int .i64 xo) := by rw [hw1, World.cell?_setCell_other _ _ _ _ (by intro e; cases e), World.cell?_setCell_other _ _ _ _ (by intro e; cases e)]; exact c7
 have d8 : w1.cell? ⟨q, 8, none⟩ = some (.int .i64 xf) := by rw [hw1, World.cell?_setCell_other _ _ _ _ (by intro e; cases e), World.cell?_setCell_other _ _ _ _ (by intro e; cases e)]; exact c8
 have d9 : w1.cell? ⟨q, 9, none⟩ = some (.int .i64 xt) := by rw [hw1, World.cell?_setCell_other _ _ _ _ (by intro e; cases e), World.cell?_setCell_other _ _ _ _ (by intro e; cases e)]; exact c9
 rw [← hw1] at HFF ⊢
 have HF1 := hide HFF
 clear HFF HF hw1 c5 c6 c7 c8 c9 f5 f6
 have HO : Hid (((x6 : Int) + 1 == xo) = G) := hide (by rw [HGO.out, Bool.eq_iff_iff]; simp)
 have ho := HO.out
 by_cases a1 : xf ≤ (x6 : Int) + 1
 ·by_cases a2 : (x6 : Int) + 1 ≤ xt
  ·have HL : Hid (L = true) := hide (by rw [HLK.out]; simp [a1, a2])
   go_quiet (fail)
   go_wp2
   go_ret2
   refine ⟨?_, HF1.out _⟩
   rw [HL.out]; rfl
  ·have HL : Hid (L = false) := hide (by rw [HLK.out]; simp [a2])
   go_quiet (fail)
   go_wp2
   go_ret2
   refine ⟨?_, HF1.out _⟩
   rw [HL.out]; rfl
 ·have HL : Hid (L = false) := hide (by rw [HLK.out]; simp [a1])
  go_quiet (fail)
  go_wp2
  go_ret2
  refine ⟨?_, HF1.out _⟩
  rw [HL.out]; rfl
set_option maxHeartbeats 1600000 in
set_option maxRecDepth 100000 in
theorem rend_ok (h : RDx w q S A o nv bv tv sv) (b : Bool) (x : Int) : Calls Tryz.prog 73 #[.pointer (some ⟨q, 0, none⟩), .bool b, .int .i64 x] w fun e w' => e = .returned (.int .i64 (endE b x)) ∧ RDx w' q { S with on := S.on && !b } A o nv bv tv sv ∧ Keep (· = q) w w' := by
 cases b with
 | false =>
  have HE : Hid (RDx w q { S with on := S.on && !false } A o nv bv tv sv) := hide (by simpa using h)
  clear h
  go_enter Tryz.func73, Tryz.ntmps73
  go_wp2
  go_ret
  exact ⟨rfl, by simpa using HE.out, Keep.refl _ _⟩
 | true =>
  have c0 := h.cell 0 _ rfl
  have f0 : w.frozen? ⟨q, 0, none⟩ = false := frozen_of_row _ _ _ _ _ h.cells
  have hk : Keep (· = q) w (w.setCell ⟨q, 0, none⟩ (.bool false)) := (Keep.refl (· = q) w).setCell (p := ⟨q, 0, none⟩) (fun _ => rfl) _
  have HE : Hid (RDx (w.setCell ⟨q, 0, none⟩ (.bool false)) q { S with on := S.on && !true } A o nv bv tv sv) := hide (RDx.put (S' := { S with on := S.on && !true }) h hk (by rw [heap_setCell_same _ q 0 _ _ _ h.cells]; simp) h.now h.before h.turns h.told h.th h.ln h.lb h.lt h.ls h.pl)
  have HK := hide hk
  clear h hk
  go_enter Tryz.func73, Tryz.ntmps73
  go_wp2
  go_ret
  exact ⟨rfl, by simpa using HE.out, HK.out⟩
def thereI (S : Ds) (n : By) : Int := if (S.find n).1 = 0 then fix S.shown n else 0
set_option maxHeartbeats 1600000 in
set_option maxRecDepth 100000 in
theorem there_ok (h : RDx w q S A o nv bv tv sv) (hu : S.shown.Up) (hl : S.shown.length ≤ 1073741824) (n : By) (hn : n.length ≤ 4611686018427387904) : Calls Tryz.prog 76 #[.pointer (some ⟨q, 0, none⟩), encStr n] w fun e w' => e = .returned (.tuple #[.int .i64 (thereI S n), .int .i64 (S.find n).1]) ∧ w' = w := by
 have hoff := roff_ok h
 have hisn := rIsName_ok n w hn
 obtain ⟨no, nc, rfl⟩ := h.nvs
 have c2 := h.cell 2 _ rfl
 have hfd := rfind_ok no S.shown.length nc A S.shown n w rfl hl h.now
 unfold thereI
 unfold Ds.find
 cases hon : S.on with
 | false =>
  rw [hon] at hoff
  simp only [Bool.false_eq_true, if_false]
  clear h hfd hon
  go_enter Tryz.func76, Tryz.ntmps76
  go_wp2_with (go_at_call 42; refine hoff.mono ?_; rintro e w' ⟨rfl, hw⟩; obtain rfl := hw.symm; clear hoff)
  go_ret2
  exact ⟨rfl, rfl⟩
 | true =>
  rw [hon] at hoff
  simp only [if_true]
  cases hnm : isNm n with
  | false =>
   rw [hnm] at hisn
   simp only [Bool.false_eq_true, if_false]
   clear h hfd hon hnm
   go_enter Tryz.func76, Tryz.ntmps76
   go_wp2_with (first
    | (go_at_call 42; refine hoff.mono ?_; rintro e w' ⟨rfl, hw⟩; obtain rfl := hw.symm; clear hoff)
    | (go_at_call 62; refine hisn.mono ?_; rintro e w' ⟨rfl, hw⟩; obtain rfl := hw.symm; clear hisn))
   go_ret2
   exact ⟨rfl, rfl⟩
  | true =>
   rw [hnm] at hisn
   simp only [if_true]
   cases hg : S.shown.get n with
   | none =>
    have hfx := fix_get_none hg
    rw [hfx] at hfd
    simp only
    clear h hon hnm hg hfx
    generalize S.shown.length = M at *
    go_enter Tryz.func76, Tryz.ntmps76
    go_wp2_with (first
     | (go_at_call 42; refine hoff.mono ?_; rintro e w' ⟨rfl, hw⟩; obtain rfl := hw.symm; clear hoff)
     | (go_at_call 62; refine hisn.mono ?_; rintro e w' ⟨rfl, hw⟩; obtain rfl := hw.symm; clear hisn)
     | (go_at_call 71; refine hfd.mono ?_; rintro e w' ⟨rfl, hw⟩; obtain rfl := hw.symm; clear hfd))
    go_ret2
    exact ⟨rfl, rfl⟩
   | some k =>
    obtain ⟨i, hi, hp, hfx⟩ := fix_get_some hu hg
    simp only [if_true]
    rw [hfx] at hfd ⊢
    clear h hon hnm hg hfx hp hu
    generalize S.shown.length = M at *
    go_enter Tryz.func76, Tryz.ntmps76
    go_wp2_with (first
     | (go_at_call 42; refine hoff.mono ?_; rintro e w' ⟨rfl, hw⟩; obtain rfl := hw.symm; clear hoff)
     | (go_at_call 62; refine hisn.mono ?_; rintro e w' ⟨rfl, hw⟩; obtain rfl := hw.symm; clear hisn)
     | (go_at_call 71; refine hfd.mono ?_; rintro e w' ⟨rfl, hw⟩; obtain rfl := hw.symm; clear hfd))
    go_ret2
    exact ⟨rfl, rfl⟩
end
end

section
open Go.RowKit Dsk
set_option linter.unusedVariables false
set_option linter.unusedSimpArgs false
theorem Bl.trans {w w1 wr : World} {A : Nat → Nat} {v : Value} {l : Nm} (h : Bl w1 wr A v l) (hk : Kept [] w w1) : Bl w wr A v l :=
 ⟨h.row, fun g hg => Nat.le_trans hk.size (h.new g hg), hk.trans h.keep (by simp)⟩
theorem Bl.hold {w wr w2 : World} {A : Nat → Nat} {v : Value} {l : Nm} (h : Bl w wr A v l) (hk : Kept [] wr w2) : Bl w w2 A v l :=
 ⟨own_keeps h.row (Keep.ofNone (F := fun _ => False) hk) (fun _ _ h => h), h.new, h.keep.trans hk (by simp)⟩
theorem less_before : ∀ (a b : By), Op.bytesLess a b = bytesBefore a b
 | [], [] => by simp [Op.bytesLess, bytesBefore]
 | _ :: _, [] => by simp [Op.bytesLess, bytesBefore]
 | [], _ :: _ => by simp [Op.bytesLess, bytesBefore]
 | x :: r, y :: s => by rw [Op.bytesLess, bytesBefore, less_before r s]
set_option maxHeartbeats 1600000 in
set_option maxRecDepth 100000 in
theorem with_ok (vo : Option Addr) (m vc : Nat) (A : Nat → Nat) (l : Nm) (n : By) (k b : Nat) (hbk : A k = b) (w : World) (hl : l.length = m) (hm : m ≤ 536870912) (h : w.ownsRow 0 139 2 (.slice vo m vc) m (nmsV A l)) :
  Calls Tryz.prog 107 #[.slice vo m vc, encStr n, .pointer (some ⟨b, 0, none⟩)] w fun e w' => ∃ v, e = .returned v ∧ Bl w w' A v (l.put n k) := by
 have hwo := without_ok vo m vc A l n w hl (by omega) h
 have hdl : (l.del n).length ≤ 536870912 := by have := Nm.del_length_le l n; omega
 have HP : Hid (l.put n k = Nm.ins (n, k) (l.del n)) := hide rfl
 have HB := hide hbk
 clear hl h hbk
 generalize l.del n = L at hwo hdl HP
 go_enter Tryz.func107, Tryz.ntmps107
 go_wp2_with (go_at_call 108; refine hwo.mono ?_; rintro e w1 ⟨v1, rfl, hB1⟩; obtain ⟨po, pc, rfl⟩ := hB1.shape; have HB1 := hide hB1; clear hwo hB1)
 have HK1 := hide HB1.out.keep
 have HO := hide HB1.out.row
 obtain ⟨M, hM⟩ : ∃ M, L.length = M := ⟨_, rfl⟩
 rw [hM] at hdl HO ⊢
 have HL := hide hM
 have HS := hide (Bl.start (A := A) (Kept.refl [] w1))
 clear hM HB1
 go_loopw [7, 8, 9] (fun f d i wr => ∃ j x : Nat, ∃ dn : Bool, j ≤ M ∧ x ≤ j + 1 ∧ i = .int .i64 j ∧ d = .bool dn ∧ Hid (Bl w1 wr A f (insUpto (n, k) L j).1 ∧ (insUpto (n, k) L j).1.length = x ∧ (insUpto (n, k) L j).2 = dn) ∧ ∃ fo fc, f = .slice fo x fc) (fun f d i wr => M - (intOf i).toNat)
 case atStart => exact ⟨0, 0, false, by omega, by omega, rfl, rfl, hide (by rw [insUpto_zero]; exact ⟨HS.out, rfl, rfl⟩), none, 0, rfl⟩
 case round =>
  clear HS
  obtain ⟨j, x, dn, hj, hx, rfl, rfl, HR, fo, fc, rfl⟩ := hrel
  obtain ⟨hR, hlen, hdn⟩ := HR.out
  clear HR
  by_cases hlt : j < M
  ·obtain ⟨⟨nm, id⟩, hp⟩ : ∃ q, L[j]? = some q := ⟨L[j]'(by rw [HL.out]; exact hlt), List.getElem?_eq_getElem _⟩
   have hO := own_keeps HO.out (Keep.ofNone (F := fun _ => False) hR.keep) (fun _ _ h => h)
   obtain ⟨g, rfl, hc, hc1⟩ := nms_cell (by rw [HL.out]; exact hO) hp
   cases dn with
   | true =>
    have hst := insUpto_done hp hdn
    obtain ⟨ga, gc, w5, hap, hb5⟩ := hR.app hlen (by omega) nm id (A id) rfl
    have H5 : Hid (Bl w1 w5 A (.slice (some ⟨ga, 0, none⟩) (x + 1) gc) (insUpto (n, k) L (j + 1)).1 ∧ (insUpto (n, k) L (j + 1)).1.length = x + 1 ∧ (insUpto (n, k) L (j + 1)).2 = true) := hide (by rw [hst]; exact ⟨hb5, by simp [hlen], rfl⟩)
    clear hp hO hst hR hlen hb5 hdn
    go_wp2_with (at_builtin; refine wpList_app_run rfl _ _ 76 76 rfl _ _ rfl rfl _ _ hap ?_)
    go_roundw
    case rel => exact ⟨j + 1, x + 1, true, by omega, by omega, by go_num, rfl, H5, _, _, rfl⟩
    case measure => simp [intOf]; omega
   | false =>
    cases hb : bytesBefore n nm with
    | true =>
     have hst := insUpto_here hp hdn hb
     obtain ⟨ga, gc, w5, hap, hb5⟩ := hR.app hlen (by omega) n k b HB.out
     have hO5 := own_keeps HO.out (Keep.ofNone (F := fun _ => False) hb5.keep) (fun _ _ h => h)
     obtain ⟨_, he, hc5, hc6⟩ := nms_cell (by rw [HL.out]; exact hO5) hp
     cases he
     obtain ⟨gb, gd, w6, hap2, hb6⟩ := hb5.app (by simp [hlen]) (by omega) nm id (A id) rfl
     have H5 : Hid (Bl w1 w6 A (.slice (some ⟨gb, 0, none⟩) (x + 1 + 1) gd) (insUpto (n, k) L (j + 1)).1 ∧ (insUpto (n, k) L (j + 1)).1.length = x + 1 + 1 ∧ (insUpto (n, k) L (j + 1)).2 = true) := hide (by rw [hst]; exact ⟨hb6, by simp [hlen], rfl⟩)
     have hx2 : x + 1 + 1 ≤ j + 1 + 1 := by
      have h1 := hlen
      unfold insUpto at h1 hdn
      split at hdn
      ·cases hdn
      ·rename_i hh
       rw [if_neg hh] at h1
       simp only [List.length_take] at h1
       omega
     rw [← less_before] at hb
     clear hp hO hst hR hlen hb5 hdn hO5 hb6
     go_wp2_with (first
      | (at_builtin; have Ha := hap; refine wpList_app_run rfl _ _ 76 76 rfl _ _ rfl rfl _ _ hap ?_; clear Ha hap)
      | (at_builtin; refine wpList_app_run rfl _ _ 76 76 rfl _ _ rfl rfl _ _ hap2 ?_))
     go_roundw
     case rel => exact ⟨j + 1, x + 1 + 1, true, by omega, by omega, by go_num, rfl, H5, _, _, rfl⟩
     case measure => simp [intOf]; omega
    | false =>
     have hst := insUpto_on hp hdn hb
     obtain ⟨ga, gc, w5, hap, hb5⟩ := hR.app hlen (by omega) nm id (A id) rfl
     have H5 : Hid (Bl w1 w5 A (.slice (some ⟨ga, 0, none⟩) (x + 1) gc) (insUpto (n, k) L (j + 1)).1 ∧ (insUpto (n, k) L (j + 1)).1.length = x + 1 ∧ (insUpto (n, k) L (j + 1)).2 = false) := hide (by rw [hst]; exact ⟨hb5, by simp [hlen], rfl⟩)
     rw [← less_before] at hb
     clear hp hO hst hR hlen hb5 hdn
     go_wp2_with (at_builtin; refine wpList_app_run rfl _ _ 76 76 rfl _ _ rfl rfl _ _ hap ?_)
     go_roundw
     case rel => exact ⟨j + 1, x + 1, false, by omega, by omega, by go_num, rfl, H5, _, _, rfl⟩
     case measure => simp [intOf]; omega
  ·have hall := insUpto_all (n, k) L (i := j) (by have := HL.out; omega)
   rw [hdn] at hall
   cases dn with
   | true =>
    have HE : Hid (Bl w wr A (.slice fo x fc) (l.put n k)) := hide (by
     rw [HP.out, hall]
     exact hR.trans HK1.out)
    clear hR hlen hdn hall
    go_wp2
    go_ret
    exact ⟨_, rfl, HE.out⟩
   | false =>
    obtain ⟨ga, gc, w5, hap, hb5⟩ := hR.app hlen (by omega) n k b HB.out
    have HE : Hid (Bl w w5 A (.slice (some ⟨ga, 0, none⟩) (x + 1) gc) (l.put n k)) := hide (by
     rw [HP.out, hall]
     exact hb5.trans HK1.out)
    clear hR hlen hdn hall hb5
    go_wp2_with (at_builtin; refine wpList_app_run rfl _ _ 76 76 rfl _ _ rfl rfl _ _ hap ?_)
    go_ret
    exact ⟨_, rfl, HE.out⟩
end

section
open Go.RowKit Dsk
set_option linter.unusedVariables false
set_option linter.unusedSimpArgs false
set_option maxHeartbeats 1600000 in
set_option maxRecDepth 100000 in
theorem turnMk_ok (vo : Option Addr) (m vc : Nat) (A : Nat → Nat) (l : Nm) (n to : By) (k b : Nat) (hbk : A k = b) (w : World) (hl : l.length = m) (hm : m ≤ 536870912) (h : w.ownsRow 0 139 2 (.slice vo m vc) m (nmsV A l)) :
  Calls Tryz.prog 74 #[.slice vo m vc, .agg #[.int .i64 1, encStr n, encStr to, .pointer (some ⟨b, 0, none⟩)]] w fun e w' => ∃ v, e = .returned v ∧ Bl w w' A v (l.put n k) := by
 have hk : Kept [] w (w.alloc (.cells #[.int .i64 1, encStr n, encStr to, .pointer (some ⟨b, 0, none⟩)] 134)) := (Kept.refl [] w).alloc _
 have hc := with_ok vo m vc A l n k b hbk _ hl hm (own_keeps h (Keep.ofNone (F := fun _ => False) hk) (fun _ _ h => h))
 have HK := hide hk
 clear hk h hbk hl
 go_enter Tryz.func74, Tryz.ntmps74
 go_wp2_with (go_at_call 107; refine hc.mono ?_; rintro e w1 ⟨v1, rfl, hB1⟩; have HB1 := hide hB1; clear hc hB1)
 go_ret
 exact ⟨_, rfl, HB1.out.trans HK.out⟩
set_option maxHeartbeats 1600000 in
set_option maxRecDepth 100000 in
theorem turnTk_ok (vo : Option Addr) (m vc : Nat) (A : Nat → Nat) (l : Nm) (n to : By) (tv : Value) (w : World) (hl : l.length = m) (hm : m ≤ 536870912) (h : w.ownsRow 0 139 2 (.slice vo m vc) m (nmsV A l)) :
  Calls Tryz.prog 74 #[.slice vo m vc, .agg #[.int .i64 3, encStr n, encStr to, .pointer none]] w fun e w' => ∃ v, e = .returned v ∧ Bl w w' A v (l.del n) := by
 have hk : Kept [] w (w.alloc (.cells #[.int .i64 3, encStr n, encStr to, .pointer none] 134)) := (Kept.refl [] w).alloc _
 have hc := without_ok vo m vc A l n _ hl (by omega) (own_keeps h (Keep.ofNone (F := fun _ => False) hk) (fun _ _ h => h))
 have HK := hide hk
 clear hk h hl
 go_enter Tryz.func74, Tryz.ntmps74
 go_wp2_with (go_at_call 108; refine hc.mono ?_; rintro e w1 ⟨v1, rfl, hB1⟩; have HB1 := hide hB1; clear hc hB1)
 go_ret
 exact ⟨_, rfl, HB1.out.trans HK.out⟩
set_option maxHeartbeats 1600000 in
set_option maxRecDepth 100000 in
theorem turnGv_ok (vo : Option Addr) (m vc : Nat) (A : Nat → Nat) (l : Nm) (f t : By) (k : Nat) (w : World) (hl : l.length = m) (hm : m ≤ 536870912) (hu : l.Up) (hg : l.get f = some k) (hne : f ≠ t) (h : w.ownsRow 0 139 2 (.slice vo m vc) m (nmsV A l)) :
  Calls Tryz.prog 74 #[.slice vo m vc, .agg #[.int .i64 2, encStr f, encStr t, .pointer none]] w fun e w' => ∃ v, e = .returned v ∧ Bl w w' A v ((Nc.gv f t).apply l) := by
 rw [turn_gv hu hne hg]
 obtain ⟨i, hi, hp, hfx⟩ := fix_get_some hu hg
 rw [hl] at hi
 obtain ⟨w1, hw1⟩ : ∃ w1, w1 = w.alloc (.cells #[.int .i64 2, encStr f, encStr t, .pointer none] 134) := ⟨_, rfl⟩
 have hk : Kept [] w w1 := by rw [hw1]; exact (Kept.refl [] w).alloc _
 have hb1 : w1.heap[w.heap.size]? = some (.cells #[.int .i64 2, encStr f, encStr t, .pointer none] 134 (0, 0)) := by rw [hw1]; exact (MapKept.heap_alloc w _).1
 have b0 : w1.cell? ⟨w.heap.size, 0, none⟩ = some (.int .i64 2) := by rw [cell_of_row w1 _ 0 _ _ _ hb1]; rfl
 have b1 : w1.cell? ⟨w.heap.size, 1, none⟩ = some (encStr f) := by rw [cell_of_row w1 _ 1 _ _ _ hb1]; rfl
 have b2 : w1.cell? ⟨w.heap.size, 2, none⟩ = some (encStr t) := by rw [cell_of_row w1 _ 2 _ _ _ hb1]; rfl
 have ho1 := own_keeps h (Keep.ofNone (F := fun _ => False) hk) (fun _ _ h => h)
 have hfd := rfind_ok vo m vc A l f w1 hl (by omega) ho1
 rw [hfx] at hfd
 obtain ⟨gv, rfl, hc0, hc1⟩ := nms_cell (by rw [hl]; exact ho1) hp
 have HK := hide hk
 have HWO : Hid (∀ v, Kept [] w1 v → Calls Tryz.prog 108 #[.slice (some ⟨gv, 0, none⟩) m vc, encStr f] v fun e w' => ∃ v', e = .returned v' ∧ Bl v w' A v' (l.del f)) := hide (fun v hv => without_ok _ m vc A l f v hl (by omega) (own_keeps ho1 (Keep.ofNone (F := fun _ => False) hv) (fun _ _ h => h)))
 obtain ⟨bk, hbk⟩ : ∃ bk, A k = bk := ⟨_, rfl⟩
 have hc1' : w1.cell? ⟨gv, i * 2 + 1, none⟩ = some (.pointer (some ⟨bk, 0, none⟩)) := by rw [← hbk]; exact hc1
 clear hc1
 have hc1 := hc1'
 clear hc1'
 have HWI : Hid (∀ (v : World) po pc M, (l.del f).length = M → ∀ {u : World}, Bl u v A (.slice po M pc) (l.del f) → Calls Tryz.prog 107 #[.slice po M pc, encStr t, .pointer (some ⟨bk, 0, none⟩)] v fun e w' => ∃ v', e = .returned v' ∧ Bl v w' A v' ((l.del f).put t k)) := hide (fun v po pc M hM u hB => with_ok po M pc A (l.del f) t k bk hbk v hM (by have := Nm.del_length_le l f; omega) (by have := hB.row; rw [hM] at this; exact this))
 obtain ⟨x, hx⟩ : ∃ x, x = w.heap.size := ⟨_, rfl⟩
 rw [← hx] at b0 b1 b2
 clear hb1 h ho1 hp hc0 hfx hbk hl hu hg hk
 go_enter Tryz.func74, Tryz.ntmps74
 go_upto_region 1 with (fail)
 rw [← hw1, ← hx]
 clear hw1 hx
 go_upto_region 6 with (go_at_call 71; refine hfd.mono ?_; rintro e w' ⟨rfl, hww⟩; obtain rfl := hww.symm; clear hfd)
 refine wp_region_held_drew (S := fun w' => Kept [] w1 w') (by kernel_rfl) ((Kept.refl [] w1).drew) (fun h0 => ?_)
 generalize World.drew w1 = v0 at h0  ⊢
 refine wpAnyH_take (i := 0) (v := .slice (some ⟨gv, 0, none⟩) m vc) rfl (by kernel_rfl) (by kernel_rfl) (by kernel_rfl) (fun _ _ _ h => h) (Or.inl ⟨by rfl, fun w hSw => by go_simp⟩) h0 ?_
 try simp only [z1, z2, z3, z4, z5, z6, z7, z8]
 refine wpAnyH_take (i := 1) (v := .pointer (some ⟨x, 1, none⟩)) rfl (by kernel_rfl) (by kernel_rfl) (by kernel_rfl) (fun _ _ _ h => h) (Or.inl ⟨by rfl, fun w hSw => by go_simp⟩) h0 ?_
 try simp only [z1, z2, z3, z4, z5, z6, z7, z8]
 refine wpAnyH_take (i := 2) (v := encStr f) rfl (by kernel_rfl) (by kernel_rfl) (by kernel_rfl) (fun _ _ _ h => h) (Or.inl ⟨by rfl, fun w hSw => by have c0 := Kept.cellOf hSw b1 (by simp); go_simp⟩) h0 ?_
 try simp only [z1, z2, z3, z4, z5, z6, z7, z8]
 refine wpAnyH_take (i := 4) (v := .pointer (some ⟨x, 2, none⟩)) rfl (by kernel_rfl) (by kernel_rfl) (by kernel_rfl) (fun _ _ _ h => h) (Or.inl ⟨by rfl, fun w hSw => by go_simp⟩) h0 ?_
 try simp only [z1, z2, z3, z4, z5, z6, z7, z8]
 refine wpAnyH_take (i := 5) (v := encStr t) rfl (by kernel_rfl) (by kernel_rfl) (by kernel_rfl) (fun _ _ _ h => h) (Or.inl ⟨by rfl, fun w hSw => by have c0 := Kept.cellOf hSw b2 (by simp); go_simp⟩) h0 ?_
 try simp only [z1, z2, z3, z4, z5, z6, z7, z8]
 refine wpAnyH_take (i := 6) (v := .slice (some ⟨gv, 0, none⟩) m vc) rfl (by kernel_rfl) (by kernel_rfl) (by kernel_rfl) (fun _ _ _ h => h) (Or.inl ⟨by rfl, fun w hSw => by go_simp⟩) h0 ?_
 try simp only [z1, z2, z3, z4, z5, z6, z7, z8]
 refine wpAnyH_take (i := 7) (v := .int .i64 i) rfl (by kernel_rfl) (by kernel_rfl) (by kernel_rfl) (fun _ _ _ h => h) (Or.inl ⟨by rfl, fun w hSw => by go_simp⟩) h0 ?_
 try simp only [z1, z2, z3, z4, z5, z6, z7, z8]
 refine wpAnyH_take (i := 8) (v := .pointer (some ⟨gv, i * 2, none⟩)) rfl (by kernel_rfl) (by kernel_rfl) (by kernel_rfl) (fun _ _ _ h => h) (Or.inl ⟨by rfl, fun w hSw => by go_simp⟩) h0 ?_
 try simp only [z1, z2, z3, z4, z5, z6, z7, z8]
 refine wpAnyH_take (i := 9) (v := .pointer (some ⟨gv, i * 2 + 1, none⟩)) rfl (by kernel_rfl) (by kernel_rfl) (by kernel_rfl) (fun _ _ _ h => h) (Or.inl ⟨by rfl, fun w hSw => by go_simp⟩) h0 ?_
 try simp only [z1, z2, z3, z4, z5, z6, z7, z8]
 refine wpAnyH_take (i := 10) (v := .pointer (some ⟨bk, 0, none⟩)) rfl (by kernel_rfl) (by kernel_rfl) (by kernel_rfl) (fun _ _ _ h => h) (Or.inl ⟨by rfl, fun w hSw => by have c0 := Kept.cellOf hSw hc1 (by simp); go_simp⟩) h0 ?_
 try simp only [z1, z2, z3, z4, z5, z6, z7, z8]
 refine wpAnyH_ready (rs := [3]) (by kernel_rfl) (by simp) (AllReadyH.cons (i := 3) rfl (fun K hK => ?_) AllReadyH.nil)
 rw [if_pos (by rfl)]
 go_simp
 refine (HWO.out _ h0).mono ?_
 rintro e v1 ⟨u1, rfl, hB1⟩
 obtain ⟨po, pc, rfl⟩ := hB1.shape
 have HB1 := hide hB1
 refine hK.out _ _ (h0.trans hB1.keep (by simp)) (fun h1 => ?_)
 clear hK K
 try simp only [z1, z2, z3, z4, z5, z6, z7, z8]
 obtain ⟨M, hM⟩ : ∃ M, (l.del f).length = M := ⟨_, rfl⟩
 have HL := hide hM
 rw [hM] at HB1 ⊢
 have hwi := HWI.out v1 po pc M HL.out HB1.out
 clear hM hB1
 refine wpAnyH_ready (rs := [11]) (by kernel_rfl) (by simp) (AllReadyH.cons (i := 11) rfl (fun K hK => ?_) AllReadyH.nil)
 rw [if_pos (by rfl)]
 go_simp
 refine (hwi).mono ?_
 rintro e v2 ⟨u2, rfl, hB2⟩
 have HB2 := hide hB2
 refine hK.out _ _ (h1.trans hB2.keep (by simp)) (fun h2 => ?_)
 clear hK K
 try simp only [z1, z2, z3, z4, z5, z6, z7, z8]
 refine wpAnyH_take (i := 12) (v := u2) rfl (by kernel_rfl) (by kernel_rfl) (by kernel_rfl) (fun _ _ _ h => h) (Or.inl ⟨by rfl, fun w hSw => by go_simp⟩) h2 ?_
 try simp only [z1, z2, z3, z4, z5, z6, z7, z8]
 refine wpAnyH_done (by kernel_rfl) ?_ _
 go_wp2
 go_ret
 exact ⟨_, rfl, HB2.out.trans (HK.out.trans h1 (by simp))⟩
end

section
open Go.RowKit Dsk
set_option linter.unusedVariables false
set_option linter.unusedSimpArgs false
section
variable {w w1 : World} {q : Nat} {S : Ds} {A : Nat → Nat} {o : Lab} {nv bv tv sv : Value}
theorem ext_le {o : Lab} {w w' : World} {l b : Nat} (hb : b < w.heap.size) (h : o.ext w w' l b ≠ 0) : o b ≠ 0 := by rw [Lab.ext_old hb] at h; exact h
theorem RDx.setNow (h : RDx w q S A o nv bv tv sv) {v : Value} {l : Nm} (hB : Bl w w1 A v l) :
  RDx (w1.setCell ⟨q, 2, none⟩ v) q { S with shown := l } A (o.ext w w1 1) v bv tv sv ∧ Keep (fun b => o b = 1) w (w1.setCell ⟨q, 2, none⟩ v) ∧ w1.cell? ⟨q, 2, none⟩ = some nv ∧ w1.frozen? ⟨q, 2, none⟩ = false := by
 have h1 := h.ext hB.keep 1
 have hk : Keep (· = q) w1 (w1.setCell ⟨q, 2, none⟩ v) := (Keep.refl (· = q) w1).setCell (p := ⟨q, 2, none⟩) (fun _ => rfl) _
 refine ⟨RDx.put (S' := { S with shown := l }) h1 hk ?_ hB.row h1.before h1.turns h1.told h1.th (fun g hg => Lab.ext_new (hB.new g hg) (hB.row.lt g hg).2) h1.lb h1.lt h1.ls h.pl, ?_, h1.cell 2 _ rfl, frozen_of_row _ _ _ _ _ h1.cells⟩
 ·rw [heap_setCell_same _ q 2 _ _ _ h1.cells]; simp
 ·exact (Keep.ofNone hB.keep).trans hk (fun i e _ => by show o i = 1; rw [show i = q from e]; exact h.lq)
theorem RDx.addTurn {to : Option Addr} {n tc : Nat} (h : RDx w q S A o nv bv (.slice to n tc) sv) (hn : S.row.length = n) (hb : n ≤ 536870912) (c : Nc) (ys : List Value) (hys : tuV A c = ys) (h1c : ∀ u ∈ ys, u.oneCell' = true) (hm : ∀ k ∈ c.made, Rg w o (k + 2) (A k) (S.th k)) :
  ∃ g c' w5, (Builtin.append_ #[77, 77] 77 #[.slice to n tc, .slice (some ⟨w.heap.size, 0, none⟩) 1 1]).run Tryz.prog (w.alloc (.cells ys.toArray 134)) = .ok (.slice (some ⟨g, 0, none⟩) (n + 1) c') w5 ∧ w5.cell? ⟨q, 4, none⟩ = some (.slice to n tc) ∧ w5.frozen? ⟨q, 4, none⟩ = false ∧
   RDx (w5.setCell ⟨q, 4, none⟩ (.slice (some ⟨g, 0, none⟩) (n + 1) c')) q { S with row := S.row ++ [c] } A (o.ext w w5 1) nv bv (.slice (some ⟨g, 0, none⟩) (n + 1) c') sv ∧ Keep (fun b => o b = 1) w (w5.setCell ⟨q, 4, none⟩ (.slice (some ⟨g, 0, none⟩) (n + 1) c')) := by
 have hr := h.turns
 rw [hn] at hr
 obtain ⟨g, c', w5, e1, e2, e3, e4, e5⟩ := run_app (P := Tryz.prog) w 77 77 134 Tryz.underlying77 Tryz.infoTurn rfl (by decide) _ n _ hr ys (by rw [← hys]; exact tuV_len A c) h1c (by unfold maxLen; omega) (by omega)
 have hK5 := e3 (fun k => (Value.slice to n tc).ownBlock = some k) (fun _ e => e)
 have nq : ¬ (Value.slice to n tc).ownBlock = some q := own_ne h.turns h.cells (by decide)
 have hc5 := hK5.heapOf h.cells nq
 have old : ∀ b, b < w.heap.size → o.ext w w5 1 b = o b := fun b hb => Lab.ext_old hb
 have hk : Keep (· = q) w5 (w5.setCell ⟨q, 4, none⟩ (.slice (some ⟨g, 0, none⟩) (n + 1) c')) := (Keep.refl (· = q) w5).setCell (p := ⟨q, 4, none⟩) (fun _ => rfl) _
 have hF1 : ∀ b, (Value.slice to n tc).ownBlock = some b → o b = 1 := fun b e => h.lt b e
 have hno := own_keeps h.now hK5 (fun g hg e => own_two h.now h.turns (by decide) g hg e)
 have hbe := own_keeps h.before hK5 (fun g hg e => own_two h.before h.turns (by decide) g hg e)
 have hto := own_keeps h.told hK5 (fun g hg e => own_two h.told h.turns (by decide) g hg e)
 have hlab : ∀ g', (Value.slice (some ⟨g, 0, none⟩) (n + 1) c').ownBlock = some g' → o.ext w w5 1 g' = 1 := fun g' hg' => by
  simp only [Value.ownBlock, Option.some.injEq] at hg'
  subst hg'
  rcases e4 with e | e
  ·rw [old g (hr.lt g e.symm).2]; exact h.lt g e.symm
  ·exact Lab.ext_new e e5
 have hcell : w5.cell? ⟨q, 4, none⟩ = some (.slice to n tc) := by rw [cell_of_row w5 q 4 _ _ _ hc5]; rfl
 have hth : ∀ k, k ∈ ({ S with row := S.row ++ [c] } : Ds).lives → Rg w5 (o.ext w w5 1) (k + 2) (A k) (S.th k) := fun k hk => by
  have hk' : k ∈ S.safe.ids ++ madeN (S.row ++ [c]) := hk
  rw [madeN_snoc, ← List.append_assoc, List.mem_append] at hk'
  refine Rg.ext (F := fun k => (Value.slice to n tc).ownBlock = some k) (by rcases hk' with e | e; exact h.th k e; exact hm k e) hK5 (fun b e e2 => by have := hF1 b e2; omega)
 refine ⟨g, c', w5, e1, hcell, frozen_of_row _ _ _ _ _ hc5, ⟨?_, ?_, ?_, ?_, ?_, ?_, ?_, ?_, ?_, hlab, ?_, ?_, h.pl⟩, ?_⟩
 ·rw [heap_setCell_same _ q 4 _ _ _ hc5]; simp
 ·exact own_keeps hno hk (own_types0 hno hc5 (by decide))
 ·exact own_keeps hbe hk (own_types0 hbe hc5 (by decide))
 ·have e2' : w5.ownsRow 0 134 4 (.slice (some ⟨g, 0, none⟩) (n + 1) c') (S.row ++ [c]).length (tusV A (S.row ++ [c])) := by
   rw [tusV_snoc, hys, List.length_append, hn]; exact e2
  exact own_keeps e2' hk (own_types0 e2' hc5 (by decide))
 ·exact own_keeps hto hk (own_types0 hto hc5 (by decide))
 ·intro k hk'
  exact (hth k hk').keep hk (fun b hb e => by
   have e : b = q := e
   rw [e, old q h.qlt, h.lq] at hb
   omega)
 ·rw [old q h.qlt]; exact h.lq
 ·intro g' hg'; rw [old g' (h.now.lt g' hg').2]; exact h.ln g' hg'
 ·intro g' hg'; rw [old g' (h.before.lt g' hg').2]; exact h.lb g' hg'
 ·intro g' hg'; rw [old g' (h.told.lt g' hg').2]; exact h.ls g' hg'
 ·intro b hb
  have : b < w5.heap.size := by
   unfold Lab.ext at hb
   split at hb
   ·exact Nat.lt_of_lt_of_le (h.lim b hb) hK5.size
   ·split at hb
    ·assumption
    ·exact absurd rfl hb
  exact Nat.lt_of_lt_of_le this hk.size
 ·refine (hK5.mono (G := fun b => o b = 1) (fun i e _ => hF1 i e)).trans hk (fun i e _ => by show o i = 1; rw [show i = q from e]; exact h.lq)
end
end

end Go.Proofs.YtodihkdmneihiaaGreatDoor
