import Derived.Test.YtodihkdmneihiaaGreatDoorRenp
import Derived.Test.YtodihkdmneihiaaGreatDoorHcp
import Derived.Deep.QuietTactic
namespace Go.Proofs.YtodihkdmneihiaaGreatDoor
open Go.RowKit Dsk
set_option linter.unusedVariables false
set_option linter.unusedSimpArgs false
section
variable {w : World} {q : Nat} {S : Ds} {A : Nat → Nat} {o : Lab} {nv bv tv sv : Value}
set_option maxRecDepth 100000 in
theorem used_bound {S : Ds} (h : S.shown.length ≤ 268435456) (hb : ∀ p ∈ S.shown, (S.th p.2).shown.length ≤ 268435456) : S.used ≤ 72057594037927936 := by
 have h1 : ∀ k, k ≤ S.shown.length → usedUp S k ≤ k * 268435456 := by
  intro k hk
  induction k with
  | zero => rw [usedUp_zero]; exact Nat.zero_le _
  | succ k ih =>
   have hlt : k < S.shown.length := by omega
   rw [usedUp_step S (List.getElem?_eq_getElem hlt)]
   have := hb _ (List.getElem_mem hlt)
   have := ih (by omega)
   omega
 have h2 := h1 S.shown.length (Nat.le_refl _)
 rw [usedUp_all S (Nat.le_refl _)] at h2
 omega
set_option maxHeartbeats 3200000 in
set_option maxRecDepth 100000 in
theorem rwriteAt_ok (h : RDx w q S A o nv bv tv sv) (hwf : S.Wf) {N : Nat} (hB : S.Bd N) (n : By) (hn : n.length ≤ 4611686018427387904) (x : Int) (hxw : (Lit.int .i64 x).wf = true) (dO : Option Addr) (m dc : Nat) (d : By) (hN : N + m ≤ 268435456) (hG : Given w o dO m d) (hni : dO = none → m = 0 ∧ dc = 0) :
  Calls Tryz.prog 77 #[.pointer (some ⟨q, 0, none⟩), encStr n, .int .i64 x, .slice dO m dc] w fun e w' => e = .returned (.int .i64 (S.writeAt n x d).1) ∧ RAft w w' q (S.writeAt n x d).2 o := by
 have hth := there_ok h hwf.sup (by have := hB.shown hwf; omega) n hn
 by_cases h0 : (S.find n).1 = 0
 ·obtain ⟨i, hp, hi, hti, hlv, hon, hnx⟩ := find0 hwf h0
  rw [h0, hti] at hth
  have hlq := h.lq
  have HWA := hide (show S.writeAt n x d = if x < 0 ∨ (S.th (S.find n).2).shown.length < x then (54, S) else S.write (S.find n).2 x.toNat d by simp [Ds.writeAt, h0])
  have hwfW := hwf.writeAt n x d
  rw [HWA.out] at hwfW
  have HSL : Hid (∀ p ∈ (Ds.cnt S).shown, p.2 ∈ (Ds.cnt S).lives) := hide (fun p hp => Ds.shown_lives hwf hp)
  have HSM : Hid ((Ds.cnt S).shown.length ≤ 268435456) := hide (by have := hB.shown hwf; show S.shown.length ≤ _; omega)
  have HSN : Hid (∀ p ∈ (Ds.cnt S).shown, ((Ds.cnt S).th p.2).shown.length ≤ 268435456) := hide (fun p hp => by have := hB.len hwf (hwf.slt (n := p.1) (k := p.2) hp); show (S.th p.2).shown.length ≤ _; omega)
  have HUB : Hid (S.used ≤ 72057594037927936) := hide (used_bound (by have := hB.shown hwf; omega) (fun p hp => HSN.out p hp))
  have hlenN := hB.len hwf hnx
  have hrl : (S.th (S.find n).2).row.length ≤ 536870912 := by have := hB.th _ hnx; omega
  generalize (S.find n).2 = k at *
  obtain ⟨z, hz⟩ : ∃ z, (S.th k).shown.length = z := ⟨_, rfl⟩
  have HZ := hide hz
  obtain ⟨mm, hm⟩ : ∃ m, S.shown.length = m := ⟨_, rfl⟩
  obtain ⟨no, nc, hnv⟩ := h.nvs
  rw [hm] at hnv hi
  subst hnv
  have HP := hide hp
  have HLQ := hide hlq
  have HLV : Hid (k ∈ (Ds.cnt S).lives) := hide hlv
  obtain ⟨gn, hgn, _, cpn⟩ := nms_cell (n := mm) (l := S.shown) (A := A) (w := w) (vo := no) (vc := nc) h.now hp
  subst hgn
  have c2 := h.cell 2 _ rfl
  obtain ⟨so0, sc0, ho0, hc0, _, _, _, ch0, _, _⟩ := h.thShape hlv
  rw [hz] at ch0
  have HA := hide (RAft.of ⟨hwf, _, _, _, _, h⟩ (Keep.refl _ w))
  by_cases hbad : x < 0 ∨ (z : Int) < x
  ·have HC : Hid (S.writeAt n x d = (54, S)) := hide (by rw [HWA.out, hz, if_pos hbad])
   clear h hB h0 hlq hti hp hwfW HWA hz hm hlv HUB hG
   rcases hbad with hb1 | hb1
   ·go_enter Tryz.func77, Tryz.ntmps77
    go_wp2_with (go_at_call 76; refine hth.mono ?_; rintro e w' ⟨rfl, hw⟩; obtain rfl := hw.symm; clear hth)
    go_ret
    exact ⟨by rw [HC.out]; rfl, by rw [HC.out]; exact HA.out⟩
   ·have hb0 : ¬ x < 0 := by omega
    go_enter Tryz.func77, Tryz.ntmps77
    go_wp2_with (go_at_call 76; refine hth.mono ?_; rintro e w' ⟨rfl, hw⟩; obtain rfl := hw.symm; clear hth)
    go_ret
    exact ⟨by rw [HC.out]; rfl, by rw [HC.out]; exact HA.out⟩
  ·have hst := rstroke_ok h (by have := hB.strokes; omega) (by have := hB.planned; omega)
   rw [hz, if_neg hbad] at hwfW
   obtain ⟨a, ha⟩ : ∃ a : Nat, (a : Int) = x := ⟨x.toNat, by omega⟩
   have hat : x.toNat = a := by omega
   rw [hat] at hwfW
   have HW1 : Hid (S.writeAt n (a : Int) d = S.write k a d) := hide (by rw [ha, HWA.out, hz, if_neg hbad, hat])
   subst ha
   have haz : a ≤ z := by omega
   have hzl : z + m ≤ 268435456 := by omega
   have hb0 : ¬ (a : Int) < 0 := by omega
   have hb1 : ¬ (z : Int) < (a : Int) := by omega
   have HDL : Hid (d.length = m) := hide hG.len
   have HSD : Hid (Sl w dO d) := hide hG.sl
   have HNI := hide hni
   have HFAR := hide hG.out
   have HCH : Hid (∀ v, Keep (· = q) w v → v.cell? ⟨A k, 1, none⟩ = some (.slice ho0 z hc0)) := hide (fun v hv => hv.cellOf ch0 (fun e => by
    have e : A k = q := e
    obtain ⟨_, _, _, _, ht⟩ := h.th k hlv
    have := ht.lb
    rw [e, h.lq] at this
    omega))
   obtain ⟨U, hU⟩ : ∃ U, S.used = U := ⟨_, rfl⟩
   have HUU := hide hU
   have hUb : U ≤ 72057594037927936 := by rw [← hU]; exact HUB.out
   have hroom : S.room ≤ 1048576 := hwf.room.2
   have hfull : S.full ((a : Int) + d.length - (S.th k).shown.length) = (S.lacks || (decide (0 < (a : Int) + m - z) && decide ((S.room : Int) < U + ((a : Int) + m - z)))) := by unfold Ds.full; rw [HDL.out, hz, hU]
   have hwr : S.write k a d = if (S.lacks || (decide (0 < (a : Int) + m - z) && decide ((S.room : Int) < U + ((a : Int) + m - z)))) = true then (S.ans 55, S.tick) else (S.ans 0, S.tick.addByte k (.wr a d)) := by unfold Ds.write; rw [hfull]
   clear hfull hU HUB hG hni hxw
   cases hlk : S.lacks with
   | true =>
    rw [hlk] at hst
    have HC := hide (show S.writeAt n (a : Int) d = (S.ans 55, S.tick) by rw [HW1.out, hwr, hlk]; rfl)
    clear h hB h0 hlq hti hp HWA hz hm hlv hbad HA hlenN hat hwfW hlk hwr
    go_enter Tryz.func77, Tryz.ntmps77
    go_upto_region 9 with (first
     | (go_at_call 76; refine hth.mono ?_; rintro e w' ⟨rfl, hw⟩; obtain rfl := hw.symm; clear hth)
     | (go_at_call 72; refine hst.mono ?_; rintro e w2 ⟨rfl, hR2, hK2⟩; have HR2 := hide hR2; have HKW0 := hide (hK2.mono (G := o.mine) (fun i e _ => by show o i ≠ 0; rw [show i = q from e, HLQ.out]; decide)); have HK2 := hide hK2; have ch2 := HCH.out w2 hK2; clear hst hR2 hK2 c2 cpn ch0))
    have HS2 : Hid (Sl w2 dO d) := hide (HSD.out.keep HKW0.out (fun hd a ha hm => hm (HFAR.out hd a ha)))
    have c12 : w2.cell? ⟨q, 1, none⟩ = some (.int .i64 S.room) := HR2.out.cell 1 _ rfl
    have HUS : Hid (∀ j, Calls Tryz.prog 109 #[.pointer (some ⟨q, 0, none⟩)] (w2.drewN j) fun e w' => e = .returned (.int .i64 U) ∧ w' = w2.drewN j) := hide (fun j => by
     have := rused_ok (HR2.out.kept ((Kept.refl [] w2).drewN j)) HSL.out HSM.out HSN.out
     rw [show (Ds.cnt S).used = U from HUU.out] at this
     exact this)
    go_quiet (fail)
    have HRq : Hid (RDx (w2.drewN nq) q (Ds.cnt S) A o (.slice (some ⟨gn, 0, none⟩) mm nc) bv tv sv) := hide (HR2.out.kept ((Kept.refl [] w2).drewN nq))
    have HKq : Hid (Keep (· = q) w (w2.drewN nq)) := hide (HK2.out.drewN nq)
    clear HR2 HS2 HUS ch2 c12
    generalize w2.drewN nq = w9 at HRq HKq ⊢
    have hen := fun b x => rend_ok HRq.out b x
    have HFIN : Hid (∀ v a1 a2 a3 a4, RDx v q { (Ds.cnt S) with on := (Ds.cnt S).on && !S.goesOff } A o a1 a2 a3 a4 → Keep (· = q) w9 v → RAft w v q S.tick o) := hide (fun v a1 a2 a3 a4 h1 h2 => tick_fin hwf HLQ.out HKq.out h1 h2)
    go_wp2_with (go_at_call 73; refine (hen _ _).mono ?_; rintro e w8 ⟨rfl, hR8, hK8⟩; have H8 := hide (HFIN.out w8 _ _ _ _ hR8 hK8); clear hR8 hK8 hen)
    go_ret
    exact ⟨by rw [HC.out]; rfl, by rw [HC.out]; exact H8.out⟩
   | false =>
    rw [hlk] at hst
    by_cases hm1 : 0 < (a : Int) + m - z
    ·by_cases hm2 : (S.room : Int) < U + ((a : Int) + m - z)
     ·have HC := hide (show S.writeAt n (a : Int) d = (S.ans 55, S.tick) by rw [HW1.out, hwr, hlk, if_pos (by rw [decide_eq_true hm1, decide_eq_true hm2]; rfl)])
      clear h hB h0 hlq hti hp HWA hz hm hlv hbad HA hlenN hat hwfW hlk hwr
      go_enter Tryz.func77, Tryz.ntmps77
      go_upto_region 9 with (first
       | (go_at_call 76; refine hth.mono ?_; rintro e w' ⟨rfl, hw⟩; obtain rfl := hw.symm; clear hth)
       | (go_at_call 72; refine hst.mono ?_; rintro e w2 ⟨rfl, hR2, hK2⟩; have HR2 := hide hR2; have HKW0 := hide (hK2.mono (G := o.mine) (fun i e _ => by show o i ≠ 0; rw [show i = q from e, HLQ.out]; decide)); have HK2 := hide hK2; have ch2 := HCH.out w2 hK2; clear hst hR2 hK2 c2 cpn ch0))
      have HS2 : Hid (Sl w2 dO d) := hide (HSD.out.keep HKW0.out (fun hd a ha hm => hm (HFAR.out hd a ha)))
      have c12 : w2.cell? ⟨q, 1, none⟩ = some (.int .i64 S.room) := HR2.out.cell 1 _ rfl
      have HUS : Hid (∀ j, Calls Tryz.prog 109 #[.pointer (some ⟨q, 0, none⟩)] (w2.drewN j) fun e w' => e = .returned (.int .i64 U) ∧ w' = w2.drewN j) := hide (fun j => by
       have := rused_ok (HR2.out.kept ((Kept.refl [] w2).drewN j)) HSL.out HSM.out HSN.out
       rw [show (Ds.cnt S).used = U from HUU.out] at this
       exact this)
      obtain ⟨M, hM⟩ : ∃ M : Int, (a : Int) + m - z = M := ⟨_, rfl⟩
      have hMb : M ≤ 268435456 ∧ -268435456 ≤ M := by omega
      rw [hM] at hm1 hm2 ⊢
      clear hM
      have g1 : decide (0 < M) = true := by simpa using hm1
      have g2 : decide ((S.room : Int) < (U : Int) + M) = true := by simpa using hm2
      have s0 : IntKind.i64.wrap ((U : Int) + M) = (U : Int) + M := by rw [IntKind.wrap_i64]; omega
      go_quiet ((go_at_call 109; exact Calls.quiet_of_same (HUS.out _)))
      have HRq : Hid (RDx (w2.drewN nq) q (Ds.cnt S) A o (.slice (some ⟨gn, 0, none⟩) mm nc) bv tv sv) := hide (HR2.out.kept ((Kept.refl [] w2).drewN nq))
      have HKq : Hid (Keep (· = q) w (w2.drewN nq)) := hide (HK2.out.drewN nq)
      clear HR2 HS2 HUS ch2 c12
      generalize w2.drewN nq = w9 at HRq HKq ⊢
      have hen := fun b x => rend_ok HRq.out b x
      have HFIN : Hid (∀ v a1 a2 a3 a4, RDx v q { (Ds.cnt S) with on := (Ds.cnt S).on && !S.goesOff } A o a1 a2 a3 a4 → Keep (· = q) w9 v → RAft w v q S.tick o) := hide (fun v a1 a2 a3 a4 h1 h2 => tick_fin hwf HLQ.out HKq.out h1 h2)
      go_wp2_with (go_at_call 73; refine (hen _ _).mono ?_; rintro e w8 ⟨rfl, hR8, hK8⟩; have H8 := hide (HFIN.out w8 _ _ _ _ hR8 hK8); clear hR8 hK8 hen)
      go_ret
      exact ⟨by rw [HC.out]; rfl, by rw [HC.out]; exact H8.out⟩
     ·have hwe : S.write k a d = (S.ans 0, S.tick.addByte k (.wr a d)) := by rw [hwr, hlk, if_neg (by rw [decide_eq_false hm2]; simp)]
      have hwfE : (S.tick.addByte k (.wr a d)).Wf := by rw [hwe] at hwfW; exact hwfW
      have HC := hide (show S.writeAt n (a : Int) d = (S.ans 0, S.tick.addByte k (.wr a d)) by rw [HW1.out, hwe])
      clear h hB h0 hlq hti hp HWA hz hm hlv hbad HA hlenN hat hwfW hlk hwr hwe
      go_enter Tryz.func77, Tryz.ntmps77
      go_upto_region 9 with (first
       | (go_at_call 76; refine hth.mono ?_; rintro e w' ⟨rfl, hw⟩; obtain rfl := hw.symm; clear hth)
       | (go_at_call 72; refine hst.mono ?_; rintro e w2 ⟨rfl, hR2, hK2⟩; have HR2 := hide hR2; have HKW0 := hide (hK2.mono (G := o.mine) (fun i e _ => by show o i ≠ 0; rw [show i = q from e, HLQ.out]; decide)); have HK2 := hide hK2; have ch2 := HCH.out w2 hK2; clear hst hR2 hK2 c2 cpn ch0))
      have HS2 : Hid (Sl w2 dO d) := hide (HSD.out.keep HKW0.out (fun hd a ha hm => hm (HFAR.out hd a ha)))
      have c12 : w2.cell? ⟨q, 1, none⟩ = some (.int .i64 S.room) := HR2.out.cell 1 _ rfl
      have HUS : Hid (∀ j, Calls Tryz.prog 109 #[.pointer (some ⟨q, 0, none⟩)] (w2.drewN j) fun e w' => e = .returned (.int .i64 U) ∧ w' = w2.drewN j) := hide (fun j => by
       have := rused_ok (HR2.out.kept ((Kept.refl [] w2).drewN j)) HSL.out HSM.out HSN.out
       rw [show (Ds.cnt S).used = U from HUU.out] at this
       exact this)
      obtain ⟨M, hM⟩ : ∃ M : Int, (a : Int) + m - z = M := ⟨_, rfl⟩
      have hMb : M ≤ 268435456 ∧ -268435456 ≤ M := by omega
      rw [hM] at hm1 hm2 ⊢
      clear hM
      have g1 : decide (0 < M) = true := by simpa using hm1
      have g2 : decide ((S.room : Int) < (U : Int) + M) = false := by simpa using hm2
      have s0 : IntKind.i64.wrap ((U : Int) + M) = (U : Int) + M := by rw [IntKind.wrap_i64]; omega
      go_quiet ((go_at_call 109; exact Calls.quiet_of_same (HUS.out _)))
      have HRq : Hid (RDx (w2.drewN nq) q (Ds.cnt S) A o (.slice (some ⟨gn, 0, none⟩) mm nc) bv tv sv) := hide (HR2.out.kept ((Kept.refl [] w2).drewN nq))
      have HKq : Hid (Keep o.mine w (w2.drewN nq)) := hide (HKW0.out.drewN nq)
      have HSq : Hid (Sl (w2.drewN nq) dO d) := hide (HS2.out.drewN nq)
      clear HR2 HS2 HUS ch2 c12
      generalize w2.drewN nq = w9 at HRq HKq HSq ⊢
      have hcp := copied_ok dO m dc d w9 HDL.out HSq.out HNI.out (by omega)
      go_upto_region 12 with (go_at_call 82; refine hcp.mono ?_; rintro e w3 ⟨gd, cd, rfl, hr3, hk3, hg3⟩; have H3 := hide (And.intro hr3 (And.intro hk3 hg3)); clear hcp hr3 hk3 hg3)
      obtain ⟨hr3, hk3, hg3⟩ := H3.out
      obtain ⟨o3, ho3⟩ : ∃ o3, o3 = o.ext w9 w3 (k + 2) := ⟨_, rfl⟩
      have HR3 := hide (HRq.out.ext hk3 (k + 2))
      rw [← ho3] at HR3
      have HKW : Hid (Keep o.mine w w3) := hide (HKq.out.kept hk3)
      have HOO : Hid (∀ b, b < w.heap.size → o3 b ≠ 0 → o b ≠ 0) := hide (fun b hb hn => ext_le (Nat.lt_of_lt_of_le hb HKq.out.size) (by rw [← ho3]; exact hn))
      have hB3 := OwnB.of hr3
      have HD3 : Hid (OwnB w3 (.slice (some ⟨gd, 0, none⟩) m cd) m d ∧ ∀ g, (Value.slice (some ⟨gd, 0, none⟩) m cd).ownBlock = some g → o3 g = k + 2) := hide ⟨hB3, fun g hg => by
       rw [ho3]
       refine Lab.ext_new ?_ (hB3.lt hg)
       simp only [Value.ownBlock] at hg
       injection hg with hg
       rw [← hg]; exact hg3⟩
      clear hr3 hk3 hg3 ho3 hB3 H3 HRq HSq
      obtain ⟨w4, hw4⟩ : ∃ w4, w4 = w3.alloc (.cells #[.bool false, .int .i64 a, .slice (some ⟨gd, 0, none⟩) m cd] 144) := ⟨_, rfl⟩
      have hk4 : Kept [] w3 w4 := by rw [hw4]; exact (Kept.refl [] w3).alloc _
      have hb4 : w4.heap[w3.heap.size]? = some (.cells #[.bool false, .int .i64 a, .slice (some ⟨gd, 0, none⟩) m cd] 144 (0, 0)) := by rw [hw4]; exact (MapKept.heap_alloc w3 _).1
      have oX : o3 w3.heap.size = 0 := Classical.byContradiction fun hn => by have := HR3.out.lim _ hn; omega
      have hXl : w3.heap.size < w4.heap.size := by rw [hw4]; simp
      rw [← hw4]
      clear hw4
      generalize w3.heap.size = X at hb4 oX hXl ⊢
      have x0 : w4.cell? ⟨X, 0, none⟩ = some (.bool false) := by rw [cell_of_row w4 _ 0 _ _ _ hb4]; rfl
      have x1 : w4.cell? ⟨X, 1, none⟩ = some (.int .i64 a) := by rw [cell_of_row w4 _ 1 _ _ _ hb4]; rfl
      have x2 : w4.cell? ⟨X, 2, none⟩ = some (.slice (some ⟨gd, 0, none⟩) m cd) := by rw [cell_of_row w4 _ 2 _ _ _ hb4]; rfl
      have HX4 := hide hb4
      have hR4 := (HR3.out.kept hk4).kept ((Kept.refl [] w4).drew)
      obtain ⟨so, sc, ho, hc, hs1, hs2, cs, ch, hlb, hlt⟩ := hR4.thShape HLV.out
      have hs2' : OwnB w4.drew (.slice ho z hc) z (S.th k).shown := by have := hs2; rw [show ((Ds.cnt S).th k).shown.length = z from HZ.out] at this; exact this
      rw [show ((Ds.cnt S).th k).shown.length = z from HZ.out] at ch
      have hcg := (by have hh := changeWr_ok ho z hc a m (S.th k).shown d (some ⟨gd, 0, none⟩) m cd w4.drew hs2' haz HDL.out (((HD3.out.1.keep (Keep.ofNone (F := fun _ => False) hk4) (fun _ _ h => h)).keep ((Keep.refl (fun _ => False) w4).drew) (fun _ _ h => h)).sl) (Nat.le_refl _) (by omega); rw [show (Ch.wr a d).apply (S.th k).shown m = (Ch.wr a d).apply (S.th k).shown d.length by rw [HDL.out]] at hh; exact hh)
      have HR4 := hide hR4
      have HLB := hide hlb
      have HK4 : Hid (Keep o.mine w w4) := hide (HKW.out.kept hk4)
      clear hb4 hR4 hs1 hs2 hs2' cs
      refine wp_region_late (fun w' => Kept [] w4 w') (fun i => i == 8 || i == 11) (by kernel_rfl) ?_
      have h0 : Kept [] w4 w4.drew := (Kept.refl [] w4).drew
      generalize World.drew w4 = v0 at h0 hcg HR4 ⊢
      refine wpAnyL_free (i := 0) (v := .pointer (some ⟨A k, 0, none⟩)) rfl (by kernel_rfl) (by kernel_rfl) (by kernel_rfl) (fun _ _ _ h => h) (Or.inl ⟨by rfl, fun w _ => by go_simp⟩) ?_
      try simp only [z1, z2, z3, z4, z5, z6, z7, z8]
      refine wpAnyL_free (i := 1) (v := .pointer (some ⟨A k, 0, none⟩)) rfl (by kernel_rfl) (by kernel_rfl) (by kernel_rfl) (fun _ _ _ h => h) (Or.inl ⟨by rfl, fun w _ => by go_simp⟩) ?_
      try simp only [z1, z2, z3, z4, z5, z6, z7, z8]
      refine wpAnyL_free (i := 2) (v := .pointer (some ⟨A k, 0, none⟩)) rfl (by kernel_rfl) (by kernel_rfl) (by kernel_rfl) (fun _ _ _ h => h) (Or.inl ⟨by rfl, fun w _ => by go_simp⟩) ?_
      try simp only [z1, z2, z3, z4, z5, z6, z7, z8]
      refine wpAnyL_free (i := 3) (v := .pointer (some ⟨A k, 1, none⟩)) rfl (by kernel_rfl) (by kernel_rfl) (by kernel_rfl) (fun _ _ _ h => h) (Or.inl ⟨by rfl, fun w _ => by go_simp⟩) ?_
      try simp only [z1, z2, z3, z4, z5, z6, z7, z8]
      refine wpAnyL_take (i := 4) (v := .slice ho z hc) rfl (by kernel_rfl) (by kernel_rfl) (by kernel_rfl) (by kernel_rfl) (by kernel_rfl) (fun _ _ _ h => h) (Or.inl ⟨by rfl, fun w hSw => by have q0 := Kept.cellOf hSw ch (by simp); go_simp⟩) h0 ?_
      try simp only [z1, z2, z3, z4, z5, z6, z7, z8]
      refine wpAnyL_take (i := 5) (v := .agg #[.bool false, .int .i64 a, .slice (some ⟨gd, 0, none⟩) m cd]) rfl (by kernel_rfl) (by kernel_rfl) (by kernel_rfl) (by kernel_rfl) (by kernel_rfl) (fun _ _ _ h => h) (Or.inl ⟨by rfl, fun w hSw => by have q0 := Kept.cellOf hSw x0 (by simp); have q1 := Kept.cellOf hSw x1 (by simp); have q2 := Kept.cellOf hSw x2 (by simp); go_simp⟩) h0 ?_
      try simp only [z1, z2, z3, z4, z5, z6, z7, z8]
      refine wpAnyL_free (i := 6) (v := .slice dO m dc) rfl (by kernel_rfl) (by kernel_rfl) (by kernel_rfl) (fun _ _ _ h => h) (Or.inl ⟨by rfl, fun w _ => by go_simp⟩) ?_
      try simp only [z1, z2, z3, z4, z5, z6, z7, z8]
      refine wpAnyL_free (i := 7) (v := .int .i64 m) rfl (by kernel_rfl) (by kernel_rfl) (by kernel_rfl) (fun _ _ _ h => h) (Or.inl ⟨by rfl, fun w _ => by go_simp⟩) ?_
      try simp only [z1, z2, z3, z4, z5, z6, z7, z8]
      refine wpAnyL_one (i := 8) (by kernel_rfl) rfl (fun K hK => ?_)
      rw [if_pos (by rfl)]
      go_simp
      refine hcg.mono ?_
      rintro e w5 ⟨v5, rfl, hB5⟩
      obtain ⟨vo5, vc5, e5, _⟩ := own_shape hB5.row
      subst e5
      have HB5 := hide hB5
      obtain ⟨_, _, ⟨_, y1⟩, f1⟩ := HR4.out.thShown HLV.out hB5
      clear hcg hB5 x0 x1 x2 ch
      refine hK.out _ _ (fun _ h => by cases h) ?_
      clear hK K
      try simp only [z1, z2, z3, z4, z5, z6, z7, z8]
      refine wpAnyL_free (i := 9) (v := .pointer (some ⟨A k, 0, none⟩)) rfl (by kernel_rfl) (by kernel_rfl) (by kernel_rfl) (fun _ _ _ h => h) (Or.inl ⟨by rfl, fun w _ => by go_simp⟩) ?_
      try simp only [z1, z2, z3, z4, z5, z6, z7, z8]
      refine wpAnyL_free (i := 10) (v := .pointer (some ⟨A k, 1, none⟩)) rfl (by kernel_rfl) (by kernel_rfl) (by kernel_rfl) (fun _ _ _ h => h) (Or.inl ⟨by rfl, fun w _ => by go_simp⟩) ?_
      try simp only [z1, z2, z3, z4, z5, z6, z7, z8]
      refine wpAnyL_one (i := 11) (by kernel_rfl) rfl (fun K hK => ?_)
      rw [if_pos (by rfl)]
      go_simp
      refine hK.out _ _ (fun _ h => by cases h) ?_
      clear hK K
      try simp only [z1, z2, z3, z4, z5, z6, z7, z8]
      refine wpAnyL_done (by kernel_rfl) ?_ _
      go_upto_region 13 with (fail)
      obtain ⟨hR6, hK6, _, _⟩ := HR4.out.thShown HLV.out HB5.out
      clear y1 f1
      have hsz : X < v0.heap.size := Nat.lt_of_lt_of_le hXl h0.size
      have hXA : ¬ X = A k := fun e => by rw [e, HLB.out] at oX; omega
      have b6 := hK6.heapOf ((Keep.ofNone (F := fun _ => False) h0).heapOf HX4.out (fun h => h)) hXA
      have HDV : Hid (ChD (w5.setCell ⟨A k, 1, none⟩ (.slice vo5 ((Ch.wr a d).apply (S.th k).shown d.length).length vc5)) (.wr a d, .slice (some ⟨gd, 0, none⟩) m cd) ∧ (∀ g, (.slice (some ⟨gd, 0, none⟩) m cd : Value).ownBlock = some g → o3.ext v0 w5 (k + 2) g = k + 2)) := hide (by
       have hd1 : OwnB v0 (.slice (some ⟨gd, 0, none⟩) m cd) m d := (HD3.out.1.keep (Keep.ofNone (F := fun _ => False) hk4) (fun _ _ h => h)).keep (Keep.ofNone (F := fun _ => False) h0) (fun _ _ h => h)
       obtain ⟨t1, t2, t3, t4, ht⟩ := HR4.out.th k HLV.out
       refine ⟨?_, fun g hg => ?_⟩
       ·exact (congrArg (fun n => OwnB _ _ n d) HDL.out).mpr (hd1.keep hK6 (fun g hg e => hd1.ne ht.cells (by decide) (by rw [hg, show g = A k from e])))
       ·rw [Lab.ext_old (Nat.lt_of_lt_of_le (Nat.lt_of_lt_of_le (HD3.out.1.lt hg) hk4.size) h0.size)]
        exact HD3.out.2 g hg)
      generalize w5.setCell _ _ = w6 at hR6 hK6 b6 HDV ⊢
      obtain ⟨o5, ho5⟩ : ∃ o5, o5 = o3.ext v0 w5 (k + 2) := ⟨_, rfl⟩
      have HE5 : Hid (∀ b, b < v0.heap.size → o5 b = o3 b) := hide (fun b hb => by rw [ho5]; exact Lab.ext_old hb)
      rw [← ho5] at hR6 HDV
      clear ho5 hk4
      have hR6d := hR6.kept ((Kept.refl [] w6).drew)
      obtain ⟨ro, nr, rc, r4, g7, c7, w7, hap, y2, f2, hR7, hK7⟩ := hR6d.thRow (k := k) HLV.out (by show (upd (Ds.cnt S).th k _ k).row.length ≤ _; rw [upd_same]; exact hrl) (.wr a d) (.slice (some ⟨gd, 0, none⟩) m cd) (HDV.out.1.keep ((Keep.refl (fun _ => False) w6).drew) (fun _ _ h => h)) HDV.out.2 rfl
      dsimp only at hR7
      rw [upd_same, upd_upd] at hR7
      have d0 := cell_of_row w6 _ 0 _ _ _ b6
      have d1 := cell_of_row w6 _ 1 _ _ _ b6
      have d2 := cell_of_row w6 _ 2 _ _ _ b6
      simp only [List.getElem?_toArray, List.getElem?_cons_zero, List.getElem?_cons_succ] at d0 d1 d2
      have hen := fun b x => rend_ok hR7 b x
      have HFIN : Hid (∀ v a1 a2 a3 a4, RDx v q { ({ Ds.cnt S with th := upd (Ds.cnt S).th k ⟨((Ds.cnt S).th k).safe, ((Ds.cnt S).th k).row ++ [.wr a d], ((Ch.wr a d).apply (S.th k).shown d.length)⟩ } : Ds) with on := (Ds.cnt S).on && !S.goesOff } A (o5.ext w6.drew w7 (k + 2)) a1 a2 a3 a4 → Keep (· = q) (w7.setCell ⟨A k, 2, none⟩ (.slice (some ⟨g7, 0, none⟩) (nr + 1) c7)) v → RAft w v q (S.tick.addByte k (.wr a d)) o) := hide (fun v a1 a2 a3 a4 hv hkv => by
       refine ⟨A, o5.ext w6.drew w7 (k + 2), ⟨hwfE, a1, a2, a3, a4, hv⟩, fun b hb hn => ?_, ?_⟩
       ·have hb4 : b < v0.heap.size := Nat.lt_of_lt_of_le (Nat.lt_of_lt_of_le hb HK4.out.size) h0.size
        have hb6 : b < w6.drew.heap.size := Nat.lt_of_lt_of_le hb4 hK6.size
        have h1 := ext_le hb6 hn
        rw [HE5.out b hb4] at h1
        exact HOO.out b hb h1
       ·have k1 := (HK4.out.kept h0).trans hK6 (fun i e hi => by
         show o i ≠ 0
         exact HOO.out i hi (by rw [show i = A k from e, HLB.out]; omega))
        have k2 := k1.drew.trans hK7 (fun i e hi => by
         show o i ≠ 0
         have hi4 : i < v0.heap.size := Nat.lt_of_lt_of_le (Nat.lt_of_lt_of_le hi HK4.out.size) h0.size
         exact HOO.out i hi (by rw [← HE5.out i hi4, show o5 i = k + 2 from e]; omega))
        exact k2.trans hkv (fun i e hi => by show o i ≠ 0; rw [show i = q from e, HLQ.out]; decide))
      clear hR6 hR6d hR7 hK7 b6 HX4 HR4 HB5 HDV
      refine wp_region_late (fun w' => Kept [] w6 w') (fun i => i == 7 || i == 10) (by kernel_rfl) ?_
      have h6 : Kept [] w6 w6.drew := (Kept.refl [] w6).drew
      generalize World.drew w6 = v6 at h6 hap HFIN hen ⊢
      refine wpAnyL_free (i := 0) (v := .pointer (some ⟨A k, 0, none⟩)) rfl (by kernel_rfl) (by kernel_rfl) (by kernel_rfl) (fun _ _ _ h => h) (Or.inl ⟨by rfl, fun w _ => by go_simp⟩) ?_
      try simp only [z1, z2, z3, z4, z5, z6, z7, z8]
      refine wpAnyL_free (i := 1) (v := .pointer (some ⟨A k, 0, none⟩)) rfl (by kernel_rfl) (by kernel_rfl) (by kernel_rfl) (fun _ _ _ h => h) (Or.inl ⟨by rfl, fun w _ => by go_simp⟩) ?_
      try simp only [z1, z2, z3, z4, z5, z6, z7, z8]
      refine wpAnyL_free (i := 2) (v := .pointer (some ⟨A k, 0, none⟩)) rfl (by kernel_rfl) (by kernel_rfl) (by kernel_rfl) (fun _ _ _ h => h) (Or.inl ⟨by rfl, fun w _ => by go_simp⟩) ?_
      try simp only [z1, z2, z3, z4, z5, z6, z7, z8]
      refine wpAnyL_free (i := 3) (v := .pointer (some ⟨A k, 2, none⟩)) rfl (by kernel_rfl) (by kernel_rfl) (by kernel_rfl) (fun _ _ _ h => h) (Or.inl ⟨by rfl, fun w _ => by go_simp⟩) ?_
      try simp only [z1, z2, z3, z4, z5, z6, z7, z8]
      refine wpAnyL_take (i := 4) (v := .slice ro nr rc) rfl (by kernel_rfl) (by kernel_rfl) (by kernel_rfl) (by kernel_rfl) (by kernel_rfl) (fun _ _ _ h => h) (Or.inl ⟨by rfl, fun w hSw => by have q0 := Kept.cellOf hSw r4 (by simp); go_simp⟩) h6 ?_
      try simp only [z1, z2, z3, z4, z5, z6, z7, z8]
      refine wpAnyL_take (i := 5) (v := .agg #[.bool false, .int .i64 a, .slice (some ⟨gd, 0, none⟩) m cd]) rfl (by kernel_rfl) (by kernel_rfl) (by kernel_rfl) (by kernel_rfl) (by kernel_rfl) (fun _ _ _ h => h) (Or.inl ⟨by rfl, fun w hSw => by have q0 := Kept.cellOf hSw d0 (by simp); have q1 := Kept.cellOf hSw d1 (by simp); have q2 := Kept.cellOf hSw d2 (by simp); go_simp⟩) h6 ?_
      try simp only [z1, z2, z3, z4, z5, z6, z7, z8]
      refine wpAnyL_one (i := 6) (by kernel_rfl) rfl (fun K hK => ?_)
      rw [if_pos (by rfl)]
      go_simp
      refine hK.out _ _ (fun _ _ => h6.alloc _) ?_
      clear hK K
      try simp only [z1, z2, z3, z4, z5, z6, z7, z8]
      refine wpAnyL_one (i := 7) (by kernel_rfl) rfl (fun K hK => ?_)
      rw [if_pos (by rfl)]
      refine wp_append_run (.tmp 97) (.tmp 99) 130 130 rfl (.slice ro nr rc) (.slice (some ⟨v6.heap.size, 0, none⟩) 1 1) rfl rfl (.slice (some ⟨g7, 0, none⟩) (nr + 1) c7) w7 hap ?_
      refine hK.out _ _ (fun _ h => by cases h) ?_
      clear hK K
      try simp only [z1, z2, z3, z4, z5, z6, z7, z8]
      refine wpAnyL_free (i := 8) (v := .pointer (some ⟨A k, 0, none⟩)) rfl (by kernel_rfl) (by kernel_rfl) (by kernel_rfl) (fun _ _ _ h => h) (Or.inl ⟨by rfl, fun w _ => by go_simp⟩) ?_
      try simp only [z1, z2, z3, z4, z5, z6, z7, z8]
      refine wpAnyL_free (i := 9) (v := .pointer (some ⟨A k, 2, none⟩)) rfl (by kernel_rfl) (by kernel_rfl) (by kernel_rfl) (fun _ _ _ h => h) (Or.inl ⟨by rfl, fun w _ => by go_simp⟩) ?_
      try simp only [z1, z2, z3, z4, z5, z6, z7, z8]
      refine wpAnyL_one (i := 10) (by kernel_rfl) rfl (fun K hK => ?_)
      rw [if_pos (by rfl)]
      go_simp
      refine hK.out _ _ (fun _ h => by cases h) ?_
      clear hK K
      try simp only [z1, z2, z3, z4, z5, z6, z7, z8]
      refine wpAnyL_done (by kernel_rfl) ?_ _
      go_wp2_with (go_at_call 73; refine (hen _ _).mono ?_; rintro e w8 ⟨rfl, hR8, hK8⟩; have H8 := hide (HFIN.out w8 _ _ _ _ hR8 hK8); clear hR8 hK8 hen)
      go_ret
      exact ⟨by rw [HC.out]; rfl, by rw [HC.out]; exact H8.out⟩
    ·have hwe : S.write k a d = (S.ans 0, S.tick.addByte k (.wr a d)) := by rw [hwr, hlk, if_neg (by rw [decide_eq_false hm1]; simp)]
     have hwfE : (S.tick.addByte k (.wr a d)).Wf := by rw [hwe] at hwfW; exact hwfW
     have HC := hide (show S.writeAt n (a : Int) d = (S.ans 0, S.tick.addByte k (.wr a d)) by rw [HW1.out, hwe])
     clear h hB h0 hlq hti hp HWA hz hm hlv hbad HA hlenN hat hwfW hlk hwr hwe
     go_enter Tryz.func77, Tryz.ntmps77
     go_upto_region 9 with (first
      | (go_at_call 76; refine hth.mono ?_; rintro e w' ⟨rfl, hw⟩; obtain rfl := hw.symm; clear hth)
      | (go_at_call 72; refine hst.mono ?_; rintro e w2 ⟨rfl, hR2, hK2⟩; have HR2 := hide hR2; have HKW0 := hide (hK2.mono (G := o.mine) (fun i e _ => by show o i ≠ 0; rw [show i = q from e, HLQ.out]; decide)); have HK2 := hide hK2; have ch2 := HCH.out w2 hK2; clear hst hR2 hK2 c2 cpn ch0))
     have HS2 : Hid (Sl w2 dO d) := hide (HSD.out.keep HKW0.out (fun hd a ha hm => hm (HFAR.out hd a ha)))
     have c12 : w2.cell? ⟨q, 1, none⟩ = some (.int .i64 S.room) := HR2.out.cell 1 _ rfl
     have HUS : Hid (∀ j, Calls Tryz.prog 109 #[.pointer (some ⟨q, 0, none⟩)] (w2.drewN j) fun e w' => e = .returned (.int .i64 U) ∧ w' = w2.drewN j) := hide (fun j => by
      have := rused_ok (HR2.out.kept ((Kept.refl [] w2).drewN j)) HSL.out HSM.out HSN.out
      rw [show (Ds.cnt S).used = U from HUU.out] at this
      exact this)
     obtain ⟨M, hM⟩ : ∃ M : Int, (a : Int) + m - z = M := ⟨_, rfl⟩
     have hMb : M ≤ 268435456 ∧ -268435456 ≤ M := by omega
     rw [hM] at hm1 ⊢
     clear hM
     have g1 : decide (0 < M) = false := by simpa using hm1
     go_quiet (fail)
     have HRq : Hid (RDx (w2.drewN nq) q (Ds.cnt S) A o (.slice (some ⟨gn, 0, none⟩) mm nc) bv tv sv) := hide (HR2.out.kept ((Kept.refl [] w2).drewN nq))
     have HKq : Hid (Keep o.mine w (w2.drewN nq)) := hide (HKW0.out.drewN nq)
     have HSq : Hid (Sl (w2.drewN nq) dO d) := hide (HS2.out.drewN nq)
     clear HR2 HS2 HUS ch2 c12
     generalize w2.drewN nq = w9 at HRq HKq HSq ⊢
     have hcp := copied_ok dO m dc d w9 HDL.out HSq.out HNI.out (by omega)
     go_upto_region 12 with (go_at_call 82; refine hcp.mono ?_; rintro e w3 ⟨gd, cd, rfl, hr3, hk3, hg3⟩; have H3 := hide (And.intro hr3 (And.intro hk3 hg3)); clear hcp hr3 hk3 hg3)
     obtain ⟨hr3, hk3, hg3⟩ := H3.out
     obtain ⟨o3, ho3⟩ : ∃ o3, o3 = o.ext w9 w3 (k + 2) := ⟨_, rfl⟩
     have HR3 := hide (HRq.out.ext hk3 (k + 2))
     rw [← ho3] at HR3
     have HKW : Hid (Keep o.mine w w3) := hide (HKq.out.kept hk3)
     have HOO : Hid (∀ b, b < w.heap.size → o3 b ≠ 0 → o b ≠ 0) := hide (fun b hb hn => ext_le (Nat.lt_of_lt_of_le hb HKq.out.size) (by rw [← ho3]; exact hn))
     have hB3 := OwnB.of hr3
     have HD3 : Hid (OwnB w3 (.slice (some ⟨gd, 0, none⟩) m cd) m d ∧ ∀ g, (Value.slice (some ⟨gd, 0, none⟩) m cd).ownBlock = some g → o3 g = k + 2) := hide ⟨hB3, fun g hg => by
      rw [ho3]
      refine Lab.ext_new ?_ (hB3.lt hg)
      simp only [Value.ownBlock] at hg
      injection hg with hg
      rw [← hg]; exact hg3⟩
     clear hr3 hk3 hg3 ho3 hB3 H3 HRq HSq
     obtain ⟨w4, hw4⟩ : ∃ w4, w4 = w3.alloc (.cells #[.bool false, .int .i64 a, .slice (some ⟨gd, 0, none⟩) m cd] 144) := ⟨_, rfl⟩
     have hk4 : Kept [] w3 w4 := by rw [hw4]; exact (Kept.refl [] w3).alloc _
     have hb4 : w4.heap[w3.heap.size]? = some (.cells #[.bool false, .int .i64 a, .slice (some ⟨gd, 0, none⟩) m cd] 144 (0, 0)) := by rw [hw4]; exact (MapKept.heap_alloc w3 _).1
     have oX : o3 w3.heap.size = 0 := Classical.byContradiction fun hn => by have := HR3.out.lim _ hn; omega
     have hXl : w3.heap.size < w4.heap.size := by rw [hw4]; simp
     rw [← hw4]
     clear hw4
     generalize w3.heap.size = X at hb4 oX hXl ⊢
     have x0 : w4.cell? ⟨X, 0, none⟩ = some (.bool false) := by rw [cell_of_row w4 _ 0 _ _ _ hb4]; rfl
     have x1 : w4.cell? ⟨X, 1, none⟩ = some (.int .i64 a) := by rw [cell_of_row w4 _ 1 _ _ _ hb4]; rfl
     have x2 : w4.cell? ⟨X, 2, none⟩ = some (.slice (some ⟨gd, 0, none⟩) m cd) := by rw [cell_of_row w4 _ 2 _ _ _ hb4]; rfl
     have HX4 := hide hb4
     have hR4 := (HR3.out.kept hk4).kept ((Kept.refl [] w4).drew)
     obtain ⟨so, sc, ho, hc, hs1, hs2, cs, ch, hlb, hlt⟩ := hR4.thShape HLV.out
     have hs2' : OwnB w4.drew (.slice ho z hc) z (S.th k).shown := by have := hs2; rw [show ((Ds.cnt S).th k).shown.length = z from HZ.out] at this; exact this
     rw [show ((Ds.cnt S).th k).shown.length = z from HZ.out] at ch
     have hcg := (by have hh := changeWr_ok ho z hc a m (S.th k).shown d (some ⟨gd, 0, none⟩) m cd w4.drew hs2' haz HDL.out (((HD3.out.1.keep (Keep.ofNone (F := fun _ => False) hk4) (fun _ _ h => h)).keep ((Keep.refl (fun _ => False) w4).drew) (fun _ _ h => h)).sl) (Nat.le_refl _) (by omega); rw [show (Ch.wr a d).apply (S.th k).shown m = (Ch.wr a d).apply (S.th k).shown d.length by rw [HDL.out]] at hh; exact hh)
     have HR4 := hide hR4
     have HLB := hide hlb
     have HK4 : Hid (Keep o.mine w w4) := hide (HKW.out.kept hk4)
     clear hb4 hR4 hs1 hs2 hs2' cs
     refine wp_region_late (fun w' => Kept [] w4 w') (fun i => i == 8 || i == 11) (by kernel_rfl) ?_
     have h0 : Kept [] w4 w4.drew := (Kept.refl [] w4).drew
     generalize World.drew w4 = v0 at h0 hcg HR4 ⊢
     refine wpAnyL_free (i := 0) (v := .pointer (some ⟨A k, 0, none⟩)) rfl (by kernel_rfl) (by kernel_rfl) (by kernel_rfl) (fun _ _ _ h => h) (Or.inl ⟨by rfl, fun w _ => by go_simp⟩) ?_
     try simp only [z1, z2, z3, z4, z5, z6, z7, z8]
     refine wpAnyL_free (i := 1) (v := .pointer (some ⟨A k, 0, none⟩)) rfl (by kernel_rfl) (by kernel_rfl) (by kernel_rfl) (fun _ _ _ h => h) (Or.inl ⟨by rfl, fun w _ => by go_simp⟩) ?_
     try simp only [z1, z2, z3, z4, z5, z6, z7, z8]
     refine wpAnyL_free (i := 2) (v := .pointer (some ⟨A k, 0, none⟩)) rfl (by kernel_rfl) (by kernel_rfl) (by kernel_rfl) (fun _ _ _ h => h) (Or.inl ⟨by rfl, fun w _ => by go_simp⟩) ?_
     try simp only [z1, z2, z3, z4, z5, z6, z7, z8]
     refine wpAnyL_free (i := 3) (v := .pointer (some ⟨A k, 1, none⟩)) rfl (by kernel_rfl) (by kernel_rfl) (by kernel_rfl) (fun _ _ _ h => h) (Or.inl ⟨by rfl, fun w _ => by go_simp⟩) ?_
     try simp only [z1, z2, z3, z4, z5, z6, z7, z8]
     refine wpAnyL_take (i := 4) (v := .slice ho z hc) rfl (by kernel_rfl) (by kernel_rfl) (by kernel_rfl) (by kernel_rfl) (by kernel_rfl) (fun _ _ _ h => h) (Or.inl ⟨by rfl, fun w hSw => by have q0 := Kept.cellOf hSw ch (by simp); go_simp⟩) h0 ?_
     try simp only [z1, z2, z3, z4, z5, z6, z7, z8]
     refine wpAnyL_take (i := 5) (v := .agg #[.bool false, .int .i64 a, .slice (some ⟨gd, 0, none⟩) m cd]) rfl (by kernel_rfl) (by kernel_rfl) (by kernel_rfl) (by kernel_rfl) (by kernel_rfl) (fun _ _ _ h => h) (Or.inl ⟨by rfl, fun w hSw => by have q0 := Kept.cellOf hSw x0 (by simp); have q1 := Kept.cellOf hSw x1 (by simp); have q2 := Kept.cellOf hSw x2 (by simp); go_simp⟩) h0 ?_
     try simp only [z1, z2, z3, z4, z5, z6, z7, z8]
     refine wpAnyL_free (i := 6) (v := .slice dO m dc) rfl (by kernel_rfl) (by kernel_rfl) (by kernel_rfl) (fun _ _ _ h => h) (Or.inl ⟨by rfl, fun w _ => by go_simp⟩) ?_
     try simp only [z1, z2, z3, z4, z5, z6, z7, z8]
     refine wpAnyL_free (i := 7) (v := .int .i64 m) rfl (by kernel_rfl) (by kernel_rfl) (by kernel_rfl) (fun _ _ _ h => h) (Or.inl ⟨by rfl, fun w _ => by go_simp⟩) ?_
     try simp only [z1, z2, z3, z4, z5, z6, z7, z8]
     refine wpAnyL_one (i := 8) (by kernel_rfl) rfl (fun K hK => ?_)
     rw [if_pos (by rfl)]
     go_simp
     refine hcg.mono ?_
     rintro e w5 ⟨v5, rfl, hB5⟩
     obtain ⟨vo5, vc5, e5, _⟩ := own_shape hB5.row
     subst e5
     have HB5 := hide hB5
     obtain ⟨_, _, ⟨_, y1⟩, f1⟩ := HR4.out.thShown HLV.out hB5
     clear hcg hB5 x0 x1 x2 ch
     refine hK.out _ _ (fun _ h => by cases h) ?_
     clear hK K
     try simp only [z1, z2, z3, z4, z5, z6, z7, z8]
     refine wpAnyL_free (i := 9) (v := .pointer (some ⟨A k, 0, none⟩)) rfl (by kernel_rfl) (by kernel_rfl) (by kernel_rfl) (fun _ _ _ h => h) (Or.inl ⟨by rfl, fun w _ => by go_simp⟩) ?_
     try simp only [z1, z2, z3, z4, z5, z6, z7, z8]
     refine wpAnyL_free (i := 10) (v := .pointer (some ⟨A k, 1, none⟩)) rfl (by kernel_rfl) (by kernel_rfl) (by kernel_rfl) (fun _ _ _ h => h) (Or.inl ⟨by rfl, fun w _ => by go_simp⟩) ?_
     try simp only [z1, z2, z3, z4, z5, z6, z7, z8]
     refine wpAnyL_one (i := 11) (by kernel_rfl) rfl (fun K hK => ?_)
     rw [if_pos (by rfl)]
     go_simp
     refine hK.out _ _ (fun _ h => by cases h) ?_
     clear hK K
     try simp only [z1, z2, z3, z4, z5, z6, z7, z8]
     refine wpAnyL_done (by kernel_rfl) ?_ _
     go_upto_region 13 with (fail)
     obtain ⟨hR6, hK6, _, _⟩ := HR4.out.thShown HLV.out HB5.out
     clear y1 f1
     have hsz : X < v0.heap.size := Nat.lt_of_lt_of_le hXl h0.size
     have hXA : ¬ X = A k := fun e => by rw [e, HLB.out] at oX; omega
     have b6 := hK6.heapOf ((Keep.ofNone (F := fun _ => False) h0).heapOf HX4.out (fun h => h)) hXA
     have HDV : Hid (ChD (w5.setCell ⟨A k, 1, none⟩ (.slice vo5 ((Ch.wr a d).apply (S.th k).shown d.length).length vc5)) (.wr a d, .slice (some ⟨gd, 0, none⟩) m cd) ∧ (∀ g, (.slice (some ⟨gd, 0, none⟩) m cd : Value).ownBlock = some g → o3.ext v0 w5 (k + 2) g = k + 2)) := hide (by
      have hd1 : OwnB v0 (.slice (some ⟨gd, 0, none⟩) m cd) m d := (HD3.out.1.keep (Keep.ofNone (F := fun _ => False) hk4) (fun _ _ h => h)).keep (Keep.ofNone (F := fun _ => False) h0) (fun _ _ h => h)
      obtain ⟨t1, t2, t3, t4, ht⟩ := HR4.out.th k HLV.out
      refine ⟨?_, fun g hg => ?_⟩
      ·exact (congrArg (fun n => OwnB _ _ n d) HDL.out).mpr (hd1.keep hK6 (fun g hg e => hd1.ne ht.cells (by decide) (by rw [hg, show g = A k from e])))
      ·rw [Lab.ext_old (Nat.lt_of_lt_of_le (Nat.lt_of_lt_of_le (HD3.out.1.lt hg) hk4.size) h0.size)]
       exact HD3.out.2 g hg)
     generalize w5.setCell _ _ = w6 at hR6 hK6 b6 HDV ⊢
     obtain ⟨o5, ho5⟩ : ∃ o5, o5 = o3.ext v0 w5 (k + 2) := ⟨_, rfl⟩
     have HE5 : Hid (∀ b, b < v0.heap.size → o5 b = o3 b) := hide (fun b hb => by rw [ho5]; exact Lab.ext_old hb)
     rw [← ho5] at hR6 HDV
     clear ho5 hk4
     have hR6d := hR6.kept ((Kept.refl [] w6).drew)
     obtain ⟨ro, nr, rc, r4, g7, c7, w7, hap, y2, f2, hR7, hK7⟩ := hR6d.thRow (k := k) HLV.out (by show (upd (Ds.cnt S).th k _ k).row.length ≤ _; rw [upd_same]; exact hrl) (.wr a d) (.slice (some ⟨gd, 0, none⟩) m cd) (HDV.out.1.keep ((Keep.refl (fun _ => False) w6).drew) (fun _ _ h => h)) HDV.out.2 rfl
     dsimp only at hR7
     rw [upd_same, upd_upd] at hR7
     have d0 := cell_of_row w6 _ 0 _ _ _ b6
     have d1 := cell_of_row w6 _ 1 _ _ _ b6
     have d2 := cell_of_row w6 _ 2 _ _ _ b6
     simp only [List.getElem?_toArray, List.getElem?_cons_zero, List.getElem?_cons_succ] at d0 d1 d2
     have hen := fun b x => rend_ok hR7 b x
     have HFIN : Hid (∀ v a1 a2 a3 a4, RDx v q { ({ Ds.cnt S with th := upd (Ds.cnt S).th k ⟨((Ds.cnt S).th k).safe, ((Ds.cnt S).th k).row ++ [.wr a d], ((Ch.wr a d).apply (S.th k).shown d.length)⟩ } : Ds) with on := (Ds.cnt S).on && !S.goesOff } A (o5.ext w6.drew w7 (k + 2)) a1 a2 a3 a4 → Keep (· = q) (w7.setCell ⟨A k, 2, none⟩ (.slice (some ⟨g7, 0, none⟩) (nr + 1) c7)) v → RAft w v q (S.tick.addByte k (.wr a d)) o) := hide (fun v a1 a2 a3 a4 hv hkv => by
      refine ⟨A, o5.ext w6.drew w7 (k + 2), ⟨hwfE, a1, a2, a3, a4, hv⟩, fun b hb hn => ?_, ?_⟩
      ·have hb4 : b < v0.heap.size := Nat.lt_of_lt_of_le (Nat.lt_of_lt_of_le hb HK4.out.size) h0.size
       have hb6 : b < w6.drew.heap.size := Nat.lt_of_lt_of_le hb4 hK6.size
       have h1 := ext_le hb6 hn
       rw [HE5.out b hb4] at h1
       exact HOO.out b hb h1
      ·have k1 := (HK4.out.kept h0).trans hK6 (fun i e hi => by
        show o i ≠ 0
        exact HOO.out i hi (by rw [show i = A k from e, HLB.out]; omega))
       have k2 := k1.drew.trans hK7 (fun i e hi => by
        show o i ≠ 0
        have hi4 : i < v0.heap.size := Nat.lt_of_lt_of_le (Nat.lt_of_lt_of_le hi HK4.out.size) h0.size
        exact HOO.out i hi (by rw [← HE5.out i hi4, show o5 i = k + 2 from e]; omega))
       exact k2.trans hkv (fun i e hi => by show o i ≠ 0; rw [show i = q from e, HLQ.out]; decide))
     clear hR6 hR6d hR7 hK7 b6 HX4 HR4 HB5 HDV
     refine wp_region_late (fun w' => Kept [] w6 w') (fun i => i == 7 || i == 10) (by kernel_rfl) ?_
     have h6 : Kept [] w6 w6.drew := (Kept.refl [] w6).drew
     generalize World.drew w6 = v6 at h6 hap HFIN hen ⊢
     refine wpAnyL_free (i := 0) (v := .pointer (some ⟨A k, 0, none⟩)) rfl (by kernel_rfl) (by kernel_rfl) (by kernel_rfl) (fun _ _ _ h => h) (Or.inl ⟨by rfl, fun w _ => by go_simp⟩) ?_
     try simp only [z1, z2, z3, z4, z5, z6, z7, z8]
     refine wpAnyL_free (i := 1) (v := .pointer (some ⟨A k, 0, none⟩)) rfl (by kernel_rfl) (by kernel_rfl) (by kernel_rfl) (fun _ _ _ h => h) (Or.inl ⟨by rfl, fun w _ => by go_simp⟩) ?_
     try simp only [z1, z2, z3, z4, z5, z6, z7, z8]
     refine wpAnyL_free (i := 2) (v := .pointer (some ⟨A k, 0, none⟩)) rfl (by kernel_rfl) (by kernel_rfl) (by kernel_rfl) (fun _ _ _ h => h) (Or.inl ⟨by rfl, fun w _ => by go_simp⟩) ?_
     try simp only [z1, z2, z3, z4, z5, z6, z7, z8]
     refine wpAnyL_free (i := 3) (v := .pointer (some ⟨A k, 2, none⟩)) rfl (by kernel_rfl) (by kernel_rfl) (by kernel_rfl) (fun _ _ _ h => h) (Or.inl ⟨by rfl, fun w _ => by go_simp⟩) ?_
     try simp only [z1, z2, z3, z4, z5, z6, z7, z8]
     refine wpAnyL_take (i := 4) (v := .slice ro nr rc) rfl (by kernel_rfl) (by kernel_rfl) (by kernel_rfl) (by kernel_rfl) (by kernel_rfl) (fun _ _ _ h => h) (Or.inl ⟨by rfl, fun w hSw => by have q0 := Kept.cellOf hSw r4 (by simp); go_simp⟩) h6 ?_
     try simp only [z1, z2, z3, z4, z5, z6, z7, z8]
     refine wpAnyL_take (i := 5) (v := .agg #[.bool false, .int .i64 a, .slice (some ⟨gd, 0, none⟩) m cd]) rfl (by kernel_rfl) (by kernel_rfl) (by kernel_rfl) (by kernel_rfl) (by kernel_rfl) (fun _ _ _ h => h) (Or.inl ⟨by rfl, fun w hSw => by have q0 := Kept.cellOf hSw d0 (by simp); have q1 := Kept.cellOf hSw d1 (by simp); have q2 := Kept.cellOf hSw d2 (by simp); go_simp⟩) h6 ?_
     try simp only [z1, z2, z3, z4, z5, z6, z7, z8]
     refine wpAnyL_one (i := 6) (by kernel_rfl) rfl (fun K hK => ?_)
     rw [if_pos (by rfl)]
     go_simp
     refine hK.out _ _ (fun _ _ => h6.alloc _) ?_
     clear hK K
     try simp only [z1, z2, z3, z4, z5, z6, z7, z8]
     refine wpAnyL_one (i := 7) (by kernel_rfl) rfl (fun K hK => ?_)
     rw [if_pos (by rfl)]
     refine wp_append_run (.tmp 97) (.tmp 99) 130 130 rfl (.slice ro nr rc) (.slice (some ⟨v6.heap.size, 0, none⟩) 1 1) rfl rfl (.slice (some ⟨g7, 0, none⟩) (nr + 1) c7) w7 hap ?_
     refine hK.out _ _ (fun _ h => by cases h) ?_
     clear hK K
     try simp only [z1, z2, z3, z4, z5, z6, z7, z8]
     refine wpAnyL_free (i := 8) (v := .pointer (some ⟨A k, 0, none⟩)) rfl (by kernel_rfl) (by kernel_rfl) (by kernel_rfl) (fun _ _ _ h => h) (Or.inl ⟨by rfl, fun w _ => by go_simp⟩) ?_
     try simp only [z1, z2, z3, z4, z5, z6, z7, z8]
     refine wpAnyL_free (i := 9) (v := .pointer (some ⟨A k, 2, none⟩)) rfl (by kernel_rfl) (by kernel_rfl) (by kernel_rfl) (fun _ _ _ h => h) (Or.inl ⟨by rfl, fun w _ => by go_simp⟩) ?_
     try simp only [z1, z2, z3, z4, z5, z6, z7, z8]
     refine wpAnyL_one (i := 10) (by kernel_rfl) rfl (fun K hK => ?_)
     rw [if_pos (by rfl)]
     go_simp
     refine hK.out _ _ (fun _ h => by cases h) ?_
     clear hK K
     try simp only [z1, z2, z3, z4, z5, z6, z7, z8]
     refine wpAnyL_done (by kernel_rfl) ?_ _
     go_wp2_with (go_at_call 73; refine (hen _ _).mono ?_; rintro e w8 ⟨rfl, hR8, hK8⟩; have H8 := hide (HFIN.out w8 _ _ _ _ hR8 hK8); clear hR8 hK8 hen)
     go_ret
     exact ⟨by rw [HC.out]; rfl, by rw [HC.out]; exact H8.out⟩
 ·have HC : Hid (S.writeAt n x d = ((S.find n).1, S)) := hide (by simp [Ds.writeAt, h0])
  have HA := hide (RAft.of ⟨hwf, _, _, _, _, h⟩ (Keep.refl _ w))
  generalize (S.find n).1 = E at hth h0 HC
  generalize thereI S n = I at hth
  have e0 : (E == 0) = false := by simpa using h0
  have e1 : (E != 0) = true := by simpa using h0
  clear h hB h0
  go_enter Tryz.func77, Tryz.ntmps77
  go_wp2_with (go_at_call 76; refine hth.mono ?_; rintro e w' ⟨rfl, hw⟩; obtain rfl := hw.symm; clear hth)
  go_ret
  exact ⟨by rw [HC.out]; rfl, by rw [HC.out]; exact HA.out⟩
end
end Go.Proofs.YtodihkdmneihiaaGreatDoor
