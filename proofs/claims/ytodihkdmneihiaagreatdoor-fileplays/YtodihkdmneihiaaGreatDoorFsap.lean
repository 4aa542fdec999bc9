import Derived.Test.YtodihkdmneihiaaGreatDoorRelp
import Derived.Test.YtodihkdmneihiaaGreatDoorRel3p
import Derived.Test.YtodihkdmneihiaaGreatDoorRenp
import Derived.Test.YtodihkdmneihiaaGreatDoorRepp
import Derived.Test.YtodihkdmneihiaaGreatDoorReqp
import Derived.Test.YtodihkdmneihiaaGreatDoorIep
import Derived.Test.YtodihkdmneihiaaGreatDoorRet2p
import Derived.Test.YtodihkdmneihiaaGreatDoorFqbp
namespace Go.Proofs.YtodihkdmneihiaaGreatDoor
open Go.RowKit Dsk
set_option linter.unusedVariables false
set_option linter.unusedSimpArgs false
section
variable {w : World} {q : Nat} {S : Ds} {A : Nat → Nat} {o : Lab} {nv bv tv sv : Value}
set_option maxHeartbeats 3200000 in
set_option maxRecDepth 100000 in
theorem rwriteBig_ok (h : RDx w q S A o nv bv tv sv) (hwf : S.Wf) {N : Nat} (hB : S.Bd N) (n : By) (hn : n.length ≤ 4611686018427387904) (x : Int) (hxx : x = ((S.th (S.find n).2).shown.length : Int)) (hxw : (Lit.int .i64 x).wf = true) (dO : Option Addr) (m dc : Nat) (d : By) (hN : N ≤ 268435456) (hm9 : 1048576 < m) (hm8 : m ≤ 4611686018427387900) (hG : Given w o dO m d) (hni : dO = none → m = 0 ∧ dc = 0) :
  Calls Tryz.prog 77 #[.pointer (some ⟨q, 0, none⟩), encStr n, .int .i64 x, .slice dO m dc] w fun e w' => e = .returned (.int .i64 (S.writeAt n x d).1) ∧ RAft w w' q (S.writeAt n x d).2 o := by
 have hth := there_ok h hwf.sup (by have := hB.shown hwf; omega) n hn
 by_cases h0 : (S.find n).1 = 0
 ·obtain ⟨i, hp, hi, hti, hlv, hon, hnx⟩ := find0 hwf h0
  rw [h0, hti] at hth
  have hlq := h.lq
  have HWA := hide (show S.writeAt n x d = if x < 0 ∨ (S.th (S.find n).2).shown.length < x then (54, S) else S.write (S.find n).2 x.toNat d by simp [Ds.writeAt, h0])
  have hwfW := hwf.writeAt n x d
  rw [HWA.out] at hwfW
  have HSL : Hid (∀ p ∈ (Ds.cnt S).shown, p.2 ∈ (Ds.cnt S).lives) := hide (fun p hp => Ds.shown_lives hwf hp)
  have HSM : Hid ((Ds.cnt S).shown.length ≤ 268435456) := hide (by have := hB.shown hwf; show S.shown.length ≤ _; omega)
  have HSN : Hid (∀ p ∈ (Ds.cnt S).shown, ((Ds.cnt S).th p.2).shown.length ≤ 268435456) := hide (fun p hp => by have := hB.len hwf (hwf.slt (n := p.1) (k := p.2) hp); show (S.th p.2).shown.length ≤ _; omega)
  have HUB : Hid (S.used ≤ 72057594037927936) := hide (used_bound (by have := hB.shown hwf; omega) (fun p hp => HSN.out p hp))
  have hlenN := hB.len hwf hnx
  have hrl : (S.th (S.find n).2).row.length ≤ 536870912 := by have := hB.th _ hnx; omega
  generalize (S.find n).2 = k at *
  obtain ⟨z, hz⟩ : ∃ z, (S.th k).shown.length = z := ⟨_, rfl⟩
  have HZ := hide hz
  have hxz : x = (z : Int) := by rw [hxx, hz]
  clear hxx
  obtain ⟨mm, hm⟩ : ∃ m, S.shown.length = m := ⟨_, rfl⟩
  obtain ⟨no, nc, hnv⟩ := h.nvs
  rw [hm] at hnv hi
  subst hnv
  have HP := hide hp
  have HLQ := hide hlq
  have HLV : Hid (k ∈ (Ds.cnt S).lives) := hide hlv
  obtain ⟨gn, hgn, _, cpn⟩ := nms_cell (n := mm) (l := S.shown) (A := A) (w := w) (vo := no) (vc := nc) h.now hp
  subst hgn
  have c2 := h.cell 2 _ rfl
  obtain ⟨so0, sc0, ho0, hc0, _, _, _, ch0, _, _⟩ := h.thShape hlv
  rw [hz] at ch0
  have HA := hide (RAft.of ⟨hwf, _, _, _, _, h⟩ (Keep.refl _ w))
  by_cases hbad : x < 0 ∨ (z : Int) < x
  ·exact absurd hbad (by omega)
  ·have hst := rstroke_ok h (by have := hB.strokes; omega) (by have := hB.planned; omega)
   rw [hz, if_neg hbad] at hwfW
   obtain ⟨a, ha⟩ : ∃ a : Nat, (a : Int) = x := ⟨x.toNat, by omega⟩
   have hat : x.toNat = a := by omega
   rw [hat] at hwfW
   have HW1 : Hid (S.writeAt n (a : Int) d = S.write k a d) := hide (by rw [ha, HWA.out, hz, if_neg hbad, hat])
   subst ha
   have haz : a ≤ z := by omega
   have hzl : z + m ≤ 4611686018695823356 := by omega
   have HAZ : Hid (a = z) := hide (by omega)
   clear hxz
   have hb0 : ¬ (a : Int) < 0 := by omega
   have hb1 : ¬ (z : Int) < (a : Int) := by omega
   have HDL : Hid (d.length = m) := hide hG.len
   have HSD : Hid (Sl w dO d) := hide hG.sl
   have HNI := hide hni
   have HFAR := hide hG.out
   have HCH : Hid (∀ v, Keep (· = q) w v → v.cell? ⟨A k, 1, none⟩ = some (.slice ho0 z hc0)) := hide (fun v hv => hv.cellOf ch0 (fun e => by
    have e : A k = q := e
    obtain ⟨_, _, _, _, ht⟩ := h.th k hlv
    have := ht.lb
    rw [e, h.lq] at this
    omega))
   obtain ⟨U, hU⟩ : ∃ U, S.used = U := ⟨_, rfl⟩
   have HUU := hide hU
   have hUb : U ≤ 72057594037927936 := by rw [← hU]; exact HUB.out
   have hroom : S.room ≤ 1048576 := hwf.room.2
   have hfull : S.full ((a : Int) + d.length - (S.th k).shown.length) = (S.lacks || (decide (0 < (a : Int) + m - z) && decide ((S.room : Int) < U + ((a : Int) + m - z)))) := by unfold Ds.full; rw [HDL.out, hz, hU]
   have hwr : S.write k a d = if (S.lacks || (decide (0 < (a : Int) + m - z) && decide ((S.room : Int) < U + ((a : Int) + m - z)))) = true then (S.ans 55, S.tick) else (S.ans 0, S.tick.addByte k (.wr a d)) := by unfold Ds.write; rw [hfull]
   clear hfull hU HUB hG hni hxw
   cases hlk : S.lacks with
   | true =>
    rw [hlk] at hst
    have HC := hide (show S.writeAt n (a : Int) d = (S.ans 55, S.tick) by rw [HW1.out, hwr, hlk]; rfl)
    clear h hB h0 hlq hti hp HWA hz hm hlv hbad HA hlenN hat hwfW hlk hwr
    go_enter Tryz.func77, Tryz.ntmps77
    go_upto_region 9 with (first
     | (go_at_call 76; refine hth.mono ?_; rintro e w' ⟨rfl, hw⟩; obtain rfl := hw.symm; clear hth)
     | (go_at_call 72; refine hst.mono ?_; rintro e w2 ⟨rfl, hR2, hK2⟩; have HR2 := hide hR2; have HKW0 := hide (hK2.mono (G := o.mine) (fun i e _ => by show o i ≠ 0; rw [show i = q from e, HLQ.out]; decide)); have HK2 := hide hK2; have ch2 := HCH.out w2 hK2; clear hst hR2 hK2 c2 cpn ch0))
    have HS2 : Hid (Sl w2 dO d) := hide (HSD.out.keep HKW0.out (fun hd a ha hm => hm (HFAR.out hd a ha)))
    have c12 : w2.cell? ⟨q, 1, none⟩ = some (.int .i64 S.room) := HR2.out.cell 1 _ rfl
    have HUS : Hid (∀ j, Calls Tryz.prog 109 #[.pointer (some ⟨q, 0, none⟩)] (w2.drewN j) fun e w' => e = .returned (.int .i64 U) ∧ w' = w2.drewN j) := hide (fun j => by
     have := rused_ok (HR2.out.kept ((Kept.refl [] w2).drewN j)) HSL.out HSM.out HSN.out
     rw [show (Ds.cnt S).used = U from HUU.out] at this
     exact this)
    go_quiet (fail)
    have HRq : Hid (RDx (w2.drewN nq) q (Ds.cnt S) A o (.slice (some ⟨gn, 0, none⟩) mm nc) bv tv sv) := hide (HR2.out.kept ((Kept.refl [] w2).drewN nq))
    have HKq : Hid (Keep (· = q) w (w2.drewN nq)) := hide (HK2.out.drewN nq)
    clear HR2 HS2 HUS ch2 c12
    generalize w2.drewN nq = w9 at HRq HKq ⊢
    have hen := fun b x => rend_ok HRq.out b x
    have HFIN : Hid (∀ v a1 a2 a3 a4, RDx v q { (Ds.cnt S) with on := (Ds.cnt S).on && !S.goesOff } A o a1 a2 a3 a4 → Keep (· = q) w9 v → RAft w v q S.tick o) := hide (fun v a1 a2 a3 a4 h1 h2 => tick_fin hwf HLQ.out HKq.out h1 h2)
    go_wp2_with (go_at_call 73; refine (hen _ _).mono ?_; rintro e w8 ⟨rfl, hR8, hK8⟩; have H8 := hide (HFIN.out w8 _ _ _ _ hR8 hK8); clear hR8 hK8 hen)
    go_ret
    exact ⟨by rw [HC.out]; rfl, by rw [HC.out]; exact H8.out⟩
   | false =>
    rw [hlk] at hst
    by_cases hm1 : 0 < (a : Int) + m - z
    ·by_cases hm2 : (S.room : Int) < U + ((a : Int) + m - z)
     ·have HC := hide (show S.writeAt n (a : Int) d = (S.ans 55, S.tick) by rw [HW1.out, hwr, hlk, if_pos (by rw [decide_eq_true hm1, decide_eq_true hm2]; rfl)])
      clear h hB h0 hlq hti hp HWA hz hm hlv hbad HA hlenN hat hwfW hlk hwr
      go_enter Tryz.func77, Tryz.ntmps77
      go_upto_region 9 with (first
       | (go_at_call 76; refine hth.mono ?_; rintro e w' ⟨rfl, hw⟩; obtain rfl := hw.symm; clear hth)
       | (go_at_call 72; refine hst.mono ?_; rintro e w2 ⟨rfl, hR2, hK2⟩; have HR2 := hide hR2; have HKW0 := hide (hK2.mono (G := o.mine) (fun i e _ => by show o i ≠ 0; rw [show i = q from e, HLQ.out]; decide)); have HK2 := hide hK2; have ch2 := HCH.out w2 hK2; clear hst hR2 hK2 c2 cpn ch0))
      have HS2 : Hid (Sl w2 dO d) := hide (HSD.out.keep HKW0.out (fun hd a ha hm => hm (HFAR.out hd a ha)))
      have c12 : w2.cell? ⟨q, 1, none⟩ = some (.int .i64 S.room) := HR2.out.cell 1 _ rfl
      have HUS : Hid (∀ j, Calls Tryz.prog 109 #[.pointer (some ⟨q, 0, none⟩)] (w2.drewN j) fun e w' => e = .returned (.int .i64 U) ∧ w' = w2.drewN j) := hide (fun j => by
       have := rused_ok (HR2.out.kept ((Kept.refl [] w2).drewN j)) HSL.out HSM.out HSN.out
       rw [show (Ds.cnt S).used = U from HUU.out] at this
       exact this)
      obtain ⟨M, hM⟩ : ∃ M : Int, (a : Int) + m - z = M := ⟨_, rfl⟩
      have hMb : M ≤ 4611686018427387900 ∧ -268435456 ≤ M := by omega
      rw [hM] at hm1 hm2 ⊢
      clear hM
      have g1 : decide (0 < M) = true := by simpa using hm1
      have g2 : decide ((S.room : Int) < (U : Int) + M) = true := by simpa using hm2
      have s0 : IntKind.i64.wrap ((U : Int) + M) = (U : Int) + M := by rw [IntKind.wrap_i64]; omega
      go_quiet ((go_at_call 109; exact Calls.quiet_of_same (HUS.out _)))
      have HRq : Hid (RDx (w2.drewN nq) q (Ds.cnt S) A o (.slice (some ⟨gn, 0, none⟩) mm nc) bv tv sv) := hide (HR2.out.kept ((Kept.refl [] w2).drewN nq))
      have HKq : Hid (Keep (· = q) w (w2.drewN nq)) := hide (HK2.out.drewN nq)
      clear HR2 HS2 HUS ch2 c12
      generalize w2.drewN nq = w9 at HRq HKq ⊢
      have hen := fun b x => rend_ok HRq.out b x
      have HFIN : Hid (∀ v a1 a2 a3 a4, RDx v q { (Ds.cnt S) with on := (Ds.cnt S).on && !S.goesOff } A o a1 a2 a3 a4 → Keep (· = q) w9 v → RAft w v q S.tick o) := hide (fun v a1 a2 a3 a4 h1 h2 => tick_fin hwf HLQ.out HKq.out h1 h2)
      go_wp2_with (go_at_call 73; refine (hen _ _).mono ?_; rintro e w8 ⟨rfl, hR8, hK8⟩; have H8 := hide (HFIN.out w8 _ _ _ _ hR8 hK8); clear hR8 hK8 hen)
      go_ret
      exact ⟨by rw [HC.out]; rfl, by rw [HC.out]; exact H8.out⟩
     ·exact absurd hm2 (by have := HAZ.out; omega)
    ·exact absurd hm1 (by have := HAZ.out; omega)
 ·have HC : Hid (S.writeAt n x d = ((S.find n).1, S)) := hide (by simp [Ds.writeAt, h0])
  have HA := hide (RAft.of ⟨hwf, _, _, _, _, h⟩ (Keep.refl _ w))
  generalize (S.find n).1 = E at hth h0 HC
  generalize thereI S n = I at hth
  have e0 : (E == 0) = false := by simpa using h0
  have e1 : (E != 0) = true := by simpa using h0
  clear h hB h0
  go_enter Tryz.func77, Tryz.ntmps77
  go_wp2_with (go_at_call 76; refine hth.mono ?_; rintro e w' ⟨rfl, hw⟩; obtain rfl := hw.symm; clear hth)
  go_ret
  exact ⟨by rw [HC.out]; rfl, by rw [HC.out]; exact HA.out⟩
set_option maxHeartbeats 1600000 in
set_option maxRecDepth 100000 in
theorem rappendBig_ok (h : RDx w q S A o nv bv tv sv) (hwf : S.Wf) {N : Nat} (hB : S.Bd N) (n : By) (hn : n.length ≤ 4611686018427387904) (dO : Option Addr) (m dc : Nat) (d : By) (hN : N ≤ 268435456) (hm9 : 1048576 < m) (hm8 : m ≤ 4611686018427387900) (hG : Given w o dO m d) (hni : dO = none → m = 0 ∧ dc = 0) :
  Calls Tryz.prog 26 #[.pointer (some ⟨q, 0, none⟩), encStr n, .slice dO m dc] w fun e w' => e = .returned (.int .i64 (S.append n d).1) ∧ RAft w w' q (S.append n d).2 o := by
 have hth := there_ok h hwf.sup (by have := hB.shown hwf; omega) n hn
 by_cases h0 : (S.find n).1 = 0
 ·obtain ⟨i, hp, hi, hti, hlv, hon, hnx⟩ := find0 hwf h0
  have hlen := hB.len hwf hnx
  have hap : S.append n d = S.writeAt n (S.th (S.find n).2).shown.length d := by
   have : ¬ (((S.th (S.find n).2).shown.length : Int) < 0 ∨ ((S.th (S.find n).2).shown.length : Int) < (S.th (S.find n).2).shown.length) := by omega
   simp only [Ds.append, Ds.writeAt, h0, ne_eq, not_true, if_false]
   rw [if_neg this]
   rfl
  have hwa := rwriteBig_ok h hwf hB n hn ((S.th (S.find n).2).shown.length : Nat) rfl (WalkArith.wf_i64 (by omega)) dO m dc d hN hm9 hm8 hG hni
  rw [← hap] at hwa
  rw [h0, hti] at hth
  generalize (S.find n).2 = k at *
  obtain ⟨mm, hm⟩ : ∃ m, S.shown.length = m := ⟨_, rfl⟩
  obtain ⟨no, nc, hnv⟩ := h.nvs
  rw [hm] at hnv hi
  have hmm : mm ≤ 268435456 := by have := hB.shown hwf; omega
  subst hnv
  obtain ⟨gn, hgn, _, cpn⟩ := nms_cell (n := mm) (l := S.shown) (A := A) (w := w) (vo := no) (vc := nc) h.now hp
  subst hgn
  have c2 := h.cell 2 _ rfl
  obtain ⟨so0, sc0, ho0, hc0, _, _, _, ch0, _, _⟩ := h.thShape hlv
  generalize (S.th k).shown.length = z at *
  generalize A k = ab at ch0 cpn
  clear h hp h0 hti hap hm hlv hB hG
  go_enter Tryz.func26, Tryz.ntmps26
  go_wp2_with (first
   | (go_at_call 76; refine hth.mono ?_; rintro e w' ⟨rfl, hw⟩; obtain rfl := hw.symm; clear hth)
   | (go_at_call 77; refine hwa.mono ?_; rintro e w2 ⟨rfl, hA⟩; have HA := hide hA; clear hwa hA))
  go_ret
  exact ⟨rfl, HA.out⟩
 ·have HC : Hid (S.append n d = ((S.find n).1, S)) := hide (by simp [Ds.append, h0])
  have HA := hide (RAft.of ⟨hwf, _, _, _, _, h⟩ (Keep.refl _ w))
  generalize (S.find n).1 = E at hth h0 HC
  generalize thereI S n = I at hth
  have e0 : (E == 0) = false := by simpa using h0
  have e1 : (E != 0) = true := by simpa using h0
  clear h hB h0 hG
  go_enter Tryz.func26, Tryz.ntmps26
  go_wp2_with (go_at_call 76; refine hth.mono ?_; rintro e w' ⟨rfl, hw⟩; obtain rfl := hw.symm; clear hth)
  go_ret
  exact ⟨by rw [HC.out]; rfl, by rw [HC.out]; exact HA.out⟩
end
def Rx (X : Nat → Prop) (wa w : World) (q : Nat) (T : Ds) (M : Nat) : Prop := ∃ A o, RD w q T A o ∧ (∀ b, X b → o b = 0 ∧ b < wa.heap.size) ∧ Keep (fun b => ¬ X b) wa w ∧ T.Bd M
section
variable {X : Nat → Prop} {wa w w' : World} {q : Nat} {T : Ds} {M : Nat}
theorem Rx.wf (h : Rx X wa w q T M) : T.Wf := by
 obtain ⟨A, o, h, _⟩ := h
 exact h.1
theorem Rx.bd (h : Rx X wa w q T M) : T.Bd M := h.choose_spec.choose_spec.2.2.2
theorem Rx.old (h : Rx X wa w q T M) : Keep (fun b => ¬ X b) wa w := h.choose_spec.choose_spec.2.2.1
theorem Rx.kept (h : Rx X wa w q T M) (hk : Kept [] w w') : Rx X wa w' q T M := by
 obtain ⟨A, o, hP, ho, hw, hb⟩ := h
 exact ⟨A, o, hP.keep (Keep.ofNone (F := fun _ => False) hk) (fun _ _ h => h), ho, hw.kept hk, hb⟩
theorem Rx.mono {K : Nat} (h : Rx X wa w q T M) (hm : M ≤ K) : Rx X wa w q T K := by
 obtain ⟨A, o, hP, ho, hw, hb⟩ := h
 exact ⟨A, o, hP, ho, hw, hb.mono hm⟩
theorem Rx.here (h : Rx X wa w q T M) : Rx X w w q T M := by
 obtain ⟨A, o, hP, ho, hw, hb⟩ := h
 exact ⟨A, o, hP, fun b hx => ⟨(ho b hx).1, Nat.lt_of_lt_of_le (ho b hx).2 hw.size⟩, Keep.refl _ _, hb⟩
theorem raft_rx {S' : Ds} {K : Nat} {o : Lab} (ho : ∀ b, X b → o b = 0 ∧ b < wa.heap.size) (hw : Keep (fun b => ¬ X b) wa w) (ha : RAft w w' q S' o) (hb : S'.Bd K) : Rx X wa w' q S' K := by
 obtain ⟨A', o', hP, he, hK⟩ := ha
 exact ⟨A', o', hP, fun b hx => ⟨Classical.byContradiction fun hn => he b (Nat.lt_of_lt_of_le (ho b hx).2 hw.size) hn (ho b hx).1, (ho b hx).2⟩, hw.trans hK (fun b hm _ hX => hm (ho b hX).1), hb⟩
theorem create_rx (h : Rx X wa w q T M) (hM : M ≤ 268435456) (n : By) (hn : n.length ≤ 4611686018427387904) : Calls Tryz.prog 24 #[.pointer (some ⟨q, 0, none⟩), encStr n] w fun e w' => e = .returned (.int .i64 (T.create n).1) ∧ Rx X wa w' q (T.create n).2 (M + 1) := by
 obtain ⟨A, o, ⟨hwf, nv, bv, tv, sv, hx⟩, ho, hw, hb⟩ := h
 refine (rcreate_ok hx hwf hb hM n hn).mono ?_
 rintro e w' ⟨rfl, ha⟩
 exact ⟨rfl, raft_rx ho hw ha (hb.create n)⟩
theorem truncate_rx (h : Rx X wa w q T M) (hM : M ≤ 268435456) (n : By) (hn : n.length ≤ 4611686018427387904) (a : Int) : Calls Tryz.prog 28 #[.pointer (some ⟨q, 0, none⟩), encStr n, .int .i64 a] w fun e w' => e = .returned (.int .i64 (T.truncate n a).1) ∧ Rx X wa w' q (T.truncate n a).2 (M + 3) := by
 obtain ⟨A, o, ⟨hwf, nv, bv, tv, sv, hx⟩, ho, hw, hb⟩ := h
 refine (rtruncate_ok hx hwf hb hM n hn a).mono ?_
 rintro e w' ⟨rfl, ha⟩
 exact ⟨rfl, raft_rx ho hw ha (hb.truncate n a)⟩
theorem rename_rx (h : Rx X wa w q T M) (hM : M ≤ 268435456) (f t : By) (hf : f.length ≤ 4611686018427387904) (ht : t.length ≤ 4611686018427387904) : Calls Tryz.prog 30 #[.pointer (some ⟨q, 0, none⟩), encStr f, encStr t] w fun e w' => e = .returned (.int .i64 (T.rename f t).1) ∧ Rx X wa w' q (T.rename f t).2 (M + 2) := by
 obtain ⟨A, o, ⟨hwf, nv, bv, tv, sv, hx⟩, ho, hw, hb⟩ := h
 refine (rrename_ok hx hwf hb hM f t hf ht).mono ?_
 rintro e w' ⟨rfl, ha⟩
 exact ⟨rfl, raft_rx ho hw ha (hb.rename f t)⟩
theorem remove_rx (h : Rx X wa w q T M) (hM : M ≤ 268435456) (n : By) (hn : n.length ≤ 4611686018427387904) : Calls Tryz.prog 32 #[.pointer (some ⟨q, 0, none⟩), encStr n] w fun e w' => e = .returned (.int .i64 (T.remove n).1) ∧ Rx X wa w' q (T.remove n).2 (M + 2) := by
 obtain ⟨A, o, ⟨hwf, nv, bv, tv, sv, hx⟩, ho, hw, hb⟩ := h
 refine (rremove_ok hx hwf hb hM n hn).mono ?_
 rintro e w' ⟨rfl, ha⟩
 exact ⟨rfl, raft_rx ho hw ha (hb.remove n)⟩
theorem sync_rx (h : Rx X wa w q T M) (hM : M ≤ 268435456) (n : By) (hn : n.length ≤ 4611686018427387904) : Calls Tryz.prog 34 #[.pointer (some ⟨q, 0, none⟩), encStr n] w fun e w' => e = .returned (.int .i64 (T.sync n).1) ∧ Rx X wa w' q (T.sync n).2 (M + 1) := by
 obtain ⟨A, o, ⟨hwf, nv, bv, tv, sv, hx⟩, ho, hw, hb⟩ := h
 refine (rsync_ok hx hwf hb hM n hn).mono ?_
 rintro e w' ⟨rfl, ha⟩
 exact ⟨rfl, raft_rx ho hw ha (hb.sync hwf n)⟩
theorem syncNames_rx (h : Rx X wa w q T M) (hM : M ≤ 268435456) : Calls Tryz.prog 36 #[.pointer (some ⟨q, 0, none⟩)] w fun e w' => e = .returned (.int .i64 (T.syncNames).1) ∧ Rx X wa w' q (T.syncNames).2 (M + 1) := by
 obtain ⟨A, o, ⟨hwf, nv, bv, tv, sv, hx⟩, ho, hw, hb⟩ := h
 refine (rsyncNames_ok hx hwf hb hM).mono ?_
 rintro e w' ⟨rfl, ha⟩
 exact ⟨rfl, raft_rx ho hw ha (hb.syncNames hwf)⟩
theorem append_rxm (h : Rx X wa w q T M) (n : By) (hn : n.length ≤ 4611686018427387904) {ao : Option Addr} {m c : Nat} {d : By} (hM : M + 1048576 ≤ 268435456) (hm8 : m ≤ 4611686018427387900) (hl : d.length = m) (hs : Sl w ao d) (h0 : ao = none → m = 0 ∧ c = 0) (hfar : d ≠ [] → ∀ a, ao = some a → X a.block) : Calls Tryz.prog 26 #[.pointer (some ⟨q, 0, none⟩), encStr n, .slice ao m c] w fun e w' => e = .returned (.int .i64 (T.append n d).1) ∧ Rx X wa w' q (T.append n d).2 (M + min m 1048576 + 2) := by
 obtain ⟨A, o, ⟨hwf, nv, bv, tv, sv, hx⟩, ho, hw, hb⟩ := h
 have hG : Given w o ao m d := ⟨hl, hs, fun e => (h0 e).1, fun hd a ha => (ho _ (hfar hd a ha)).1⟩
 by_cases hc : m ≤ 1048576
 ·rw [Nat.min_eq_left hc]
  refine (rappend_ok hx hwf hb n hn ao m c d (by omega) hG h0).mono ?_
  rintro e w' ⟨rfl, ha⟩
  exact ⟨rfl, raft_rx ho hw ha (by have := hb.append n d; rw [hl] at this; exact this)⟩
 ·refine (rappendBig_ok hx hwf hb n hn ao m c d (by omega) (by omega) hm8 hG h0).mono ?_
  rintro e w' ⟨rfl, ha⟩
  exact ⟨rfl, raft_rx ho hw ha ((Ds.append_bd hwf hb n d (by omega)).mono (by omega))⟩
theorem size_rx (h : Rx X wa w q T M) (hM : M ≤ 268435456) (n : By) (hn : n.length ≤ 4611686018427387904) : Calls Tryz.prog 63 #[.pointer (some ⟨q, 0, none⟩), encStr n] w fun e w' => e = .returned (.tuple #[.int .i64 (T.size n), .int .i64 (T.find n).1]) ∧ w' = w := by
 obtain ⟨A, o, ⟨hwf, nv, bv, tv, sv, hx⟩, ho, hw, hb⟩ := h
 exact rsize_ok hx hwf (by have := hb.shown hwf; omega) n hn
theorem roff_rx (h : Rx X wa w q T M) : Calls Tryz.prog 42 #[.pointer (some ⟨q, 0, none⟩)] w fun e w' => e = .returned (.bool (!T.on)) ∧ w' = w := by
 obtain ⟨A, o, ⟨hwf, nv, bv, tv, sv, hx⟩, ho, hw, hb⟩ := h
 exact roff_ok hx
theorem rstrokes_rx (h : Rx X wa w q T M) : Calls Tryz.prog 43 #[.pointer (some ⟨q, 0, none⟩)] w fun e w' => e = .returned (.int .i64 T.strokes) ∧ w' = w := by
 obtain ⟨A, o, ⟨hwf, nv, bv, tv, sv, hx⟩, ho, hw, hb⟩ := h
 exact rstrokes_ok hx
theorem plan_rx (h : Rx X wa w q T M) (a b c : Int) (hp : (Lit.int .i64 a).wf = true ∧ (Lit.int .i64 b).wf = true ∧ (Lit.int .i64 c).wf = true) : Calls Tryz.prog 38 #[.pointer (some ⟨q, 0, none⟩), .agg #[.int .i64 a, .int .i64 b, .int .i64 c]] w fun e w' => e = .returned (.tuple #[]) ∧ Rx X wa w' q (T.setPlan a b c) M := by
 obtain ⟨A, o, ⟨hwf, nv, bv, tv, sv, hx⟩, ho, hw, hb⟩ := h
 refine (rplan_ok hx hwf a b c hp).mono ?_
 rintro e w' ⟨rfl, ha⟩
 exact ⟨rfl, raft_rx ho hw ha (hb.setPlan a b c)⟩
theorem crash_rx (h : Rx X wa w q T M) (hM : M ≤ 268435456) {ao : Option Addr} {n c : Nat} {ps : List Int} (hl : ps.length = n) (hr : Ints w ao ps) (hpw : ∀ x ∈ ps, (Lit.int .i64 x).wf = true) (hn : n ≤ 17592186044416) : Calls Tryz.prog 40 #[.pointer (some ⟨q, 0, none⟩), .slice ao n c] w fun e w' => e = .returned (.tuple #[]) ∧ Rx X wa w' q (T.crash ps) M := by
 obtain ⟨A, o, ⟨hwf, nv, bv, tv, sv, hx⟩, ho, hw, hb⟩ := h
 refine (rcrash_ok hx hwf hb hM ao n c ps hl hn hr hpw).mono ?_
 rintro e w' ⟨rfl, ha⟩
 exact ⟨rfl, raft_rx ho hw ha (hb.crash hwf ps)⟩
theorem read_rx (h : Rx X wa w q T M) (hM : M ≤ 268435456) (n : By) (hn : n.length ≤ 4611686018427387904) (a m : Int) (ha : (Lit.int .i64 a).wf = true) (hm : (Lit.int .i64 m).wf = true) : Calls Tryz.prog 64 #[.pointer (some ⟨q, 0, none⟩), encStr n, .int .i64 a, .int .i64 m] w fun e w' => ∃ v, e = .returned (.tuple #[v, .int .i64 (T.readOk n a m)]) ∧ Rx X wa w' q (T.read n a m) (M + 1) ∧ OwnB w' v (T.readBytes n a m).length (T.readBytes n a m) ∧ (∀ g, v.ownBlock = some g → w.heap.size ≤ g) := by
 obtain ⟨A, o, ⟨hwf, nv, bv, tv, sv, hx⟩, ho, hw, hb⟩ := h
 refine (rread_ok hx hwf hb hM n hn a m ha hm).mono ?_
 rintro e w' ⟨v, rfl, g1, g2, g3⟩
 exact ⟨v, rfl, raft_rx ho hw g1 (hb.read n a m), g2, g3⟩
theorem list_rx (h : Rx X wa w q T M) (hM : M ≤ 268435456) (n : By) (hn : n.length ≤ 4611686018427387904) : Calls Tryz.prog 66 #[.pointer (some ⟨q, 0, none⟩), encStr n] w fun e w' => ∃ v, e = .returned v ∧ Tl w w' v (T.list n) := by
 obtain ⟨A, o, ⟨hwf, nv, bv, tv, sv, hx⟩, ho, hw, hb⟩ := h
 exact rlist_ok hx hwf (by have := hb.shown hwf; omega) n hn
theorem rfiles_rx (h : Rx X wa w q T M) (hM : M ≤ 268435456) : Calls Tryz.prog 46 #[.pointer (some ⟨q, 0, none⟩)] w fun e w' => ∃ v vs, e = .returned v ∧ Fls w' w.heap.size v T.files vs ∧ Kept [] w w' := by
 obtain ⟨A, o, ⟨hwf, nv, bv, tv, sv, hx⟩, ho, hw, hb⟩ := h
 refine (rfiles_ok hx (fun p hp => Ds.shown_lives hwf hp) (by have := hb.shown hwf; omega) (fun p hp => by have := hb.len hwf (hwf.slt (n := p.1) (k := p.2) hp); omega)).mono ?_
 rintro e w' ⟨v, rfl, ⟨vs, h1⟩, h2⟩
 exact ⟨v, vs, rfl, h1, h2⟩
end
end Go.Proofs.YtodihkdmneihiaaGreatDoor
