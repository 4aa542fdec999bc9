import Derived.Test.YteckiednnaianaaGreatRemp
import Derived.Test.YteckiednnaianaaGreatRfcp
import Derived.Test.YteckiednnaianaaGreatRel3p
import Derived.Test.YteckiednnaianaaGreatRerp
import Derived.Test.YteckiednnaianaaGreatRetp
namespace Go.Proofs.YteckiednnaianaaGreat
section
open Go.RowKit Dsk
set_option linter.unusedVariables false
set_option linter.unusedSimpArgs false
section
variable {w : World} {q : Nat} {S : Ds} {A : Nat → Nat} {o : Lab} {nv bv tv sv : Value}
set_option maxHeartbeats 3200000 in
set_option maxRecDepth 100000 in
theorem rtruncate_ok (h : RDx w q S A o nv bv tv sv) (hwf : S.Wf) {N : Nat} (hB : S.Bd N) (hN : N ≤ 268435456) (n : By) (hn : n.length ≤ 4611686018427387904) (x : Int) :
  Calls Tryz.prog 58 #[.pointer (some ⟨q, 0, none⟩), encStr n, .int .i64 x] w fun e w' => e = .returned (.int .i64 (S.truncate n x).1) ∧ RAft w w' q (S.truncate n x).2 o := by
 have hth := there_ok h hwf.sup (by have := hB.shown hwf; omega) n hn
 by_cases h0 : (S.find n).1 = 0
 ·obtain ⟨i, hp, hi, hti, hlv, hon, hnx⟩ := find0 hwf h0
  rw [h0, hti] at hth
  have hlq := h.lq
  have HTR := hide (show S.truncate n x = if x < 0 ∨ (S.th (S.find n).2).shown.length < x then (54, S) else (S.ans 0, S.tick.addByte (S.find n).2 (.cut x.toNat)) by simp [Ds.truncate, h0])
  have hwfT := hwf.truncate n x
  rw [HTR.out] at hwfT
  have hlenN := hB.len hwf hnx
  have hrl : (S.th (S.find n).2).row.length ≤ 536870912 := by have := hB.th _ hnx; omega
  generalize (S.find n).2 = k at *
  obtain ⟨z, hz⟩ : ∃ z, (S.th k).shown.length = z := ⟨_, rfl⟩
  have HZ := hide hz
  obtain ⟨mm, hm⟩ : ∃ m, S.shown.length = m := ⟨_, rfl⟩
  obtain ⟨no, nc, hnv⟩ := h.nvs
  rw [hm] at hnv hi
  subst hnv
  have HP := hide hp
  have HLQ := hide hlq
  have HLV : Hid (k ∈ (Ds.cnt S).lives) := hide hlv
  obtain ⟨gn, hgn, _, cpn⟩ := nms_cell (n := mm) (l := S.shown) (A := A) (w := w) (vo := no) (vc := nc) h.now hp
  subst hgn
  have c2 := h.cell 2 _ rfl
  obtain ⟨so0, sc0, ho0, hc0, _, _, _, ch0, _, _⟩ := h.thShape hlv
  rw [hz] at ch0
  have HA := hide (RAft.of ⟨hwf, _, _, _, _, h⟩ (Keep.refl _ w))
  by_cases hbad : x < 0 ∨ (z : Int) < x
  ·have HC : Hid (S.truncate n x = (54, S)) := hide (by rw [HTR.out, hz, if_pos hbad])
   clear h hB h0 hlq hti hp hwfT HTR hz hm hlv
   rcases hbad with hb1 | hb1
   ·go_enter Tryz.func58, Tryz.ntmps58
    go_wp2_with (go_at_call 82; refine hth.mono ?_; rintro e w' ⟨rfl, hw⟩; obtain rfl := hw.symm; clear hth)
    go_ret
    exact ⟨by rw [HC.out]; rfl, by rw [HC.out]; exact HA.out⟩
   ·have hb0 : ¬ x < 0 := by omega
    go_enter Tryz.func58, Tryz.ntmps58
    go_wp2_with (go_at_call 82; refine hth.mono ?_; rintro e w' ⟨rfl, hw⟩; obtain rfl := hw.symm; clear hth)
    go_ret
    exact ⟨by rw [HC.out]; rfl, by rw [HC.out]; exact HA.out⟩
  ·have hst := rstroke_ok h (by have := hB.strokes; omega) (by have := hB.planned; omega)
   rw [hz, if_neg hbad] at hwfT
   have HC : Hid (S.truncate n x = (S.ans 0, S.tick.addByte k (.cut x.toNat))) := hide (by rw [HTR.out, hz, if_neg hbad])
   obtain ⟨a, ha⟩ : ∃ a : Nat, (a : Int) = x := ⟨x.toNat, by omega⟩
   have hat : x.toNat = a := by omega
   rw [hat] at HC hwfT
   have hwfE := hwfT
   subst ha
   have haz : a ≤ z := by omega
   have hzl : z ≤ 268435456 := by omega
   have hb0 : ¬ (a : Int) < 0 := by omega
   have hb1 : ¬ (z : Int) < (a : Int) := by omega
   have HOO : Hid (∀ b, b < w.heap.size → o b ≠ 0 → o b ≠ 0) := hide (fun _ _ h => h)
   clear h hB h0 hlq hti hp HTR hz hm hwfT hlv hbad HA hat hlenN
   go_enter Tryz.func58, Tryz.ntmps58
   go_upto_region 9 with (first
    | (go_at_call 82; refine hth.mono ?_; rintro e w' ⟨rfl, hw⟩; obtain rfl := hw.symm; clear hth)
    | (go_at_call 79; refine hst.mono ?_; rintro e w3 ⟨rfl, hR2, hK2⟩; have HR3 := hide hR2; have HKW := hide (hK2.mono (G := o.mine) (fun i e _ => by show o i ≠ 0; rw [show i = q from e, HLQ.out]; decide)); clear hst hR2 hK2 c2 cpn ch0))
   obtain ⟨o3, ho3⟩ : ∃ o3, o3 = o := ⟨_, rfl⟩
   rw [← ho3] at HR3
   have HOO : Hid (∀ b, b < w.heap.size → o3 b ≠ 0 → o b ≠ 0) := hide (fun _ _ h => by rw [ho3] at h; exact h)
   clear ho3
   obtain ⟨w4, hw4⟩ : ∃ w4, w4 = w3.alloc (.cells #[.bool true, .int .i64 a, .slice none 0 0] 143) := ⟨_, rfl⟩
   have hk4 : Kept [] w3 w4 := by rw [hw4]; exact (Kept.refl [] w3).alloc _
   have hb4 : w4.heap[w3.heap.size]? = some (.cells #[.bool true, .int .i64 a, .slice none 0 0] 143 (0, 0)) := by rw [hw4]; exact (MapKept.heap_alloc w3 _).1
   have oX : o3 w3.heap.size = 0 := Classical.byContradiction fun hn => by have := HR3.out.lim _ hn; omega
   have hXl : w3.heap.size < w4.heap.size := by rw [hw4]; simp
   rw [← hw4]
   clear hw4
   generalize w3.heap.size = X at hb4 oX hXl ⊢
   have x0 : w4.cell? ⟨X, 0, none⟩ = some (.bool true) := by rw [cell_of_row w4 _ 0 _ _ _ hb4]; rfl
   have x1 : w4.cell? ⟨X, 1, none⟩ = some (.int .i64 a) := by rw [cell_of_row w4 _ 1 _ _ _ hb4]; rfl
   have x2 : w4.cell? ⟨X, 2, none⟩ = some (.slice none 0 0) := by rw [cell_of_row w4 _ 2 _ _ _ hb4]; rfl
   have HX4 := hide hb4
   have hR4 := (HR3.out.kept hk4).kept ((Kept.refl [] w4).drew)
   obtain ⟨so, sc, ho, hc, hs1, hs2, cs, ch, hlb, hlt⟩ := hR4.thShape HLV.out
   have hs2' : OwnB w4.drew (.slice ho z hc) z (S.th k).shown := by have := hs2; rw [show ((Ds.cnt S).th k).shown.length = z from HZ.out] at this; exact this
   rw [show ((Ds.cnt S).th k).shown.length = z from HZ.out] at ch
   have hcg := changeCut_ok ho z hc a 1 (S.th k).shown w4.drew hs2' haz (by omega) (by omega) (by omega) (.slice none 0 0)
   have HR4 := hide hR4
   have HLB := hide hlb
   have HK4 : Hid (Keep o.mine w w4) := hide (HKW.out.kept hk4)
   clear hb4 hR4 hs1 hs2 hs2' cs
   refine wp_region_late (fun w' => Kept [] w4 w') (fun i => i == 6 || i == 9) (by kernel_rfl) ?_
   have h0 : Kept [] w4 w4.drew := (Kept.refl [] w4).drew
   generalize World.drew w4 = v0 at h0 hcg HR4 ⊢
   refine wpAnyL_free (i := 0) (v := .pointer (some ⟨A k, 0, none⟩)) rfl (by kernel_rfl) (by kernel_rfl) (by kernel_rfl) (fun _ _ _ h => h) (Or.inl ⟨by rfl, fun w _ => by go_simp⟩) ?_
   try simp only [z1, z2, z3, z4, z5, z6, z7, z8]
   refine wpAnyL_free (i := 1) (v := .pointer (some ⟨A k, 0, none⟩)) rfl (by kernel_rfl) (by kernel_rfl) (by kernel_rfl) (fun _ _ _ h => h) (Or.inl ⟨by rfl, fun w _ => by go_simp⟩) ?_
   try simp only [z1, z2, z3, z4, z5, z6, z7, z8]
   refine wpAnyL_free (i := 2) (v := .pointer (some ⟨A k, 0, none⟩)) rfl (by kernel_rfl) (by kernel_rfl) (by kernel_rfl) (fun _ _ _ h => h) (Or.inl ⟨by rfl, fun w _ => by go_simp⟩) ?_
   try simp only [z1, z2, z3, z4, z5, z6, z7, z8]
   refine wpAnyL_free (i := 3) (v := .pointer (some ⟨A k, 1, none⟩)) rfl (by kernel_rfl) (by kernel_rfl) (by kernel_rfl) (fun _ _ _ h => h) (Or.inl ⟨by rfl, fun w _ => by go_simp⟩) ?_
   try simp only [z1, z2, z3, z4, z5, z6, z7, z8]
   refine wpAnyL_take (i := 4) (v := .slice ho z hc) rfl (by kernel_rfl) (by kernel_rfl) (by kernel_rfl) (by kernel_rfl) (by kernel_rfl) (fun _ _ _ h => h) (Or.inl ⟨by rfl, fun w hSw => by have q0 := Kept.cellOf hSw ch (by simp); go_simp⟩) h0 ?_
   try simp only [z1, z2, z3, z4, z5, z6, z7, z8]
   refine wpAnyL_take (i := 5) (v := .agg #[.bool true, .int .i64 a, .slice none 0 0]) rfl (by kernel_rfl) (by kernel_rfl) (by kernel_rfl) (by kernel_rfl) (by kernel_rfl) (fun _ _ _ h => h) (Or.inl ⟨by rfl, fun w hSw => by have q0 := Kept.cellOf hSw x0 (by simp); have q1 := Kept.cellOf hSw x1 (by simp); have q2 := Kept.cellOf hSw x2 (by simp); go_simp⟩) h0 ?_
   try simp only [z1, z2, z3, z4, z5, z6, z7, z8]
   refine wpAnyL_one (i := 6) (by kernel_rfl) rfl (fun K hK => ?_)
   rw [if_pos (by rfl)]
   go_simp
   refine hcg.mono ?_
   rintro e w5 ⟨v5, rfl, hB5⟩
   obtain ⟨vo5, vc5, e5, _⟩ := own_shape hB5.row
   subst e5
   have HB5 := hide hB5
   obtain ⟨_, _, ⟨_, y1⟩, f1⟩ := HR4.out.thShown HLV.out hB5
   clear hcg hB5 x0 x1 x2 ch
   refine hK.out _ _ (fun _ h => by cases h) ?_
   clear hK K
   try simp only [z1, z2, z3, z4, z5, z6, z7, z8]
   refine wpAnyL_free (i := 7) (v := .pointer (some ⟨A k, 0, none⟩)) rfl (by kernel_rfl) (by kernel_rfl) (by kernel_rfl) (fun _ _ _ h => h) (Or.inl ⟨by rfl, fun w _ => by go_simp⟩) ?_
   try simp only [z1, z2, z3, z4, z5, z6, z7, z8]
   refine wpAnyL_free (i := 8) (v := .pointer (some ⟨A k, 1, none⟩)) rfl (by kernel_rfl) (by kernel_rfl) (by kernel_rfl) (fun _ _ _ h => h) (Or.inl ⟨by rfl, fun w _ => by go_simp⟩) ?_
   try simp only [z1, z2, z3, z4, z5, z6, z7, z8]
   refine wpAnyL_one (i := 9) (by kernel_rfl) rfl (fun K hK => ?_)
   rw [if_pos (by rfl)]
   go_simp
   refine hK.out _ _ (fun _ h => by cases h) ?_
   clear hK K
   try simp only [z1, z2, z3, z4, z5, z6, z7, z8]
   refine wpAnyL_done (by kernel_rfl) ?_ _
   go_upto_region 10 with (fail)
   obtain ⟨hR6, hK6, _, _⟩ := HR4.out.thShown HLV.out HB5.out
   clear y1 f1
   have hsz : X < v0.heap.size := Nat.lt_of_lt_of_le hXl h0.size
   have hXA : ¬ X = A k := fun e => by rw [e, HLB.out] at oX; omega
   have b6 := hK6.heapOf ((Keep.ofNone (F := fun _ => False) h0).heapOf HX4.out (fun h => h)) hXA
   have HDV : Hid (ChD (w5.setCell ⟨A k, 1, none⟩ (.slice vo5 ((Ch.cut a).apply (S.th k).shown 1).length vc5)) (.cut a, .slice none 0 0) ∧ (∀ g, (.slice none 0 0 : Value).ownBlock = some g → o3.ext v0 w5 (k + 2) g = k + 2)) := hide (by
    refine ⟨OwnB.nil _, by simp [Value.ownBlock]⟩)
   generalize w5.setCell _ _ = w6 at hR6 hK6 b6 HDV ⊢
   obtain ⟨o5, ho5⟩ : ∃ o5, o5 = o3.ext v0 w5 (k + 2) := ⟨_, rfl⟩
   have HE5 : Hid (∀ b, b < v0.heap.size → o5 b = o3 b) := hide (fun b hb => by rw [ho5]; exact Lab.ext_old hb)
   rw [← ho5] at hR6 HDV
   clear ho5 hk4
   have hR6d := hR6.kept ((Kept.refl [] w6).drew)
   obtain ⟨ro, nr, rc, r4, g7, c7, w7, hap, y2, f2, hR7, hK7⟩ := hR6d.thRow (k := k) HLV.out (by show (upd (Ds.cnt S).th k _ k).row.length ≤ _; rw [upd_same]; exact hrl) (.cut a) (.slice none 0 0) (HDV.out.1.keep ((Keep.refl (fun _ => False) w6).drew) (fun _ _ h => h)) HDV.out.2 rfl
   dsimp only at hR7
   rw [upd_same, upd_upd] at hR7
   have d0 := cell_of_row w6 _ 0 _ _ _ b6
   have d1 := cell_of_row w6 _ 1 _ _ _ b6
   have d2 := cell_of_row w6 _ 2 _ _ _ b6
   simp only [List.getElem?_toArray, List.getElem?_cons_zero, List.getElem?_cons_succ] at d0 d1 d2
   have hen := fun b x => rend_ok hR7 b x
   have HFIN : Hid (∀ v a1 a2 a3 a4, RDx v q { ({ Ds.cnt S with th := upd (Ds.cnt S).th k ⟨((Ds.cnt S).th k).safe, ((Ds.cnt S).th k).row ++ [.cut a], ((Ch.cut a).apply (S.th k).shown 1)⟩ } : Ds) with on := (Ds.cnt S).on && !S.goesOff } A (o5.ext w6.drew w7 (k + 2)) a1 a2 a3 a4 → Keep (· = q) (w7.setCell ⟨A k, 2, none⟩ (.slice (some ⟨g7, 0, none⟩) (nr + 1) c7)) v → RAft w v q (S.tick.addByte k (.cut a)) o) := hide (fun v a1 a2 a3 a4 hv hkv => by
    refine ⟨A, o5.ext w6.drew w7 (k + 2), ⟨hwfE, a1, a2, a3, a4, hv⟩, fun b hb hn => ?_, ?_⟩
    ·have hb4 : b < v0.heap.size := Nat.lt_of_lt_of_le (Nat.lt_of_lt_of_le hb HK4.out.size) h0.size
     have hb6 : b < w6.drew.heap.size := Nat.lt_of_lt_of_le hb4 hK6.size
     have h1 := ext_le hb6 hn
     rw [HE5.out b hb4] at h1
     exact HOO.out b hb h1
    ·have k1 := (HK4.out.kept h0).trans hK6 (fun i e hi => by
      show o i ≠ 0
      exact HOO.out i hi (by rw [show i = A k from e, HLB.out]; omega))
     have k2 := k1.drew.trans hK7 (fun i e hi => by
      show o i ≠ 0
      have hi4 : i < v0.heap.size := Nat.lt_of_lt_of_le (Nat.lt_of_lt_of_le hi HK4.out.size) h0.size
      exact HOO.out i hi (by rw [← HE5.out i hi4, show o5 i = k + 2 from e]; omega))
     exact k2.trans hkv (fun i e hi => by show o i ≠ 0; rw [show i = q from e, HLQ.out]; decide))
   clear hR6 hR6d hR7 hK7 b6 HX4 HR4 HB5 HDV
   refine wp_region_late (fun w' => Kept [] w6 w') (fun i => i == 7 || i == 10) (by kernel_rfl) ?_
   have h6 : Kept [] w6 w6.drew := (Kept.refl [] w6).drew
   generalize World.drew w6 = v6 at h6 hap HFIN hen ⊢
   refine wpAnyL_free (i := 0) (v := .pointer (some ⟨A k, 0, none⟩)) rfl (by kernel_rfl) (by kernel_rfl) (by kernel_rfl) (fun _ _ _ h => h) (Or.inl ⟨by rfl, fun w _ => by go_simp⟩) ?_
   try simp only [z1, z2, z3, z4, z5, z6, z7, z8]
   refine wpAnyL_free (i := 1) (v := .pointer (some ⟨A k, 0, none⟩)) rfl (by kernel_rfl) (by kernel_rfl) (by kernel_rfl) (fun _ _ _ h => h) (Or.inl ⟨by rfl, fun w _ => by go_simp⟩) ?_
   try simp only [z1, z2, z3, z4, z5, z6, z7, z8]
   refine wpAnyL_free (i := 2) (v := .pointer (some ⟨A k, 0, none⟩)) rfl (by kernel_rfl) (by kernel_rfl) (by kernel_rfl) (fun _ _ _ h => h) (Or.inl ⟨by rfl, fun w _ => by go_simp⟩) ?_
   try simp only [z1, z2, z3, z4, z5, z6, z7, z8]
   refine wpAnyL_free (i := 3) (v := .pointer (some ⟨A k, 2, none⟩)) rfl (by kernel_rfl) (by kernel_rfl) (by kernel_rfl) (fun _ _ _ h => h) (Or.inl ⟨by rfl, fun w _ => by go_simp⟩) ?_
   try simp only [z1, z2, z3, z4, z5, z6, z7, z8]
   refine wpAnyL_take (i := 4) (v := .slice ro nr rc) rfl (by kernel_rfl) (by kernel_rfl) (by kernel_rfl) (by kernel_rfl) (by kernel_rfl) (fun _ _ _ h => h) (Or.inl ⟨by rfl, fun w hSw => by have q0 := Kept.cellOf hSw r4 (by simp); go_simp⟩) h6 ?_
   try simp only [z1, z2, z3, z4, z5, z6, z7, z8]
   refine wpAnyL_take (i := 5) (v := .agg #[.bool true, .int .i64 a, .slice none 0 0]) rfl (by kernel_rfl) (by kernel_rfl) (by kernel_rfl) (by kernel_rfl) (by kernel_rfl) (fun _ _ _ h => h) (Or.inl ⟨by rfl, fun w hSw => by have q0 := Kept.cellOf hSw d0 (by simp); have q1 := Kept.cellOf hSw d1 (by simp); have q2 := Kept.cellOf hSw d2 (by simp); go_simp⟩) h6 ?_
   try simp only [z1, z2, z3, z4, z5, z6, z7, z8]
   refine wpAnyL_one (i := 6) (by kernel_rfl) rfl (fun K hK => ?_)
   rw [if_pos (by rfl)]
   go_simp
   refine hK.out _ _ (fun _ _ => h6.alloc _) ?_
   clear hK K
   try simp only [z1, z2, z3, z4, z5, z6, z7, z8]
   refine wpAnyL_one (i := 7) (by kernel_rfl) rfl (fun K hK => ?_)
   rw [if_pos (by rfl)]
   refine wp_append_run (.tmp 61) (.tmp 63) 76 76 rfl (.slice ro nr rc) (.slice (some ⟨v6.heap.size, 0, none⟩) 1 1) rfl rfl (.slice (some ⟨g7, 0, none⟩) (nr + 1) c7) w7 hap ?_
   refine hK.out _ _ (fun _ h => by cases h) ?_
   clear hK K
   try simp only [z1, z2, z3, z4, z5, z6, z7, z8]
   refine wpAnyL_free (i := 8) (v := .pointer (some ⟨A k, 0, none⟩)) rfl (by kernel_rfl) (by kernel_rfl) (by kernel_rfl) (fun _ _ _ h => h) (Or.inl ⟨by rfl, fun w _ => by go_simp⟩) ?_
   try simp only [z1, z2, z3, z4, z5, z6, z7, z8]
   refine wpAnyL_free (i := 9) (v := .pointer (some ⟨A k, 2, none⟩)) rfl (by kernel_rfl) (by kernel_rfl) (by kernel_rfl) (fun _ _ _ h => h) (Or.inl ⟨by rfl, fun w _ => by go_simp⟩) ?_
   try simp only [z1, z2, z3, z4, z5, z6, z7, z8]
   refine wpAnyL_one (i := 10) (by kernel_rfl) rfl (fun K hK => ?_)
   rw [if_pos (by rfl)]
   go_simp
   refine hK.out _ _ (fun _ h => by cases h) ?_
   clear hK K
   try simp only [z1, z2, z3, z4, z5, z6, z7, z8]
   refine wpAnyL_done (by kernel_rfl) ?_ _
   go_wp2_with (go_at_call 80; refine (hen _ _).mono ?_; rintro e w8 ⟨rfl, hR8, hK8⟩; have H8 := hide (HFIN.out w8 _ _ _ _ hR8 hK8); clear hR8 hK8 hen)
   go_ret
   exact ⟨by rw [HC.out]; rfl, by rw [HC.out]; exact H8.out⟩
 ·have HC : Hid (S.truncate n x = ((S.find n).1, S)) := hide (by simp [Ds.truncate, h0])
  have HA := hide (RAft.of ⟨hwf, _, _, _, _, h⟩ (Keep.refl _ w))
  generalize (S.find n).1 = E at hth h0 HC
  generalize thereI S n = I at hth
  have e0 : (E == 0) = false := by simpa using h0
  have e1 : (E != 0) = true := by simpa using h0
  clear h hB h0
  go_enter Tryz.func58, Tryz.ntmps58
  go_wp2_with (go_at_call 82; refine hth.mono ?_; rintro e w' ⟨rfl, hw⟩; obtain rfl := hw.symm; clear hth)
  go_ret
  exact ⟨by rw [HC.out]; rfl, by rw [HC.out]; exact HA.out⟩
end
end

section
open Go.RowKit Dsk
set_option linter.unusedVariables false
set_option linter.unusedSimpArgs false
section
variable {X : Nat → Prop} {w : World} {P p q D : Nat} {bo : Option Nat} {R : List UInt8} {S : Ds} {N : Nat} {T : Ds} {M : Nat}
abbrev Mvs (X : Nat → Prop) (P D : Nat) (bo : Option Nat) : Nat → Prop := fun b => ¬ (X b ∨ prB P D bo b)
theorem create_p1 (h : Pq X w P p q D bo R S N T M) (hN : N ≤ 268435456) (n : By) (hn : n.length ≤ 4611686018427387904) : Calls Tryz.prog 24 #[.pointer (some ⟨p, 0, none⟩), encStr n] w fun e w' => e = .returned (.int .i64 (S.create n).1) ∧ Pq X w' P p q D bo R (S.create n).2 (N + 1) T M ∧ Keep (Mvs X P D bo) w w' := by
 obtain ⟨Y, hY, h1, h2⟩ := h.one
 refine (create_ax h1 hN n hn).mono ?_
 rintro e w' ⟨rfl, ha⟩
 exact ⟨rfl, h2 _ _ _ ha⟩
theorem create_p2 (h : Pq X w P p q D bo R S N T M) (hM : M ≤ 268435456) (n : By) (hn : n.length ≤ 4611686018427387904) : Calls Tryz.prog 51 #[.pointer (some ⟨q, 0, none⟩), encStr n] w fun e w' => e = .returned (.int .i64 (T.create n).1) ∧ Pq X w' P p q D bo R S N (T.create n).2 (M + 1) ∧ Keep (Mvs X P D bo) w w' := by
 have hb := h.tw.bd2
 obtain ⟨A', o', h1, _, h2⟩ := h.two
 obtain ⟨hwf, nv, bv, tv, sv, hx⟩ := h1
 have h1 : RD w q T A' o' := ⟨hwf, _, _, _, _, hx⟩
 refine (rcreate_ok hx hwf hb hM n hn).mono ?_
 rintro e w' ⟨rfl, ha⟩
 exact ⟨rfl, h2 _ _ _ ha (hb.create n)⟩
theorem truncate_p1 (h : Pq X w P p q D bo R S N T M) (hN : N ≤ 268435456) (n : By) (hn : n.length ≤ 4611686018427387904) (a : Int) : Calls Tryz.prog 57 #[.pointer (some ⟨p, 0, none⟩), encStr n, .int .i64 a] w fun e w' => e = .returned (.int .i64 (S.truncate n a).1) ∧ Pq X w' P p q D bo R (S.truncate n a).2 (N + 3) T M ∧ Keep (Mvs X P D bo) w w' := by
 obtain ⟨Y, hY, h1, h2⟩ := h.one
 refine (truncate_ax h1 hN n hn a).mono ?_
 rintro e w' ⟨rfl, ha⟩
 exact ⟨rfl, h2 _ _ _ ha⟩
theorem truncate_p2 (h : Pq X w P p q D bo R S N T M) (hM : M ≤ 268435456) (n : By) (hn : n.length ≤ 4611686018427387904) (a : Int) : Calls Tryz.prog 58 #[.pointer (some ⟨q, 0, none⟩), encStr n, .int .i64 a] w fun e w' => e = .returned (.int .i64 (T.truncate n a).1) ∧ Pq X w' P p q D bo R S N (T.truncate n a).2 (M + 3) ∧ Keep (Mvs X P D bo) w w' := by
 have hb := h.tw.bd2
 obtain ⟨A', o', h1, _, h2⟩ := h.two
 obtain ⟨hwf, nv, bv, tv, sv, hx⟩ := h1
 have h1 : RD w q T A' o' := ⟨hwf, _, _, _, _, hx⟩
 refine (rtruncate_ok hx hwf hb hM n hn a).mono ?_
 rintro e w' ⟨rfl, ha⟩
 exact ⟨rfl, h2 _ _ _ ha (hb.truncate n a)⟩
theorem rename_p1 (h : Pq X w P p q D bo R S N T M) (hN : N ≤ 268435456) (f t : By) (hf : f.length ≤ 4611686018427387904) (ht : t.length ≤ 4611686018427387904) : Calls Tryz.prog 28 #[.pointer (some ⟨p, 0, none⟩), encStr f, encStr t] w fun e w' => e = .returned (.int .i64 (S.rename f t).1) ∧ Pq X w' P p q D bo R (S.rename f t).2 (N + 2) T M ∧ Keep (Mvs X P D bo) w w' := by
 obtain ⟨Y, hY, h1, h2⟩ := h.one
 refine (rename_ax h1 hN f t hf ht).mono ?_
 rintro e w' ⟨rfl, ha⟩
 exact ⟨rfl, h2 _ _ _ ha⟩
theorem rename_p2 (h : Pq X w P p q D bo R S N T M) (hM : M ≤ 268435456) (f t : By) (hf : f.length ≤ 4611686018427387904) (ht : t.length ≤ 4611686018427387904) : Calls Tryz.prog 59 #[.pointer (some ⟨q, 0, none⟩), encStr f, encStr t] w fun e w' => e = .returned (.int .i64 (T.rename f t).1) ∧ Pq X w' P p q D bo R S N (T.rename f t).2 (M + 2) ∧ Keep (Mvs X P D bo) w w' := by
 have hb := h.tw.bd2
 obtain ⟨A', o', h1, _, h2⟩ := h.two
 obtain ⟨hwf, nv, bv, tv, sv, hx⟩ := h1
 have h1 : RD w q T A' o' := ⟨hwf, _, _, _, _, hx⟩
 refine (rrename_ok hx hwf hb hM f t hf ht).mono ?_
 rintro e w' ⟨rfl, ha⟩
 exact ⟨rfl, h2 _ _ _ ha (hb.rename f t)⟩
theorem remove_p1 (h : Pq X w P p q D bo R S N T M) (hN : N ≤ 268435456) (n : By) (hn : n.length ≤ 4611686018427387904) : Calls Tryz.prog 34 #[.pointer (some ⟨p, 0, none⟩), encStr n] w fun e w' => e = .returned (.int .i64 (S.remove n).1) ∧ Pq X w' P p q D bo R (S.remove n).2 (N + 2) T M ∧ Keep (Mvs X P D bo) w w' := by
 obtain ⟨Y, hY, h1, h2⟩ := h.one
 refine (remove_ax h1 hN n hn).mono ?_
 rintro e w' ⟨rfl, ha⟩
 exact ⟨rfl, h2 _ _ _ ha⟩
theorem remove_p2 (h : Pq X w P p q D bo R S N T M) (hM : M ≤ 268435456) (n : By) (hn : n.length ≤ 4611686018427387904) : Calls Tryz.prog 60 #[.pointer (some ⟨q, 0, none⟩), encStr n] w fun e w' => e = .returned (.int .i64 (T.remove n).1) ∧ Pq X w' P p q D bo R S N (T.remove n).2 (M + 2) ∧ Keep (Mvs X P D bo) w w' := by
 have hb := h.tw.bd2
 obtain ⟨A', o', h1, _, h2⟩ := h.two
 obtain ⟨hwf, nv, bv, tv, sv, hx⟩ := h1
 have h1 : RD w q T A' o' := ⟨hwf, _, _, _, _, hx⟩
 refine (rremove_ok hx hwf hb hM n hn).mono ?_
 rintro e w' ⟨rfl, ha⟩
 exact ⟨rfl, h2 _ _ _ ha (hb.remove n)⟩
theorem sync_p1 (h : Pq X w P p q D bo R S N T M) (hN : N ≤ 268435456) (n : By) (hn : n.length ≤ 4611686018427387904) : Calls Tryz.prog 26 #[.pointer (some ⟨p, 0, none⟩), encStr n] w fun e w' => e = .returned (.int .i64 (S.sync n).1) ∧ Pq X w' P p q D bo R (S.sync n).2 (N + 1) T M ∧ Keep (Mvs X P D bo) w w' := by
 obtain ⟨Y, hY, h1, h2⟩ := h.one
 refine (sync_ax h1 hN n hn).mono ?_
 rintro e w' ⟨rfl, ha⟩
 exact ⟨rfl, h2 _ _ _ ha⟩
theorem sync_p2 (h : Pq X w P p q D bo R S N T M) (hM : M ≤ 268435456) (n : By) (hn : n.length ≤ 4611686018427387904) : Calls Tryz.prog 61 #[.pointer (some ⟨q, 0, none⟩), encStr n] w fun e w' => e = .returned (.int .i64 (T.sync n).1) ∧ Pq X w' P p q D bo R S N (T.sync n).2 (M + 1) ∧ Keep (Mvs X P D bo) w w' := by
 have hb := h.tw.bd2
 obtain ⟨A', o', h1, _, h2⟩ := h.two
 obtain ⟨hwf, nv, bv, tv, sv, hx⟩ := h1
 have h1 : RD w q T A' o' := ⟨hwf, _, _, _, _, hx⟩
 refine (rsync_ok hx hwf hb hM n hn).mono ?_
 rintro e w' ⟨rfl, ha⟩
 exact ⟨rfl, h2 _ _ _ ha (hb.sync h1.wf n)⟩
theorem syncNames_p1 (h : Pq X w P p q D bo R S N T M) (hN : N ≤ 268435456)  : Calls Tryz.prog 27 #[.pointer (some ⟨p, 0, none⟩)] w fun e w' => e = .returned (.int .i64 (S.syncNames).1) ∧ Pq X w' P p q D bo R (S.syncNames).2 (N + 1) T M ∧ Keep (Mvs X P D bo) w w' := by
 obtain ⟨Y, hY, h1, h2⟩ := h.one
 refine (syncNames_ax h1 hN ).mono ?_
 rintro e w' ⟨rfl, ha⟩
 exact ⟨rfl, h2 _ _ _ ha⟩
theorem syncNames_p2 (h : Pq X w P p q D bo R S N T M) (hM : M ≤ 268435456)  : Calls Tryz.prog 62 #[.pointer (some ⟨q, 0, none⟩)] w fun e w' => e = .returned (.int .i64 (T.syncNames).1) ∧ Pq X w' P p q D bo R S N (T.syncNames).2 (M + 1) ∧ Keep (Mvs X P D bo) w w' := by
 have hb := h.tw.bd2
 obtain ⟨A', o', h1, _, h2⟩ := h.two
 obtain ⟨hwf, nv, bv, tv, sv, hx⟩ := h1
 have h1 : RD w q T A' o' := ⟨hwf, _, _, _, _, hx⟩
 refine (rsyncNames_ok hx hwf hb hM ).mono ?_
 rintro e w' ⟨rfl, ha⟩
 exact ⟨rfl, h2 _ _ _ ha (hb.syncNames h1.wf)⟩
theorem plan_p1 (h : Pq X w P p q D bo R S N T M) (a b c : Int) (hp : (Lit.int .i64 a).wf = true ∧ (Lit.int .i64 b).wf = true ∧ (Lit.int .i64 c).wf = true) : Calls Tryz.prog 89 #[.pointer (some ⟨p, 0, none⟩), .agg #[.int .i64 a, .int .i64 b, .int .i64 c]] w fun e w' => e = .returned (.tuple #[]) ∧ Pq X w' P p q D bo R (S.setPlan a b c) N T M ∧ Keep (Mvs X P D bo) w w' := by
 obtain ⟨Y, hY, h1, h2⟩ := h.one
 refine (plan_ax h1 a b c hp).mono ?_
 rintro e w' ⟨rfl, ha⟩
 exact ⟨rfl, h2 _ _ _ ha⟩
theorem plan_p2 (h : Pq X w P p q D bo R S N T M) (a b c : Int) (hp : (Lit.int .i64 a).wf = true ∧ (Lit.int .i64 b).wf = true ∧ (Lit.int .i64 c).wf = true) : Calls Tryz.prog 90 #[.pointer (some ⟨q, 0, none⟩), .agg #[.int .i64 a, .int .i64 b, .int .i64 c]] w fun e w' => e = .returned (.tuple #[]) ∧ Pq X w' P p q D bo R S N (T.setPlan a b c) M ∧ Keep (Mvs X P D bo) w w' := by
 have hb := h.tw.bd2
 obtain ⟨A', o', h1, _, h2⟩ := h.two
 obtain ⟨hwf, nv, bv, tv, sv, hx⟩ := h1
 refine (rplan_ok hx hwf a b c hp).mono ?_
 rintro e w' ⟨rfl, ha⟩
 exact ⟨rfl, h2 _ _ _ ha (hb.setPlan a b c)⟩
theorem look_p1 (h : Pq X w P p q D bo R S N T M)  : Calls Tryz.prog 94 #[.pointer (some ⟨p, 0, none⟩)] w fun e w' => e = .returned (.tuple #[]) ∧ Pq X w' P p q D bo R (S.look) N T M ∧ Keep (Mvs X P D bo) w w' := by
 obtain ⟨Y, hY, h1, h2⟩ := h.one
 refine (look_ax h1 ).mono ?_
 rintro e w' ⟨rfl, ha⟩
 exact ⟨rfl, h2 _ _ _ ha⟩
theorem look_p2 (h : Pq X w P p q D bo R S N T M)  : Calls Tryz.prog 95 #[.pointer (some ⟨q, 0, none⟩)] w fun e w' => e = .returned (.tuple #[]) ∧ Pq X w' P p q D bo R S N (T.look) M ∧ Keep (Mvs X P D bo) w w' := by
 have hb := h.tw.bd2
 obtain ⟨A', o', h1, _, h2⟩ := h.two
 obtain ⟨hwf, nv, bv, tv, sv, hx⟩ := h1
 refine (rlook_ok hx hwf ).mono ?_
 rintro e w' ⟨rfl, ha⟩
 exact ⟨rfl, h2 _ _ _ ha (hb.look)⟩
theorem writeAt_p1 (h : Pq X w P p q D bo R S N T M) (n : By) (hn : n.length ≤ 4611686018427387904) (a : Int) (haw : (Lit.int .i64 a).wf = true) {ao : Option Addr} {m c : Nat} {d : By} (hN : N + m ≤ 268435456) (hl : d.length = m) (hs : Sl w ao d) (h0 : ao = none → m = 0) (hfar : d ≠ [] → ∀ a, ao = some a → X a.block ∨ prB P D bo a.block) : Calls Tryz.prog 52 #[.pointer (some ⟨p, 0, none⟩), encStr n, .int .i64 a, .slice ao m c] w fun e w' => e = .returned (.int .i64 (S.writeAt n a d).1) ∧ Pq X w' P p q D bo R (S.writeAt n a d).2 (N + m + 2) T M ∧ Keep (Mvs X P D bo) w w' := by
 obtain ⟨Y, hY, h1, h2⟩ := h.one
 refine (writeAt_ax h1 (Kept.refl [] w) hN n hn a hl hs h0 (fun hd a ha => .inr (hY _ (hfar hd a ha)))).mono ?_
 rintro e w' ⟨rfl, ha⟩
 exact ⟨rfl, h2 _ _ _ ha⟩
theorem writeAt_p2 (h : Pq X w P p q D bo R S N T M) (n : By) (hn : n.length ≤ 4611686018427387904) (a : Int) (haw : (Lit.int .i64 a).wf = true) {ao : Option Addr} {m c : Nat} {d : By} (hN : M + m ≤ 268435456) (hl : d.length = m) (hs : Sl w ao d) (h0 : ao = none → m = 0 ∧ c = 0) (hfar : d ≠ [] → ∀ a, ao = some a → X a.block ∨ prB P D bo a.block) : Calls Tryz.prog 54 #[.pointer (some ⟨q, 0, none⟩), encStr n, .int .i64 a, .slice ao m c] w fun e w' => e = .returned (.int .i64 (T.writeAt n a d).1) ∧ Pq X w' P p q D bo R S N (T.writeAt n a d).2 (M + m + 2) ∧ Keep (Mvs X P D bo) w w' := by
 have hb := h.tw.bd2
 obtain ⟨A', o', h1, h3, h2⟩ := h.two
 obtain ⟨hwf, nv, bv, tv, sv, hx⟩ := h1
 refine (rwriteAt_ok hx hwf hb n hn a haw ao m c d hN ⟨hl, hs, fun e => (h0 e).1, fun hd a ha => h3 _ (hfar hd a ha)⟩ h0).mono ?_
 rintro e w' ⟨rfl, ha⟩
 exact ⟨rfl, h2 _ _ _ ha (by have := hb.writeAt n a d; rw [hl] at this; exact this)⟩
theorem append_p1 (h : Pq X w P p q D bo R S N T M) (n : By) (hn : n.length ≤ 4611686018427387904) {ao : Option Addr} {m c : Nat} {d : By} (hN : N + m ≤ 268435456) (hl : d.length = m) (hs : Sl w ao d) (h0 : ao = none → m = 0) (hfar : d ≠ [] → ∀ a, ao = some a → X a.block ∨ prB P D bo a.block) : Calls Tryz.prog 25 #[.pointer (some ⟨p, 0, none⟩), encStr n, .slice ao m c] w fun e w' => e = .returned (.int .i64 (S.append n d).1) ∧ Pq X w' P p q D bo R (S.append n d).2 (N + m + 2) T M ∧ Keep (Mvs X P D bo) w w' := by
 obtain ⟨Y, hY, h1, h2⟩ := h.one
 refine (append_ax h1 (Kept.refl [] w) hN n hn hl hs h0 (fun hd a ha => .inr (hY _ (hfar hd a ha)))).mono ?_
 rintro e w' ⟨rfl, ha⟩
 exact ⟨rfl, h2 _ _ _ ha⟩
theorem append_p2 (h : Pq X w P p q D bo R S N T M) (n : By) (hn : n.length ≤ 4611686018427387904) {ao : Option Addr} {m c : Nat} {d : By} (hN : M + m ≤ 268435456) (hl : d.length = m) (hs : Sl w ao d) (h0 : ao = none → m = 0 ∧ c = 0) (hfar : d ≠ [] → ∀ a, ao = some a → X a.block ∨ prB P D bo a.block) : Calls Tryz.prog 56 #[.pointer (some ⟨q, 0, none⟩), encStr n, .slice ao m c] w fun e w' => e = .returned (.int .i64 (T.append n d).1) ∧ Pq X w' P p q D bo R S N (T.append n d).2 (M + m + 2) ∧ Keep (Mvs X P D bo) w w' := by
 have hb := h.tw.bd2
 obtain ⟨A', o', h1, h3, h2⟩ := h.two
 obtain ⟨hwf, nv, bv, tv, sv, hx⟩ := h1
 refine (rappend_ok hx hwf hb n hn ao m c d hN ⟨hl, hs, fun e => (h0 e).1, fun hd a ha => h3 _ (hfar hd a ha)⟩ h0).mono ?_
 rintro e w' ⟨rfl, ha⟩
 exact ⟨rfl, h2 _ _ _ ha (by have := hb.append n d; rw [hl] at this; exact this)⟩
theorem read_p1 (h : Pq X w P p q D bo R S N T M) (hN : N ≤ 268435456) (n : By) (hn : n.length ≤ 4611686018427387904) (a m : Int) : Calls Tryz.prog 29 #[.pointer (some ⟨p, 0, none⟩), encStr n, .int .i64 a, .int .i64 m] w fun e w' => ∃ v, e = .returned (.tuple #[v, .int .i64 (S.readOk n a m)]) ∧ Pq (fun b => X b ∨ v.ownBlock = some b) w' P p q D bo R (S.read n a m) (N + 1) T M ∧ Keep (Mvs X P D bo) w w' ∧ OwnB w' v (S.readBytes n a m).length (S.readBytes n a m) := by
 obtain ⟨A, o, A2, o2, h1, h2, h3, h4, h5, h6⟩ := h.tw
 refine (read_ok h1 h5 hN n hn a m).mono ?_
 rintro e w' ⟨v, rfl, A', o', g1, g2, g3, g4, g5⟩
 have hk : Keep (Mvs X P D bo) w w' := g3.mono (fun b hm _ hx => hm (h4 b hx).1)
 refine ⟨v, rfl, h.stepY ⟨A', o', A2, o2, g1, h2.keep g3 (fun b hb hm => hb (h3 b hm)), fun b hb => Classical.byContradiction fun hn => ?_, fun b hb => ?_, h5.read n a m, h6⟩ hk (fun b hb => ?_), hk, g4⟩
 ·exact g2 b (h2.lim b hn) hb (Classical.byContradiction fun h8 => hn (h3 b h8))
 ·have old : X b ∨ prB P D bo b → o' b = 0 ∧ o2 b = 0 ∧ b < w'.heap.size := fun hx => ⟨Classical.byContradiction fun hn => g2 b (h4 b hx).2.2 hn (h4 b hx).1, (h4 b hx).2.1, Nat.lt_of_lt_of_le (h4 b hx).2.2 g3.size⟩
  rcases hb with (hb | hb) | hb
  ·exact old (.inl hb)
  ·exact ⟨(g5 b hb).2, Classical.byContradiction fun hn => by have := h2.lim b hn; have := (g5 b hb).1; omega, g4.lt hb⟩
  ·exact old (.inr hb)
 ·rcases hb with hb | hb
  ·exact h.far b hb
  ·intro hp
   have := (h4 b (.inr hp)).2.2
   have := (g5 b hb).1
   omega
theorem read_p2 (h : Pq X w P p q D bo R S N T M) (hM : M ≤ 268435456) (n : By) (hn : n.length ≤ 4611686018427387904) (a m : Int) (ha : (Lit.int .i64 a).wf = true) (hm : (Lit.int .i64 m).wf = true) : Calls Tryz.prog 86 #[.pointer (some ⟨q, 0, none⟩), encStr n, .int .i64 a, .int .i64 m] w fun e w' => ∃ v, e = .returned (.tuple #[v, .int .i64 (T.readOk n a m)]) ∧ Pq X w' P p q D bo R S N (T.read n a m) (M + 1) ∧ Keep (Mvs X P D bo) w w' ∧ OwnB w' v (T.readBytes n a m).length (T.readBytes n a m) ∧ (∀ g, v.ownBlock = some g → w.heap.size ≤ g) := by
 have hb := h.tw.bd2
 obtain ⟨A', o', h1, _, h2⟩ := h.two
 obtain ⟨hwf, nv, bv, tv, sv, hx⟩ := h1
 refine (rread_ok hx hwf hb hM n hn a m ha hm).mono ?_
 rintro e w' ⟨v, rfl, g1, g2, g3⟩
 exact ⟨v, rfl, (h2 _ _ _ g1 (hb.read n a m)).1, (h2 _ _ _ g1 (hb.read n a m)).2, g2, g3⟩
theorem size_p1 (h : Pq X w P p q D bo R S N T M) (n : By) (hn : n.length ≤ 4611686018427387904) : Calls Tryz.prog 87 #[.pointer (some ⟨p, 0, none⟩), encStr n] w fun e w' => e = .returned (.tuple #[.int .i64 (S.size n), .int .i64 (S.find n).1]) ∧ w' = w := by
 obtain ⟨Y, hY, h1, h2⟩ := h.one
 exact size_ax h1 n hn
theorem size_p2 (h : Pq X w P p q D bo R S N T M) (hM : M ≤ 268435456) (n : By) (hn : n.length ≤ 4611686018427387904) : Calls Tryz.prog 88 #[.pointer (some ⟨q, 0, none⟩), encStr n] w fun e w' => e = .returned (.tuple #[.int .i64 (T.size n), .int .i64 (T.find n).1]) ∧ w' = w := by
 have hb := h.tw.bd2
 obtain ⟨A', o', h1, _, h2⟩ := h.two
 obtain ⟨hwf, nv, bv, tv, sv, hx⟩ := h1
 exact rsize_ok hx hwf (by have := hb.shown hwf; omega) n hn
theorem crash_p1 (h : Pq X w P p q D bo R S N T M) (hN : N ≤ 268435456) {ao : Option Addr} {n c : Nat} {ps : List Int} (hl : ps.length = n) (hr : Ints w ao ps) (hwf : ∀ i, (Lit.int .i64 (ps.getD i 0)).wf = true) (hn : n ≤ 17592186044416) (hfar : ps ≠ [] → ∀ a, ao = some a → X a.block ∨ prB P D bo a.block) : Calls Tryz.prog 32 #[.pointer (some ⟨p, 0, none⟩), .slice ao n c] w fun e w' => e = .returned (.tuple #[]) ∧ Pq X w' P p q D bo R (S.crash ps) N T M ∧ Keep (Mvs X P D bo) w w' := by
 obtain ⟨Y, hY, h1, h2⟩ := h.one
 refine (crash_ax h1 (Kept.refl [] w) hN hl hr hwf hn (fun hd a ha => .inr (hY _ (hfar hd a ha)))).mono ?_
 rintro e w' ⟨rfl, ha⟩
 exact ⟨rfl, h2 _ _ _ ha⟩
theorem crash_p2 (h : Pq X w P p q D bo R S N T M) (hM : M ≤ 268435456) {ao : Option Addr} {n c : Nat} {ps : List Int} (hl : ps.length = n) (hr : Ints w ao ps) (hw : ∀ x ∈ ps, (Lit.int .i64 x).wf = true) (hn : n ≤ 17592186044416) : Calls Tryz.prog 92 #[.pointer (some ⟨q, 0, none⟩), .slice ao n c] w fun e w' => e = .returned (.tuple #[]) ∧ Pq X w' P p q D bo R S N (T.crash ps) M ∧ Keep (Mvs X P D bo) w w' := by
 have hb := h.tw.bd2
 obtain ⟨A', o', h1, _, h2⟩ := h.two
 obtain ⟨hwf, nv, bv, tv, sv, hx⟩ := h1
 refine (rcrash_ok hx hwf hb hM ao n c ps hl hn hr hw).mono ?_
 rintro e w' ⟨rfl, ha⟩
 exact ⟨rfl, h2 _ _ _ ha (hb.crash hwf ps)⟩
theorem lay_p (h : Pq X w P p q D bo R S N T M) {ao : Option Addr} {n c : Nat} {d : By} (hl : d.length = n) (hs : Sl w ao d) (hfar : d ≠ [] → ∀ a, ao = some a → X a.block) (hn : n ≤ 200000) : Calls Tryz.prog 53 #[.pointer (some ⟨D, 0, none⟩), .slice ao n c] w fun e w' => ∃ g m, e = .returned (.slice (some ⟨g, 0, none⟩) n m) ∧ Pq X w' P p q D (some g) (laid d m) S N T M ∧ n + 5 ≤ m ∧ Keep (fun b => ¬ (X b ∨ b = P)) w w' := by
 refine (lay_any D bo ao n c d R w h.dk hl hs (fun hd a ha hm => ?_) hn).mono ?_
 ·simp only [dkfp, List.mem_cons, Option.mem_toList, Option.mem_def] at hm
  exact h.far _ (hfar hd a ha) (.inr hm)
 rintro e w' ⟨g, m, rfl, hd, hm, hk, hg, h1⟩
 obtain ⟨v0, hv0⟩ := h.dp
 refine ⟨g, m, rfl, h.lay hk hd hg ⟨v0, h1.1 _ hv0⟩ ((h1.2 h.dk.lt).trans h.df), hm, (Keep.ofKept hk).mono (fun b hb _ hx => ?_)⟩
 simp only [dkfp, List.mem_cons, Option.mem_toList, Option.mem_def] at hb
 rcases hx with hx | hx
 ·exact h.far b hx (.inr hb)
 ·subst hx
  rcases hb with hb | hb
  ·exact h.pD hb
  ·exact h.pb hb
end
end

end Go.Proofs.YteckiednnaianaaGreat
