import Derived.Test.YtodihkdmneihiaaGreatDoorRel3p
namespace Go.Proofs.YtodihkdmneihiaaGreatDoor
section
open Go.RowKit Dsk
set_option linter.unusedVariables false
set_option linter.unusedSimpArgs false
theorem find0 {S : Ds} (hwf : S.Wf) {n : By} (h0 : (S.find n).1 = 0) : ∃ i, S.shown[i]? = some (n, (S.find n).2) ∧ i < S.shown.length ∧ thereI S n = i ∧ (S.find n).2 ∈ S.lives ∧ S.on = true ∧ (S.find n).2 < S.nx := by
 obtain ⟨h1, h2, h3, h4⟩ := Ds.find_ok hwf h0
 obtain ⟨i, hi, hp, hf⟩ := fix_get_some hwf.sup ((Nm.get_some hwf.sup).2 h3)
 exact ⟨i, hp, hi, by unfold thereI; rw [if_pos h0, hf], Ds.shown_lives hwf h3, h1, h4⟩
section
variable {w : World} {q : Nat} {S : Ds} {A : Nat → Nat} {o : Lab} {nv bv tv sv : Value}
theorem tick_fin (hwf : S.Wf) (hq : o q = 1) {v w2 : World} {a1 a2 a3 a4 : Value} (hk2 : Keep (· = q) w w2) (hv : RDx v q { (Ds.cnt S) with on := (Ds.cnt S).on && !S.goesOff } A o a1 a2 a3 a4) (hkv : Keep (· = q) w2 v) : RAft w v q S.tick o :=
 ⟨A, o, ⟨hwf.tick, a1, a2, a3, a4, hv⟩, fun _ _ h => h, (hk2.trans hkv (fun _ h _ => h)).mono (fun i e _ => by show o i ≠ 0; rw [show i = q from e, hq]; decide)⟩
set_option maxHeartbeats 3200000 in
set_option maxRecDepth 100000 in
theorem rsync_ok (h : RDx w q S A o nv bv tv sv) (hwf : S.Wf) {N : Nat} (hB : S.Bd N) (hN : N ≤ 268435456) (n : By) (hn : n.length ≤ 4611686018427387904) :
  Calls Tryz.prog 34 #[.pointer (some ⟨q, 0, none⟩), encStr n] w fun e w' => e = .returned (.int .i64 (S.sync n).1) ∧ RAft w w' q (S.sync n).2 o := by
 have hth := there_ok h hwf.sup (by have := hB.shown hwf; omega) n hn
 by_cases h0 : (S.find n).1 = 0
 ·have hst := rstroke_ok h (by have := hB.strokes; omega) (by have := hB.planned; omega)
  obtain ⟨i, hp, hi, hti, hlv, hon, hnx⟩ := find0 hwf h0
  rw [h0, hti] at hth
  have hlq := h.lq
  cases hgo : S.goesOff with
  | true =>
   have HC : Hid (S.sync n = (S.ans 0, S.tick)) := hide (by simp [Ds.sync, h0, hgo, Ds.ans])
   have HFIN : Hid (∀ v w2 a1 a2 a3 a4, Keep (· = q) w w2 → RDx v q { (Ds.cnt S) with on := (Ds.cnt S).on && !true } A o a1 a2 a3 a4 → Keep (· = q) w2 v → RAft w v q S.tick o) := hide (fun v w2 a1 a2 a3 a4 h1 h2 h3 => tick_fin hwf hlq h1 (by rw [hgo]; exact h2) h3)
   have HGO : Hid (S.ans 0 = 50) := hide (by simp [Ds.ans, hgo])
   rw [hgo] at hst
   clear h hB h0 hlq hgo hti hp
   go_enter Tryz.func34, Tryz.ntmps34
   go_wp2_with (first
    | (go_at_call 76; refine hth.mono ?_; rintro e w' ⟨rfl, hw⟩; obtain rfl := hw.symm; clear hth)
    | (go_at_call 72; refine hst.mono ?_; rintro e w2 ⟨rfl, hR2, hK2⟩; have hen := fun b x => rend_ok hR2 b x; have HK2 := hide hK2; clear hst hR2 hK2)
    | (go_at_call 73; refine (hen _ _).mono ?_; rintro e w8 ⟨rfl, hR8, hK8⟩; have H8 := hide (HFIN.out w8 _ _ _ _ _ HK2.out hR8 hK8); clear hR8 hK8 hen))
   go_ret
   exact ⟨by rw [HC.out]; show _ = Ending.returned (Value.int _ (S.ans 0)); rw [HGO.out]; rfl, by rw [HC.out]; exact H8.out⟩
  | false =>
   have hsy : S.sync n = (0, { S.tick with th := upd S.th (S.find n).2 (S.th (S.find n).2).sync }) := by simp [Ds.sync, h0, hgo]
   have hwfE : ({ S.tick with th := upd S.th (S.find n).2 (S.th (S.find n).2).sync } : Ds).Wf := by have := hwf.sync n; rw [hsy] at this; exact this
   have HC := hide hsy
   have hlen : (S.th (S.find n).2).shown.length ≤ 268435456 := by have := hB.len hwf hnx; omega
   rw [hgo] at hst
   generalize (S.find n).2 = k at *
   obtain ⟨m, hm⟩ : ∃ m, S.shown.length = m := ⟨_, rfl⟩
   obtain ⟨no, nc, hnv⟩ := h.nvs
   rw [hm] at hnv hi
   subst hnv
   have HP := hide hp
   have HM := hide hm
   have HLQ := hide hlq
   have HGO := hide hgo
   have HLV := hide hlv
   have HPRE : Hid (∀ w2, RDx w2 q (Ds.cnt S) A o (.slice no m nc) bv tv sv → ∃ g, no = some ⟨g, 0, none⟩ ∧ w2.cell? ⟨q, 2, none⟩ = some (.slice no m nc) ∧ w2.cell? ⟨g, i * 2 + 1, none⟩ = some (.pointer (some ⟨A k, 0, none⟩))) := hide (fun w2 hR => by
    obtain ⟨g, e, _, c⟩ := nms_cell (n := m) (l := S.shown) (A := A) (w := w2) (vo := no) (vc := nc) (by have := hR.now; exact this) HP.out
    exact ⟨g, e, hR.cell 2 _ rfl, c⟩)
   clear h hB h0 hlq hgo hti hp hsy hm
   go_enter Tryz.func34, Tryz.ntmps34
   go_upto_region 6 with (first
    | (go_at_call 76; refine hth.mono ?_; rintro e w' ⟨rfl, hw⟩; obtain rfl := hw.symm; clear hth)
    | (go_at_call 72; refine hst.mono ?_; rintro e w2 ⟨rfl, hR2, hK2⟩; have HR2 := hide hR2; have HK2 := hide hK2; clear hst hR2 hK2))
   obtain ⟨g, rfl, c2, cp⟩ := HPRE.out w2 HR2.out
   obtain ⟨so, sc, ho, hc, hs1, hs2, cs, ch, hlb, hlt⟩ := HR2.out.thShape HLV.out
   have hcp := copiedB_ok _ _ _ w2 hs2 (by show (S.th k).shown.length ≤ _; omega)
   have HPOST : Hid (∀ g' c' w3, w3.ownsRow 0 5 1 (.slice (some ⟨g', 0, none⟩) ((Ds.cnt S).th k).shown.length c') ((Ds.cnt S).th k).shown.length (bys ((Ds.cnt S).th k).shown) → Kept [] w2 w3 → w2.heap.size ≤ g' → _) := hide (fun g' c' w3 hr hk hg => RDx.thSafe HR2.out HLV.out (w1 := w3) (v := .slice (some ⟨g', 0, none⟩) ((Ds.cnt S).th k).shown.length c') (xs := ((Ds.cnt S).th k).shown) ⟨hr, fun g2 e => by simp only [Value.ownBlock] at e; injection e with e; rw [← e]; exact hg, hk⟩)
   have HFIN : Hid (∀ v w5 o5 a1 a2 a3 a4, RDx v q { ({ Ds.cnt S with th := upd (Ds.cnt S).th k ⟨((Ds.cnt S).th k).shown, [], ((Ds.cnt S).th k).shown⟩ } : Ds) with on := (Ds.cnt S).on && !false } A o5 a1 a2 a3 a4 → (∀ b, b < w2.heap.size → o5 b = o b) → Keep (· = A k) w2 w5 → Keep (· = q) w5 v → RAft w v q { S.tick with th := upd S.th k (S.th k).sync } o) := hide (fun v w5 o5 a1 a2 a3 a4 hv ho5 hk5 hkv => by
    refine ⟨A, o5, ⟨hwfE, a1, a2, a3, a4, ?_⟩, fun b hb hn => ?_, ?_⟩
    ·have e : ({ ({ Ds.cnt S with th := upd (Ds.cnt S).th k ⟨((Ds.cnt S).th k).shown, [], ((Ds.cnt S).th k).shown⟩ } : Ds) with on := (Ds.cnt S).on && !false } : Ds) = { S.tick with th := upd S.th k (S.th k).sync } := by
      simp only [Ds.tick, HGO.out]
      rfl
     rw [← e]
     exact hv
    ·rw [ho5 b (Nat.lt_of_lt_of_le hb HK2.out.size)] at hn; exact hn
    ·have k1 := HK2.out.mono (G := o.mine) (fun i e _ => by show o i ≠ 0; rw [show i = q from e, HLQ.out]; decide)
     have k2 := k1.trans hk5 (fun i e _ => by show o i ≠ 0; rw [show i = A k from e, hlb]; omega)
     exact k2.trans hkv (fun i e _ => by show o i ≠ 0; rw [show i = q from e, HLQ.out]; decide))
   clear hs1 hs2 HPRE
   have hz : ((Ds.cnt S).th k).shown.length = (S.th k).shown.length := rfl
   generalize ((Ds.cnt S).th k).shown.length = z at hcp HPOST ch hz
   clear hz
   go_upto_region 9 with (go_at_call 82; refine hcp.mono ?_; rintro e w3 ⟨g', c', rfl, hr, hk3, hg3⟩; have HP3 := hide (HPOST.out g' c' w3 hr hk3 hg3); have hk3' := hk3; obtain ⟨_, _, ⟨_, d0⟩, f0, ⟨_, d2⟩, f2⟩ := HP3.out; clear hcp HPOST hr hk3 hg3 cs ch cp c2)
   obtain ⟨hR5, hK5, _⟩ := HP3.out
   clear HP3 d0 f0 d2 f2
   have HO5 : Hid (∀ b, b < w2.heap.size → o.ext w2 w3 (k + 2) b = o b) := hide (fun b hb => Lab.ext_old hb)
   generalize o.ext w2 w3 (k + 2) = o5 at hR5 HO5
   generalize World.setCell _ _ _ = w5 at hR5 hK5 ⊢
   have hen := fun b x => rend_ok hR5 b x
   have HK5 := hide hK5
   clear hR5 hK5
   go_wp2_with (go_at_call 73; refine (hen _ _).mono ?_; rintro e w8 ⟨rfl, hR8, hK8⟩; have H8 := hide (HFIN.out w8 _ _ _ _ _ _ hR8 HO5.out HK5.out hK8); clear hR8 hK8 hen)
   go_ret
   exact ⟨by rw [HC.out]; rfl, by rw [HC.out]; exact H8.out⟩
 ·have HC : Hid (S.sync n = ((S.find n).1, S)) := hide (by simp [Ds.sync, h0])
  have HA := hide (RAft.of ⟨hwf, _, _, _, _, h⟩ (Keep.refl _ w))
  generalize (S.find n).1 = E at hth h0 HC
  generalize thereI S n = I at hth
  have e0 : (E == 0) = false := by simpa using h0
  have e1 : (E != 0) = true := by simpa using h0
  clear h hB h0
  go_enter Tryz.func34, Tryz.ntmps34
  go_wp2_with (go_at_call 76; refine hth.mono ?_; rintro e w' ⟨rfl, hw⟩; obtain rfl := hw.symm; clear hth)
  go_ret
  exact ⟨by rw [HC.out]; rfl, by rw [HC.out]; exact HA.out⟩
end
end

section
open Go.RowKit Dsk
set_option linter.unusedVariables false
set_option linter.unusedSimpArgs false
section
variable {w : World} {q : Nat} {S : Ds} {A : Nat → Nat} {o : Lab} {nv bv tv sv : Value}
set_option maxHeartbeats 3200000 in
set_option maxRecDepth 100000 in
theorem rtruncate_ok (h : RDx w q S A o nv bv tv sv) (hwf : S.Wf) {N : Nat} (hB : S.Bd N) (hN : N ≤ 268435456) (n : By) (hn : n.length ≤ 4611686018427387904) (x : Int) :
  Calls Tryz.prog 28 #[.pointer (some ⟨q, 0, none⟩), encStr n, .int .i64 x] w fun e w' => e = .returned (.int .i64 (S.truncate n x).1) ∧ RAft w w' q (S.truncate n x).2 o := by
 have hth := there_ok h hwf.sup (by have := hB.shown hwf; omega) n hn
 by_cases h0 : (S.find n).1 = 0
 ·obtain ⟨i, hp, hi, hti, hlv, hon, hnx⟩ := find0 hwf h0
  rw [h0, hti] at hth
  have hlq := h.lq
  have HTR := hide (show S.truncate n x = if x < 0 ∨ (S.th (S.find n).2).shown.length < x then (54, S) else (S.ans 0, S.tick.addByte (S.find n).2 (.cut x.toNat)) by simp [Ds.truncate, h0])
  have hwfT := hwf.truncate n x
  rw [HTR.out] at hwfT
  have hlenN := hB.len hwf hnx
  have hrl : (S.th (S.find n).2).row.length ≤ 536870912 := by have := hB.th _ hnx; omega
  generalize (S.find n).2 = k at *
  obtain ⟨z, hz⟩ : ∃ z, (S.th k).shown.length = z := ⟨_, rfl⟩
  have HZ := hide hz
  obtain ⟨mm, hm⟩ : ∃ m, S.shown.length = m := ⟨_, rfl⟩
  obtain ⟨no, nc, hnv⟩ := h.nvs
  rw [hm] at hnv hi
  subst hnv
  have HP := hide hp
  have HLQ := hide hlq
  have HLV : Hid (k ∈ (Ds.cnt S).lives) := hide hlv
  obtain ⟨gn, hgn, _, cpn⟩ := nms_cell (n := mm) (l := S.shown) (A := A) (w := w) (vo := no) (vc := nc) h.now hp
  subst hgn
  have c2 := h.cell 2 _ rfl
  obtain ⟨so0, sc0, ho0, hc0, _, _, _, ch0, _, _⟩ := h.thShape hlv
  rw [hz] at ch0
  have HA := hide (RAft.of ⟨hwf, _, _, _, _, h⟩ (Keep.refl _ w))
  by_cases hbad : x < 0 ∨ (z : Int) < x
  ·have HC : Hid (S.truncate n x = (54, S)) := hide (by rw [HTR.out, hz, if_pos hbad])
   clear h hB h0 hlq hti hp hwfT HTR hz hm hlv
   rcases hbad with hb1 | hb1
   ·go_enter Tryz.func28, Tryz.ntmps28
    go_wp2_with (go_at_call 76; refine hth.mono ?_; rintro e w' ⟨rfl, hw⟩; obtain rfl := hw.symm; clear hth)
    go_ret
    exact ⟨by rw [HC.out]; rfl, by rw [HC.out]; exact HA.out⟩
   ·have hb0 : ¬ x < 0 := by omega
    go_enter Tryz.func28, Tryz.ntmps28
    go_wp2_with (go_at_call 76; refine hth.mono ?_; rintro e w' ⟨rfl, hw⟩; obtain rfl := hw.symm; clear hth)
    go_ret
    exact ⟨by rw [HC.out]; rfl, by rw [HC.out]; exact HA.out⟩
  ·have hst := rstroke_ok h (by have := hB.strokes; omega) (by have := hB.planned; omega)
   rw [hz, if_neg hbad] at hwfT
   have HC : Hid (S.truncate n x = (S.ans 0, S.tick.addByte k (.cut x.toNat))) := hide (by rw [HTR.out, hz, if_neg hbad])
   obtain ⟨a, ha⟩ : ∃ a : Nat, (a : Int) = x := ⟨x.toNat, by omega⟩
   have hat : x.toNat = a := by omega
   rw [hat] at HC hwfT
   have hwfE := hwfT
   subst ha
   have haz : a ≤ z := by omega
   have hzl : z ≤ 268435456 := by omega
   have hb0 : ¬ (a : Int) < 0 := by omega
   have hb1 : ¬ (z : Int) < (a : Int) := by omega
   have HOO : Hid (∀ b, b < w.heap.size → o b ≠ 0 → o b ≠ 0) := hide (fun _ _ h => h)
   clear h hB h0 hlq hti hp HTR hz hm hwfT hlv hbad HA hat hlenN
   go_enter Tryz.func28, Tryz.ntmps28
   go_upto_region 9 with (first
    | (go_at_call 76; refine hth.mono ?_; rintro e w' ⟨rfl, hw⟩; obtain rfl := hw.symm; clear hth)
    | (go_at_call 72; refine hst.mono ?_; rintro e w3 ⟨rfl, hR2, hK2⟩; have HR3 := hide hR2; have HKW := hide (hK2.mono (G := o.mine) (fun i e _ => by show o i ≠ 0; rw [show i = q from e, HLQ.out]; decide)); clear hst hR2 hK2 c2 cpn ch0))
   obtain ⟨o3, ho3⟩ : ∃ o3, o3 = o := ⟨_, rfl⟩
   rw [← ho3] at HR3
   have HOO : Hid (∀ b, b < w.heap.size → o3 b ≠ 0 → o b ≠ 0) := hide (fun _ _ h => by rw [ho3] at h; exact h)
   clear ho3
   obtain ⟨w4, hw4⟩ : ∃ w4, w4 = w3.alloc (.cells #[.bool true, .int .i64 a, .slice none 0 0] 144) := ⟨_, rfl⟩
   have hk4 : Kept [] w3 w4 := by rw [hw4]; exact (Kept.refl [] w3).alloc _
   have hb4 : w4.heap[w3.heap.size]? = some (.cells #[.bool true, .int .i64 a, .slice none 0 0] 144 (0, 0)) := by rw [hw4]; exact (MapKept.heap_alloc w3 _).1
   have oX : o3 w3.heap.size = 0 := Classical.byContradiction fun hn => by have := HR3.out.lim _ hn; omega
   have hXl : w3.heap.size < w4.heap.size := by rw [hw4]; simp
   rw [← hw4]
   clear hw4
   generalize w3.heap.size = X at hb4 oX hXl ⊢
   have x0 : w4.cell? ⟨X, 0, none⟩ = some (.bool true) := by rw [cell_of_row w4 _ 0 _ _ _ hb4]; rfl
   have x1 : w4.cell? ⟨X, 1, none⟩ = some (.int .i64 a) := by rw [cell_of_row w4 _ 1 _ _ _ hb4]; rfl
   have x2 : w4.cell? ⟨X, 2, none⟩ = some (.slice none 0 0) := by rw [cell_of_row w4 _ 2 _ _ _ hb4]; rfl
   have HX4 := hide hb4
   have hR4 := (HR3.out.kept hk4).kept ((Kept.refl [] w4).drew)
   obtain ⟨so, sc, ho, hc, hs1, hs2, cs, ch, hlb, hlt⟩ := hR4.thShape HLV.out
   have hs2' : OwnB w4.drew (.slice ho z hc) z (S.th k).shown := by have := hs2; rw [show ((Ds.cnt S).th k).shown.length = z from HZ.out] at this; exact this
   rw [show ((Ds.cnt S).th k).shown.length = z from HZ.out] at ch
   have hcg := changeCut_ok ho z hc a 1 (S.th k).shown w4.drew hs2' haz (by omega) (by omega) (by omega) (.slice none 0 0)
   have HR4 := hide hR4
   have HLB := hide hlb
   have HK4 : Hid (Keep o.mine w w4) := hide (HKW.out.kept hk4)
   clear hb4 hR4 hs1 hs2 hs2' cs
   refine wp_region_late (fun w' => Kept [] w4 w') (fun i => i == 6 || i == 9) (by kernel_rfl) ?_
   have h0 : Kept [] w4 w4.drew := (Kept.refl [] w4).drew
   generalize World.drew w4 = v0 at h0 hcg HR4 ⊢
   refine wpAnyL_free (i := 0) (v := .pointer (some ⟨A k, 0, none⟩)) rfl (by kernel_rfl) (by kernel_rfl) (by kernel_rfl) (fun _ _ _ h => h) (Or.inl ⟨by rfl, fun w _ => by go_simp⟩) ?_
   try simp only [z1, z2, z3, z4, z5, z6, z7, z8]
   refine wpAnyL_free (i := 1) (v := .pointer (some ⟨A k, 0, none⟩)) rfl (by kernel_rfl) (by kernel_rfl) (by kernel_rfl) (fun _ _ _ h => h) (Or.inl ⟨by rfl, fun w _ => by go_simp⟩) ?_
   try simp only [z1, z2, z3, z4, z5, z6, z7, z8]
   refine wpAnyL_free (i := 2) (v := .pointer (some ⟨A k, 0, none⟩)) rfl (by kernel_rfl) (by kernel_rfl) (by kernel_rfl) (fun _ _ _ h => h) (Or.inl ⟨by rfl, fun w _ => by go_simp⟩) ?_
   try simp only [z1, z2, z3, z4, z5, z6, z7, z8]
   refine wpAnyL_free (i := 3) (v := .pointer (some ⟨A k, 1, none⟩)) rfl (by kernel_rfl) (by kernel_rfl) (by kernel_rfl) (fun _ _ _ h => h) (Or.inl ⟨by rfl, fun w _ => by go_simp⟩) ?_
   try simp only [z1, z2, z3, z4, z5, z6, z7, z8]
   refine wpAnyL_take (i := 4) (v := .slice ho z hc) rfl (by kernel_rfl) (by kernel_rfl) (by kernel_rfl) (by kernel_rfl) (by kernel_rfl) (fun _ _ _ h => h) (Or.inl ⟨by rfl, fun w hSw => by have q0 := Kept.cellOf hSw ch (by simp); go_simp⟩) h0 ?_
   try simp only [z1, z2, z3, z4, z5, z6, z7, z8]
   refine wpAnyL_take (i := 5) (v := .agg #[.bool true, .int .i64 a, .slice none 0 0]) rfl (by kernel_rfl) (by kernel_rfl) (by kernel_rfl) (by kernel_rfl) (by kernel_rfl) (fun _ _ _ h => h) (Or.inl ⟨by rfl, fun w hSw => by have q0 := Kept.cellOf hSw x0 (by simp); have q1 := Kept.cellOf hSw x1 (by simp); have q2 := Kept.cellOf hSw x2 (by simp); go_simp⟩) h0 ?_
   try simp only [z1, z2, z3, z4, z5, z6, z7, z8]
   refine wpAnyL_one (i := 6) (by kernel_rfl) rfl (fun K hK => ?_)
   rw [if_pos (by rfl)]
   go_simp
   refine hcg.mono ?_
   rintro e w5 ⟨v5, rfl, hB5⟩
   obtain ⟨vo5, vc5, e5, _⟩ := own_shape hB5.row
   subst e5
   have HB5 := hide hB5
   obtain ⟨_, _, ⟨_, y1⟩, f1⟩ := HR4.out.thShown HLV.out hB5
   clear hcg hB5 x0 x1 x2 ch
   refine hK.out _ _ (fun _ h => by cases h) ?_
   clear hK K
   try simp only [z1, z2, z3, z4, z5, z6, z7, z8]
   refine wpAnyL_free (i := 7) (v := .pointer (some ⟨A k, 0, none⟩)) rfl (by kernel_rfl) (by kernel_rfl) (by kernel_rfl) (fun _ _ _ h => h) (Or.inl ⟨by rfl, fun w _ => by go_simp⟩) ?_
   try simp only [z1, z2, z3, z4, z5, z6, z7, z8]
   refine wpAnyL_free (i := 8) (v := .pointer (some ⟨A k, 1, none⟩)) rfl (by kernel_rfl) (by kernel_rfl) (by kernel_rfl) (fun _ _ _ h => h) (Or.inl ⟨by rfl, fun w _ => by go_simp⟩) ?_
   try simp only [z1, z2, z3, z4, z5, z6, z7, z8]
   refine wpAnyL_one (i := 9) (by kernel_rfl) rfl (fun K hK => ?_)
   rw [if_pos (by rfl)]
   go_simp
   refine hK.out _ _ (fun _ h => by cases h) ?_
   clear hK K
   try simp only [z1, z2, z3, z4, z5, z6, z7, z8]
   refine wpAnyL_done (by kernel_rfl) ?_ _
   go_upto_region 10 with (fail)
   obtain ⟨hR6, hK6, _, _⟩ := HR4.out.thShown HLV.out HB5.out
   clear y1 f1
   have hsz : X < v0.heap.size := Nat.lt_of_lt_of_le hXl h0.size
   have hXA : ¬ X = A k := fun e => by rw [e, HLB.out] at oX; omega
   have b6 := hK6.heapOf ((Keep.ofNone (F := fun _ => False) h0).heapOf HX4.out (fun h => h)) hXA
   have HDV : Hid (ChD (w5.setCell ⟨A k, 1, none⟩ (.slice vo5 ((Ch.cut a).apply (S.th k).shown 1).length vc5)) (.cut a, .slice none 0 0) ∧ (∀ g, (.slice none 0 0 : Value).ownBlock = some g → o3.ext v0 w5 (k + 2) g = k + 2)) := hide (by
    refine ⟨OwnB.nil _, by simp [Value.ownBlock]⟩)
   generalize w5.setCell _ _ = w6 at hR6 hK6 b6 HDV ⊢
   obtain ⟨o5, ho5⟩ : ∃ o5, o5 = o3.ext v0 w5 (k + 2) := ⟨_, rfl⟩
   have HE5 : Hid (∀ b, b < v0.heap.size → o5 b = o3 b) := hide (fun b hb => by rw [ho5]; exact Lab.ext_old hb)
   rw [← ho5] at hR6 HDV
   clear ho5 hk4
   have hR6d := hR6.kept ((Kept.refl [] w6).drew)
   obtain ⟨ro, nr, rc, r4, g7, c7, w7, hap, y2, f2, hR7, hK7⟩ := hR6d.thRow (k := k) HLV.out (by show (upd (Ds.cnt S).th k _ k).row.length ≤ _; rw [upd_same]; exact hrl) (.cut a) (.slice none 0 0) (HDV.out.1.keep ((Keep.refl (fun _ => False) w6).drew) (fun _ _ h => h)) HDV.out.2 rfl
   dsimp only at hR7
   rw [upd_same, upd_upd] at hR7
   have d0 := cell_of_row w6 _ 0 _ _ _ b6
   have d1 := cell_of_row w6 _ 1 _ _ _ b6
   have d2 := cell_of_row w6 _ 2 _ _ _ b6
   simp only [List.getElem?_toArray, List.getElem?_cons_zero, List.getElem?_cons_succ] at d0 d1 d2
   have hen := fun b x => rend_ok hR7 b x
   have HFIN : Hid (∀ v a1 a2 a3 a4, RDx v q { ({ Ds.cnt S with th := upd (Ds.cnt S).th k ⟨((Ds.cnt S).th k).safe, ((Ds.cnt S).th k).row ++ [.cut a], ((Ch.cut a).apply (S.th k).shown 1)⟩ } : Ds) with on := (Ds.cnt S).on && !S.goesOff } A (o5.ext w6.drew w7 (k + 2)) a1 a2 a3 a4 → Keep (· = q) (w7.setCell ⟨A k, 2, none⟩ (.slice (some ⟨g7, 0, none⟩) (nr + 1) c7)) v → RAft w v q (S.tick.addByte k (.cut a)) o) := hide (fun v a1 a2 a3 a4 hv hkv => by
    refine ⟨A, o5.ext w6.drew w7 (k + 2), ⟨hwfE, a1, a2, a3, a4, hv⟩, fun b hb hn => ?_, ?_⟩
    ·have hb4 : b < v0.heap.size := Nat.lt_of_lt_of_le (Nat.lt_of_lt_of_le hb HK4.out.size) h0.size
     have hb6 : b < w6.drew.heap.size := Nat.lt_of_lt_of_le hb4 hK6.size
     have h1 := ext_le hb6 hn
     rw [HE5.out b hb4] at h1
     exact HOO.out b hb h1
    ·have k1 := (HK4.out.kept h0).trans hK6 (fun i e hi => by
      show o i ≠ 0
      exact HOO.out i hi (by rw [show i = A k from e, HLB.out]; omega))
     have k2 := k1.drew.trans hK7 (fun i e hi => by
      show o i ≠ 0
      have hi4 : i < v0.heap.size := Nat.lt_of_lt_of_le (Nat.lt_of_lt_of_le hi HK4.out.size) h0.size
      exact HOO.out i hi (by rw [← HE5.out i hi4, show o5 i = k + 2 from e]; omega))
     exact k2.trans hkv (fun i e hi => by show o i ≠ 0; rw [show i = q from e, HLQ.out]; decide))
   clear hR6 hR6d hR7 hK7 b6 HX4 HR4 HB5 HDV
   refine wp_region_late (fun w' => Kept [] w6 w') (fun i => i == 7 || i == 10) (by kernel_rfl) ?_
   have h6 : Kept [] w6 w6.drew := (Kept.refl [] w6).drew
   generalize World.drew w6 = v6 at h6 hap HFIN hen ⊢
   refine wpAnyL_free (i := 0) (v := .pointer (some ⟨A k, 0, none⟩)) rfl (by kernel_rfl) (by kernel_rfl) (by kernel_rfl) (fun _ _ _ h => h) (Or.inl ⟨by rfl, fun w _ => by go_simp⟩) ?_
   try simp only [z1, z2, z3, z4, z5, z6, z7, z8]
   refine wpAnyL_free (i := 1) (v := .pointer (some ⟨A k, 0, none⟩)) rfl (by kernel_rfl) (by kernel_rfl) (by kernel_rfl) (fun _ _ _ h => h) (Or.inl ⟨by rfl, fun w _ => by go_simp⟩) ?_
   try simp only [z1, z2, z3, z4, z5, z6, z7, z8]
   refine wpAnyL_free (i := 2) (v := .pointer (some ⟨A k, 0, none⟩)) rfl (by kernel_rfl) (by kernel_rfl) (by kernel_rfl) (fun _ _ _ h => h) (Or.inl ⟨by rfl, fun w _ => by go_simp⟩) ?_
   try simp only [z1, z2, z3, z4, z5, z6, z7, z8]
   refine wpAnyL_free (i := 3) (v := .pointer (some ⟨A k, 2, none⟩)) rfl (by kernel_rfl) (by kernel_rfl) (by kernel_rfl) (fun _ _ _ h => h) (Or.inl ⟨by rfl, fun w _ => by go_simp⟩) ?_
   try simp only [z1, z2, z3, z4, z5, z6, z7, z8]
   refine wpAnyL_take (i := 4) (v := .slice ro nr rc) rfl (by kernel_rfl) (by kernel_rfl) (by kernel_rfl) (by kernel_rfl) (by kernel_rfl) (fun _ _ _ h => h) (Or.inl ⟨by rfl, fun w hSw => by have q0 := Kept.cellOf hSw r4 (by simp); go_simp⟩) h6 ?_
   try simp only [z1, z2, z3, z4, z5, z6, z7, z8]
   refine wpAnyL_take (i := 5) (v := .agg #[.bool true, .int .i64 a, .slice none 0 0]) rfl (by kernel_rfl) (by kernel_rfl) (by kernel_rfl) (by kernel_rfl) (by kernel_rfl) (fun _ _ _ h => h) (Or.inl ⟨by rfl, fun w hSw => by have q0 := Kept.cellOf hSw d0 (by simp); have q1 := Kept.cellOf hSw d1 (by simp); have q2 := Kept.cellOf hSw d2 (by simp); go_simp⟩) h6 ?_
   try simp only [z1, z2, z3, z4, z5, z6, z7, z8]
   refine wpAnyL_one (i := 6) (by kernel_rfl) rfl (fun K hK => ?_)
   rw [if_pos (by rfl)]
   go_simp
   refine hK.out _ _ (fun _ _ => h6.alloc _) ?_
   clear hK K
   try simp only [z1, z2, z3, z4, z5, z6, z7, z8]
   refine wpAnyL_one (i := 7) (by kernel_rfl) rfl (fun K hK => ?_)
   rw [if_pos (by rfl)]
   refine wp_append_run (.tmp 61) (.tmp 63) 130 130 rfl (.slice ro nr rc) (.slice (some ⟨v6.heap.size, 0, none⟩) 1 1) rfl rfl (.slice (some ⟨g7, 0, none⟩) (nr + 1) c7) w7 hap ?_
   refine hK.out _ _ (fun _ h => by cases h) ?_
   clear hK K
   try simp only [z1, z2, z3, z4, z5, z6, z7, z8]
   refine wpAnyL_free (i := 8) (v := .pointer (some ⟨A k, 0, none⟩)) rfl (by kernel_rfl) (by kernel_rfl) (by kernel_rfl) (fun _ _ _ h => h) (Or.inl ⟨by rfl, fun w _ => by go_simp⟩) ?_
   try simp only [z1, z2, z3, z4, z5, z6, z7, z8]
   refine wpAnyL_free (i := 9) (v := .pointer (some ⟨A k, 2, none⟩)) rfl (by kernel_rfl) (by kernel_rfl) (by kernel_rfl) (fun _ _ _ h => h) (Or.inl ⟨by rfl, fun w _ => by go_simp⟩) ?_
   try simp only [z1, z2, z3, z4, z5, z6, z7, z8]
   refine wpAnyL_one (i := 10) (by kernel_rfl) rfl (fun K hK => ?_)
   rw [if_pos (by rfl)]
   go_simp
   refine hK.out _ _ (fun _ h => by cases h) ?_
   clear hK K
   try simp only [z1, z2, z3, z4, z5, z6, z7, z8]
   refine wpAnyL_done (by kernel_rfl) ?_ _
   go_wp2_with (go_at_call 73; refine (hen _ _).mono ?_; rintro e w8 ⟨rfl, hR8, hK8⟩; have H8 := hide (HFIN.out w8 _ _ _ _ hR8 hK8); clear hR8 hK8 hen)
   go_ret
   exact ⟨by rw [HC.out]; rfl, by rw [HC.out]; exact H8.out⟩
 ·have HC : Hid (S.truncate n x = ((S.find n).1, S)) := hide (by simp [Ds.truncate, h0])
  have HA := hide (RAft.of ⟨hwf, _, _, _, _, h⟩ (Keep.refl _ w))
  generalize (S.find n).1 = E at hth h0 HC
  generalize thereI S n = I at hth
  have e0 : (E == 0) = false := by simpa using h0
  have e1 : (E != 0) = true := by simpa using h0
  clear h hB h0
  go_enter Tryz.func28, Tryz.ntmps28
  go_wp2_with (go_at_call 76; refine hth.mono ?_; rintro e w' ⟨rfl, hw⟩; obtain rfl := hw.symm; clear hth)
  go_ret
  exact ⟨by rw [HC.out]; rfl, by rw [HC.out]; exact HA.out⟩
end
end

end Go.Proofs.YtodihkdmneihiaaGreatDoor
