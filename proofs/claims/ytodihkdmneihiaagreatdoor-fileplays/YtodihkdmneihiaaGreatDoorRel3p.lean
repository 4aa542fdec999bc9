import Derived.Test.YtodihkdmneihiaaGreatDoorRejp
import Derived.StillTailTactics
namespace Go.Proofs.YtodihkdmneihiaaGreatDoor
section
open Go.RowKit Dsk
set_option linter.unusedVariables false
set_option linter.unusedSimpArgs false
section
variable {w : World} {q : Nat} {S : Ds} {A : Nat → Nat} {o : Lab} {nv bv tv sv : Value}
theorem RDx.fresh (h : RDx w q S A o nv bv tv sv) (hwf : S.Wf) (w' : World) (hw : w' = w.alloc (.cells #[.slice none 0 0, .slice none 0 0, .slice none 0 0] 132)) :
  RDx w' q { S with th := upd S.th S.nx Th.new, nx := S.nx + 1 } (upd A S.nx w.heap.size) (o.ext w w' (S.nx + 2)) nv bv tv sv ∧ Kept [] w w' ∧ Rg w' (o.ext w w' (S.nx + 2)) (S.nx + 2) (upd A S.nx w.heap.size S.nx) Th.new := by
 have hk : Kept [] w w' := by rw [hw]; exact (Kept.refl [] w).alloc _
 have h1 := h.ext hk (S.nx + 2)
 have hA : ∀ k, k < S.nx → upd A S.nx w.heap.size k = A k := fun k hk => upd_other _ _ (by omega)
 have hsz : w'.heap.size = w.heap.size + 1 := by rw [hw]; simp
 have hlv : ∀ k, k ∈ S.lives → k < S.nx := fun k hk => hwf.lt k hk
 refine ⟨⟨h1.cells, ?_, ?_, ?_, h1.told, ?_, h1.lq, h1.ln, h1.lb, h1.lt, h1.ls, h1.lim, h1.pl⟩, hk, ?_⟩
 ·have := h1.now
  rw [← nmsV_congr (A' := upd A S.nx w.heap.size) (fun k hk => hA k (by obtain ⟨n, hn⟩ := Nm.mem_ids.1 hk; exact hwf.slt hn))] at this
  exact this
 ·have := h1.before
  rw [← nmsV_congr (A' := upd A S.nx w.heap.size) (fun k hk => hA k (hwf.lt k (List.mem_append_left _ hk)))] at this
  exact this
 ·have := h1.turns
  rw [← tusV_congr (A' := upd A S.nx w.heap.size) (fun k hk => hA k (hwf.lt k (List.mem_append_right _ hk)))] at this
  exact this
 ·intro k hk'
  have hl : k ∈ S.lives := hk'
  have hlt := hlv k hl
  show Rg w' _ (k + 2) (upd A S.nx w.heap.size k) (upd S.th S.nx Th.new k)
  rw [hA k hlt, upd_other _ _ (by omega)]
  exact h1.th k hl
 ·rw [upd_same]
  exact ⟨.slice none 0 0, .slice none 0 0, .slice none 0 0, [], by rw [hw]; exact (MapKept.heap_alloc w _).1, OwnB.nil _, OwnB.nil _, rfl, World.ownsRow_nil _ _ _ _, by simp, Lab.ext_new (Nat.le_refl _) (by omega), by simp [Value.ownBlock], by simp [Value.ownBlock], by simp [Value.ownBlock], by simp⟩
set_option maxHeartbeats 3200000 in
set_option maxRecDepth 100000 in
theorem rcreate_ok (h : RDx w q S A o nv bv tv sv) (hwf : S.Wf) {N : Nat} (hB : S.Bd N) (hN : N ≤ 268435456) (n : By) (hn : n.length ≤ 4611686018427387904) :
  Calls Tryz.prog 24 #[.pointer (some ⟨q, 0, none⟩), encStr n] w fun e w' => e = .returned (.int .i64 (S.create n).1) ∧ RAft w w' q (S.create n).2 o := by
 have hoff := roff_ok h
 have hi1 := rIsName_ok n w hn
 obtain ⟨m, hm⟩ : ∃ m, S.shown.length = m := ⟨_, rfl⟩
 obtain ⟨no, nc, hnv⟩ := h.nvs
 rw [hm] at hnv
 subst hnv
 have hml : m ≤ 268435456 := by have := hB.shown hwf; omega
 have c2 := h.cell 2 _ rfl
 have hfd := rfind_ok no m nc A S.shown n w hm (by omega) (by have := h.now; rw [hm] at this; exact this)
 have HA := hide (RAft.of ⟨hwf, _, _, _, _, h⟩ (Keep.refl _ w))
 cases hon : S.on with
 | false =>
  have HC : Hid (S.create n = (50, S)) := hide (by simp [Ds.create, Ds.find, hon])
  rw [hon] at hoff
  clear h hB hfd hi1 hon
  go_enter Tryz.func24, Tryz.ntmps24
  go_wp2_with (go_at_call 42; refine hoff.mono ?_; rintro e w' ⟨rfl, hw⟩; obtain rfl := hw.symm; clear hoff)
  go_ret
  exact ⟨by rw [HC.out]; rfl, by rw [HC.out]; exact HA.out⟩
 | true =>
  rw [hon] at hoff
  cases hnf : isNm n with
  | false =>
   have HC : Hid (S.create n = (51, S)) := hide (by simp [Ds.create, Ds.find, hon, hnf])
   rw [hnf] at hi1
   clear h hB hfd hon hnf
   go_enter Tryz.func24, Tryz.ntmps24
   go_wp2_with (first
    | (go_at_call 42; refine hoff.mono ?_; rintro e w' ⟨rfl, hw⟩; obtain rfl := hw.symm; clear hoff)
    | (go_at_call 62; refine hi1.mono ?_; rintro e w' ⟨rfl, hw⟩; obtain rfl := hw.symm; clear hi1))
   go_ret
   exact ⟨by rw [HC.out]; rfl, by rw [HC.out]; exact HA.out⟩
  | true =>
   rw [hnf] at hi1
   cases hg : S.shown.get n with
   | some k =>
    obtain ⟨i, hi, hp, hfx⟩ := fix_get_some hwf.sup hg
    rw [hfx] at hfd
    have HC : Hid (S.create n = (52, S)) := hide (by simp [Ds.create, Ds.find, hon, hnf, hg])
    clear h hB hon hnf hg hm hp hfx
    go_enter Tryz.func24, Tryz.ntmps24
    go_wp2_with (first
     | (go_at_call 42; refine hoff.mono ?_; rintro e w' ⟨rfl, hw⟩; obtain rfl := hw.symm; clear hoff)
     | (go_at_call 62; refine hi1.mono ?_; rintro e w' ⟨rfl, hw⟩; obtain rfl := hw.symm; clear hi1)
     | (go_at_call 71; refine hfd.mono ?_; rintro e w' ⟨rfl, hw⟩; obtain rfl := hw.symm; clear hfd))
    go_ret
    exact ⟨by rw [HC.out]; rfl, by rw [HC.out]; exact HA.out⟩
   | none =>
    rw [fix_get_none hg] at hfd
    have h53 : (S.find n).1 = 53 := by simp [Ds.find, hon, hnf, hg]
    have hst := rstroke_ok h (by have := hB.strokes; omega) (by have := hB.planned; omega)
    have HOQ0 : Hid (o q ≠ 0) := hide (by rw [h.lq]; decide)
    have hlq := h.lq
    have HLQ := hide hlq
    have HFI0 : Hid (∀ v w2 a1 a2 a3 a4, Keep (· = q) w w2 → RDx v q { (Ds.cnt S) with on := (Ds.cnt S).on && !S.goesOff } A o a1 a2 a3 a4 → Keep (· = q) w2 v → RAft w v q S.tick o) := hide (fun v w2 a1 a2 a3 a4 hk2 hv hkv => ⟨A, o, ⟨hwf.tick, a1, a2, a3, a4, hv⟩, fun _ _ h => h, (hk2.trans hkv (fun _ h _ => h)).mono (fun i e _ => by show o i ≠ 0; rw [show i = q from e]; exact HOQ0.out)⟩)
    by_cases hfl : 256 ≤ m
    ·have HC : Hid (S.create n = (S.ans 56, S.tick)) := hide (by
      have : S.refusedCreate = 56 := by unfold Ds.refusedCreate; rw [if_pos (by rw [hm]; exact hfl)]
      simp [Ds.create, h53, this])
     have HCC : Hid (∀ v, RDx v q (Ds.cnt S) A o (.slice no m nc) bv tv sv → v.cell? ⟨q, 2, none⟩ = some (.slice no m nc)) := hide (fun v hv => hv.cell 2 _ rfl)
     clear h hB hon hnf hg hm hlq h53
     go_enter Tryz.func24, Tryz.ntmps24
     go_wp2_with (first
      | (go_at_call 42; refine hoff.mono ?_; rintro e w' ⟨rfl, hw⟩; obtain rfl := hw.symm; clear hoff)
      | (go_at_call 62; refine hi1.mono ?_; rintro e w' ⟨rfl, hw⟩; obtain rfl := hw.symm; clear hi1)
      | (go_at_call 71; refine hfd.mono ?_; rintro e w' ⟨rfl, hw⟩; obtain rfl := hw.symm; clear hfd)
      | (go_at_call 72; refine hst.mono ?_; rintro e w2 ⟨rfl, hR2, hK2⟩; have hen := fun b x => rend_ok hR2 b x; have d2 := HCC.out w2 hR2; have HK2 := hide hK2; clear hst hR2 hK2 c2)
      | (go_at_call 73; refine (hen _ _).mono ?_; rintro e w8 ⟨rfl, hR8, hK8⟩; have H8 := hide (HFI0.out w8 _ _ _ _ _ HK2.out hR8 hK8); clear hR8 hK8 hen))
     go_ret
     exact ⟨by rw [HC.out]; rfl, by rw [HC.out]; exact H8.out⟩
    ·cases hlk : S.lacks with
     | true =>
      have HC : Hid (S.create n = (S.ans 55, S.tick)) := hide (by
       have : S.refusedCreate = 55 := by unfold Ds.refusedCreate; rw [if_neg (by rw [hm]; exact hfl), hlk]; rfl
       simp [Ds.create, h53, this])
      have HCC : Hid (∀ v, RDx v q (Ds.cnt S) A o (.slice no m nc) bv tv sv → v.cell? ⟨q, 2, none⟩ = some (.slice no m nc)) := hide (fun v hv => hv.cell 2 _ rfl)
      rw [hlk] at hst
      clear h hB hon hnf hg hm hlq h53 hlk
      go_enter Tryz.func24, Tryz.ntmps24
      go_wp2_with (first
       | (go_at_call 42; refine hoff.mono ?_; rintro e w' ⟨rfl, hw⟩; obtain rfl := hw.symm; clear hoff)
       | (go_at_call 62; refine hi1.mono ?_; rintro e w' ⟨rfl, hw⟩; obtain rfl := hw.symm; clear hi1)
       | (go_at_call 71; refine hfd.mono ?_; rintro e w' ⟨rfl, hw⟩; obtain rfl := hw.symm; clear hfd)
       | (go_at_call 72; refine hst.mono ?_; rintro e w2 ⟨rfl, hR2, hK2⟩; have hen := fun b x => rend_ok hR2 b x; have d2 := HCC.out w2 hR2; have HK2 := hide hK2; clear hst hR2 hK2 c2)
       | (go_at_call 73; refine (hen _ _).mono ?_; rintro e w8 ⟨rfl, hR8, hK8⟩; have H8 := hide (HFI0.out w8 _ _ _ _ _ HK2.out hR8 hK8); clear hR8 hK8 hen))
      go_ret
      exact ⟨by rw [HC.out]; rfl, by rw [HC.out]; exact H8.out⟩
     | false =>
      have hcr : S.create n = (S.ans 0, ({ S.tick with th := upd S.th S.nx Th.new, nx := S.nx + 1 } : Ds).addName (.mk n S.nx)) := by
       have : S.refusedCreate = 0 := by unfold Ds.refusedCreate; rw [if_neg (by rw [hm]; exact hfl), hlk]; rfl
       simp [Ds.create, h53, this]
      have hwfE : (({ S.tick with th := upd S.th S.nx Th.new, nx := S.nx + 1 } : Ds).addName (.mk n S.nx)).Wf := by have := hwf.create n; rw [hcr] at this; exact this
      have HC := hide hcr
      have HCC : Hid (∀ v, RDx v q (Ds.cnt S) A o (.slice no m nc) bv tv sv → v.cell? ⟨q, 2, none⟩ = some (.slice no m nc)) := hide (fun v hv => hv.cell 2 _ rfl)
      have hrl0 : S.row.length ≤ 268435456 := by have := hB.nm; omega
      rw [hlk] at hst
      clear h hB hcr hlq hon hnf hg hlk h53 HFI0
      go_enter Tryz.func24, Tryz.ntmps24
      go_upto_region 13 with (first
       | (go_at_call 42; refine hoff.mono ?_; rintro e w' ⟨rfl, hw⟩; obtain rfl := hw.symm; clear hoff)
       | (go_at_call 62; refine hi1.mono ?_; rintro e w' ⟨rfl, hw⟩; obtain rfl := hw.symm; clear hi1)
       | (go_at_call 71; refine hfd.mono ?_; rintro e w' ⟨rfl, hw⟩; obtain rfl := hw.symm; clear hfd)
       | (go_at_call 72; refine hst.mono ?_; rintro e w1 ⟨rfl, hR1, hK1⟩; have d2 := HCC.out w1 hR1; clear hst c2))
      clear d2
      obtain ⟨w2, hw2⟩ : ∃ w2, w2 = w1.alloc (.cells #[.slice none 0 0, .slice none 0 0, .slice none 0 0] 132) := ⟨_, rfl⟩
      obtain ⟨hR2, hk2, hmk⟩ := hR1.fresh (Ds.wfCnt hwf) w2 hw2
      have hs2 : w2.heap.size = w1.heap.size + 1 := by rw [hw2]; simp
      rw [← hw2, ← hs2]
      have HKW0 := hide (hK1.mono (G := o.mine) (fun i e _ => by show o i ≠ 0; rw [show i = q from e, HLQ.out]; decide))
      clear hw2
      obtain ⟨B, hBq⟩ : ∃ B, B = w1.heap.size := ⟨_, rfl⟩
      obtain ⟨o', ho'⟩ : ∃ o', o' = o.ext w1 w2 ((Ds.cnt S).nx + 2) := ⟨_, rfl⟩
      obtain ⟨A', hA'⟩ : ∃ A', A' = upd A (Ds.cnt S).nx w1.heap.size := ⟨_, rfl⟩
      have HOO : Hid (∀ b, b < w.heap.size → o' b ≠ 0 → o b ≠ 0) := hide (fun b hb hn => ext_le (Nat.lt_of_lt_of_le hb hK1.size) (by rw [← ho']; exact hn))
      have HKW : Hid (Keep o'.mine w w2) := hide ((HKW0.out.kept hk2).mono (fun i hi hlt => by
       show o' i ≠ 0
       rw [ho', Lab.ext_old (Nat.lt_of_lt_of_le hlt hK1.size)]
       exact hi))
      have HOQ : Hid (o' q ≠ 0) := hide (by rw [ho', Lab.ext_old hR1.qlt]; exact HOQ0.out)
      have hAB : A' (Ds.cnt S).nx = B := by rw [hA', upd_same, hBq]
      rw [← ho', ← hA'] at hR2 hmk
      rw [← hBq]
      clear ho' hA' hR1 hK1 hk2 hs2 HKW0 hBq
      have hrl : ({ Ds.cnt S with th := upd (Ds.cnt S).th (Ds.cnt S).nx Th.new, nx := (Ds.cnt S).nx + 1 } : Ds).row.length ≤ 268435456 := hrl0
      obtain ⟨w3, hw3⟩ : ∃ w3, w3 = w2.alloc (.cells #[.int .i64 1, .string { data := List.toArray n }, .string { data := #[] }, .pointer (some ⟨B, 0, none⟩)] 134) := ⟨_, rfl⟩
      have hk3 : Kept [] w2 w3 := by rw [hw3]; exact (Kept.refl [] w2).alloc _
      have hb3 : w3.heap[w2.heap.size]? = some (.cells #[.int .i64 1, .string { data := List.toArray n }, .string { data := #[] }, .pointer (some ⟨B, 0, none⟩)] 134 (0, 0)) := by rw [hw3]; exact (MapKept.heap_alloc w2 _).1
      have oX : o' w2.heap.size = 0 := Classical.byContradiction fun hn => by have := hR2.lim _ hn; omega
      have hXl : w2.heap.size < w3.heap.size := by rw [hw3]; simp
      rw [← hw3]
      clear hw3
      generalize w2.heap.size = X at hb3 oX hXl ⊢
      have HB3 := hide hb3
      have b0 : w3.cell? ⟨X, 0, none⟩ = some (.int .i64 1) := by rw [cell_of_row w3 _ 0 _ _ _ hb3]; rfl
      have b1 : w3.cell? ⟨X, 1, none⟩ = some (encStr n) := by rw [cell_of_row w3 _ 1 _ _ _ hb3]; rfl
      have b2 : w3.cell? ⟨X, 2, none⟩ = some (encStr []) := by rw [cell_of_row w3 _ 2 _ _ _ hb3]; rfl
      have b3 : w3.cell? ⟨X, 3, none⟩ = some (.pointer (some ⟨B, 0, none⟩)) := by rw [cell_of_row w3 _ 3 _ _ _ hb3]; rfl
      have hR3 := (hR2.kept hk3).kept ((Kept.refl [] w3).drew)
      have hK3 : Keep o'.mine w w3 := HKW.out.kept hk3
      have c2 : w3.cell? ⟨q, 2, none⟩ = some (.slice no m nc) := hR3.cell 2 _ rfl
      have ht := turnMk_ok no m nc A' S.shown n [] S.nx B hAB w3.drew hm (by omega) (by have := hR3.now; rw [show ({ Ds.cnt S with th := upd (Ds.cnt S).th (Ds.cnt S).nx Th.new, nx := (Ds.cnt S).nx + 1 } : Ds).shown.length = m from hm] at this; exact this)
      have HR3 := hide hR3
      have HK3 := hide hK3
      have HM3 := hide (hmk.keep (Keep.ofNone (F := fun _ => False) hk3) (fun _ _ h => h))
      have HLM := hide hR3.lim
      clear hmk
      clear hR2 hR3 hk3 hb3 hK3
      refine wp_region_late (fun w' => Kept [] w3 w') (fun i => i == 6 || i == 9) (by kernel_rfl) ?_
      have h0 : Kept [] w3 w3.drew := (Kept.refl [] w3).drew
      generalize World.drew w3 = v0 at h0 HR3 ht ⊢
      refine wpAnyL_free (i := 0) (v := .pointer (some ⟨q, 0, none⟩)) rfl (by kernel_rfl) (by kernel_rfl) (by kernel_rfl) (fun _ _ _ h => h) (Or.inl ⟨by rfl, fun w _ => by go_simp⟩) ?_
      try simp only [z1, z2, z3, z4, z5, z6, z7, z8]
      refine wpAnyL_free (i := 1) (v := .pointer (some ⟨q, 0, none⟩)) rfl (by kernel_rfl) (by kernel_rfl) (by kernel_rfl) (fun _ _ _ h => h) (Or.inl ⟨by rfl, fun w _ => by go_simp⟩) ?_
      try simp only [z1, z2, z3, z4, z5, z6, z7, z8]
      refine wpAnyL_free (i := 2) (v := .pointer (some ⟨q, 0, none⟩)) rfl (by kernel_rfl) (by kernel_rfl) (by kernel_rfl) (fun _ _ _ h => h) (Or.inl ⟨by rfl, fun w _ => by go_simp⟩) ?_
      try simp only [z1, z2, z3, z4, z5, z6, z7, z8]
      refine wpAnyL_free (i := 3) (v := .pointer (some ⟨q, 2, none⟩)) rfl (by kernel_rfl) (by kernel_rfl) (by kernel_rfl) (fun _ _ _ h => h) (Or.inl ⟨by rfl, fun w _ => by go_simp⟩) ?_
      try simp only [z1, z2, z3, z4, z5, z6, z7, z8]
      refine wpAnyL_take (i := 4) (v := .slice no m nc) rfl (by kernel_rfl) (by kernel_rfl) (by kernel_rfl) (by kernel_rfl) (by kernel_rfl) (fun _ _ _ h => h) (Or.inl ⟨by rfl, fun w hSw => by have q0 := Kept.cellOf hSw c2 (by simp); go_simp⟩) h0 ?_
      try simp only [z1, z2, z3, z4, z5, z6, z7, z8]
      refine wpAnyL_take (i := 5) (v := .agg #[.int .i64 1, encStr n, encStr [], .pointer (some ⟨B, 0, none⟩)]) rfl (by kernel_rfl) (by kernel_rfl) (by kernel_rfl) (by kernel_rfl) (by kernel_rfl) (fun _ _ _ h => h) (Or.inl ⟨by rfl, fun w hSw => by have q0 := Kept.cellOf hSw b0 (by simp); have q1 := Kept.cellOf hSw b1 (by simp); have q2 := Kept.cellOf hSw b2 (by simp); have q3 := Kept.cellOf hSw b3 (by simp); go_simp⟩) h0 ?_
      try simp only [z1, z2, z3, z4, z5, z6, z7, z8]
      refine wpAnyL_one (i := 6) (by kernel_rfl) rfl (fun K hK => ?_)
      rw [if_pos (by rfl)]
      go_simp
      refine ht.mono ?_
      rintro e w4 ⟨v4, rfl, hB4⟩
      obtain ⟨vo4, vc4, rfl⟩ := hB4.shape
      have HB4 := hide hB4
      have c4 := (HR3.out.setNow hB4).2.2.1
      have f4 := (HR3.out.setNow hB4).2.2.2
      clear ht hB4 b0 b1 b2 b3 c2
      refine hK.out _ _ (fun _ h => by cases h) ?_
      clear hK K
      try simp only [z1, z2, z3, z4, z5, z6, z7, z8]
      refine wpAnyL_free (i := 7) (v := .pointer (some ⟨q, 0, none⟩)) rfl (by kernel_rfl) (by kernel_rfl) (by kernel_rfl) (fun _ _ _ h => h) (Or.inl ⟨by rfl, fun w _ => by go_simp⟩) ?_
      try simp only [z1, z2, z3, z4, z5, z6, z7, z8]
      refine wpAnyL_free (i := 8) (v := .pointer (some ⟨q, 2, none⟩)) rfl (by kernel_rfl) (by kernel_rfl) (by kernel_rfl) (fun _ _ _ h => h) (Or.inl ⟨by rfl, fun w _ => by go_simp⟩) ?_
      try simp only [z1, z2, z3, z4, z5, z6, z7, z8]
      refine wpAnyL_one (i := 9) (by kernel_rfl) rfl (fun K hK => ?_)
      rw [if_pos (by rfl)]
      go_simp
      refine hK.out _ _ (fun _ h => by cases h) ?_
      clear hK K
      try simp only [z1, z2, z3, z4, z5, z6, z7, z8]
      refine wpAnyL_done (by kernel_rfl) ?_ _
      go_upto_region 14 with (fail)
      obtain ⟨hR5, hK5, _, _⟩ := HR3.out.setNow HB4.out
      have hsz5 : X < v0.heap.size := Nat.lt_of_lt_of_le hXl h0.size
      have b5 := hK5.heapOf ((Keep.ofNone (F := fun _ => False) h0).heapOf HB3.out (fun h => h)) (by rw [oX]; decide)
      have oX5 : Lab.ext o' v0 w4 1 X = 0 := by rw [Lab.ext_old hsz5]; exact oX
      clear c4 f4
      generalize w4.setCell _ _ = w5 at hR5 hK5 b5 ⊢
      obtain ⟨o5, ho5⟩ : ∃ o5, o5 = Lab.ext o' v0 w4 1 := ⟨_, rfl⟩
      have he5 : ∀ b, b < w3.heap.size → o5 b ≠ 0 → o' b ≠ 0 := fun b hb hn => ext_le (Nat.lt_of_lt_of_le hb h0.size) (by rw [← ho5]; exact hn)
      have HL1 : Hid (∀ k, k < v0.heap.size → o5 k = o' k) := hide (fun k hk => by rw [ho5]; exact Lab.ext_old hk)
      rw [← ho5] at hR5 oX5
      clear ho5
      obtain ⟨to, tc, rfl⟩ := hR5.tvs
      obtain ⟨nr, hnr⟩ : ∃ nr, ({ Ds.cnt S with th := upd (Ds.cnt S).th (Ds.cnt S).nx Th.new, nx := (Ds.cnt S).nx + 1 } : Ds).row.length = nr := ⟨_, rfl⟩
      rw [show ({ ({ Ds.cnt S with th := upd (Ds.cnt S).th (Ds.cnt S).nx Th.new, nx := (Ds.cnt S).nx + 1 } : Ds) with shown := (.mk n S.nx : Nc).apply ({ Ds.cnt S with th := upd (Ds.cnt S).th (Ds.cnt S).nx Th.new, nx := (Ds.cnt S).nx + 1 } : Ds).shown } : Ds).row.length = nr from hnr] at hR5
      have hR5d := hR5.kept ((Kept.refl [] w5).drew)
      have HM5 : Hid (Rg w5.drew o5 (S.nx + 2) (A' S.nx) (upd S.th S.nx Th.new S.nx)) := hide (by
       rw [upd_same]
       have m1 := HM3.out.keep (Keep.ofNone (F := fun _ => False) h0) (fun _ _ h => h)
       have m2 := m1.keep hK5 (fun g hg e => by rw [hg] at e; exact absurd e (by omega))
       have m3 := m2.keep ((Keep.refl (fun _ => False) w5).drew) (fun _ _ h => h)
       exact m3.relab (fun g _ e => by
        have hlt : g < v0.heap.size := Nat.lt_of_lt_of_le (HLM.out g (by rw [e]; exact Nat.succ_ne_zero _)) h0.size
        rw [HL1.out g hlt]; exact e))
      obtain ⟨g7, c7, w7, hap, d4, f7, hR7, hK7⟩ := hR5d.addTurn hnr (by have := hrl; omega) (.mk n S.nx) [.int .i64 1, encStr n, encStr [], .pointer (some ⟨B, 0, none⟩)] (by show [Value.int .i64 1, encStr n, encStr [], .pointer (some ⟨A' S.nx, 0, none⟩)] = _; rw [show A' S.nx = B from hAB]) (fun u hu => by simp only [List.mem_cons, List.not_mem_nil, or_false] at hu; rcases hu with rfl | rfl | rfl | rfl <;> rfl) (fun k hk => by rw [show k = S.nx by simpa [Nc.made] using hk]; exact HM5.out)
      have d0 := cell_of_row w5 _ 0 _ _ _ b5
      have d1 := cell_of_row w5 _ 1 _ _ _ b5
      have d2 := cell_of_row w5 _ 2 _ _ _ b5
      have d3 := cell_of_row w5 _ 3 _ _ _ b5
      simp only [List.getElem?_toArray, List.getElem?_cons_zero, List.getElem?_cons_succ] at d0 d1 d2 d3
      have t4 : w5.cell? ⟨q, 4, none⟩ = some (.slice to nr tc) := hR5.cell 4 _ rfl
      have hen := fun b x => rend_ok hR7 b x
      have HFIN : Hid (∀ v a1 a2 a3 a4, RDx v q { ({ ({ ({ Ds.cnt S with th := upd (Ds.cnt S).th (Ds.cnt S).nx Th.new, nx := (Ds.cnt S).nx + 1 } : Ds) with shown := (.mk n S.nx : Nc).apply ({ Ds.cnt S with th := upd (Ds.cnt S).th (Ds.cnt S).nx Th.new, nx := (Ds.cnt S).nx + 1 } : Ds).shown } : Ds) with row := ({ Ds.cnt S with th := upd (Ds.cnt S).th (Ds.cnt S).nx Th.new, nx := (Ds.cnt S).nx + 1 } : Ds).row ++ [.mk n S.nx] } : Ds) with on := ({ Ds.cnt S with th := upd (Ds.cnt S).th (Ds.cnt S).nx Th.new, nx := (Ds.cnt S).nx + 1 } : Ds).on && !S.goesOff } A' (o5.ext w5.drew w7 1) a1 a2 a3 a4 → Keep (· = q) (w7.setCell ⟨q, 4, none⟩ (.slice (some ⟨g7, 0, none⟩) (nr + 1) c7)) v → RAft w v q (({ S.tick with th := upd S.th S.nx Th.new, nx := S.nx + 1 } : Ds).addName (.mk n S.nx)) o) := hide (fun v a1 a2 a3 a4 hv hkv => by
       refine ⟨A', o5.ext w5.drew w7 1, ⟨hwfE, a1, a2, a3, a4, hv⟩, fun b hb hn => ?_, ?_⟩
       ·have hb3 : b < w3.heap.size := Nat.lt_of_lt_of_le hb HK3.out.size
        have hb5 : b < w5.drew.heap.size := Nat.lt_of_lt_of_le (Nat.lt_of_lt_of_le hb3 h0.size) hK5.size
        exact HOO.out b hb (he5 b hb3 (ext_le hb5 hn))
       ·have k1 := (HK3.out.kept h0).trans hK5 (fun i e hi => by show o' i ≠ 0; rw [show o' i = 1 from e]; decide)
        have k2 := k1.drew.trans hK7 (fun i e hi => by
         have hi3 : i < v0.heap.size := Nat.lt_of_lt_of_le (Nat.lt_of_lt_of_le hi HK3.out.size) h0.size
         show o' i ≠ 0
         rw [← HL1.out i hi3, show o5 i = 1 from e]; decide)
        have k3 := k2.trans hkv (fun i e hi => by show o' i ≠ 0; rw [show i = q from e]; exact HOQ.out)
        exact k3.mono (fun i hi hlt => HOO.out i hlt hi))
      clear hR5 hR5d hR7 hK7 b5 HB3 HR3 HB4
      refine wp_region_late (fun w' => Kept [] w5 w') (fun i => i == 7 || i == 10) (by kernel_rfl) ?_
      have h5 : Kept [] w5 w5.drew := (Kept.refl [] w5).drew
      generalize World.drew w5 = v5 at h5 hap HFIN hen ⊢
      refine wpAnyL_free (i := 0) (v := .pointer (some ⟨q, 0, none⟩)) rfl (by kernel_rfl) (by kernel_rfl) (by kernel_rfl) (fun _ _ _ h => h) (Or.inl ⟨by rfl, fun w _ => by go_simp⟩) ?_
      try simp only [z1, z2, z3, z4, z5, z6, z7, z8]
      refine wpAnyL_free (i := 1) (v := .pointer (some ⟨q, 0, none⟩)) rfl (by kernel_rfl) (by kernel_rfl) (by kernel_rfl) (fun _ _ _ h => h) (Or.inl ⟨by rfl, fun w _ => by go_simp⟩) ?_
      try simp only [z1, z2, z3, z4, z5, z6, z7, z8]
      refine wpAnyL_free (i := 2) (v := .pointer (some ⟨q, 0, none⟩)) rfl (by kernel_rfl) (by kernel_rfl) (by kernel_rfl) (fun _ _ _ h => h) (Or.inl ⟨by rfl, fun w _ => by go_simp⟩) ?_
      try simp only [z1, z2, z3, z4, z5, z6, z7, z8]
      refine wpAnyL_free (i := 3) (v := .pointer (some ⟨q, 4, none⟩)) rfl (by kernel_rfl) (by kernel_rfl) (by kernel_rfl) (fun _ _ _ h => h) (Or.inl ⟨by rfl, fun w _ => by go_simp⟩) ?_
      try simp only [z1, z2, z3, z4, z5, z6, z7, z8]
      refine wpAnyL_take (i := 4) (v := .slice to nr tc) rfl (by kernel_rfl) (by kernel_rfl) (by kernel_rfl) (by kernel_rfl) (by kernel_rfl) (fun _ _ _ h => h) (Or.inl ⟨by rfl, fun w hSw => by have q0 := Kept.cellOf hSw t4 (by simp); go_simp⟩) h5 ?_
      try simp only [z1, z2, z3, z4, z5, z6, z7, z8]
      refine wpAnyL_take (i := 5) (v := .agg #[.int .i64 1, encStr n, encStr [], .pointer (some ⟨B, 0, none⟩)]) rfl (by kernel_rfl) (by kernel_rfl) (by kernel_rfl) (by kernel_rfl) (by kernel_rfl) (fun _ _ _ h => h) (Or.inl ⟨by rfl, fun w hSw => by have q0 := Kept.cellOf hSw d0 (by simp); have q1 := Kept.cellOf hSw d1 (by simp); have q2 := Kept.cellOf hSw d2 (by simp); have q3 := Kept.cellOf hSw d3 (by simp); go_simp⟩) h5 ?_
      try simp only [z1, z2, z3, z4, z5, z6, z7, z8]
      refine wpAnyL_one (i := 6) (by kernel_rfl) rfl (fun K hK => ?_)
      rw [if_pos (by rfl)]
      go_simp
      refine hK.out _ _ (fun _ _ => h5.alloc _) ?_
      clear hK K
      try simp only [z1, z2, z3, z4, z5, z6, z7, z8]
      refine wpAnyL_one (i := 7) (by kernel_rfl) rfl (fun K hK => ?_)
      rw [if_pos (by rfl)]
      refine wp_append_run (.tmp 55) (.tmp 57) 77 77 rfl (.slice to nr tc) (.slice (some ⟨v5.heap.size, 0, none⟩) 1 1) rfl rfl (.slice (some ⟨g7, 0, none⟩) (nr + 1) c7) w7 hap ?_
      refine hK.out _ _ (fun _ h => by cases h) ?_
      clear hK K
      try simp only [z1, z2, z3, z4, z5, z6, z7, z8]
      refine wpAnyL_free (i := 8) (v := .pointer (some ⟨q, 0, none⟩)) rfl (by kernel_rfl) (by kernel_rfl) (by kernel_rfl) (fun _ _ _ h => h) (Or.inl ⟨by rfl, fun w _ => by go_simp⟩) ?_
      try simp only [z1, z2, z3, z4, z5, z6, z7, z8]
      refine wpAnyL_free (i := 9) (v := .pointer (some ⟨q, 4, none⟩)) rfl (by kernel_rfl) (by kernel_rfl) (by kernel_rfl) (fun _ _ _ h => h) (Or.inl ⟨by rfl, fun w _ => by go_simp⟩) ?_
      try simp only [z1, z2, z3, z4, z5, z6, z7, z8]
      refine wpAnyL_one (i := 10) (by kernel_rfl) rfl (fun K hK => ?_)
      rw [if_pos (by rfl)]
      go_simp
      refine hK.out _ _ (fun _ h => by cases h) ?_
      clear hK K
      try simp only [z1, z2, z3, z4, z5, z6, z7, z8]
      refine wpAnyL_done (by kernel_rfl) ?_ _
      go_wp2_with (first
       | (go_at_call 73; refine (hen _ _).mono ?_; rintro e w8 ⟨rfl, hR8, hK8⟩; have H8 := hide (HFIN.out w8 _ _ _ _ hR8 hK8); clear hR8 hK8 hen))
      go_ret
      exact ⟨by rw [HC.out]; rfl, by rw [HC.out]; exact H8.out⟩
end
end

section
open Go.RowKit Dsk
set_option linter.unusedVariables false
set_option linter.unusedSimpArgs false
theorem upd_upd {α : Type} (f : Nat → α) (k : Nat) (a b : α) : upd (upd f k a) k b = upd f k b := by
 funext j
 unfold upd
 by_cases h : j = k <;> simp [h]
section
variable {w w1 : World} {q : Nat} {S : Ds} {A : Nat → Nat} {o : Lab} {nv bv tv sv : Value}
theorem lim_ext2 {o : Lab} {w w' w2 : World} {l : Nat} (hl : ∀ b, o b ≠ 0 → b < w.heap.size) (h1 : w.heap.size ≤ w'.heap.size) (h2 : w'.heap.size ≤ w2.heap.size) : ∀ b, o.ext w w' l b ≠ 0 → b < w2.heap.size := by
 intro b hb
 unfold Lab.ext at hb
 split at hb
 ·have := hl b hb; omega
 ·split at hb
  ·omega
  ·exact absurd rfl hb
theorem RDx.thShown {k : Nat} (h : RDx w q S A o nv bv tv sv) (hk : k ∈ S.lives) {v : Value} {xs : By} (hB : Cg w w1 v xs) :
  RDx (w1.setCell ⟨A k, 1, none⟩ v) q { S with th := upd S.th k { S.th k with shown := xs } } A (o.ext w w1 (k + 2)) nv bv tv sv ∧ Keep (· = A k) w (w1.setCell ⟨A k, 1, none⟩ v) ∧ (∃ u, w1.cell? ⟨A k, 1, none⟩ = some u) ∧ w1.frozen? ⟨A k, 1, none⟩ = false := by
 obtain ⟨s1, h1, r1, R1, ht⟩ := h.th k hk
 have hK1 : Keep (fun _ => False) w w1 := Keep.ofNone hB.keep
 have ht1 := ht.keep hK1 (fun _ _ h => h)
 have hks : Keep (· = A k) w1 (w1.setCell ⟨A k, 1, none⟩ v) := (Keep.refl (· = A k) w1).setCell (p := ⟨A k, 1, none⟩) (fun _ => rfl) _
 have hK : Keep (· = A k) w (w1.setCell ⟨A k, 1, none⟩ v) := (Keep.ofNone hB.keep).trans hks (fun i e _ => e)
 have old : ∀ b, b < w.heap.size → o.ext w w1 (k + 2) b = o b := fun b hb => Lab.ext_old hb
 have nB : ∀ {u : Value} {n : Nat} {ys : By}, OwnB w1 u n ys → ∀ g, u.ownBlock = some g → ¬ g = A k := fun hu g hg e => hu.ne ht1.cells (by decide) (by rw [hg, e])
 have hvB := OwnB.of hB.row
 refine ⟨RDx.thing (k := k) h (hK.mono (fun i e _ => by show o i = k + 2; rw [show i = A k from e]; exact ht.lb)) old (lim_ext2 h.lim hB.keep.size hks.size) ⟨s1, v, r1, R1, ?_, ht1.safe.keep hks (nB ht1.safe), hvB.keep hks (nB hvB), ht1.eq, own_keeps ht1.row hks (fun g hg e => own_ne ht1.row ht1.cells (by decide) (by rw [hg, e])), fun p hp => (ht1.data p hp).keep hks (fun g hg e => ?_), (old _ ht.lt).trans ht.lb, fun g hg => (old g (ht.safe.lt hg)).trans (ht.ls g hg), fun g hg => Lab.ext_new (hB.new g hg) (hvB.lt hg), fun g hg => (old g (ht.row.lt g hg).2).trans (ht.lr g hg), fun p hp g hg => (old g ((ht.data p hp).lt hg)).trans (ht.ld p hp g hg)⟩, hK, ⟨h1, by rw [cell_of_row w1 _ 1 _ _ _ ht1.cells]; rfl⟩, frozen_of_row _ _ _ _ _ ht1.cells⟩
 ·rw [heap_setCell_same _ (A k) 1 _ _ _ ht1.cells]; simp
 ·have hd : OwnB w1 p.2 (chD p.1).length (chD p.1) := ht1.data p hp
  exact nB hd g hg e
theorem RDx.thRow {k : Nat} (h : RDx w q S A o nv bv tv sv) (hk : k ∈ S.lives) (hb : (S.th k).row.length ≤ 536870912) (c : Ch) (dv : Value) (hd : ChD w (c, dv)) (hdl : ∀ g, dv.ownBlock = some g → o g = k + 2) (h1c : dv.oneCell' = true) :
  ∃ ro n rc, w.cell? ⟨A k, 2, none⟩ = some (.slice ro n rc) ∧ ∃ g c' w5, (Builtin.append_ #[130, 130] 130 #[.slice ro n rc, .slice (some ⟨w.heap.size, 0, none⟩) 1 1]).run Tryz.prog (w.alloc (.cells #[.bool (isCut c), .int .i64 c.place, dv] 144)) = .ok (.slice (some ⟨g, 0, none⟩) (n + 1) c') w5 ∧ w5.cell? ⟨A k, 2, none⟩ = some (.slice ro n rc) ∧ w5.frozen? ⟨A k, 2, none⟩ = false ∧
   RDx (w5.setCell ⟨A k, 2, none⟩ (.slice (some ⟨g, 0, none⟩) (n + 1) c')) q { S with th := upd S.th k { S.th k with row := (S.th k).row ++ [c] } } A (o.ext w w5 (k + 2)) nv bv tv sv ∧ Keep (fun b => o b = k + 2) w (w5.setCell ⟨A k, 2, none⟩ (.slice (some ⟨g, 0, none⟩) (n + 1) c')) := by
 obtain ⟨s1, h1, r1, R1, ht⟩ := h.th k hk
 have hRl : R1.length = (S.th k).row.length := by rw [← ht.eq]; simp
 obtain ⟨ro, rc, rfl, _⟩ := own_shape ht.row
 obtain ⟨n, hn⟩ : ∃ n, R1.length = n := ⟨_, rfl⟩
 rw [hn] at ht
 have hr := ht.row
 rw [hn] at hr
 obtain ⟨g, c', w5, e1, e2, e3, e4, e5⟩ := run_app (P := Tryz.prog) w 130 130 144 Tryz.underlying130 Tryz.infoChange rfl (by decide) _ n _ hr [.bool (isCut c), .int .i64 c.place, dv] rfl (fun z hz => by simp only [List.mem_cons, List.not_mem_nil, or_false] at hz; rcases hz with rfl | rfl | rfl; rfl; rfl; exact h1c) (by unfold maxLen; omega) (by omega)
 have hK5 := e3 (fun k => (Value.slice ro n rc).ownBlock = some k) (fun _ e => e)
 have nA : ¬ (Value.slice ro n rc).ownBlock = some (A k) := own_ne ht.row ht.cells (by decide)
 have hc5 := hK5.heapOf ht.cells nA
 have old : ∀ b, b < w.heap.size → o.ext w w5 (k + 2) b = o b := fun b hb => Lab.ext_old hb
 have hks : Keep (· = A k) w5 (w5.setCell ⟨A k, 2, none⟩ (.slice (some ⟨g, 0, none⟩) (n + 1) c')) := (Keep.refl (· = A k) w5).setCell (p := ⟨A k, 2, none⟩) (fun _ => rfl) _
 have nRow : ∀ {u : Value} {m : Nat} {ys : By}, OwnB w u m ys → ∀ g, u.ownBlock = some g → ¬ (Value.slice ro n rc).ownBlock = some g := fun hu g hg e => OwnB.two ht.row hu (by decide) g e hg
 have nB : ∀ {u : Value} {m : Nat} {ys : By}, OwnB w5 u m ys → ∀ g, u.ownBlock = some g → ¬ g = A k := fun hu g hg e => hu.ne hc5 (by decide) (by rw [hg, e])
 have k5 : ∀ {u : Value} {m : Nat} {ys : By}, OwnB w u m ys → OwnB (w5.setCell ⟨A k, 2, none⟩ (.slice (some ⟨g, 0, none⟩) (n + 1) c')) u m ys := fun hu => (hu.keep hK5 (nRow hu)).keep hks (nB (hu.keep hK5 (nRow hu)))
 have kD : ∀ p : Ch × Value, ChD w p → ChD (w5.setCell ⟨A k, 2, none⟩ (.slice (some ⟨g, 0, none⟩) (n + 1) c')) p := fun p hp => k5 (show OwnB w p.2 (chD p.1).length (chD p.1) from hp)
 have e2' : w5.ownsRow 0 144 3 (.slice (some ⟨g, 0, none⟩) (n + 1) c') (R1 ++ [(c, dv)]).length (chsV (R1 ++ [(c, dv)])) := by
  rw [chsV_snoc, List.length_append, hn]; exact e2
 have hKw : Keep (fun b => o b = k + 2) w (w5.setCell ⟨A k, 2, none⟩ (.slice (some ⟨g, 0, none⟩) (n + 1) c')) := (hK5.mono (G := fun b => o b = k + 2) (fun i e _ => ht.lr i e)).trans hks (fun i e _ => by show o i = k + 2; rw [show i = A k from e]; exact ht.lb)
 refine ⟨ro, n, rc, by rw [cell_of_row w _ 2 _ _ _ ht.cells]; rfl, g, c', w5, e1, by rw [cell_of_row w5 _ 2 _ _ _ hc5]; rfl, frozen_of_row _ _ _ _ _ hc5, RDx.thing (k := k) h hKw old (lim_ext2 h.lim hK5.size hks.size) ⟨s1, h1, .slice (some ⟨g, 0, none⟩) (n + 1) c', R1 ++ [(c, dv)], ?_, k5 ht.safe, k5 ht.shown, by simp [ht.eq], own_keeps e2' hks (fun g' hg' e => own_ne e2' hc5 (by decide) (by rw [hg', e])), fun p hp => ?_, (old _ ht.lt).trans ht.lb, fun g hg => (old g (ht.safe.lt hg)).trans (ht.ls g hg), fun g hg => (old g (ht.shown.lt hg)).trans (ht.lh g hg), fun g' hg' => ?_, fun p hp g' hg' => ?_⟩, hKw⟩
 ·rw [heap_setCell_same _ (A k) 2 _ _ _ hc5]; simp
 ·rcases List.mem_append.1 hp with hp | hp
  ·exact kD p (ht.data p hp)
  ·rw [List.mem_singleton.1 hp]; exact kD _ hd
 ·simp only [Value.ownBlock, Option.some.injEq] at hg'
  subst hg'
  rcases e4 with e | e
  ·rw [old g (hr.lt g e.symm).2]; exact ht.lr g e.symm
  ·exact Lab.ext_new e e5
 ·rcases List.mem_append.1 hp with hp | hp
  ·exact (old g' ((ht.data p hp).lt hg')).trans (ht.ld p hp g' hg')
  ·rw [List.mem_singleton.1 hp] at hg'
   exact (old g' (hd.lt hg')).trans (hdl g' hg')
theorem RDx.thSafe {k : Nat} (h : RDx w q S A o nv bv tv sv) (hk : k ∈ S.lives) {v : Value} {xs : By} (hB : Cg w w1 v xs) :
  RDx ((w1.setCell ⟨A k, 0, none⟩ v).setCell ⟨A k, 2, none⟩ (.slice none 0 0)) q { S with th := upd S.th k ⟨xs, [], (S.th k).shown⟩ } A (o.ext w w1 (k + 2)) nv bv tv sv ∧ Keep (· = A k) w ((w1.setCell ⟨A k, 0, none⟩ v).setCell ⟨A k, 2, none⟩ (.slice none 0 0)) ∧ (∃ u, w1.cell? ⟨A k, 0, none⟩ = some u) ∧ w1.frozen? ⟨A k, 0, none⟩ = false ∧ (∃ u, w1.cell? ⟨A k, 2, none⟩ = some u) ∧ w1.frozen? ⟨A k, 2, none⟩ = false := by
 obtain ⟨s1, h1, r1, R1, ht⟩ := h.th k hk
 have hK1 : Keep (fun _ => False) w w1 := Keep.ofNone hB.keep
 have ht1 := ht.keep hK1 (fun _ _ h => h)
 have hks : Keep (· = A k) w1 ((w1.setCell ⟨A k, 0, none⟩ v).setCell ⟨A k, 2, none⟩ (.slice none 0 0)) := ((Keep.refl (· = A k) w1).setCell (p := ⟨A k, 0, none⟩) (fun _ => rfl) _).setCell (p := ⟨A k, 2, none⟩) (fun _ => rfl) _
 have hK : Keep (· = A k) w ((w1.setCell ⟨A k, 0, none⟩ v).setCell ⟨A k, 2, none⟩ (.slice none 0 0)) := (Keep.ofNone hB.keep).trans hks (fun i e _ => e)
 have old : ∀ b, b < w.heap.size → o.ext w w1 (k + 2) b = o b := fun b hb => Lab.ext_old hb
 have nB : ∀ {u : Value} {n : Nat} {ys : By}, OwnB w1 u n ys → ∀ g, u.ownBlock = some g → ¬ g = A k := fun hu g hg e => hu.ne ht1.cells (by decide) (by rw [hg, e])
 have hvB := OwnB.of hB.row
 refine ⟨RDx.thing (k := k) h (hK.mono (fun i e _ => by show o i = k + 2; rw [show i = A k from e]; exact ht.lb)) old (lim_ext2 h.lim hB.keep.size hks.size) ⟨v, h1, .slice none 0 0, [], ?_, hvB.keep hks (nB hvB), ht1.shown.keep hks (nB ht1.shown), rfl, World.ownsRow_nil _ _ _ _, by simp, (old _ ht.lt).trans ht.lb, fun g hg => Lab.ext_new (hB.new g hg) (hvB.lt hg), fun g hg => (old g (ht.shown.lt hg)).trans (ht.lh g hg), by simp [Value.ownBlock], by simp⟩, hK, ⟨s1, by rw [cell_of_row w1 _ 0 _ _ _ ht1.cells]; rfl⟩, frozen_of_row _ _ _ _ _ ht1.cells, ⟨r1, by rw [cell_of_row w1 _ 2 _ _ _ ht1.cells]; rfl⟩, frozen_of_row _ _ _ _ _ ht1.cells⟩
 rw [heap_setCell_same _ (A k) 2 _ _ _ (heap_setCell_same _ (A k) 0 _ _ _ ht1.cells)]; simp
theorem RDx.thShape {k : Nat} (h : RDx w q S A o nv bv tv sv) (hk : k ∈ S.lives) : ∃ so sc ho hc, OwnB w (.slice so (S.th k).safe.length sc) (S.th k).safe.length (S.th k).safe ∧ OwnB w (.slice ho (S.th k).shown.length hc) (S.th k).shown.length (S.th k).shown ∧ w.cell? ⟨A k, 0, none⟩ = some (.slice so (S.th k).safe.length sc) ∧ w.cell? ⟨A k, 1, none⟩ = some (.slice ho (S.th k).shown.length hc) ∧ o (A k) = k + 2 ∧ A k < w.heap.size := by
 obtain ⟨s1, h1, r1, R1, ht⟩ := h.th k hk
 obtain ⟨so, sc, e1, _⟩ := ht.safe.shape
 obtain ⟨ho, hc, e2, _⟩ := ht.shown.shape
 subst e1 e2
 exact ⟨so, sc, ho, hc, ht.safe, ht.shown, by rw [cell_of_row w _ 0 _ _ _ ht.cells]; rfl, by rw [cell_of_row w _ 1 _ _ _ ht.cells]; rfl, ht.lb, ht.lt⟩
end
end

end Go.Proofs.YtodihkdmneihiaaGreatDoor
