/-
  Contracts: block.shorter, Pack$1. (Written by tools/bd.py.)
-/
import Derived.Test.YtdnbpklnkmgmkaaBc
import Derived.Great.Ranges
import Derived.Great.BuildSlice
import Derived.Deep.MidRow
namespace Go.Proofs.Ytdnbpklnkmgmkaa
open Go.RowKit
set_option linter.unusedVariables false
set_option linter.unusedSimpArgs false

theorem Try.infoBlk4 : (Try.prog.info? 45).map (·.size) = some 4 := by kernel_rfl
theorem blk_all (a b c d : Int) : (#[.int .i64 a, .int .i64 b, .int .i64 c, .int .i64 d] : Array Value).all (·.oneCell') = true := by kernel_rfl
def RB (w : World) (g : Nat) (cs : Array Value) : Prop := w.heap[g]? = some (.cells cs 45 (0, 0))
theorem RB.kept {l : List Nat} {w w' : World} {g : Nat} {cs : Array Value} (h : RB w g cs) (hk : Kept l w w') (hn : g ∉ l) : RB w' g cs := (hk.block g (Array.getElem?_eq_some_iff.1 h).1 hn).trans h

set_option maxHeartbeats 1000000 in
theorem shorter_ok (ao : Option Addr) (n cap : Nat) (xs : List UInt8) (w : World) (hx : xs.length = n) (h4 : n ≤ 4096) (hs : Sl w ao xs) :
    Calls Try.prog 31 #[.slice ao n cap] w fun e w' => ∃ bo bc, e = .returned (.slice bo (Blk.sh xs).length bc) ∧ Sl w' bo (Blk.sh xs) ∧ Below w.heap.size w w' := by
  have HP := hide (pack_any ao n cap xs w hx hs)
  have he : Prs.packed xs = (Prs.pack xs, 0) := by unfold Prs.packed; rw [if_neg (by omega)]
  rw [he] at HP
  unfold Ans at HP
  have HX := hide hx
  have HS := hide hs
  clear he hs
  by_cases h : (Prs.pack xs).length < xs.length
  · have hsh : Blk.sh xs = Prs.pack xs := by unfold Blk.sh; rw [if_pos h]
    rw [hsh]
    rw [hx] at h
    have hq : ¬ (n : Int) ≤ ((Prs.pack xs).length : Int) := by omega
    clear hsh hx h4
    generalize Prs.pack xs = R at HP h hq ⊢
    go_enter Try.func31, Try.ntmps31
    go_wp2_with (go_at_call 40; refine HP.out.mono ?_; rintro e w1 ⟨bo, bc, rfl, ho1, hb1⟩; have HO1 := hide ho1; have HB1 := hide hb1; clear ho1 hb1 HP)
    go_ret
    exact ⟨bo, bc, rfl, (own_slc HO1.out).1, HB1.out⟩
  · have hsh : Blk.sh xs = xs := by unfold Blk.sh; rw [if_neg h]
    rw [hsh, hx]
    rw [hx] at h
    have hq : (n : Int) ≤ ((Prs.pack xs).length : Int) := by omega
    clear hsh hx h4
    generalize Prs.pack xs = R at HP h hq
    go_enter Try.func31, Try.ntmps31
    go_wp2_with (go_at_call 40; refine HP.out.mono ?_; rintro e w1 ⟨bo, bc, rfl, ho1, hb1⟩; have HB1 := hide hb1; clear ho1 hb1 HP)
    go_ret
    exact ⟨ao, cap, rfl, HS.out.kept (Kept.of_below HB1.out) (by simp), HB1.out⟩

set_option maxHeartbeats 2000000 in
set_option maxRecDepth 100000 in
theorem lay_ok (ao : Option Addr) (n cap : Nat) (xs : List UInt8) (w : World) (hx : xs.length = n) (h4 : n ≤ 4096) (h0 : xs ≠ []) (hs : Sl w ao xs) (gN gP gR o T : Nat) (L : List UInt8)
    (cN : w.cell? ⟨gN, 0, none⟩ = some (.int .i64 o)) (fN : w.frozen? ⟨gN, 0, none⟩ = false) (cP : w.cell? ⟨gP, 0, none⟩ = some (.slice (some ⟨gR, 0, none⟩) T T)) (hR : w.heap[gR]? = some (.cells (bys L).toArray 5 (0, 0))) (hL : L.length = T) (ho : o + (Blk.sh xs).length ≤ T) (hT : T ≤ 65536) (hNR : gN ≠ gR) (hPR : gP ≠ gR) (hNP : gN ≠ gP) :
    Calls Try.prog 30 #[.slice ao n cap, .pointer (some ⟨gN, 0, none⟩), .pointer (some ⟨gP, 0, none⟩)] w fun e w' =>
      e = .returned (.agg #[.int .i64 o, .int .i64 (Blk.sh xs).length, .int .i64 n, .int .i64 (Pure.sum (Blk.sh xs))]) ∧ w'.cell? ⟨gN, 0, none⟩ = some (.int .i64 ((o : Int) + ((Blk.sh xs).length : Int))) ∧ w'.frozen? ⟨gN, 0, none⟩ = false ∧ w'.heap[gR]? = some (.cells (bys (L.take o ++ Blk.sh xs ++ L.drop (o + (Blk.sh xs).length))).toArray 5 (0, 0)) ∧ Kept [gN, gR] w w' := by
  have hpos := Blk.sh_pos xs h0
  have hle := Blk.sh_len xs
  rw [hx] at hle
  obtain ⟨m, hm⟩ : ∃ m, (Blk.sh xs).length = m := ⟨_, rfl⟩
  have HM := hide hm
  have HN := hide (And.intro cN fN)
  have HP := hide cP
  have HR := hide hR
  have HL := hide hL
  have hkA : Kept [] w (w.alloc (.cells #[.int .i64 0, .int .i64 0, .int .i64 0, .int .i64 0] 45)) := (Kept.refl [] w).alloc _
  have HSH := hide (shorter_ok ao n cap xs _ hx h4 (hs.kept hkA (by simp)))
  have HZ0 : Hid (RB (w.alloc (.cells #[.int .i64 0, .int .i64 0, .int .i64 0, .int .i64 0] 45)) w.heap.size #[.int .i64 0, .int .i64 0, .int .i64 0, .int .i64 0]) := heap_new _ _
  have HA := hide hkA
  rw [hm] at HSH hpos hle ho ⊢
  obtain ⟨u, hu⟩ : ∃ u, Pure.sum (Blk.sh xs) = u := ⟨_, rfl⟩
  rw [hu]
  have HU := hide hu
  clear cN fN cP hR hL hs hkA hx h0 hm hu
  have hz : Value.int .i64 0 = Value.int .i64 0 := rfl
  clear hz
  go_enter Try.func30, Try.ntmps30
  go_upto_region 2 with (go_at_call 31; refine HSH.out.mono ?_; rintro e w1 ⟨bo, bc, rfl, hsl, hb1⟩; have HSL := hide hsl; have HB1 := hide hb1; clear hsl hb1 HSH)
  have HK1 : Hid (Kept [] w w1) := HA.out.trans (Kept.of_below HB1.out) (by simp)
  have HZ : Hid (RB w1 w.heap.size #[.int .i64 0, .int .i64 0, .int .i64 0, .int .i64 0]) := HZ0.out.kept (Kept.of_below HB1.out) (by simp)
  have HS1 : Hid (w.heap.size + 1 ≤ w1.heap.size) := by
    have := HB1.out.size
    show _ ≤ _
    simpa using this
  have cN1 := HK1.out.cellOf HN.out.1 (by simp)
  have HSM := hide (sum_at (cap := bc) HM.out (by omega) HSL.out)
  rw [HU.out] at HSM
  clear HB1 HZ0 HA
  refine wp_region_held_drew (S := fun w' => Kept [] w1 w') (by kernel_rfl) ((Kept.refl [] w1).drew) (fun h0 => ?_)
  generalize World.drew w1 = v0 at h0 ⊢
  refine wpAnyH_take (i := 0) (v := .int .i64 o) rfl (by kernel_rfl) (by kernel_rfl) (by kernel_rfl) (fun _ _ _ h => h) (Or.inl ⟨by rfl, fun w hSw => by have c0 := Kept.cellOf hSw cN1 (by simp); go_simp⟩) h0 ?_
  try simp only [List.getElem_toArray, List.getElem_cons_zero, List.getElem_cons_succ, Act.put, List.setIfInBounds_toArray, List.set_cons_zero, List.set_cons_succ]
  refine wpAnyH_take (i := 1) (v := .slice ao n cap) rfl (by kernel_rfl) (by kernel_rfl) (by kernel_rfl) (fun _ _ _ h => h) (Or.inl ⟨by rfl, fun w hSw => by go_simp⟩) h0 ?_
  try simp only [List.getElem_toArray, List.getElem_cons_zero, List.getElem_cons_succ, Act.put, List.setIfInBounds_toArray, List.set_cons_zero, List.set_cons_succ]
  refine wpAnyH_take (i := 2) (v := .int .i64 n) rfl (by kernel_rfl) (by kernel_rfl) (by kernel_rfl) (fun _ _ _ h => h) (Or.inl ⟨by rfl, fun w hSw => by go_simp⟩) h0 ?_
  try simp only [List.getElem_toArray, List.getElem_cons_zero, List.getElem_cons_succ, Act.put, List.setIfInBounds_toArray, List.set_cons_zero, List.set_cons_succ]
  refine wpAnyH_take (i := 3) (v := .slice bo m bc) rfl (by kernel_rfl) (by kernel_rfl) (by kernel_rfl) (fun _ _ _ h => h) (Or.inl ⟨by rfl, fun w hSw => by go_simp⟩) h0 ?_
  try simp only [List.getElem_toArray, List.getElem_cons_zero, List.getElem_cons_succ, Act.put, List.setIfInBounds_toArray, List.set_cons_zero, List.set_cons_succ]
  refine wpAnyH_ready (rs := [4, 6]) (by kernel_rfl) (by simp) (AllReadyH.cons (i := 4) rfl (fun K hK => ?_) (AllReadyH.cons (i := 6) rfl (fun K hK => ?_) AllReadyH.nil))
  next =>
    rw [if_pos (by rfl)]
    go_simp
    refine (HSM.out _ h0).mono ?_
    rintro e v1 ⟨rfl, hq⟩
    refine hK.out _ _ (h0.trans hq (by simp)) (fun h1 => ?_)
    clear hK K hq h0
    try simp only [List.getElem_toArray, List.getElem_cons_zero, List.getElem_cons_succ, Act.put, List.setIfInBounds_toArray, List.set_cons_zero, List.set_cons_succ]
    refine wpAnyH_take (i := 5) (v := .agg #[.int .i64 o, .int .i64 0, .int .i64 n, .int .i64 u]) rfl (by kernel_rfl) (by kernel_rfl) (by kernel_rfl) (fun _ _ _ h => h) (Or.inl ⟨by rfl, fun w hSw => by go_simp⟩) h1 ?_
    try simp only [List.getElem_toArray, List.getElem_cons_zero, List.getElem_cons_succ, Act.put, List.setIfInBounds_toArray, List.set_cons_zero, List.set_cons_succ]
    refine wpAnyH_ready (rs := [6]) (by kernel_rfl) (by simp) (AllReadyH.cons (i := 6) rfl (fun K hK => ?_) AllReadyH.nil)
    rw [if_pos (by rfl)]
    go_simp
    have hz : RB (v1.alloc (.cells #[.int .i64 0, .int .i64 0, .int .i64 0, .int .i64 0] 45)) v1.heap.size #[.int .i64 0, .int .i64 0, .int .i64 0, .int .i64 0] := heap_new (v1) _
    have gb1 : w1.heap.size ≤ (v1).heap.size := h1.size
    refine hK.out _ _ (h1.alloc (.cells #[.int .i64 0, .int .i64 0, .int .i64 0, .int .i64 0] 45)) (fun h2 => ?_)
    clear hK K h1
    try simp only [List.getElem_toArray, List.getElem_cons_zero, List.getElem_cons_succ, Act.put, List.setIfInBounds_toArray, List.set_cons_zero, List.set_cons_succ]
    generalize World.alloc (v1) _ = v2 at h2 hz ⊢
    generalize (v1).heap.size = b1 at gb1 hz ⊢
    refine wpAnyH_ready (rs := [7]) (by kernel_rfl) (by simp) (AllReadyH.cons (i := 7) rfl (fun K hK => ?_) AllReadyH.nil)
    rw [if_pos (by rfl)]
    refine wp_store_row 45 (.tmp 6) (.tmp 14) rfl b1 #[.int .i64 o, .int .i64 0, .int .i64 n, .int .i64 u] rfl rfl 45 #[.int .i64 0, .int .i64 0, .int .i64 0, .int .i64 0] hz Try.infoBlk4 rfl (blk_all _ _ _ _) ?_
    refine hK.out _ _ (kept_setRow h2 (fun hlt => absurd hlt (by omega)) _) (fun h3 => ?_)
    clear hK K h2
    try simp only [List.getElem_toArray, List.getElem_cons_zero, List.getElem_cons_succ, Act.put, List.setIfInBounds_toArray, List.set_cons_zero, List.set_cons_succ]
    refine wpAnyH_done (by kernel_rfl) ?_ _
    have hrow : RB (v2.setRow b1 #[.int .i64 o, .int .i64 0, .int .i64 n, .int .i64 u]) b1 #[.int .i64 o, .int .i64 0, .int .i64 n, .int .i64 u] := setRow_heap _ _ _ _ _ _ hz
    generalize v2.setRow b1 #[.int .i64 o, .int .i64 0, .int .i64 n, .int .i64 u] = W3 at h3 hrow ⊢
    have H3 := hide h3
    have HRW := hide hrow
    have HGB := hide gb1
    clear hz h3 hrow gb1 HSM cN1
    generalize b1 = b6 at HRW HGB ⊢
    have HKW : Hid (Kept [] w W3) := (HK1.out.trans H3.out (by simp))
    have cN3 := HKW.out.cellOf HN.out.1 (by simp)
    have fN3 : W3.frozen? ⟨gN, 0, none⟩ = false := (HKW.out.frozen (World.block_lt_of_cell? _ _ HN.out.1) (by simp)).trans HN.out.2
    have cP3 := HKW.out.cellOf HP.out (by simp)
    have HR3 : Hid (W3.heap[gR]? = some (.cells (bys L).toArray 5 (0, 0))) := (HKW.out.block gR (Array.getElem?_eq_some_iff.1 HR.out).1 (by simp)).trans HR.out
    have HZ3 : Hid (RB W3 w.heap.size #[.int .i64 0, .int .i64 0, .int .i64 0, .int .i64 0]) := HZ.out.kept H3.out (by simp)
    have hcut := fun W => Try.cutFrom W gR 0 T T o (by omega)
    rw [if_neg (by omega), Nat.zero_add] at hcut
    obtain ⟨w4, hcp, hrow4, hk4⟩ := copy_at W3 gR o (T - o) (T - o) bo m bc (Blk.sh xs) L HR3.out HM.out (by rw [HL.out]; omega) (by omega) (HSL.out.kept H3.out (by simp))
    have HR4 := hide hrow4
    have HK4 := hide hk4
    have hs1 : w.heap.size + 1 ≤ W3.heap.size := Nat.le_trans HS1.out H3.out.size
    have hgR : gR < w.heap.size := (Array.getElem?_eq_some_iff.1 HR.out).1
    have hgN : gN < w.heap.size := World.block_lt_of_cell? _ _ HN.out.1
    have hb6 : w.heap.size + 1 ≤ b6 := Nat.le_trans HS1.out HGB.out
    have HW6 : Hid (RB w4 b6 #[.int .i64 o, .int .i64 0, .int .i64 n, .int .i64 u]) := HRW.out.kept hk4 (by simp <;> omega)
    have c6 : w4.cell? ⟨b6, 1, none⟩ = some (.int .i64 0) := by rw [cell_of_row _ _ _ _ _ _ HW6.out]; rfl
    have f6 : w4.frozen? ⟨b6, 1, none⟩ = false := frozen_of_row _ _ _ _ _ HW6.out
    have cN4 : w4.cell? ⟨gN, 0, none⟩ = some (.int .i64 o) := hk4.cellOf cN3 (by simp <;> omega)
    have fN4 : w4.frozen? ⟨gN, 0, none⟩ = false := (hk4.frozen (World.block_lt_of_cell? _ _ cN3) (by simp <;> omega)).trans fN3
    have hbN : b6 ≠ gN := by omega
    clear hrow4 hk4
    go_upto_region 5 with (fail)
    obtain ⟨w6, hw6⟩ : ∃ w6, (w4.setCell ⟨b6, 1, none⟩ (.int .i64 m)).setCell ⟨gN, 0, none⟩ (.int .i64 ((o : Int) + (m : Int))) = w6 := ⟨_, rfl⟩
    rw [hw6]
    have g6 : RB w6 b6 #[.int .i64 o, .int .i64 m, .int .i64 n, .int .i64 u] := by
      rw [← hw6]
      have e1 : (w4.setCell ⟨b6, 1, none⟩ (.int .i64 m)).heap[b6]? = some (.cells #[.int .i64 o, .int .i64 m, .int .i64 n, .int .i64 u] 45 (0, 0)) := by rw [heap_setCell_same w4 b6 1 _ _ _ HW6.out]; rfl
      exact (((Kept.refl [gN] (w4.setCell ⟨b6, 1, none⟩ (.int .i64 m))).setCell (p := ⟨gN, 0, none⟩) (by simp) (.int .i64 ((o : Int) + (m : Int)))).block b6 (Array.getElem?_eq_some_iff.1 e1).1 (by simp <;> omega)).trans e1
    have hk6 : Kept [b6, gN] w4 w6 := by
      rw [← hw6]
      exact ((Kept.refl [b6, gN] w4).setCell (p := ⟨b6, 1, none⟩) (by simp) _).setCell (p := ⟨gN, 0, none⟩) (by simp) _
    have n6 : w6.cell? ⟨gN, 0, none⟩ = some (.int .i64 ((o : Int) + (m : Int))) ∧ w6.frozen? ⟨gN, 0, none⟩ = false := by
      rw [← hw6]
      exact ⟨World.cell?_setCell_same _ _ _ (by rw [World.cell?_setCell_other _ _ _ _ (by intro e; cases e)]; exact cN4), by rw [World.frozen?_setCell, World.frozen?_setCell]; exact fN4⟩
    have z6 : RB w6 w.heap.size #[.int .i64 0, .int .i64 0, .int .i64 0, .int .i64 0] := (HZ3.out.kept HK4.out (by simp <;> omega)).kept hk6 (by simp <;> omega)
    have HF : Hid ((w6.setRow w.heap.size #[.int .i64 o, .int .i64 m, .int .i64 n, .int .i64 u]).heap[w.heap.size]? = some (.cells #[.int .i64 o, .int .i64 m, .int .i64 n, .int .i64 u] 45 (0, 0))) := setRow_heap _ _ _ _ _ _ z6
    have r6 : w6.heap[gR]? = some (.cells (bys (L.take o ++ Blk.sh xs ++ L.drop (o + m))).toArray 5 (0, 0)) := (hk6.block gR (Array.getElem?_eq_some_iff.1 HR4.out).1 (by simp <;> omega)).trans HR4.out
    have HE : Hid ((w6.setRow w.heap.size #[.int .i64 o, .int .i64 m, .int .i64 n, .int .i64 u]).cell? ⟨gN, 0, none⟩ = some (.int .i64 ((o : Int) + (m : Int))) ∧ (w6.setRow w.heap.size #[.int .i64 o, .int .i64 m, .int .i64 n, .int .i64 u]).frozen? ⟨gN, 0, none⟩ = false ∧ (w6.setRow w.heap.size #[.int .i64 o, .int .i64 m, .int .i64 n, .int .i64 u]).heap[gR]? = some (.cells (bys (L.take o ++ Blk.sh xs ++ L.drop (o + m))).toArray 5 (0, 0)) ∧ Kept [gN, gR] w (w6.setRow w.heap.size #[.int .i64 o, .int .i64 m, .int .i64 n, .int .i64 u])) := by
      have k1 : Kept [w.heap.size] w6 (w6.setRow w.heap.size #[.int .i64 o, .int .i64 m, .int .i64 n, .int .i64 u]) := kept_setRow (Kept.refl _ _) (by simp) _
      refine ⟨k1.cellOf n6.1 (by simp <;> omega), (k1.frozen (World.block_lt_of_cell? _ _ n6.1) (by simp <;> omega)).trans n6.2, (k1.block gR (Array.getElem?_eq_some_iff.1 r6).1 (by simp <;> omega)).trans r6, ?_⟩
      have k2 : Kept [gN, gR] w w4 := (HKW.out.mono (by simp)).trans HK4.out (by simp)
      have k3 : Kept [gN, gR] w w6 := k2.trans hk6 (by simp <;> omega)
      exact k3.trans k1 (by simp)
    clear hw6 hk6 n6 r6 HR4 HK4 HW6 c6 f6 cN4 fN4 cN3 fN3 cP3 hcp hcut HKW HR3 HRW
    go_wp2_with (first
      | refine wpList_load_row rfl 45 (.tmp 6) rfl b6 rfl 45 _ (0, 0) _ g6 Try.underlying45 rfl Try.infoBlk4 ?_
      | refine wpList_store_rowTo rfl 45 (.tmp 4) (.tmp 25) rfl rfl w.heap.size #[.int .i64 o, .int .i64 m, .int .i64 n, .int .i64 u] rfl rfl 45 #[.int .i64 0, .int .i64 0, .int .i64 0, .int .i64 0] z6 Try.infoBlk4 rfl (blk_all _ _ _ _) ?_)
    exact ret_row rfl rfl w.heap.size 45 _ (0, 0) _ rfl HF.out Try.underlying45 rfl Try.infoBlk4 ⟨rfl, HE.out⟩
  next =>
    rw [if_pos (by rfl)]
    go_simp
    have hz : RB (v0.alloc (.cells #[.int .i64 0, .int .i64 0, .int .i64 0, .int .i64 0] 45)) v0.heap.size #[.int .i64 0, .int .i64 0, .int .i64 0, .int .i64 0] := heap_new (v0) _
    have gb1 : w1.heap.size ≤ (v0).heap.size := h0.size
    refine hK.out _ _ (h0.alloc (.cells #[.int .i64 0, .int .i64 0, .int .i64 0, .int .i64 0] 45)) (fun h1 => ?_)
    clear hK K h0
    try simp only [List.getElem_toArray, List.getElem_cons_zero, List.getElem_cons_succ, Act.put, List.setIfInBounds_toArray, List.set_cons_zero, List.set_cons_succ]
    generalize World.alloc (v0) _ = v1 at h1 hz ⊢
    generalize (v0).heap.size = b1 at gb1 hz ⊢
    refine wpAnyH_ready (rs := [4]) (by kernel_rfl) (by simp) (AllReadyH.cons (i := 4) rfl (fun K hK => ?_) AllReadyH.nil)
    rw [if_pos (by rfl)]
    go_simp
    refine (HSM.out _ h1).mono ?_
    rintro e v2 ⟨rfl, hq⟩
    replace hz := RB.kept hz (hq) (by simp)
    refine hK.out _ _ (h1.trans hq (by simp)) (fun h2 => ?_)
    clear hK K hq h1
    try simp only [List.getElem_toArray, List.getElem_cons_zero, List.getElem_cons_succ, Act.put, List.setIfInBounds_toArray, List.set_cons_zero, List.set_cons_succ]
    refine wpAnyH_take (i := 5) (v := .agg #[.int .i64 o, .int .i64 0, .int .i64 n, .int .i64 u]) rfl (by kernel_rfl) (by kernel_rfl) (by kernel_rfl) (fun _ _ _ h => h) (Or.inl ⟨by rfl, fun w hSw => by go_simp⟩) h2 ?_
    try simp only [List.getElem_toArray, List.getElem_cons_zero, List.getElem_cons_succ, Act.put, List.setIfInBounds_toArray, List.set_cons_zero, List.set_cons_succ]
    refine wpAnyH_ready (rs := [7]) (by kernel_rfl) (by simp) (AllReadyH.cons (i := 7) rfl (fun K hK => ?_) AllReadyH.nil)
    rw [if_pos (by rfl)]
    refine wp_store_row 45 (.tmp 6) (.tmp 14) rfl b1 #[.int .i64 o, .int .i64 0, .int .i64 n, .int .i64 u] rfl rfl 45 #[.int .i64 0, .int .i64 0, .int .i64 0, .int .i64 0] hz Try.infoBlk4 rfl (blk_all _ _ _ _) ?_
    refine hK.out _ _ (kept_setRow h2 (fun hlt => absurd hlt (by omega)) _) (fun h3 => ?_)
    clear hK K h2
    try simp only [List.getElem_toArray, List.getElem_cons_zero, List.getElem_cons_succ, Act.put, List.setIfInBounds_toArray, List.set_cons_zero, List.set_cons_succ]
    refine wpAnyH_done (by kernel_rfl) ?_ _
    have hrow : RB (v2.setRow b1 #[.int .i64 o, .int .i64 0, .int .i64 n, .int .i64 u]) b1 #[.int .i64 o, .int .i64 0, .int .i64 n, .int .i64 u] := setRow_heap _ _ _ _ _ _ hz
    generalize v2.setRow b1 #[.int .i64 o, .int .i64 0, .int .i64 n, .int .i64 u] = W3 at h3 hrow ⊢
    have H3 := hide h3
    have HRW := hide hrow
    have HGB := hide gb1
    clear hz h3 hrow gb1 HSM cN1
    generalize b1 = b6 at HRW HGB ⊢
    have HKW : Hid (Kept [] w W3) := (HK1.out.trans H3.out (by simp))
    have cN3 := HKW.out.cellOf HN.out.1 (by simp)
    have fN3 : W3.frozen? ⟨gN, 0, none⟩ = false := (HKW.out.frozen (World.block_lt_of_cell? _ _ HN.out.1) (by simp)).trans HN.out.2
    have cP3 := HKW.out.cellOf HP.out (by simp)
    have HR3 : Hid (W3.heap[gR]? = some (.cells (bys L).toArray 5 (0, 0))) := (HKW.out.block gR (Array.getElem?_eq_some_iff.1 HR.out).1 (by simp)).trans HR.out
    have HZ3 : Hid (RB W3 w.heap.size #[.int .i64 0, .int .i64 0, .int .i64 0, .int .i64 0]) := HZ.out.kept H3.out (by simp)
    have hcut := fun W => Try.cutFrom W gR 0 T T o (by omega)
    rw [if_neg (by omega), Nat.zero_add] at hcut
    obtain ⟨w4, hcp, hrow4, hk4⟩ := copy_at W3 gR o (T - o) (T - o) bo m bc (Blk.sh xs) L HR3.out HM.out (by rw [HL.out]; omega) (by omega) (HSL.out.kept H3.out (by simp))
    have HR4 := hide hrow4
    have HK4 := hide hk4
    have hs1 : w.heap.size + 1 ≤ W3.heap.size := Nat.le_trans HS1.out H3.out.size
    have hgR : gR < w.heap.size := (Array.getElem?_eq_some_iff.1 HR.out).1
    have hgN : gN < w.heap.size := World.block_lt_of_cell? _ _ HN.out.1
    have hb6 : w.heap.size + 1 ≤ b6 := Nat.le_trans HS1.out HGB.out
    have HW6 : Hid (RB w4 b6 #[.int .i64 o, .int .i64 0, .int .i64 n, .int .i64 u]) := HRW.out.kept hk4 (by simp <;> omega)
    have c6 : w4.cell? ⟨b6, 1, none⟩ = some (.int .i64 0) := by rw [cell_of_row _ _ _ _ _ _ HW6.out]; rfl
    have f6 : w4.frozen? ⟨b6, 1, none⟩ = false := frozen_of_row _ _ _ _ _ HW6.out
    have cN4 : w4.cell? ⟨gN, 0, none⟩ = some (.int .i64 o) := hk4.cellOf cN3 (by simp <;> omega)
    have fN4 : w4.frozen? ⟨gN, 0, none⟩ = false := (hk4.frozen (World.block_lt_of_cell? _ _ cN3) (by simp <;> omega)).trans fN3
    have hbN : b6 ≠ gN := by omega
    clear hrow4 hk4
    go_upto_region 5 with (fail)
    obtain ⟨w6, hw6⟩ : ∃ w6, (w4.setCell ⟨b6, 1, none⟩ (.int .i64 m)).setCell ⟨gN, 0, none⟩ (.int .i64 ((o : Int) + (m : Int))) = w6 := ⟨_, rfl⟩
    rw [hw6]
    have g6 : RB w6 b6 #[.int .i64 o, .int .i64 m, .int .i64 n, .int .i64 u] := by
      rw [← hw6]
      have e1 : (w4.setCell ⟨b6, 1, none⟩ (.int .i64 m)).heap[b6]? = some (.cells #[.int .i64 o, .int .i64 m, .int .i64 n, .int .i64 u] 45 (0, 0)) := by rw [heap_setCell_same w4 b6 1 _ _ _ HW6.out]; rfl
      exact (((Kept.refl [gN] (w4.setCell ⟨b6, 1, none⟩ (.int .i64 m))).setCell (p := ⟨gN, 0, none⟩) (by simp) (.int .i64 ((o : Int) + (m : Int)))).block b6 (Array.getElem?_eq_some_iff.1 e1).1 (by simp <;> omega)).trans e1
    have hk6 : Kept [b6, gN] w4 w6 := by
      rw [← hw6]
      exact ((Kept.refl [b6, gN] w4).setCell (p := ⟨b6, 1, none⟩) (by simp) _).setCell (p := ⟨gN, 0, none⟩) (by simp) _
    have n6 : w6.cell? ⟨gN, 0, none⟩ = some (.int .i64 ((o : Int) + (m : Int))) ∧ w6.frozen? ⟨gN, 0, none⟩ = false := by
      rw [← hw6]
      exact ⟨World.cell?_setCell_same _ _ _ (by rw [World.cell?_setCell_other _ _ _ _ (by intro e; cases e)]; exact cN4), by rw [World.frozen?_setCell, World.frozen?_setCell]; exact fN4⟩
    have z6 : RB w6 w.heap.size #[.int .i64 0, .int .i64 0, .int .i64 0, .int .i64 0] := (HZ3.out.kept HK4.out (by simp <;> omega)).kept hk6 (by simp <;> omega)
    have HF : Hid ((w6.setRow w.heap.size #[.int .i64 o, .int .i64 m, .int .i64 n, .int .i64 u]).heap[w.heap.size]? = some (.cells #[.int .i64 o, .int .i64 m, .int .i64 n, .int .i64 u] 45 (0, 0))) := setRow_heap _ _ _ _ _ _ z6
    have r6 : w6.heap[gR]? = some (.cells (bys (L.take o ++ Blk.sh xs ++ L.drop (o + m))).toArray 5 (0, 0)) := (hk6.block gR (Array.getElem?_eq_some_iff.1 HR4.out).1 (by simp <;> omega)).trans HR4.out
    have HE : Hid ((w6.setRow w.heap.size #[.int .i64 o, .int .i64 m, .int .i64 n, .int .i64 u]).cell? ⟨gN, 0, none⟩ = some (.int .i64 ((o : Int) + (m : Int))) ∧ (w6.setRow w.heap.size #[.int .i64 o, .int .i64 m, .int .i64 n, .int .i64 u]).frozen? ⟨gN, 0, none⟩ = false ∧ (w6.setRow w.heap.size #[.int .i64 o, .int .i64 m, .int .i64 n, .int .i64 u]).heap[gR]? = some (.cells (bys (L.take o ++ Blk.sh xs ++ L.drop (o + m))).toArray 5 (0, 0)) ∧ Kept [gN, gR] w (w6.setRow w.heap.size #[.int .i64 o, .int .i64 m, .int .i64 n, .int .i64 u])) := by
      have k1 : Kept [w.heap.size] w6 (w6.setRow w.heap.size #[.int .i64 o, .int .i64 m, .int .i64 n, .int .i64 u]) := kept_setRow (Kept.refl _ _) (by simp) _
      refine ⟨k1.cellOf n6.1 (by simp <;> omega), (k1.frozen (World.block_lt_of_cell? _ _ n6.1) (by simp <;> omega)).trans n6.2, (k1.block gR (Array.getElem?_eq_some_iff.1 r6).1 (by simp <;> omega)).trans r6, ?_⟩
      have k2 : Kept [gN, gR] w w4 := (HKW.out.mono (by simp)).trans HK4.out (by simp)
      have k3 : Kept [gN, gR] w w6 := k2.trans hk6 (by simp <;> omega)
      exact k3.trans k1 (by simp)
    clear hw6 hk6 n6 r6 HR4 HK4 HW6 c6 f6 cN4 fN4 cN3 fN3 cP3 hcp hcut HKW HR3 HRW
    go_wp2_with (first
      | refine wpList_load_row rfl 45 (.tmp 6) rfl b6 rfl 45 _ (0, 0) _ g6 Try.underlying45 rfl Try.infoBlk4 ?_
      | refine wpList_store_rowTo rfl 45 (.tmp 4) (.tmp 25) rfl rfl w.heap.size #[.int .i64 o, .int .i64 m, .int .i64 n, .int .i64 u] rfl rfl 45 #[.int .i64 0, .int .i64 0, .int .i64 0, .int .i64 0] z6 Try.infoBlk4 rfl (blk_all _ _ _ _) ?_)
    exact ret_row rfl rfl w.heap.size 45 _ (0, 0) _ rfl HF.out Try.underlying45 rfl Try.infoBlk4 ⟨rfl, HE.out⟩

end Go.Proofs.Ytdnbpklnkmgmkaa
