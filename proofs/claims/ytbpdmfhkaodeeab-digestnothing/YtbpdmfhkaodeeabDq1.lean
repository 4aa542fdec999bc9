/-
  The walk of DigestNothing.
-/
import Derived.Test.YtbpdmfhkaodeeabDk
import Derived.Test.YtbpdmfhkaodeeabDr4
import Derived.Test.YtbpdmfhkaodeeabAd
import Derived.Deep.Cut
import Derived.Deep.RegionHeld3
namespace Go.Proofs.Ytbpdmfhkaodeeab
open Go.RowKit
set_option linter.unusedVariables false
set_option linter.unusedSimpArgs false

theorem later_hs {w w2 : World} {b : Nat} {ty : TypeId} {m : List UInt8} (h : Hs w b ty [] [] m) (hb : Below w.heap.size w w2) : Hs w2 b ty [] [] m := h.kept (Kept.of_below hb) (by simp)
theorem wrote_old {w w2 : World} {b g : Nat} {o : Obj} (hk : Kept [b] w w2) (h : w.heap[g]? = some o) (hn : g ≠ b) : w2.heap[g]? = some o := (hk.block g (Array.getElem?_eq_some_iff.1 h).1 (by simpa using hn)).trans h

theorem range_row' {w : World} {g : Nat} {L : List UInt8} {t : TypeId} (h : w.heap[g]? = some (.cells (bys L).toArray t (0, 0))) : w.rangeAt g 0 (bys L) := fun j v hv => by
  rw [cell_of_row _ _ _ _ _ _ h, List.getElem?_toArray, Nat.zero_add]; exact hv
theorem range_kept {w w2 : World} {g : Nat} {L : List Value} (h : w.rangeAt g 0 L) (hk : Kept [] w w2) : w2.rangeAt g 0 L := fun j v hv => hk.cellOf (h j v hv) (by simp)
theorem pcs_kept {w w2 : World} {ao : Option Addr} {L : List Pc} (h : Pcs w ao L) (hk : Kept [] w w2) : Pcs w2 ao L := fun i hi => by
  obtain ⟨b, off, e, hc, hp⟩ := h i hi
  exact ⟨b, off, e, hk.cellOf hc (by simp), hp.kept hk (by simp)⟩
theorem pcs3 (W : World) (ao : Option Addr) (n cap : Nat) (xs : List UInt8) (hs : Sl W ao xs) (hn : xs.length = n) (hc : n ≤ cap) (c : Pc) (he : c.ds = []) :
    Pcs (W.alloc (.cells #[.slice none 0 0, .slice ao n cap, .slice c.da 0 c.dc] 31)) (some ⟨W.heap.size, 0, none⟩) [pc0, ⟨ao, cap, xs⟩, c] := by
  have h := heap_alloc_new W (.cells #[.slice none 0 0, .slice ao n cap, .slice c.da 0 c.dc] 31)
  intro i hi
  have hi3 : i < 3 := hi
  rcases i with _ | _ | _ | i
  · exact ⟨_, _, rfl, by rw [cell_of_row _ _ _ _ _ _ h]; rfl, Sl.nil _ _, Nat.le_refl _⟩
  · refine ⟨_, _, rfl, by rw [cell_of_row _ _ _ _ _ _ h, ← hn]; rfl, hs.kept ((Kept.refl [] W).alloc _) (by simp), ?_⟩
    show xs.length ≤ cap
    omega
  · refine ⟨_, _, rfl, by rw [cell_of_row _ _ _ _ _ _ h]; show some (Value.slice c.da 0 c.dc) = some (Value.slice c.da c.ds.length c.dc); rw [he]; rfl, ?_, ?_⟩
    · show Sl _ c.da c.ds
      rw [he]; exact Sl.nil _ _
    · show c.ds.length ≤ c.dc
      rw [he]; exact Nat.zero_le _
  · omega
theorem pcs1 (W : World) (ao : Option Addr) (n cap : Nat) (xs : List UInt8) (hs : Sl W ao xs) (hn : xs.length = n) (hc : n ≤ cap) :
    Pcs (W.alloc (.cells #[.slice ao n cap] 31)) (some ⟨W.heap.size, 0, none⟩) [⟨ao, cap, xs⟩] := by
  have h := heap_alloc_new W (.cells #[.slice ao n cap] 31)
  intro i hi
  have hi3 : i < 1 := hi
  obtain rfl : i = 0 := by omega
  refine ⟨_, _, rfl, by rw [cell_of_row _ _ _ _ _ _ h, ← hn]; rfl, hs.kept ((Kept.refl [] W).alloc _) (by simp), ?_⟩
  show xs.length ≤ cap
  omega
theorem boxed_new' (w : World) (C : Array Value) (t : TypeId) :
    (w.alloc (.cells C t)).heap[w.heap.size]? = some (.cells C t (0, 0)) ∧ Below w.heap.size w (w.alloc (.cells C t)) :=
  ⟨heap_alloc_new _ _, (Below.refl _ _).alloc (Nat.le_refl _) _⟩

set_option maxHeartbeats 2000000 in
set_option maxRecDepth 100000 in
theorem nothing_law (ao : Option Addr) (n cap : Nat) (xs : List UInt8) (w : World) (hi : InB w ao n cap xs) :
    Calls Try.prog 5 #[.slice ao n cap] w fun e w' => e = .returned (.bool true) ∧ Below w.heap.size w w' := by
  have HI : Hid (InB w ao n cap xs) := hi
  have hz := Try.zeroB32
  have hz2 := Try.zeroHash
  clear hi
  go_enter Try.func5, Try.ntmps5
  go_wp2_with (fail)
  refine (write_nil _ _).mono ?_
  rintro e w1 ⟨rfl, hw⟩
  subst hw
  have hZ := boxed_new' w1 zeroH 29
  go_wp2_with (fail)
  generalize World.alloc _ _ = w2 at hZ ⊢
  refine (rfull_any none 0 [] _ 0 rfl (by omega) (Sl.nil _ _) (by simp)).mono ?_
  rintro e w3 ⟨rfl, hb⟩
  obtain ⟨E0, hE⟩ : ∃ F, F = Sha.full [] := ⟨_, rfl⟩
  have lE : E0.length = 32 := by rw [hE]; exact Sha.full_len _
  have HE : Hid (Sha.full [] = E0) := hE.symm
  rw [← hE]
  clear hE
  have hZ3 := later_old hb hZ.1
  have hB3 : Below w1.heap.size w1 w3 := hZ.2.trans (hb.mono hZ.2.size)
  obtain ⟨Z, hZe⟩ : ∃ Z, Z = w1.heap.size := ⟨_, rfl⟩
  have HZl : Hid (Z = w1.heap.size) := hZe
  rw [← hZe] at hZ3 ⊢
  clear hZ hb hZe
  have iE := Try.info32b E0 lE
  have zE := zero_size E0 lE
  have oE := bys_all E0
  have hl3 := laid_new hB3 hB3.size zero32 (bys E0).toArray 39
  have hZ4 := laid_old zero32 (bys E0).toArray 39 hZ3
  go_wp2_with (refine wpList_store_rowTo rfl 39 (.tmp 5) (.tmp 11) rfl rfl w3.heap.size (bys E0).toArray rfl rfl 39 zero32 (heap_alloc_new _ _) iE zE oE ?_)
  obtain ⟨Eb, hEb⟩ : ∃ Z, Z = w3.heap.size := ⟨_, rfl⟩
  rw [← hEb] at hl3 hZ4 ⊢
  generalize (w3.alloc _).setRow _ _ = w4 at hl3 hZ4 ⊢
  obtain ⟨hE4, hB4⟩ := hl3
  clear hZ3 hB3 hEb
  refine (rfull_any ao cap xs w4 n HI.out.len (by have := HI.out.le; have := HI.out.max; omega) (HI.out.sl.kept (Kept.of_below hB4) (by simp)) (fun h => HI.out.nil h)).mono ?_
  rintro e w5 ⟨rfl, hb⟩
  have hZ5 := later_old hb hZ4
  have hE5 := later_old hb hE4
  have hB5 : Below w1.heap.size w1 w5 := hB4.trans (hb.mono hB4.size)
  obtain ⟨F0, hF⟩ : ∃ F, F = Sha.full xs := ⟨_, rfl⟩
  have lF : F0.length = 32 := by rw [hF]; exact Sha.full_len _
  have HF : Hid (Sha.full xs = F0) := hF.symm
  rw [← hF]
  clear hF hb hZ4 hE4 hB4
  have iF := Try.info32b F0 lF
  have zF := zero_size F0 lF
  have oF := bys_all F0
  have hl5 := laid_new hB5 hB5.size zero32 (bys F0).toArray 39
  have hZ6 := laid_old zero32 (bys F0).toArray 39 hZ5
  have hE6 := laid_old zero32 (bys F0).toArray 39 hE5
  go_wp2_with (refine wpList_store_rowTo rfl 39 (.tmp 6) (.tmp 13) rfl rfl w5.heap.size (bys F0).toArray rfl rfl 39 zero32 (heap_alloc_new _ _) iF zF oF ?_)
  obtain ⟨Fb, hFb⟩ : ∃ Z, Z = w5.heap.size := ⟨_, rfl⟩
  have hs6 : ((w5.alloc (.cells zero32 39)).setRow w5.heap.size (bys F0).toArray).heap.size = w5.heap.size + 1 := by rw [size_setRow, World.size_alloc]
  generalize (w5.alloc _).setRow _ _ = w6 at hl5 hZ6 hE6 hs6 ⊢
  rw [← hs6]
  rw [← hFb] at hl5 ⊢
  obtain ⟨hF6, hB6⟩ := hl5
  have hH := boxed_new' w6 zeroH 29
  have hZ7 := later_old hH.2 hZ6
  have hE7 := later_old hH.2 hE6
  have hF7 := later_old hH.2 hF6
  have hB7 : Below w1.heap.size w1 (w6.alloc (.cells zeroH 29)) := hB6.trans (hH.2.mono hB6.size)
  have HX : Hid (∀ k, k < w6.heap.size → k ≠ w6.heap.size) := fun k h => by omega
  have HZn : Hid (Z < w6.heap.size ∧ Eb < w6.heap.size ∧ Fb < w6.heap.size ∧ w1.heap.size ≤ w6.heap.size) := ⟨(Array.getElem?_eq_some_iff.1 hZ6).1, (Array.getElem?_eq_some_iff.1 hE6).1, (Array.getElem?_eq_some_iff.1 hF6).1, hB6.size⟩
  obtain ⟨Hb, hHb⟩ : ∃ Z, Z = w6.heap.size := ⟨_, rfl⟩
  generalize w6.alloc _ = w7 at hH hZ7 hE7 hF7 hB7 ⊢
  rw [← hHb] at hH HZn ⊢
  have HH7 : Hid (Hs w7 Hb 29 [] [] []) := hs_zero_of hH.1
  have HZ7 : Hid (Hs w7 Z 29 [] [] []) := hs_zero_of hZ7
  have HE7 : Hid (w7.heap[Eb]? = some (.cells (bys E0).toArray 39 (0, 0)) ∧ w7.heap[Fb]? = some (.cells (bys F0).toArray 39 (0, 0)) ∧ Kept [] w1 w7) := ⟨hE7, hF7, Kept.of_below hB7⟩
  clear hH hZ7 hE7 hF7 hB7 hZ6 hE6 hF6 hB6 hFb hs6 hHb hZ5 hE5 hB5 iE zE oE iF zF oF HX
  have HNB : Hid (∀ W, Kept [Hb] w7 W → W.heap[Eb]? = some (.cells (bys E0).toArray 39 (0, 0)) ∧ W.heap[Fb]? = some (.cells (bys F0).toArray 39 (0, 0)) ∧ Kept [] w1 W ∧ Hs W Z 29 [] [] []) := fun W hk => by
    have h := HZn.out
    exact ⟨wrote_old hk HE7.out.1 (by omega), wrote_old hk HE7.out.2.1 (by omega), HE7.out.2.2.trans hk (fun i hi hlt => by simp at hi; omega), HZ7.out.kept hk (by simp; omega)⟩
  refine (write_ok Hb 29 [] [] [] [] none 0 w7 HH7.out (Sl.nil _ _) (fun h => absurd rfl h) (Nat.le_refl _) (by simp) 0 rfl).mono ?_
  rintro e w8 ⟨rfl, hh8, hk8⟩
  have HK8 : Hid (Kept [Hb] w7 w8) := hk8
  have HH8 : Hid (Hs w8 Hb 29 [] [] []) := hh8
  clear hh8 hk8 HH7
  go_wp2_with (fail)
  have hwd := write_ok Hb 29 [] [] [] xs ao cap w8 HH8.out (HI.out.sl.kept (HNB.out w8 HK8.out).2.2.1 (by simp)) (fun h0 a ha => by
    obtain ⟨b, off, e, hlt, _⟩ := HI.out.sl.open h0
    rw [e] at ha; cases ha
    have := HZn.out; show b ≠ Hb; omega) (by rw [HI.out.len]; exact HI.out.le) (by have h1 := HI.out.len; have h2 := HI.out.le; have h3 := HI.out.max; simp; omega) 0 rfl
  rw [HI.out.len] at hwd
  refine hwd.mono ?_
  clear hwd
  rintro e w9 ⟨rfl, hh9, hk9⟩
  have HK9 : Hid (Kept [Hb] w7 w9) := HK8.out.trans hk9 (by simp)
  have HH9 : Hid (Hs w9 Hb 29 [] [] xs) := hh9
  clear hh9 hk9 HH8 HK8
  go_wp2_with (fail)
  refine (write_ok Hb 29 [] [] xs [] none 0 w9 HH9.out (Sl.nil _ _) (fun h => absurd rfl h) (Nat.le_refl _) (by have h1 := HI.out.len; have h2 := HI.out.le; have h3 := HI.out.max; simp; omega) 0 rfl).mono ?_
  rintro e w10 ⟨rfl, hh10, hk10⟩
  rw [List.append_nil] at hh10
  obtain ⟨hE10, hF10, hK10, hZ10⟩ := HNB.out w10 (HK9.out.trans hk10 (by simp))
  have HH : Hid (Hs w10 Hb 29 [] [] xs) := hh10
  have HZ : Hid (Hs w10 Z 29 [] [] []) := hZ10
  have HK1 : Hid (Kept [] w1 w10) := hK10
  have HSL : Hid (Sl w10 ao xs) := HI.out.sl.kept hK10 (by simp)
  have rE : Hid (w10.rangeAt Eb 0 (bys E0)) := range_row' hE10
  have rF : Hid (w10.rangeAt Fb 0 (bys F0)) := range_row' hF10
  clear hh10 hk10 hE10 hF10 hK10 hZ10 HK9 HH9 HNB HE7 HZ7 HZn HZl
  have hln : xs.length ≤ 140737488351232 := by have h1 := HI.out.len; have h2 := HI.out.le; have h3 := HI.out.max; omega
  have CS0 : Hid (∀ (W : World) (p : Option Addr), HasTaken W p [] → Calls Try.prog 12 #[.pointer p] W fun e w' => e = .returned (.agg (bys E0).toArray) ∧ Below W.heap.size W w') := fun W p h => by rw [← HE.out]; exact sum_ok p [] W h (by simp)
  have CS1 : Hid (∀ (W : World) (p : Option Addr), HasTaken W p xs → Calls Try.prog 12 #[.pointer p] W fun e w' => e = .returned (.agg (bys F0).toArray) ∧ Below W.heap.size W w') := fun W p h => by rw [← HF.out]; exact sum_ok p xs W h (by omega)
  have CF0 : Hid (∀ (W : World), Calls Try.prog 13 #[.slice none 0 0] W fun e w' => e = .returned (.agg (bys E0).toArray) ∧ Below W.heap.size W w') := fun W => by rw [← HE.out]; exact full_ok none 0 [] W (by simp) (fun i hi => by simp at hi) (by simp [joined]) 0 rfl
  have CF1 : Hid (∀ (W : World) (b : Nat), Pcs W (some ⟨b, 0, none⟩) [pc0, ⟨ao, cap, xs⟩, pc0] → Calls Try.prog 13 #[.slice (some ⟨b, 0, none⟩) 3 3] W fun e w' => e = .returned (.agg (bys F0).toArray) ∧ Below W.heap.size W w') := fun W b h => by
    have := full_ok (some ⟨b, 0, none⟩) 3 [pc0, ⟨ao, cap, xs⟩, pc0] W (by simp) h (by simp [joined, pc0]; omega) 3 rfl
    rw [show joined [pc0, ⟨ao, cap, xs⟩, pc0] = xs by simp [joined, pc0], HF.out] at this
    exact this
  obtain ⟨I0, hI⟩ : ∃ I, I = Sha.ident 32 xs := ⟨_, rfl⟩
  have lI : I0.length = 32 := by rw [hI]; exact Sha.ident_len _ _
  have CO3 : Hid (∀ (W : World) (b g : Nat), Pcs W (some ⟨b, 0, none⟩) [pc0, ⟨ao, cap, xs⟩, ⟨some ⟨g, 0, none⟩, 0, []⟩] → Calls Try.prog 14 #[.int .i64 32, .slice (some ⟨b, 0, none⟩) 3 3] W fun e w' => e = .returned (.agg (bys I0).toArray) ∧ Below W.heap.size W w') := fun W b g h => by
    have := of_ok 32 (some ⟨b, 0, none⟩) 3 [pc0, ⟨ao, cap, xs⟩, ⟨some ⟨g, 0, none⟩, 0, []⟩] W (by simp) h (by simp [joined, pc0]; omega) 3 rfl
    rw [show joined [pc0, ⟨ao, cap, xs⟩, ⟨some ⟨g, 0, none⟩, 0, []⟩] = xs by simp [joined, pc0], ← hI] at this
    exact this
  have CO1 : Hid (∀ (W : World) (b : Nat), Pcs W (some ⟨b, 0, none⟩) [⟨ao, cap, xs⟩] → Calls Try.prog 14 #[.int .i64 32, .slice (some ⟨b, 0, none⟩) 1 1] W fun e w' => e = .returned (.agg (bys I0).toArray) ∧ Below W.heap.size W w') := fun W b h => by
    have := of_ok 32 (some ⟨b, 0, none⟩) 1 [⟨ao, cap, xs⟩] W (by simp) h (by simp [joined]; omega) 1 rfl
    rw [show joined [⟨ao, cap, xs⟩] = xs by simp [joined], ← hI] at this
    exact this
  clear hI HE HF hln
  have u39 := Try.underlying39
  have iE' : (Try.prog.info? 39).map (·.size) = some (bys E0).length := Try.info32b E0 lE
  have iF' : (Try.prog.info? 39).map (·.size) = some (bys F0).length := Try.info32b F0 lF
  have qE : ∀ W, (Op.equalIn 10000 39 (.agg (bys E0).toArray) (.agg (bys E0).toArray)).run Try.prog W = .ok true W := fun W => by rw [Try.eql32 E0 E0 lE lE W, decide_eq_true rfl]
  have qF : ∀ W, (Op.equalIn 10000 39 (.agg (bys F0).toArray) (.agg (bys F0).toArray)).run Try.prog W = .ok true W := fun W => by rw [Try.eql32 F0 F0 lF lF W, decide_eq_true rfl]
  have qI : ∀ W, (Op.equalIn 10000 46 (.agg (bys I0).toArray) (.agg (bys I0).toArray)).run Try.prog W = .ok true W := fun W => by rw [Try.eqlID I0 I0 lI lI W, decide_eq_true rfl]
  have g1 : Try.prog.eqGuardType Try.prog.depth 39 = false := by kernel_rfl
  have g2 : Try.prog.eqGuardType Try.prog.depth 46 = false := by kernel_rfl
  go_upto_region 10 with (fail)
  refine wp_region_held_drew (S := fun w' => Kept [] w10 w') (by kernel_rfl) ((Kept.refl [] w10).drew) (fun h0 => ?_)
  refine wpAnyH_ready (rs := [0]) (by kernel_rfl) (by simp) (AllReadyH.cons (i := 0) rfl (fun K hK => ?_) AllReadyH.nil)
  rw [if_pos (by rfl)]
  go_simp
  refine (known_any _).mono ?_
  rintro e v1 ⟨rfl, hq⟩
  refine hK.out _ _ (h0.trans (Kept.of_below hq) (by simp)) (fun h1 => ?_)
  clear hK K hq h0
  try simp only [List.getElem_toArray, List.getElem_cons_zero, List.getElem_cons_succ, Act.put, List.setIfInBounds_toArray, List.set_cons_zero, List.set_cons_succ]
  refine wpAnyH_take (i := 1) (v := .bool true) rfl (by kernel_rfl) (by kernel_rfl) (by kernel_rfl) (fun _ _ _ h => h) (Or.inl ⟨by rfl, fun w hSw => by go_simp⟩) h1 ?_
  try simp only [List.getElem_toArray, List.getElem_cons_zero, List.getElem_cons_succ, Act.put, List.setIfInBounds_toArray, List.set_cons_zero, List.set_cons_succ]
  refine wpAnyH_take (i := 2) (v := .pointer none) rfl (by kernel_rfl) (by kernel_rfl) (by kernel_rfl) (fun _ _ _ h => h) (Or.inl ⟨by rfl, fun w hSw => by go_simp⟩) h1 ?_
  try simp only [List.getElem_toArray, List.getElem_cons_zero, List.getElem_cons_succ, Act.put, List.setIfInBounds_toArray, List.set_cons_zero, List.set_cons_succ]
  refine wpAnyH_take (i := 4) rfl (by kernel_rfl) (by kernel_rfl) (by kernel_rfl) (fun _ _ _ h => h) (yieldsIf_load_mid (by rfl) _ _ rfl _ _ rfl _ _ (fun w h => range_kept rE.out h) u39 rfl iE') h1 ?_
  try simp only [List.getElem_toArray, List.getElem_cons_zero, List.getElem_cons_succ, Act.put, List.setIfInBounds_toArray, List.set_cons_zero, List.set_cons_succ]
  refine wpAnyH_ready (rs := [3]) (by kernel_rfl) (by simp) (AllReadyH.cons (i := 3) rfl (fun K hK => ?_) AllReadyH.nil)
  rw [if_pos (by rfl)]
  go_simp
  refine (CS0.out _ none (Or.inl ⟨rfl, rfl⟩)).mono ?_
  rintro e v2 ⟨rfl, hq⟩
  refine hK.out _ _ (h1.trans (Kept.of_below hq) (by simp)) (fun h2 => ?_)
  clear hK K hq h1
  try simp only [List.getElem_toArray, List.getElem_cons_zero, List.getElem_cons_succ, Act.put, List.setIfInBounds_toArray, List.set_cons_zero, List.set_cons_succ]
  refine wpAnyH_take (i := 5) (v := .bool true) rfl (by kernel_rfl) (by kernel_rfl) (by kernel_rfl) (fun _ _ _ h => h) (Or.inl ⟨by rfl, fun w hSw => by go_simp⟩) h2 ?_
  try simp only [List.getElem_toArray, List.getElem_cons_zero, List.getElem_cons_succ, Act.put, List.setIfInBounds_toArray, List.set_cons_zero, List.set_cons_succ]
  refine wpAnyH_take (i := 6) (v := .bool true) rfl (by kernel_rfl) (by kernel_rfl) (by kernel_rfl) (fun _ _ _ h => h) (Or.inl ⟨by rfl, fun w hSw => by go_simp⟩) h2 ?_
  try simp only [List.getElem_toArray, List.getElem_cons_zero, List.getElem_cons_succ, Act.put, List.setIfInBounds_toArray, List.set_cons_zero, List.set_cons_succ]
  refine wpAnyH_take (i := 7) (v := .bool true) rfl (by kernel_rfl) (by kernel_rfl) (by kernel_rfl) (fun _ _ _ h => h) (Or.inl ⟨by rfl, fun w hSw => by go_simp⟩) h2 ?_
  try simp only [List.getElem_toArray, List.getElem_cons_zero, List.getElem_cons_succ, Act.put, List.setIfInBounds_toArray, List.set_cons_zero, List.set_cons_succ]
  refine wpAnyH_take (i := 9) rfl (by kernel_rfl) (by kernel_rfl) (by kernel_rfl) (fun _ _ _ h => h) (yieldsIf_load_mid (by rfl) _ _ rfl _ _ rfl _ _ (fun w h => range_kept rE.out h) u39 rfl iE') h2 ?_
  try simp only [List.getElem_toArray, List.getElem_cons_zero, List.getElem_cons_succ, Act.put, List.setIfInBounds_toArray, List.set_cons_zero, List.set_cons_succ]
  refine wpAnyH_ready (rs := [8]) (by kernel_rfl) (by simp) (AllReadyH.cons (i := 8) rfl (fun K hK => ?_) AllReadyH.nil)
  rw [if_pos (by rfl)]
  go_simp
  refine (CS0.out _ (some ⟨Z, 0, none⟩) (Or.inr ⟨Z, _, [], [], rfl, HZ.out.kept h2 (by simp)⟩)).mono ?_
  rintro e v3 ⟨rfl, hq⟩
  refine hK.out _ _ (h2.trans (Kept.of_below hq) (by simp)) (fun h3 => ?_)
  clear hK K hq h2
  try simp only [List.getElem_toArray, List.getElem_cons_zero, List.getElem_cons_succ, Act.put, List.setIfInBounds_toArray, List.set_cons_zero, List.set_cons_succ]
  refine wpAnyH_take (i := 10) (v := .bool true) rfl (by kernel_rfl) (by kernel_rfl) (by kernel_rfl) (fun _ _ _ h => h) (Or.inl ⟨by rfl, fun w hSw => by go_simp⟩) h3 ?_
  try simp only [List.getElem_toArray, List.getElem_cons_zero, List.getElem_cons_succ, Act.put, List.setIfInBounds_toArray, List.set_cons_zero, List.set_cons_succ]
  refine wpAnyH_take (i := 11) (v := .bool true) rfl (by kernel_rfl) (by kernel_rfl) (by kernel_rfl) (fun _ _ _ h => h) (Or.inl ⟨by rfl, fun w hSw => by go_simp⟩) h3 ?_
  try simp only [List.getElem_toArray, List.getElem_cons_zero, List.getElem_cons_succ, Act.put, List.setIfInBounds_toArray, List.set_cons_zero, List.set_cons_succ]
  refine wpAnyH_take (i := 12) (v := .bool true) rfl (by kernel_rfl) (by kernel_rfl) (by kernel_rfl) (fun _ _ _ h => h) (Or.inl ⟨by rfl, fun w hSw => by go_simp⟩) h3 ?_
  try simp only [List.getElem_toArray, List.getElem_cons_zero, List.getElem_cons_succ, Act.put, List.setIfInBounds_toArray, List.set_cons_zero, List.set_cons_succ]
  refine wpAnyH_take (i := 14) rfl (by kernel_rfl) (by kernel_rfl) (by kernel_rfl) (fun _ _ _ h => h) (yieldsIf_load_mid (by rfl) _ _ rfl _ _ rfl _ _ (fun w h => range_kept rE.out h) u39 rfl iE') h3 ?_
  try simp only [List.getElem_toArray, List.getElem_cons_zero, List.getElem_cons_succ, Act.put, List.setIfInBounds_toArray, List.set_cons_zero, List.set_cons_succ]
  refine wpAnyH_ready (rs := [13]) (by kernel_rfl) (by simp) (AllReadyH.cons (i := 13) rfl (fun K hK => ?_) AllReadyH.nil)
  rw [if_pos (by rfl)]
  go_simp
  refine (CF0.out _).mono ?_
  rintro e v4 ⟨rfl, hq⟩
  refine hK.out _ _ (h3.trans (Kept.of_below hq) (by simp)) (fun h4 => ?_)
  clear hK K hq h3
  try simp only [List.getElem_toArray, List.getElem_cons_zero, List.getElem_cons_succ, Act.put, List.setIfInBounds_toArray, List.set_cons_zero, List.set_cons_succ]
  refine wpAnyH_take (i := 15) (v := .bool true) rfl (by kernel_rfl) (by kernel_rfl) (by kernel_rfl) (fun _ _ _ h => h) (Or.inl ⟨by rfl, fun w hSw => by go_simp⟩) h4 ?_
  try simp only [List.getElem_toArray, List.getElem_cons_zero, List.getElem_cons_succ, Act.put, List.setIfInBounds_toArray, List.set_cons_zero, List.set_cons_succ]
  refine wpAnyH_take (i := 16) (v := .bool true) rfl (by kernel_rfl) (by kernel_rfl) (by kernel_rfl) (fun _ _ _ h => h) (Or.inl ⟨by rfl, fun w hSw => by go_simp⟩) h4 ?_
  try simp only [List.getElem_toArray, List.getElem_cons_zero, List.getElem_cons_succ, Act.put, List.setIfInBounds_toArray, List.set_cons_zero, List.set_cons_succ]
  refine wpAnyH_take (i := 17) (v := .bool true) rfl (by kernel_rfl) (by kernel_rfl) (by kernel_rfl) (fun _ _ _ h => h) (Or.inl ⟨by rfl, fun w hSw => by go_simp⟩) h4 ?_
  try simp only [List.getElem_toArray, List.getElem_cons_zero, List.getElem_cons_succ, Act.put, List.setIfInBounds_toArray, List.set_cons_zero, List.set_cons_succ]
  refine wpAnyH_take (i := 18) (v := .slice ao n cap) rfl (by kernel_rfl) (by kernel_rfl) (by kernel_rfl) (fun _ _ _ h => h) (Or.inl ⟨by rfl, fun w hSw => by go_simp⟩) h4 ?_
  try simp only [List.getElem_toArray, List.getElem_cons_zero, List.getElem_cons_succ, Act.put, List.setIfInBounds_toArray, List.set_cons_zero, List.set_cons_succ]
  refine wpAnyH_take (i := 21) rfl (by kernel_rfl) (by kernel_rfl) (by kernel_rfl) (fun _ _ _ h => h) (yieldsIf_load_mid (by rfl) _ _ rfl _ _ rfl _ _ (fun w h => range_kept rF.out h) u39 rfl iF') h4 ?_
  try simp only [List.getElem_toArray, List.getElem_cons_zero, List.getElem_cons_succ, Act.put, List.setIfInBounds_toArray, List.set_cons_zero, List.set_cons_succ]
  refine wpAnyH_ready (rs := [19]) (by kernel_rfl) (by simp) (AllReadyH.cons (i := 19) rfl (fun K hK => ?_) AllReadyH.nil)
  rw [if_pos (by rfl)]
  go_simp
  have hp3 : Pcs (v4.alloc (Obj.cells #[.slice none 0 0, .slice ao n cap, .slice none 0 0] 31)) (some ⟨v4.heap.size, 0, none⟩) [pc0, ⟨ao, cap, xs⟩, pc0] := pcs3 v4 ao n cap xs (HSL.out.kept h4 (by simp)) HI.out.len HI.out.le pc0 rfl
  refine hK.out _ _ (h4.alloc (Obj.cells #[.slice none 0 0, .slice ao n cap, .slice none 0 0] 31)) (fun h5 => ?_)
  clear hK K h4
  try simp only [List.getElem_toArray, List.getElem_cons_zero, List.getElem_cons_succ, Act.put, List.setIfInBounds_toArray, List.set_cons_zero, List.set_cons_succ]
  generalize World.alloc v4 _ = v5 at h5 hp3 ⊢
  refine wpAnyH_ready (rs := [20]) (by kernel_rfl) (by simp) (AllReadyH.cons (i := 20) rfl (fun K hK => ?_) AllReadyH.nil)
  rw [if_pos (by rfl)]
  go_simp
  refine (CF1.out _ _ hp3).mono ?_
  rintro e v6 ⟨rfl, hq⟩
  replace hp3 := pcs_kept hp3 (Kept.of_below hq)
  refine hK.out _ _ (h5.trans (Kept.of_below hq) (by simp)) (fun h6 => ?_)
  clear hK K hq h5
  try simp only [List.getElem_toArray, List.getElem_cons_zero, List.getElem_cons_succ, Act.put, List.setIfInBounds_toArray, List.set_cons_zero, List.set_cons_succ]
  clear hp3
  refine wpAnyH_take (i := 22) (v := .bool true) rfl (by kernel_rfl) (by kernel_rfl) (by kernel_rfl) (fun _ _ _ h => h) (Or.inl ⟨by rfl, fun w hSw => by go_simp⟩) h6 ?_
  try simp only [List.getElem_toArray, List.getElem_cons_zero, List.getElem_cons_succ, Act.put, List.setIfInBounds_toArray, List.set_cons_zero, List.set_cons_succ]
  refine wpAnyH_take (i := 23) (v := .bool true) rfl (by kernel_rfl) (by kernel_rfl) (by kernel_rfl) (fun _ _ _ h => h) (Or.inl ⟨by rfl, fun w hSw => by go_simp⟩) h6 ?_
  try simp only [List.getElem_toArray, List.getElem_cons_zero, List.getElem_cons_succ, Act.put, List.setIfInBounds_toArray, List.set_cons_zero, List.set_cons_succ]
  refine wpAnyH_take (i := 24) (v := .bool true) rfl (by kernel_rfl) (by kernel_rfl) (by kernel_rfl) (fun _ _ _ h => h) (Or.inl ⟨by rfl, fun w hSw => by go_simp⟩) h6 ?_
  try simp only [List.getElem_toArray, List.getElem_cons_zero, List.getElem_cons_succ, Act.put, List.setIfInBounds_toArray, List.set_cons_zero, List.set_cons_succ]
  refine wpAnyH_take (i := 25) (v := .slice ao n cap) rfl (by kernel_rfl) (by kernel_rfl) (by kernel_rfl) (fun _ _ _ h => h) (Or.inl ⟨by rfl, fun w hSw => by go_simp⟩) h6 ?_
  try simp only [List.getElem_toArray, List.getElem_cons_zero, List.getElem_cons_succ, Act.put, List.setIfInBounds_toArray, List.set_cons_zero, List.set_cons_succ]
  refine wpAnyH_take (i := 29) (v := .slice ao n cap) rfl (by kernel_rfl) (by kernel_rfl) (by kernel_rfl) (fun _ _ _ h => h) (Or.inl ⟨by rfl, fun w hSw => by go_simp⟩) h6 ?_
  try simp only [List.getElem_toArray, List.getElem_cons_zero, List.getElem_cons_succ, Act.put, List.setIfInBounds_toArray, List.set_cons_zero, List.set_cons_succ]
  refine wpAnyH_ready (rs := [26, 30]) (by kernel_rfl) (by simp) (AllReadyH.cons (i := 26) rfl (fun K hK => ?_) (AllReadyH.cons (i := 30) rfl (fun K hK => ?_) AllReadyH.nil))
  next =>
    rw [if_pos (by rfl)]
    go_simp
    refine hK.out _ _ (h6.alloc (Obj.cells #[] 5)) (fun h7 => ?_)
    clear hK K h6
    try simp only [List.getElem_toArray, List.getElem_cons_zero, List.getElem_cons_succ, Act.put, List.setIfInBounds_toArray, List.set_cons_zero, List.set_cons_succ]
    generalize World.alloc v6 _ = v7 at h7  ⊢
    refine wpAnyH_ready (rs := [27, 30]) (by kernel_rfl) (by simp) (AllReadyH.cons (i := 27) rfl (fun K hK => ?_) (AllReadyH.cons (i := 30) rfl (fun K hK => ?_) AllReadyH.nil))
    next =>
      rw [if_pos (by rfl)]
      go_simp
      have hp3 : Pcs (v7.alloc (Obj.cells #[.slice none 0 0, .slice ao n cap, .slice (some ⟨v6.heap.size, 0, none⟩) 0 0] 31)) (some ⟨v7.heap.size, 0, none⟩) [pc0, ⟨ao, cap, xs⟩, ⟨some ⟨v6.heap.size, 0, none⟩, 0, []⟩] := pcs3 v7 ao n cap xs (HSL.out.kept h7 (by simp)) HI.out.len HI.out.le ⟨some ⟨v6.heap.size, 0, none⟩, 0, []⟩ rfl
      refine hK.out _ _ (h7.alloc (Obj.cells #[.slice none 0 0, .slice ao n cap, .slice (some ⟨v6.heap.size, 0, none⟩) 0 0] 31)) (fun h8 => ?_)
      clear hK K h7
      try simp only [List.getElem_toArray, List.getElem_cons_zero, List.getElem_cons_succ, Act.put, List.setIfInBounds_toArray, List.set_cons_zero, List.set_cons_succ]
      generalize World.alloc v7 _ = v8 at h8 hp3 ⊢
      refine wpAnyH_ready (rs := [28, 30]) (by kernel_rfl) (by simp) (AllReadyH.cons (i := 28) rfl (fun K hK => ?_) (AllReadyH.cons (i := 30) rfl (fun K hK => ?_) AllReadyH.nil))
      next =>
        rw [if_pos (by rfl)]
        go_simp
        refine (CO3.out _ _ _ hp3).mono ?_
        rintro e v9 ⟨rfl, hq⟩
        replace hp3 := pcs_kept hp3 (Kept.of_below hq)
        refine hK.out _ _ (h8.trans (Kept.of_below hq) (by simp)) (fun h9 => ?_)
        clear hK K hq h8
        try simp only [List.getElem_toArray, List.getElem_cons_zero, List.getElem_cons_succ, Act.put, List.setIfInBounds_toArray, List.set_cons_zero, List.set_cons_succ]
        clear hp3
        refine wpAnyH_ready (rs := [30]) (by kernel_rfl) (by simp) (AllReadyH.cons (i := 30) rfl (fun K hK => ?_) AllReadyH.nil)
        rw [if_pos (by rfl)]
        go_simp
        have hp1 : Pcs (v9.alloc (Obj.cells #[.slice ao n cap] 31)) (some ⟨v9.heap.size, 0, none⟩) [⟨ao, cap, xs⟩] := pcs1 v9 ao n cap xs (HSL.out.kept h9 (by simp)) HI.out.len HI.out.le
        refine hK.out _ _ (h9.alloc (Obj.cells #[.slice ao n cap] 31)) (fun h10 => ?_)
        clear hK K h9
        try simp only [List.getElem_toArray, List.getElem_cons_zero, List.getElem_cons_succ, Act.put, List.setIfInBounds_toArray, List.set_cons_zero, List.set_cons_succ]
        generalize World.alloc v9 _ = v10 at h10 hp1 ⊢
        refine wpAnyH_ready (rs := [31]) (by kernel_rfl) (by simp) (AllReadyH.cons (i := 31) rfl (fun K hK => ?_) AllReadyH.nil)
        rw [if_pos (by rfl)]
        go_simp
        refine (CO1.out _ _ hp1).mono ?_
        rintro e v11 ⟨rfl, hq⟩
        replace hp1 := pcs_kept hp1 (Kept.of_below hq)
        refine hK.out _ _ (h10.trans (Kept.of_below hq) (by simp)) (fun h11 => ?_)
        clear hK K hq h10
        try simp only [List.getElem_toArray, List.getElem_cons_zero, List.getElem_cons_succ, Act.put, List.setIfInBounds_toArray, List.set_cons_zero, List.set_cons_succ]
        clear hp1
        refine wpAnyH_take (i := 32) (v := .bool true) rfl (by kernel_rfl) (by kernel_rfl) (by kernel_rfl) (fun _ _ _ h => h) (Or.inl ⟨by rfl, fun w hSw => by go_simp⟩) h11 ?_
        try simp only [List.getElem_toArray, List.getElem_cons_zero, List.getElem_cons_succ, Act.put, List.setIfInBounds_toArray, List.set_cons_zero, List.set_cons_succ]
        refine wpAnyH_take (i := 33) (v := .bool true) rfl (by kernel_rfl) (by kernel_rfl) (by kernel_rfl) (fun _ _ _ h => h) (Or.inl ⟨by rfl, fun w hSw => by go_simp⟩) h11 ?_
        try simp only [List.getElem_toArray, List.getElem_cons_zero, List.getElem_cons_succ, Act.put, List.setIfInBounds_toArray, List.set_cons_zero, List.set_cons_succ]
        refine wpAnyH_take (i := 34) (v := .bool true) rfl (by kernel_rfl) (by kernel_rfl) (by kernel_rfl) (fun _ _ _ h => h) (Or.inl ⟨by rfl, fun w hSw => by go_simp⟩) h11 ?_
        try simp only [List.getElem_toArray, List.getElem_cons_zero, List.getElem_cons_succ, Act.put, List.setIfInBounds_toArray, List.set_cons_zero, List.set_cons_succ]
        refine wpAnyH_take (i := 36) rfl (by kernel_rfl) (by kernel_rfl) (by kernel_rfl) (fun _ _ _ h => h) (yieldsIf_load_mid (by rfl) _ _ rfl _ _ rfl _ _ (fun w h => range_kept rF.out h) u39 rfl iF') h11 ?_
        try simp only [List.getElem_toArray, List.getElem_cons_zero, List.getElem_cons_succ, Act.put, List.setIfInBounds_toArray, List.set_cons_zero, List.set_cons_succ]
        refine wpAnyH_ready (rs := [35]) (by kernel_rfl) (by simp) (AllReadyH.cons (i := 35) rfl (fun K hK => ?_) AllReadyH.nil)
        rw [if_pos (by rfl)]
        go_simp
        refine (CS1.out _ (some ⟨Hb, 0, none⟩) (Or.inr ⟨Hb, _, [], [], rfl, HH.out.kept h11 (by simp)⟩)).mono ?_
        rintro e v12 ⟨rfl, hq⟩
        refine hK.out _ _ (h11.trans (Kept.of_below hq) (by simp)) (fun h12 => ?_)
        clear hK K hq h11
        try simp only [List.getElem_toArray, List.getElem_cons_zero, List.getElem_cons_succ, Act.put, List.setIfInBounds_toArray, List.set_cons_zero, List.set_cons_succ]
        refine wpAnyH_take (i := 37) (v := .bool true) rfl (by kernel_rfl) (by kernel_rfl) (by kernel_rfl) (fun _ _ _ h => h) (Or.inl ⟨by rfl, fun w hSw => by go_simp⟩) h12 ?_
        try simp only [List.getElem_toArray, List.getElem_cons_zero, List.getElem_cons_succ, Act.put, List.setIfInBounds_toArray, List.set_cons_zero, List.set_cons_succ]
        refine wpAnyH_take (i := 38) (v := .bool true) rfl (by kernel_rfl) (by kernel_rfl) (by kernel_rfl) (fun _ _ _ h => h) (Or.inl ⟨by rfl, fun w hSw => by go_simp⟩) h12 ?_
        try simp only [List.getElem_toArray, List.getElem_cons_zero, List.getElem_cons_succ, Act.put, List.setIfInBounds_toArray, List.set_cons_zero, List.set_cons_succ]
        refine wpAnyH_take (i := 39) (v := .bool true) rfl (by kernel_rfl) (by kernel_rfl) (by kernel_rfl) (fun _ _ _ h => h) (Or.inl ⟨by rfl, fun w hSw => by go_simp⟩) h12 ?_
        try simp only [List.getElem_toArray, List.getElem_cons_zero, List.getElem_cons_succ, Act.put, List.setIfInBounds_toArray, List.set_cons_zero, List.set_cons_succ]
        refine wpAnyH_done (by kernel_rfl) ?_ _
        go_wp2_with (fail)
        go_ret
        exact ⟨rfl, (HK1.out.trans h12 (by simp)).below (Nat.le_refl _) (by simp)⟩
      next =>
        rw [if_pos (by rfl)]
        go_simp
        replace hp3 := pcs_kept hp3 ((Kept.refl [] v8).alloc (Obj.cells #[.slice ao n cap] 31))
        have hp1 : Pcs (v8.alloc (Obj.cells #[.slice ao n cap] 31)) (some ⟨v8.heap.size, 0, none⟩) [⟨ao, cap, xs⟩] := pcs1 v8 ao n cap xs (HSL.out.kept h8 (by simp)) HI.out.len HI.out.le
        refine hK.out _ _ (h8.alloc (Obj.cells #[.slice ao n cap] 31)) (fun h9 => ?_)
        clear hK K h8
        try simp only [List.getElem_toArray, List.getElem_cons_zero, List.getElem_cons_succ, Act.put, List.setIfInBounds_toArray, List.set_cons_zero, List.set_cons_succ]
        generalize World.alloc v8 _ = v9 at h9 hp3 hp1 ⊢
        refine wpAnyH_ready (rs := [28]) (by kernel_rfl) (by simp) (AllReadyH.cons (i := 28) rfl (fun K hK => ?_) AllReadyH.nil)
        rw [if_pos (by rfl)]
        go_simp
        refine (CO3.out _ _ _ hp3).mono ?_
        rintro e v10 ⟨rfl, hq⟩
        replace hp3 := pcs_kept hp3 (Kept.of_below hq)
        replace hp1 := pcs_kept hp1 (Kept.of_below hq)
        refine hK.out _ _ (h9.trans (Kept.of_below hq) (by simp)) (fun h10 => ?_)
        clear hK K hq h9
        try simp only [List.getElem_toArray, List.getElem_cons_zero, List.getElem_cons_succ, Act.put, List.setIfInBounds_toArray, List.set_cons_zero, List.set_cons_succ]
        clear hp3
        refine wpAnyH_ready (rs := [31]) (by kernel_rfl) (by simp) (AllReadyH.cons (i := 31) rfl (fun K hK => ?_) AllReadyH.nil)
        rw [if_pos (by rfl)]
        go_simp
        refine (CO1.out _ _ hp1).mono ?_
        rintro e v11 ⟨rfl, hq⟩
        replace hp1 := pcs_kept hp1 (Kept.of_below hq)
        refine hK.out _ _ (h10.trans (Kept.of_below hq) (by simp)) (fun h11 => ?_)
        clear hK K hq h10
        try simp only [List.getElem_toArray, List.getElem_cons_zero, List.getElem_cons_succ, Act.put, List.setIfInBounds_toArray, List.set_cons_zero, List.set_cons_succ]
        clear hp1
        refine wpAnyH_take (i := 32) (v := .bool true) rfl (by kernel_rfl) (by kernel_rfl) (by kernel_rfl) (fun _ _ _ h => h) (Or.inl ⟨by rfl, fun w hSw => by go_simp⟩) h11 ?_
        try simp only [List.getElem_toArray, List.getElem_cons_zero, List.getElem_cons_succ, Act.put, List.setIfInBounds_toArray, List.set_cons_zero, List.set_cons_succ]
        refine wpAnyH_take (i := 33) (v := .bool true) rfl (by kernel_rfl) (by kernel_rfl) (by kernel_rfl) (fun _ _ _ h => h) (Or.inl ⟨by rfl, fun w hSw => by go_simp⟩) h11 ?_
        try simp only [List.getElem_toArray, List.getElem_cons_zero, List.getElem_cons_succ, Act.put, List.setIfInBounds_toArray, List.set_cons_zero, List.set_cons_succ]
        refine wpAnyH_take (i := 34) (v := .bool true) rfl (by kernel_rfl) (by kernel_rfl) (by kernel_rfl) (fun _ _ _ h => h) (Or.inl ⟨by rfl, fun w hSw => by go_simp⟩) h11 ?_
        try simp only [List.getElem_toArray, List.getElem_cons_zero, List.getElem_cons_succ, Act.put, List.setIfInBounds_toArray, List.set_cons_zero, List.set_cons_succ]
        refine wpAnyH_take (i := 36) rfl (by kernel_rfl) (by kernel_rfl) (by kernel_rfl) (fun _ _ _ h => h) (yieldsIf_load_mid (by rfl) _ _ rfl _ _ rfl _ _ (fun w h => range_kept rF.out h) u39 rfl iF') h11 ?_
        try simp only [List.getElem_toArray, List.getElem_cons_zero, List.getElem_cons_succ, Act.put, List.setIfInBounds_toArray, List.set_cons_zero, List.set_cons_succ]
        refine wpAnyH_ready (rs := [35]) (by kernel_rfl) (by simp) (AllReadyH.cons (i := 35) rfl (fun K hK => ?_) AllReadyH.nil)
        rw [if_pos (by rfl)]
        go_simp
        refine (CS1.out _ (some ⟨Hb, 0, none⟩) (Or.inr ⟨Hb, _, [], [], rfl, HH.out.kept h11 (by simp)⟩)).mono ?_
        rintro e v12 ⟨rfl, hq⟩
        refine hK.out _ _ (h11.trans (Kept.of_below hq) (by simp)) (fun h12 => ?_)
        clear hK K hq h11
        try simp only [List.getElem_toArray, List.getElem_cons_zero, List.getElem_cons_succ, Act.put, List.setIfInBounds_toArray, List.set_cons_zero, List.set_cons_succ]
        refine wpAnyH_take (i := 37) (v := .bool true) rfl (by kernel_rfl) (by kernel_rfl) (by kernel_rfl) (fun _ _ _ h => h) (Or.inl ⟨by rfl, fun w hSw => by go_simp⟩) h12 ?_
        try simp only [List.getElem_toArray, List.getElem_cons_zero, List.getElem_cons_succ, Act.put, List.setIfInBounds_toArray, List.set_cons_zero, List.set_cons_succ]
        refine wpAnyH_take (i := 38) (v := .bool true) rfl (by kernel_rfl) (by kernel_rfl) (by kernel_rfl) (fun _ _ _ h => h) (Or.inl ⟨by rfl, fun w hSw => by go_simp⟩) h12 ?_
        try simp only [List.getElem_toArray, List.getElem_cons_zero, List.getElem_cons_succ, Act.put, List.setIfInBounds_toArray, List.set_cons_zero, List.set_cons_succ]
        refine wpAnyH_take (i := 39) (v := .bool true) rfl (by kernel_rfl) (by kernel_rfl) (by kernel_rfl) (fun _ _ _ h => h) (Or.inl ⟨by rfl, fun w hSw => by go_simp⟩) h12 ?_
        try simp only [List.getElem_toArray, List.getElem_cons_zero, List.getElem_cons_succ, Act.put, List.setIfInBounds_toArray, List.set_cons_zero, List.set_cons_succ]
        refine wpAnyH_done (by kernel_rfl) ?_ _
        go_wp2_with (fail)
        go_ret
        exact ⟨rfl, (HK1.out.trans h12 (by simp)).below (Nat.le_refl _) (by simp)⟩
    next =>
      rw [if_pos (by rfl)]
      go_simp
      have hp1 : Pcs (v7.alloc (Obj.cells #[.slice ao n cap] 31)) (some ⟨v7.heap.size, 0, none⟩) [⟨ao, cap, xs⟩] := pcs1 v7 ao n cap xs (HSL.out.kept h7 (by simp)) HI.out.len HI.out.le
      refine hK.out _ _ (h7.alloc (Obj.cells #[.slice ao n cap] 31)) (fun h8 => ?_)
      clear hK K h7
      try simp only [List.getElem_toArray, List.getElem_cons_zero, List.getElem_cons_succ, Act.put, List.setIfInBounds_toArray, List.set_cons_zero, List.set_cons_succ]
      generalize World.alloc v7 _ = v8 at h8 hp1 ⊢
      refine wpAnyH_ready (rs := [27]) (by kernel_rfl) (by simp) (AllReadyH.cons (i := 27) rfl (fun K hK => ?_) AllReadyH.nil)
      rw [if_pos (by rfl)]
      go_simp
      replace hp1 := pcs_kept hp1 ((Kept.refl [] v8).alloc (Obj.cells #[.slice none 0 0, .slice ao n cap, .slice (some ⟨v6.heap.size, 0, none⟩) 0 0] 31))
      have hp3 : Pcs (v8.alloc (Obj.cells #[.slice none 0 0, .slice ao n cap, .slice (some ⟨v6.heap.size, 0, none⟩) 0 0] 31)) (some ⟨v8.heap.size, 0, none⟩) [pc0, ⟨ao, cap, xs⟩, ⟨some ⟨v6.heap.size, 0, none⟩, 0, []⟩] := pcs3 v8 ao n cap xs (HSL.out.kept h8 (by simp)) HI.out.len HI.out.le ⟨some ⟨v6.heap.size, 0, none⟩, 0, []⟩ rfl
      refine hK.out _ _ (h8.alloc (Obj.cells #[.slice none 0 0, .slice ao n cap, .slice (some ⟨v6.heap.size, 0, none⟩) 0 0] 31)) (fun h9 => ?_)
      clear hK K h8
      try simp only [List.getElem_toArray, List.getElem_cons_zero, List.getElem_cons_succ, Act.put, List.setIfInBounds_toArray, List.set_cons_zero, List.set_cons_succ]
      generalize World.alloc v8 _ = v9 at h9 hp1 hp3 ⊢
      refine wpAnyH_ready (rs := [28]) (by kernel_rfl) (by simp) (AllReadyH.cons (i := 28) rfl (fun K hK => ?_) AllReadyH.nil)
      rw [if_pos (by rfl)]
      go_simp
      refine (CO3.out _ _ _ hp3).mono ?_
      rintro e v10 ⟨rfl, hq⟩
      replace hp1 := pcs_kept hp1 (Kept.of_below hq)
      replace hp3 := pcs_kept hp3 (Kept.of_below hq)
      refine hK.out _ _ (h9.trans (Kept.of_below hq) (by simp)) (fun h10 => ?_)
      clear hK K hq h9
      try simp only [List.getElem_toArray, List.getElem_cons_zero, List.getElem_cons_succ, Act.put, List.setIfInBounds_toArray, List.set_cons_zero, List.set_cons_succ]
      clear hp3
      refine wpAnyH_ready (rs := [31]) (by kernel_rfl) (by simp) (AllReadyH.cons (i := 31) rfl (fun K hK => ?_) AllReadyH.nil)
      rw [if_pos (by rfl)]
      go_simp
      refine (CO1.out _ _ hp1).mono ?_
      rintro e v11 ⟨rfl, hq⟩
      replace hp1 := pcs_kept hp1 (Kept.of_below hq)
      refine hK.out _ _ (h10.trans (Kept.of_below hq) (by simp)) (fun h11 => ?_)
      clear hK K hq h10
      try simp only [List.getElem_toArray, List.getElem_cons_zero, List.getElem_cons_succ, Act.put, List.setIfInBounds_toArray, List.set_cons_zero, List.set_cons_succ]
      clear hp1
      refine wpAnyH_take (i := 32) (v := .bool true) rfl (by kernel_rfl) (by kernel_rfl) (by kernel_rfl) (fun _ _ _ h => h) (Or.inl ⟨by rfl, fun w hSw => by go_simp⟩) h11 ?_
      try simp only [List.getElem_toArray, List.getElem_cons_zero, List.getElem_cons_succ, Act.put, List.setIfInBounds_toArray, List.set_cons_zero, List.set_cons_succ]
      refine wpAnyH_take (i := 33) (v := .bool true) rfl (by kernel_rfl) (by kernel_rfl) (by kernel_rfl) (fun _ _ _ h => h) (Or.inl ⟨by rfl, fun w hSw => by go_simp⟩) h11 ?_
      try simp only [List.getElem_toArray, List.getElem_cons_zero, List.getElem_cons_succ, Act.put, List.setIfInBounds_toArray, List.set_cons_zero, List.set_cons_succ]
      refine wpAnyH_take (i := 34) (v := .bool true) rfl (by kernel_rfl) (by kernel_rfl) (by kernel_rfl) (fun _ _ _ h => h) (Or.inl ⟨by rfl, fun w hSw => by go_simp⟩) h11 ?_
      try simp only [List.getElem_toArray, List.getElem_cons_zero, List.getElem_cons_succ, Act.put, List.setIfInBounds_toArray, List.set_cons_zero, List.set_cons_succ]
      refine wpAnyH_take (i := 36) rfl (by kernel_rfl) (by kernel_rfl) (by kernel_rfl) (fun _ _ _ h => h) (yieldsIf_load_mid (by rfl) _ _ rfl _ _ rfl _ _ (fun w h => range_kept rF.out h) u39 rfl iF') h11 ?_
      try simp only [List.getElem_toArray, List.getElem_cons_zero, List.getElem_cons_succ, Act.put, List.setIfInBounds_toArray, List.set_cons_zero, List.set_cons_succ]
      refine wpAnyH_ready (rs := [35]) (by kernel_rfl) (by simp) (AllReadyH.cons (i := 35) rfl (fun K hK => ?_) AllReadyH.nil)
      rw [if_pos (by rfl)]
      go_simp
      refine (CS1.out _ (some ⟨Hb, 0, none⟩) (Or.inr ⟨Hb, _, [], [], rfl, HH.out.kept h11 (by simp)⟩)).mono ?_
      rintro e v12 ⟨rfl, hq⟩
      refine hK.out _ _ (h11.trans (Kept.of_below hq) (by simp)) (fun h12 => ?_)
      clear hK K hq h11
      try simp only [List.getElem_toArray, List.getElem_cons_zero, List.getElem_cons_succ, Act.put, List.setIfInBounds_toArray, List.set_cons_zero, List.set_cons_succ]
      refine wpAnyH_take (i := 37) (v := .bool true) rfl (by kernel_rfl) (by kernel_rfl) (by kernel_rfl) (fun _ _ _ h => h) (Or.inl ⟨by rfl, fun w hSw => by go_simp⟩) h12 ?_
      try simp only [List.getElem_toArray, List.getElem_cons_zero, List.getElem_cons_succ, Act.put, List.setIfInBounds_toArray, List.set_cons_zero, List.set_cons_succ]
      refine wpAnyH_take (i := 38) (v := .bool true) rfl (by kernel_rfl) (by kernel_rfl) (by kernel_rfl) (fun _ _ _ h => h) (Or.inl ⟨by rfl, fun w hSw => by go_simp⟩) h12 ?_
      try simp only [List.getElem_toArray, List.getElem_cons_zero, List.getElem_cons_succ, Act.put, List.setIfInBounds_toArray, List.set_cons_zero, List.set_cons_succ]
      refine wpAnyH_take (i := 39) (v := .bool true) rfl (by kernel_rfl) (by kernel_rfl) (by kernel_rfl) (fun _ _ _ h => h) (Or.inl ⟨by rfl, fun w hSw => by go_simp⟩) h12 ?_
      try simp only [List.getElem_toArray, List.getElem_cons_zero, List.getElem_cons_succ, Act.put, List.setIfInBounds_toArray, List.set_cons_zero, List.set_cons_succ]
      refine wpAnyH_done (by kernel_rfl) ?_ _
      go_wp2_with (fail)
      go_ret
      exact ⟨rfl, (HK1.out.trans h12 (by simp)).below (Nat.le_refl _) (by simp)⟩
  next =>
    rw [if_pos (by rfl)]
    go_simp
    have hp1 : Pcs (v6.alloc (Obj.cells #[.slice ao n cap] 31)) (some ⟨v6.heap.size, 0, none⟩) [⟨ao, cap, xs⟩] := pcs1 v6 ao n cap xs (HSL.out.kept h6 (by simp)) HI.out.len HI.out.le
    refine hK.out _ _ (h6.alloc (Obj.cells #[.slice ao n cap] 31)) (fun h7 => ?_)
    clear hK K h6
    try simp only [List.getElem_toArray, List.getElem_cons_zero, List.getElem_cons_succ, Act.put, List.setIfInBounds_toArray, List.set_cons_zero, List.set_cons_succ]
    generalize World.alloc v6 _ = v7 at h7 hp1 ⊢
    refine wpAnyH_ready (rs := [26]) (by kernel_rfl) (by simp) (AllReadyH.cons (i := 26) rfl (fun K hK => ?_) AllReadyH.nil)
    rw [if_pos (by rfl)]
    go_simp
    replace hp1 := pcs_kept hp1 ((Kept.refl [] v7).alloc (Obj.cells #[] 5))
    refine hK.out _ _ (h7.alloc (Obj.cells #[] 5)) (fun h8 => ?_)
    clear hK K h7
    try simp only [List.getElem_toArray, List.getElem_cons_zero, List.getElem_cons_succ, Act.put, List.setIfInBounds_toArray, List.set_cons_zero, List.set_cons_succ]
    generalize World.alloc v7 _ = v8 at h8 hp1 ⊢
    refine wpAnyH_ready (rs := [27]) (by kernel_rfl) (by simp) (AllReadyH.cons (i := 27) rfl (fun K hK => ?_) AllReadyH.nil)
    rw [if_pos (by rfl)]
    go_simp
    replace hp1 := pcs_kept hp1 ((Kept.refl [] v8).alloc (Obj.cells #[.slice none 0 0, .slice ao n cap, .slice (some ⟨v7.heap.size, 0, none⟩) 0 0] 31))
    have hp3 : Pcs (v8.alloc (Obj.cells #[.slice none 0 0, .slice ao n cap, .slice (some ⟨v7.heap.size, 0, none⟩) 0 0] 31)) (some ⟨v8.heap.size, 0, none⟩) [pc0, ⟨ao, cap, xs⟩, ⟨some ⟨v7.heap.size, 0, none⟩, 0, []⟩] := pcs3 v8 ao n cap xs (HSL.out.kept h8 (by simp)) HI.out.len HI.out.le ⟨some ⟨v7.heap.size, 0, none⟩, 0, []⟩ rfl
    refine hK.out _ _ (h8.alloc (Obj.cells #[.slice none 0 0, .slice ao n cap, .slice (some ⟨v7.heap.size, 0, none⟩) 0 0] 31)) (fun h9 => ?_)
    clear hK K h8
    try simp only [List.getElem_toArray, List.getElem_cons_zero, List.getElem_cons_succ, Act.put, List.setIfInBounds_toArray, List.set_cons_zero, List.set_cons_succ]
    generalize World.alloc v8 _ = v9 at h9 hp1 hp3 ⊢
    refine wpAnyH_ready (rs := [28]) (by kernel_rfl) (by simp) (AllReadyH.cons (i := 28) rfl (fun K hK => ?_) AllReadyH.nil)
    rw [if_pos (by rfl)]
    go_simp
    refine (CO3.out _ _ _ hp3).mono ?_
    rintro e v10 ⟨rfl, hq⟩
    replace hp1 := pcs_kept hp1 (Kept.of_below hq)
    replace hp3 := pcs_kept hp3 (Kept.of_below hq)
    refine hK.out _ _ (h9.trans (Kept.of_below hq) (by simp)) (fun h10 => ?_)
    clear hK K hq h9
    try simp only [List.getElem_toArray, List.getElem_cons_zero, List.getElem_cons_succ, Act.put, List.setIfInBounds_toArray, List.set_cons_zero, List.set_cons_succ]
    clear hp3
    refine wpAnyH_ready (rs := [31]) (by kernel_rfl) (by simp) (AllReadyH.cons (i := 31) rfl (fun K hK => ?_) AllReadyH.nil)
    rw [if_pos (by rfl)]
    go_simp
    refine (CO1.out _ _ hp1).mono ?_
    rintro e v11 ⟨rfl, hq⟩
    replace hp1 := pcs_kept hp1 (Kept.of_below hq)
    refine hK.out _ _ (h10.trans (Kept.of_below hq) (by simp)) (fun h11 => ?_)
    clear hK K hq h10
    try simp only [List.getElem_toArray, List.getElem_cons_zero, List.getElem_cons_succ, Act.put, List.setIfInBounds_toArray, List.set_cons_zero, List.set_cons_succ]
    clear hp1
    refine wpAnyH_take (i := 32) (v := .bool true) rfl (by kernel_rfl) (by kernel_rfl) (by kernel_rfl) (fun _ _ _ h => h) (Or.inl ⟨by rfl, fun w hSw => by go_simp⟩) h11 ?_
    try simp only [List.getElem_toArray, List.getElem_cons_zero, List.getElem_cons_succ, Act.put, List.setIfInBounds_toArray, List.set_cons_zero, List.set_cons_succ]
    refine wpAnyH_take (i := 33) (v := .bool true) rfl (by kernel_rfl) (by kernel_rfl) (by kernel_rfl) (fun _ _ _ h => h) (Or.inl ⟨by rfl, fun w hSw => by go_simp⟩) h11 ?_
    try simp only [List.getElem_toArray, List.getElem_cons_zero, List.getElem_cons_succ, Act.put, List.setIfInBounds_toArray, List.set_cons_zero, List.set_cons_succ]
    refine wpAnyH_take (i := 34) (v := .bool true) rfl (by kernel_rfl) (by kernel_rfl) (by kernel_rfl) (fun _ _ _ h => h) (Or.inl ⟨by rfl, fun w hSw => by go_simp⟩) h11 ?_
    try simp only [List.getElem_toArray, List.getElem_cons_zero, List.getElem_cons_succ, Act.put, List.setIfInBounds_toArray, List.set_cons_zero, List.set_cons_succ]
    refine wpAnyH_take (i := 36) rfl (by kernel_rfl) (by kernel_rfl) (by kernel_rfl) (fun _ _ _ h => h) (yieldsIf_load_mid (by rfl) _ _ rfl _ _ rfl _ _ (fun w h => range_kept rF.out h) u39 rfl iF') h11 ?_
    try simp only [List.getElem_toArray, List.getElem_cons_zero, List.getElem_cons_succ, Act.put, List.setIfInBounds_toArray, List.set_cons_zero, List.set_cons_succ]
    refine wpAnyH_ready (rs := [35]) (by kernel_rfl) (by simp) (AllReadyH.cons (i := 35) rfl (fun K hK => ?_) AllReadyH.nil)
    rw [if_pos (by rfl)]
    go_simp
    refine (CS1.out _ (some ⟨Hb, 0, none⟩) (Or.inr ⟨Hb, _, [], [], rfl, HH.out.kept h11 (by simp)⟩)).mono ?_
    rintro e v12 ⟨rfl, hq⟩
    refine hK.out _ _ (h11.trans (Kept.of_below hq) (by simp)) (fun h12 => ?_)
    clear hK K hq h11
    try simp only [List.getElem_toArray, List.getElem_cons_zero, List.getElem_cons_succ, Act.put, List.setIfInBounds_toArray, List.set_cons_zero, List.set_cons_succ]
    refine wpAnyH_take (i := 37) (v := .bool true) rfl (by kernel_rfl) (by kernel_rfl) (by kernel_rfl) (fun _ _ _ h => h) (Or.inl ⟨by rfl, fun w hSw => by go_simp⟩) h12 ?_
    try simp only [List.getElem_toArray, List.getElem_cons_zero, List.getElem_cons_succ, Act.put, List.setIfInBounds_toArray, List.set_cons_zero, List.set_cons_succ]
    refine wpAnyH_take (i := 38) (v := .bool true) rfl (by kernel_rfl) (by kernel_rfl) (by kernel_rfl) (fun _ _ _ h => h) (Or.inl ⟨by rfl, fun w hSw => by go_simp⟩) h12 ?_
    try simp only [List.getElem_toArray, List.getElem_cons_zero, List.getElem_cons_succ, Act.put, List.setIfInBounds_toArray, List.set_cons_zero, List.set_cons_succ]
    refine wpAnyH_take (i := 39) (v := .bool true) rfl (by kernel_rfl) (by kernel_rfl) (by kernel_rfl) (fun _ _ _ h => h) (Or.inl ⟨by rfl, fun w hSw => by go_simp⟩) h12 ?_
    try simp only [List.getElem_toArray, List.getElem_cons_zero, List.getElem_cons_succ, Act.put, List.setIfInBounds_toArray, List.set_cons_zero, List.set_cons_succ]
    refine wpAnyH_done (by kernel_rfl) ?_ _
    go_wp2_with (fail)
    go_ret
    exact ⟨rfl, (HK1.out.trans h12 (by simp)).below (Nat.le_refl _) (by simp)⟩
end Go.Proofs.Ytbpdmfhkaodeeab
