/-
  The walk of DigestOrders.
-/
import Derived.Test.YtbpdmfhkaodeeaaDk
import Derived.Test.YtbpdmfhkaodeeaaDx8
import Derived.Deep.Cut
import Derived.Deep.RegionHeld3
namespace Go.Proofs.Ytbpdmfhkaodeeaa
open Go.RowKit
set_option linter.unusedVariables false
set_option linter.unusedSimpArgs false

theorem keep_rows {w w1 w2 : World} {g h : Nat} {X Y : List Value} (hS : w1.rangeAt g 0 X ∧ w1.rangeAt h 0 Y ∧ Below w.heap.size w w1 ∧ g < w1.heap.size ∧ h < w1.heap.size) (hb : Below w1.heap.size w1 w2) :
    w2.rangeAt g 0 X ∧ w2.rangeAt h 0 Y ∧ Below w.heap.size w w2 ∧ g < w2.heap.size ∧ h < w2.heap.size := by
  obtain ⟨h1, h2, h3, h4, h5⟩ := hS
  have hs := hb.size
  exact ⟨fun i v hv => by rw [hb.cell (p := ⟨g, _, none⟩) h4]; exact h1 i v hv, fun i v hv => by rw [hb.cell (p := ⟨h, _, none⟩) h5]; exact h2 i v hv, h3.trans (hb.mono h3.size), by omega, by omega⟩

theorem range_row {w : World} {g : Nat} {L : List UInt8} {t : TypeId} (h : w.heap[g]? = some (.cells (bys L).toArray t (0, 0))) : w.rangeAt g 0 (bys L) := fun j v hv => by
  rw [cell_of_row _ _ _ _ _ _ h, List.getElem?_toArray, Nat.zero_add]; exact hv

/-- Three ids in their blocks. -/
structure Ids (w wr : World) (A B C : Nat) (a b c : List UInt8) : Prop where
  a : wr.heap[A]? = some (.cells (bys a).toArray 33 (0, 0))
  b : wr.heap[B]? = some (.cells (bys b).toArray 33 (0, 0))
  c : wr.heap[C]? = some (.cells (bys c).toArray 33 (0, 0))
  below : Below w.heap.size w wr
theorem Ids.later {w wr w' : World} {A B C : Nat} {a b c : List UInt8} (h : Ids w wr A B C a b c) (hb : Below wr.heap.size wr w') : Ids w w' A B C a b c :=
  ⟨later_old hb h.a, later_old hb h.b, later_old hb h.c, h.below.trans (hb.mono h.below.size)⟩

theorem Ids.begins {w wr : World} {A B C : Nat} {a b c : List UInt8} (h : Ids w wr A B C a b c) :
    wr.drew.rangeAt A 0 (bys a) ∧ wr.drew.rangeAt B 0 (bys b) ∧ Below w.heap.size w wr.drew ∧ A < wr.drew.heap.size ∧ B < wr.drew.heap.size :=
  ⟨range_row h.a, range_row h.b, ⟨h.below.os, h.below.tape, h.below.output, h.below.size, h.below.block⟩, (Array.getElem?_eq_some_iff.1 h.a).1, (Array.getElem?_eq_some_iff.1 h.b).1⟩

set_option maxHeartbeats 2000000 in
set_option maxRecDepth 100000 in
theorem orders_law (a b c : List UInt8) (w : World) (ha : a.length = 32) (hb : b.length = 32) (hc : c.length = 32) :
    Calls Try.prog 7 #[.agg (bys a).toArray, .agg (bys b).toArray, .agg (bys c).toArray] w fun e w' => e = .returned (.bool true) ∧ Below w.heap.size w w' := by
  obtain ⟨X, hX⟩ : ∃ X, X = cmp a b := ⟨_, rfl⟩
  obtain ⟨Y, hY⟩ : ∃ X, X = cmp b c := ⟨_, rfl⟩
  obtain ⟨Z, hZ⟩ : ∃ X, X = cmp a c := ⟨_, rfl⟩
  obtain ⟨N, hN⟩ : ∃ X, X = cmp b a := ⟨_, rfl⟩
  have CAB := fun W : World => compare_ok a b ha hb W
  have CBC := fun W : World => compare_ok b c hb hc W
  have CAC := fun W : World => compare_ok a c ha hc W
  have CBA := fun W : World => compare_ok b a hb ha W
  have RAB := fun W : World => rcompare_ok a b ha hb W
  rw [← hX] at CAB RAB
  rw [← hY] at CBC
  rw [← hZ] at CAC
  rw [← hN] at CBA
  have HZ : Hid (X ≤ 0 → Y ≤ 0 → Z ≤ 0) := fun p q => by rw [hZ]; exact cmp_goes a b c (by omega) (by omega) (by omega) (by omega)
  obtain ⟨E, hE⟩ : ∃ E, E = decide (a = b) := ⟨_, rfl⟩
  obtain ⟨L, hL⟩ : ∃ E, E = Op.bytesLess (hex a) (hex b) := ⟨_, rfl⟩
  have HF : Hid ((X = -1 ∧ N = 1 ∧ E = false ∧ L = true) ∨ (X = 0 ∧ N = 0 ∧ E = true ∧ L = false) ∨ (X = 1 ∧ N = -1 ∧ E = false ∧ L = false)) := by
    have h1 := hex_less a b (by omega)
    have h2 := cmp_eq a b (by omega)
    rw [cmp_turn a b, ← hX] at hN
    rw [← hL, ← hX] at h1
    rw [← hX] at h2
    have hE2 : E = decide (X = 0) := by rw [hE]; exact decide_eq_decide.2 h2.symm
    rcases cmp_three a b with h | h | h <;> rw [← hX] at h <;> subst h <;> simp at hN h1 hE2 <;> subst hN h1 hE2
    · exact .inl ⟨rfl, rfl, rfl, rfl⟩
    · exact .inr (.inl ⟨rfl, rfl, rfl, rfl⟩)
    · exact .inr (.inr ⟨rfl, rfl, rfl, rfl⟩)
  have heq : ∀ W, (Op.equalIn 10000 33 (.agg (bys a).toArray) (.agg (bys b).toArray)).run Try.prog W = .ok E W := fun W => by rw [Try.eqlID a b ha hb W, hE]
  have hgd : Try.prog.eqGuardType Try.prog.depth 33 = false := by kernel_rfl
  have ia := Try.infoIDb a ha
  have ib := Try.infoIDb b hb
  have ic := Try.infoIDb c hc
  have HI : Hid (Ids w (((w.alloc (.cells (bys a).toArray 33)).alloc (.cells (bys b).toArray 33)).alloc (.cells (bys c).toArray 33)) w.heap.size (w.heap.size + 1) (w.heap.size + 1 + 1) a b c) := by
    have h3 := blocks3 w (.cells (bys a).toArray 33) (.cells (bys b).toArray 33) (.cells (bys c).toArray 33)
    exact ⟨h3.1, h3.2.1, h3.2.2, (((Below.refl _ _).alloc (Nat.le_refl _) _).alloc (by simp) _).alloc (by simp; omega) _⟩
  obtain ⟨A, hA⟩ : ∃ A, A = w.heap.size := ⟨_, rfl⟩
  obtain ⟨B, hB⟩ : ∃ A, A = w.heap.size + 1 := ⟨_, rfl⟩
  obtain ⟨C, hC⟩ : ∃ A, A = w.heap.size + 1 + 1 := ⟨_, rfl⟩
  rw [← hC, ← hB, ← hA] at HI
  have u1 := Try.underlying33
  have ia' : (Try.prog.info? 33).map (·.size) = some (bys a).length := ia
  have ib' : (Try.prog.info? 33).map (·.size) = some (bys b).length := ib
  go_enter Try.func7, Try.ntmps7
  have HL : Hid (Op.bytesLess (hex a) (hex b) = L) := hL.symm
  clear hX hY hZ hN hE hL
  go_upto_region 1 with (fail)
  rw [← hC, ← hB, ← hA]
  clear hA hB hC
  generalize World.alloc _ _ = w1 at HI ⊢
  have pa := HI.out.a
  have pb := HI.out.b
  go_wp2_with (first | refine wpList_load_row rfl 33 (.tmp 3) rfl A rfl 33 _ (0, 0) _ pa u1 rfl ia ?_ | refine wpList_load_row rfl 33 (.tmp 4) rfl B rfl 33 _ (0, 0) _ pb u1 rfl ib ?_)
  refine (CAB _).mono ?_
  rintro e w2 ⟨rfl, hb2⟩
  replace HI : Hid (Ids w w2 A B C a b c) := HI.out.later hb2
  clear hb2 pa pb
  have pb := HI.out.b
  have pc := HI.out.c
  go_wp2_with (first | refine wpList_load_row rfl 33 (.tmp 4) rfl B rfl 33 _ (0, 0) _ pb u1 rfl ib ?_ | refine wpList_load_row rfl 33 (.tmp 5) rfl C rfl 33 _ (0, 0) _ pc u1 rfl ic ?_)
  refine (CBC _).mono ?_
  rintro e w3 ⟨rfl, hb2⟩
  replace HI : Hid (Ids w w3 A B C a b c) := HI.out.later hb2
  clear hb2 pc pb
  go_wp2_with (fail)
  refine (known_any _).mono ?_
  rintro e w4 ⟨rfl, hb2⟩
  replace HI : Hid (Ids w w4 A B C a b c) := HI.out.later hb2
  clear hb2
  have pa := HI.out.a
  have pb := HI.out.b
  go_wp2_with (first | refine wpList_load_want 33 (.tmp 3) rfl A rfl 33 _ (0, 0) _ pa u1 rfl ia (by kernel_rfl) ?_ | refine wpList_load_want 33 (.tmp 4) rfl B rfl 33 _ (0, 0) _ pb u1 rfl ib (by kernel_rfl) ?_)
  refine (RAB _).mono ?_
  rintro e w5 ⟨rfl, hb2⟩
  replace HI : Hid (Ids w w5 A B C a b c) := HI.out.later hb2
  clear hb2 pa pb
  have pa := HI.out.a
  have pb := HI.out.b
  go_wp2_with (first | refine wpList_load_want 33 (.tmp 3) rfl A rfl 33 _ (0, 0) _ pa u1 rfl ia (by kernel_rfl) ?_ | refine wpList_load_want 33 (.tmp 4) rfl B rfl 33 _ (0, 0) _ pb u1 rfl ib (by kernel_rfl) ?_)
  refine (CBA _).mono ?_
  rintro e w6 ⟨rfl, hb2⟩
  replace HI : Hid (Ids w w6 A B C a b c) := HI.out.later hb2
  clear hb2 pa pb CAB RAB CBA CBC
  have pa := HI.out.a
  have pb := HI.out.b
  rcases HF.out with ⟨rfl, rfl, rfl, rfl⟩ | ⟨rfl, rfl, rfl, rfl⟩ | ⟨rfl, rfl, rfl, rfl⟩
  all_goals clear HF
  all_goals go_upto_region 5 with (first | refine wpList_load_want 33 (.tmp 3) rfl A rfl 33 _ (0, 0) _ pa u1 rfl ia (by kernel_rfl) ?_ | refine wpList_load_want 33 (.tmp 4) rfl B rfl 33 _ (0, 0) _ pb u1 rfl ib (by kernel_rfl) ?_)
  · by_cases hy : Y ≤ 0
    · have hz := HZ.out (by omega) hy
      have gz : ¬ (0 < Z) := by omega
      have gz2 : decide (0 < Z) = false := by simp; omega
      have gy2 : decide (Y ≤ 0) = true := by simp; omega
      have pc := HI.out.c
      go_upto_region 6 with (first | refine wpList_load_want 33 (.tmp 3) rfl A rfl 33 _ (0, 0) _ pa u1 rfl ia (by kernel_rfl) ?_ | refine wpList_load_want 33 (.tmp 5) rfl C rfl 33 _ (0, 0) _ pc u1 rfl ic (by kernel_rfl) ?_)
      refine (CAC _).mono ?_
      rintro e w7 ⟨rfl, hb2⟩
      replace HI : Hid (Ids w w7 A B C a b c) := HI.out.later hb2
      clear hb2 pa pb pc
      go_upto_region 7 with (fail)
      have hS0 := HI.out.begins
      clear CAC ic
      refine wp_region_held_drew (S := fun w' => w'.rangeAt A 0 (bys a) ∧ w'.rangeAt B 0 (bys b) ∧ Below w.heap.size w w' ∧ A < w'.heap.size ∧ B < w'.heap.size) (by kernel_rfl) hS0 (fun hHeld => ?_)
      refine wpAnyH_take (i := 0) (v := .int .i64 (-1)) rfl (by kernel_rfl) (by kernel_rfl) (by kernel_rfl) (fun _ _ _ h => h) (Or.inl ⟨by rfl, fun w hSw => by go_simp⟩) hHeld ?_
      try simp only [List.getElem_toArray, List.getElem_cons_zero, List.getElem_cons_succ, Act.put, List.setIfInBounds_toArray, List.set_cons_zero, List.set_cons_succ]
      refine wpAnyH_take (i := 1) (v := .bool true) rfl (by kernel_rfl) (by kernel_rfl) (by kernel_rfl) (fun _ _ _ h => h) (Or.inl ⟨by rfl, fun w hSw => by go_simp⟩) hHeld ?_
      try simp only [List.getElem_toArray, List.getElem_cons_zero, List.getElem_cons_succ, Act.put, List.setIfInBounds_toArray, List.set_cons_zero, List.set_cons_succ]
      refine wpAnyH_take (i := 2) rfl (by kernel_rfl) (by kernel_rfl) (by kernel_rfl) (fun _ _ _ h => h) (yieldsIf_load_mid (by rfl) _ _ rfl _ _ rfl _ _ (fun w h => h.1) u1 rfl ia') hHeld ?_
      try simp only [List.getElem_toArray, List.getElem_cons_zero, List.getElem_cons_succ, Act.put, List.setIfInBounds_toArray, List.set_cons_zero, List.set_cons_succ]
      refine wpAnyH_take (i := 4) rfl (by kernel_rfl) (by kernel_rfl) (by kernel_rfl) (fun _ _ _ h => h) (yieldsIf_load_mid (by rfl) _ _ rfl _ _ rfl _ _ (fun w h => h.2.1) u1 rfl ib') hHeld ?_
      try simp only [List.getElem_toArray, List.getElem_cons_zero, List.getElem_cons_succ, Act.put, List.setIfInBounds_toArray, List.set_cons_zero, List.set_cons_succ]
      have HL1 := HL.out
      refine wpAnyH_ready (rs := [3]) (by kernel_rfl) (by simp) (AllReadyH.cons (i := 3) rfl (fun K hK => ?_) AllReadyH.nil)
      rw [if_pos (by rfl)]
      go_simp
      refine (hex_ok a ha _).mono ?_
      rintro e w' ⟨rfl, hq⟩
      refine hK.out _ _ (keep_rows hHeld hq) (fun h2 => ?_)
      clear hK K hHeld hq
      try simp only [List.getElem_toArray, List.getElem_cons_zero, List.getElem_cons_succ, Act.put, List.setIfInBounds_toArray, List.set_cons_zero, List.set_cons_succ]
      refine wpAnyH_ready (rs := [5]) (by kernel_rfl) (by simp) (AllReadyH.cons (i := 5) rfl (fun K hK => ?_) AllReadyH.nil)
      rw [if_pos (by rfl)]
      go_simp
      refine (hex_ok b hb _).mono ?_
      rintro e w' ⟨rfl, hq⟩
      refine hK.out _ _ (keep_rows h2 hq) (fun h3 => ?_)
      clear hK K h2 hq
      try simp only [List.getElem_toArray, List.getElem_cons_zero, List.getElem_cons_succ, Act.put, List.setIfInBounds_toArray, List.set_cons_zero, List.set_cons_succ]
      refine wpAnyH_take (i := 6) (v := .bool true) rfl (by kernel_rfl) (by kernel_rfl) (by kernel_rfl) (fun _ _ _ h => h) (Or.inl ⟨by rfl, fun w hSw => by go_simp⟩) h3 ?_
      try simp only [List.getElem_toArray, List.getElem_cons_zero, List.getElem_cons_succ, Act.put, List.setIfInBounds_toArray, List.set_cons_zero, List.set_cons_succ]
      refine wpAnyH_take (i := 7) (v := .bool true) rfl (by kernel_rfl) (by kernel_rfl) (by kernel_rfl) (fun _ _ _ h => h) (Or.inl ⟨by rfl, fun w hSw => by go_simp⟩) h3 ?_
      try simp only [List.getElem_toArray, List.getElem_cons_zero, List.getElem_cons_succ, Act.put, List.setIfInBounds_toArray, List.set_cons_zero, List.set_cons_succ]
      refine wpAnyH_take (i := 8) (v := .bool true) rfl (by kernel_rfl) (by kernel_rfl) (by kernel_rfl) (fun _ _ _ h => h) (Or.inl ⟨by rfl, fun w hSw => by go_simp⟩) h3 ?_
      try simp only [List.getElem_toArray, List.getElem_cons_zero, List.getElem_cons_succ, Act.put, List.setIfInBounds_toArray, List.set_cons_zero, List.set_cons_succ]
      refine wpAnyH_done (by kernel_rfl) ?_ _
      go_wp2_with (fail)
      go_ret
      exact ⟨rfl, h3.2.2.1⟩
    · have gy : 0 < Y := by omega
      have gy2 : decide (Y ≤ 0) = false := by simp; omega
      go_upto_region 7 with (fail)
      clear pa pb
      have hS0 := HI.out.begins
      clear CAC ic
      refine wp_region_held_drew (S := fun w' => w'.rangeAt A 0 (bys a) ∧ w'.rangeAt B 0 (bys b) ∧ Below w.heap.size w w' ∧ A < w'.heap.size ∧ B < w'.heap.size) (by kernel_rfl) hS0 (fun hHeld => ?_)
      refine wpAnyH_take (i := 0) (v := .int .i64 (-1)) rfl (by kernel_rfl) (by kernel_rfl) (by kernel_rfl) (fun _ _ _ h => h) (Or.inl ⟨by rfl, fun w hSw => by go_simp⟩) hHeld ?_
      try simp only [List.getElem_toArray, List.getElem_cons_zero, List.getElem_cons_succ, Act.put, List.setIfInBounds_toArray, List.set_cons_zero, List.set_cons_succ]
      refine wpAnyH_take (i := 1) (v := .bool true) rfl (by kernel_rfl) (by kernel_rfl) (by kernel_rfl) (fun _ _ _ h => h) (Or.inl ⟨by rfl, fun w hSw => by go_simp⟩) hHeld ?_
      try simp only [List.getElem_toArray, List.getElem_cons_zero, List.getElem_cons_succ, Act.put, List.setIfInBounds_toArray, List.set_cons_zero, List.set_cons_succ]
      refine wpAnyH_take (i := 2) rfl (by kernel_rfl) (by kernel_rfl) (by kernel_rfl) (fun _ _ _ h => h) (yieldsIf_load_mid (by rfl) _ _ rfl _ _ rfl _ _ (fun w h => h.1) u1 rfl ia') hHeld ?_
      try simp only [List.getElem_toArray, List.getElem_cons_zero, List.getElem_cons_succ, Act.put, List.setIfInBounds_toArray, List.set_cons_zero, List.set_cons_succ]
      refine wpAnyH_take (i := 4) rfl (by kernel_rfl) (by kernel_rfl) (by kernel_rfl) (fun _ _ _ h => h) (yieldsIf_load_mid (by rfl) _ _ rfl _ _ rfl _ _ (fun w h => h.2.1) u1 rfl ib') hHeld ?_
      try simp only [List.getElem_toArray, List.getElem_cons_zero, List.getElem_cons_succ, Act.put, List.setIfInBounds_toArray, List.set_cons_zero, List.set_cons_succ]
      have HL1 := HL.out
      refine wpAnyH_ready (rs := [3]) (by kernel_rfl) (by simp) (AllReadyH.cons (i := 3) rfl (fun K hK => ?_) AllReadyH.nil)
      rw [if_pos (by rfl)]
      go_simp
      refine (hex_ok a ha _).mono ?_
      rintro e w' ⟨rfl, hq⟩
      refine hK.out _ _ (keep_rows hHeld hq) (fun h2 => ?_)
      clear hK K hHeld hq
      try simp only [List.getElem_toArray, List.getElem_cons_zero, List.getElem_cons_succ, Act.put, List.setIfInBounds_toArray, List.set_cons_zero, List.set_cons_succ]
      refine wpAnyH_ready (rs := [5]) (by kernel_rfl) (by simp) (AllReadyH.cons (i := 5) rfl (fun K hK => ?_) AllReadyH.nil)
      rw [if_pos (by rfl)]
      go_simp
      refine (hex_ok b hb _).mono ?_
      rintro e w' ⟨rfl, hq⟩
      refine hK.out _ _ (keep_rows h2 hq) (fun h3 => ?_)
      clear hK K h2 hq
      try simp only [List.getElem_toArray, List.getElem_cons_zero, List.getElem_cons_succ, Act.put, List.setIfInBounds_toArray, List.set_cons_zero, List.set_cons_succ]
      refine wpAnyH_take (i := 6) (v := .bool true) rfl (by kernel_rfl) (by kernel_rfl) (by kernel_rfl) (fun _ _ _ h => h) (Or.inl ⟨by rfl, fun w hSw => by go_simp⟩) h3 ?_
      try simp only [List.getElem_toArray, List.getElem_cons_zero, List.getElem_cons_succ, Act.put, List.setIfInBounds_toArray, List.set_cons_zero, List.set_cons_succ]
      refine wpAnyH_take (i := 7) (v := .bool true) rfl (by kernel_rfl) (by kernel_rfl) (by kernel_rfl) (fun _ _ _ h => h) (Or.inl ⟨by rfl, fun w hSw => by go_simp⟩) h3 ?_
      try simp only [List.getElem_toArray, List.getElem_cons_zero, List.getElem_cons_succ, Act.put, List.setIfInBounds_toArray, List.set_cons_zero, List.set_cons_succ]
      refine wpAnyH_take (i := 8) (v := .bool true) rfl (by kernel_rfl) (by kernel_rfl) (by kernel_rfl) (fun _ _ _ h => h) (Or.inl ⟨by rfl, fun w hSw => by go_simp⟩) h3 ?_
      try simp only [List.getElem_toArray, List.getElem_cons_zero, List.getElem_cons_succ, Act.put, List.setIfInBounds_toArray, List.set_cons_zero, List.set_cons_succ]
      refine wpAnyH_done (by kernel_rfl) ?_ _
      go_wp2_with (fail)
      go_ret
      exact ⟨rfl, h3.2.2.1⟩
  · by_cases hy : Y ≤ 0
    · have hz := HZ.out (by omega) hy
      have gz : ¬ (0 < Z) := by omega
      have gz2 : decide (0 < Z) = false := by simp; omega
      have gy2 : decide (Y ≤ 0) = true := by simp; omega
      have pc := HI.out.c
      go_upto_region 6 with (first | refine wpList_load_want 33 (.tmp 3) rfl A rfl 33 _ (0, 0) _ pa u1 rfl ia (by kernel_rfl) ?_ | refine wpList_load_want 33 (.tmp 5) rfl C rfl 33 _ (0, 0) _ pc u1 rfl ic (by kernel_rfl) ?_)
      refine (CAC _).mono ?_
      rintro e w7 ⟨rfl, hb2⟩
      replace HI : Hid (Ids w w7 A B C a b c) := HI.out.later hb2
      clear hb2 pa pb pc
      go_upto_region 7 with (fail)
      have hS0 := HI.out.begins
      clear CAC ic
      refine wp_region_held_drew (S := fun w' => w'.rangeAt A 0 (bys a) ∧ w'.rangeAt B 0 (bys b) ∧ Below w.heap.size w w' ∧ A < w'.heap.size ∧ B < w'.heap.size) (by kernel_rfl) hS0 (fun hHeld => ?_)
      refine wpAnyH_take (i := 0) (v := .int .i64 (0)) rfl (by kernel_rfl) (by kernel_rfl) (by kernel_rfl) (fun _ _ _ h => h) (Or.inl ⟨by rfl, fun w hSw => by go_simp⟩) hHeld ?_
      try simp only [List.getElem_toArray, List.getElem_cons_zero, List.getElem_cons_succ, Act.put, List.setIfInBounds_toArray, List.set_cons_zero, List.set_cons_succ]
      refine wpAnyH_take (i := 1) (v := .bool false) rfl (by kernel_rfl) (by kernel_rfl) (by kernel_rfl) (fun _ _ _ h => h) (Or.inl ⟨by rfl, fun w hSw => by go_simp⟩) hHeld ?_
      try simp only [List.getElem_toArray, List.getElem_cons_zero, List.getElem_cons_succ, Act.put, List.setIfInBounds_toArray, List.set_cons_zero, List.set_cons_succ]
      refine wpAnyH_take (i := 2) rfl (by kernel_rfl) (by kernel_rfl) (by kernel_rfl) (fun _ _ _ h => h) (yieldsIf_load_mid (by rfl) _ _ rfl _ _ rfl _ _ (fun w h => h.1) u1 rfl ia') hHeld ?_
      try simp only [List.getElem_toArray, List.getElem_cons_zero, List.getElem_cons_succ, Act.put, List.setIfInBounds_toArray, List.set_cons_zero, List.set_cons_succ]
      refine wpAnyH_take (i := 4) rfl (by kernel_rfl) (by kernel_rfl) (by kernel_rfl) (fun _ _ _ h => h) (yieldsIf_load_mid (by rfl) _ _ rfl _ _ rfl _ _ (fun w h => h.2.1) u1 rfl ib') hHeld ?_
      try simp only [List.getElem_toArray, List.getElem_cons_zero, List.getElem_cons_succ, Act.put, List.setIfInBounds_toArray, List.set_cons_zero, List.set_cons_succ]
      have HL1 := HL.out
      refine wpAnyH_ready (rs := [3]) (by kernel_rfl) (by simp) (AllReadyH.cons (i := 3) rfl (fun K hK => ?_) AllReadyH.nil)
      rw [if_pos (by rfl)]
      go_simp
      refine (hex_ok a ha _).mono ?_
      rintro e w' ⟨rfl, hq⟩
      refine hK.out _ _ (keep_rows hHeld hq) (fun h2 => ?_)
      clear hK K hHeld hq
      try simp only [List.getElem_toArray, List.getElem_cons_zero, List.getElem_cons_succ, Act.put, List.setIfInBounds_toArray, List.set_cons_zero, List.set_cons_succ]
      refine wpAnyH_ready (rs := [5]) (by kernel_rfl) (by simp) (AllReadyH.cons (i := 5) rfl (fun K hK => ?_) AllReadyH.nil)
      rw [if_pos (by rfl)]
      go_simp
      refine (hex_ok b hb _).mono ?_
      rintro e w' ⟨rfl, hq⟩
      refine hK.out _ _ (keep_rows h2 hq) (fun h3 => ?_)
      clear hK K h2 hq
      try simp only [List.getElem_toArray, List.getElem_cons_zero, List.getElem_cons_succ, Act.put, List.setIfInBounds_toArray, List.set_cons_zero, List.set_cons_succ]
      refine wpAnyH_take (i := 6) (v := .bool false) rfl (by kernel_rfl) (by kernel_rfl) (by kernel_rfl) (fun _ _ _ h => h) (Or.inl ⟨by rfl, fun w hSw => by go_simp⟩) h3 ?_
      try simp only [List.getElem_toArray, List.getElem_cons_zero, List.getElem_cons_succ, Act.put, List.setIfInBounds_toArray, List.set_cons_zero, List.set_cons_succ]
      refine wpAnyH_take (i := 7) (v := .bool true) rfl (by kernel_rfl) (by kernel_rfl) (by kernel_rfl) (fun _ _ _ h => h) (Or.inl ⟨by rfl, fun w hSw => by go_simp⟩) h3 ?_
      try simp only [List.getElem_toArray, List.getElem_cons_zero, List.getElem_cons_succ, Act.put, List.setIfInBounds_toArray, List.set_cons_zero, List.set_cons_succ]
      refine wpAnyH_take (i := 8) (v := .bool true) rfl (by kernel_rfl) (by kernel_rfl) (by kernel_rfl) (fun _ _ _ h => h) (Or.inl ⟨by rfl, fun w hSw => by go_simp⟩) h3 ?_
      try simp only [List.getElem_toArray, List.getElem_cons_zero, List.getElem_cons_succ, Act.put, List.setIfInBounds_toArray, List.set_cons_zero, List.set_cons_succ]
      refine wpAnyH_done (by kernel_rfl) ?_ _
      go_wp2_with (fail)
      go_ret
      exact ⟨rfl, h3.2.2.1⟩
    · have gy : 0 < Y := by omega
      have gy2 : decide (Y ≤ 0) = false := by simp; omega
      go_upto_region 7 with (fail)
      clear pa pb
      have hS0 := HI.out.begins
      clear CAC ic
      refine wp_region_held_drew (S := fun w' => w'.rangeAt A 0 (bys a) ∧ w'.rangeAt B 0 (bys b) ∧ Below w.heap.size w w' ∧ A < w'.heap.size ∧ B < w'.heap.size) (by kernel_rfl) hS0 (fun hHeld => ?_)
      refine wpAnyH_take (i := 0) (v := .int .i64 (0)) rfl (by kernel_rfl) (by kernel_rfl) (by kernel_rfl) (fun _ _ _ h => h) (Or.inl ⟨by rfl, fun w hSw => by go_simp⟩) hHeld ?_
      try simp only [List.getElem_toArray, List.getElem_cons_zero, List.getElem_cons_succ, Act.put, List.setIfInBounds_toArray, List.set_cons_zero, List.set_cons_succ]
      refine wpAnyH_take (i := 1) (v := .bool false) rfl (by kernel_rfl) (by kernel_rfl) (by kernel_rfl) (fun _ _ _ h => h) (Or.inl ⟨by rfl, fun w hSw => by go_simp⟩) hHeld ?_
      try simp only [List.getElem_toArray, List.getElem_cons_zero, List.getElem_cons_succ, Act.put, List.setIfInBounds_toArray, List.set_cons_zero, List.set_cons_succ]
      refine wpAnyH_take (i := 2) rfl (by kernel_rfl) (by kernel_rfl) (by kernel_rfl) (fun _ _ _ h => h) (yieldsIf_load_mid (by rfl) _ _ rfl _ _ rfl _ _ (fun w h => h.1) u1 rfl ia') hHeld ?_
      try simp only [List.getElem_toArray, List.getElem_cons_zero, List.getElem_cons_succ, Act.put, List.setIfInBounds_toArray, List.set_cons_zero, List.set_cons_succ]
      refine wpAnyH_take (i := 4) rfl (by kernel_rfl) (by kernel_rfl) (by kernel_rfl) (fun _ _ _ h => h) (yieldsIf_load_mid (by rfl) _ _ rfl _ _ rfl _ _ (fun w h => h.2.1) u1 rfl ib') hHeld ?_
      try simp only [List.getElem_toArray, List.getElem_cons_zero, List.getElem_cons_succ, Act.put, List.setIfInBounds_toArray, List.set_cons_zero, List.set_cons_succ]
      have HL1 := HL.out
      refine wpAnyH_ready (rs := [3]) (by kernel_rfl) (by simp) (AllReadyH.cons (i := 3) rfl (fun K hK => ?_) AllReadyH.nil)
      rw [if_pos (by rfl)]
      go_simp
      refine (hex_ok a ha _).mono ?_
      rintro e w' ⟨rfl, hq⟩
      refine hK.out _ _ (keep_rows hHeld hq) (fun h2 => ?_)
      clear hK K hHeld hq
      try simp only [List.getElem_toArray, List.getElem_cons_zero, List.getElem_cons_succ, Act.put, List.setIfInBounds_toArray, List.set_cons_zero, List.set_cons_succ]
      refine wpAnyH_ready (rs := [5]) (by kernel_rfl) (by simp) (AllReadyH.cons (i := 5) rfl (fun K hK => ?_) AllReadyH.nil)
      rw [if_pos (by rfl)]
      go_simp
      refine (hex_ok b hb _).mono ?_
      rintro e w' ⟨rfl, hq⟩
      refine hK.out _ _ (keep_rows h2 hq) (fun h3 => ?_)
      clear hK K h2 hq
      try simp only [List.getElem_toArray, List.getElem_cons_zero, List.getElem_cons_succ, Act.put, List.setIfInBounds_toArray, List.set_cons_zero, List.set_cons_succ]
      refine wpAnyH_take (i := 6) (v := .bool false) rfl (by kernel_rfl) (by kernel_rfl) (by kernel_rfl) (fun _ _ _ h => h) (Or.inl ⟨by rfl, fun w hSw => by go_simp⟩) h3 ?_
      try simp only [List.getElem_toArray, List.getElem_cons_zero, List.getElem_cons_succ, Act.put, List.setIfInBounds_toArray, List.set_cons_zero, List.set_cons_succ]
      refine wpAnyH_take (i := 7) (v := .bool true) rfl (by kernel_rfl) (by kernel_rfl) (by kernel_rfl) (fun _ _ _ h => h) (Or.inl ⟨by rfl, fun w hSw => by go_simp⟩) h3 ?_
      try simp only [List.getElem_toArray, List.getElem_cons_zero, List.getElem_cons_succ, Act.put, List.setIfInBounds_toArray, List.set_cons_zero, List.set_cons_succ]
      refine wpAnyH_take (i := 8) (v := .bool true) rfl (by kernel_rfl) (by kernel_rfl) (by kernel_rfl) (fun _ _ _ h => h) (Or.inl ⟨by rfl, fun w hSw => by go_simp⟩) h3 ?_
      try simp only [List.getElem_toArray, List.getElem_cons_zero, List.getElem_cons_succ, Act.put, List.setIfInBounds_toArray, List.set_cons_zero, List.set_cons_succ]
      refine wpAnyH_done (by kernel_rfl) ?_ _
      go_wp2_with (fail)
      go_ret
      exact ⟨rfl, h3.2.2.1⟩
  · go_upto_region 7 with (fail)
    clear pa pb
    have hS0 := HI.out.begins
    clear CAC ic
    refine wp_region_held_drew (S := fun w' => w'.rangeAt A 0 (bys a) ∧ w'.rangeAt B 0 (bys b) ∧ Below w.heap.size w w' ∧ A < w'.heap.size ∧ B < w'.heap.size) (by kernel_rfl) hS0 (fun hHeld => ?_)
    refine wpAnyH_take (i := 0) (v := .int .i64 (1)) rfl (by kernel_rfl) (by kernel_rfl) (by kernel_rfl) (fun _ _ _ h => h) (Or.inl ⟨by rfl, fun w hSw => by go_simp⟩) hHeld ?_
    try simp only [List.getElem_toArray, List.getElem_cons_zero, List.getElem_cons_succ, Act.put, List.setIfInBounds_toArray, List.set_cons_zero, List.set_cons_succ]
    refine wpAnyH_take (i := 1) (v := .bool false) rfl (by kernel_rfl) (by kernel_rfl) (by kernel_rfl) (fun _ _ _ h => h) (Or.inl ⟨by rfl, fun w hSw => by go_simp⟩) hHeld ?_
    try simp only [List.getElem_toArray, List.getElem_cons_zero, List.getElem_cons_succ, Act.put, List.setIfInBounds_toArray, List.set_cons_zero, List.set_cons_succ]
    refine wpAnyH_take (i := 2) rfl (by kernel_rfl) (by kernel_rfl) (by kernel_rfl) (fun _ _ _ h => h) (yieldsIf_load_mid (by rfl) _ _ rfl _ _ rfl _ _ (fun w h => h.1) u1 rfl ia') hHeld ?_
    try simp only [List.getElem_toArray, List.getElem_cons_zero, List.getElem_cons_succ, Act.put, List.setIfInBounds_toArray, List.set_cons_zero, List.set_cons_succ]
    refine wpAnyH_take (i := 4) rfl (by kernel_rfl) (by kernel_rfl) (by kernel_rfl) (fun _ _ _ h => h) (yieldsIf_load_mid (by rfl) _ _ rfl _ _ rfl _ _ (fun w h => h.2.1) u1 rfl ib') hHeld ?_
    try simp only [List.getElem_toArray, List.getElem_cons_zero, List.getElem_cons_succ, Act.put, List.setIfInBounds_toArray, List.set_cons_zero, List.set_cons_succ]
    have HL1 := HL.out
    refine wpAnyH_ready (rs := [3]) (by kernel_rfl) (by simp) (AllReadyH.cons (i := 3) rfl (fun K hK => ?_) AllReadyH.nil)
    rw [if_pos (by rfl)]
    go_simp
    refine (hex_ok a ha _).mono ?_
    rintro e w' ⟨rfl, hq⟩
    refine hK.out _ _ (keep_rows hHeld hq) (fun h2 => ?_)
    clear hK K hHeld hq
    try simp only [List.getElem_toArray, List.getElem_cons_zero, List.getElem_cons_succ, Act.put, List.setIfInBounds_toArray, List.set_cons_zero, List.set_cons_succ]
    refine wpAnyH_ready (rs := [5]) (by kernel_rfl) (by simp) (AllReadyH.cons (i := 5) rfl (fun K hK => ?_) AllReadyH.nil)
    rw [if_pos (by rfl)]
    go_simp
    refine (hex_ok b hb _).mono ?_
    rintro e w' ⟨rfl, hq⟩
    refine hK.out _ _ (keep_rows h2 hq) (fun h3 => ?_)
    clear hK K h2 hq
    try simp only [List.getElem_toArray, List.getElem_cons_zero, List.getElem_cons_succ, Act.put, List.setIfInBounds_toArray, List.set_cons_zero, List.set_cons_succ]
    refine wpAnyH_take (i := 6) (v := .bool false) rfl (by kernel_rfl) (by kernel_rfl) (by kernel_rfl) (fun _ _ _ h => h) (Or.inl ⟨by rfl, fun w hSw => by go_simp⟩) h3 ?_
    try simp only [List.getElem_toArray, List.getElem_cons_zero, List.getElem_cons_succ, Act.put, List.setIfInBounds_toArray, List.set_cons_zero, List.set_cons_succ]
    refine wpAnyH_take (i := 7) (v := .bool true) rfl (by kernel_rfl) (by kernel_rfl) (by kernel_rfl) (fun _ _ _ h => h) (Or.inl ⟨by rfl, fun w hSw => by go_simp⟩) h3 ?_
    try simp only [List.getElem_toArray, List.getElem_cons_zero, List.getElem_cons_succ, Act.put, List.setIfInBounds_toArray, List.set_cons_zero, List.set_cons_succ]
    refine wpAnyH_take (i := 8) (v := .bool true) rfl (by kernel_rfl) (by kernel_rfl) (by kernel_rfl) (fun _ _ _ h => h) (Or.inl ⟨by rfl, fun w hSw => by go_simp⟩) h3 ?_
    try simp only [List.getElem_toArray, List.getElem_cons_zero, List.getElem_cons_succ, Act.put, List.setIfInBounds_toArray, List.set_cons_zero, List.set_cons_succ]
    refine wpAnyH_done (by kernel_rfl) ?_ _
    go_wp2_with (fail)
    go_ret
    exact ⟨rfl, h3.2.2.1⟩
end Go.Proofs.Ytbpdmfhkaodeeaa
