/-
  append of one result. Contract: freightref8.With. (Written by tools/t8w.py.)
-/
import Derived.Test.YtdeneflgldagpaaT8b
import Derived.Test.YtdeneflgldagpaaZn
namespace Go.Proofs.Ytdeneflgldagpaa
open Go.RowKit Go.Sort
set_option linter.unusedVariables false
set_option linter.unusedSimpArgs false

theorem wpList_buildOne {ops : Array Oper} {rest : List Oper} {o : Oper} {a : Act} {w : World} {Q : Exit → Act → World → Prop} (hgd : o.guard = none) (x : Operand) (ho : o.op = .buildSlice 22 1 #[(0, x)]) (e : Res) (hx : a.eval x = .agg e.cells.toArray)
    (h : wpList Try.prog ops Q rest (a.put o.dst (.slice (some ⟨w.heap.size, 0, none⟩) 1 1)) (w.alloc (.cells e.cells.toArray 39))) : wpList Try.prog ops Q (o :: rest) a w :=
  wpList_plain hgd fun _ hK => wp_build1 x ho e hx (hK _ _ h)
theorem one_row {w : World} {g : Nat} {e : Res} {t : TypeId} {f : Nat × Nat} (h : w.heap[g]? = some (.cells e.cells.toArray t f)) : Ress w (some ⟨g, 0, none⟩) [e] := fun i hi => by
  obtain rfl : i = 0 := by simpa using hi
  exact ⟨g, 0, rfl, by rw [Nat.zero_mul]; exact res_range h⟩
/-- append(results, one): the one's own row is new. -/
theorem run_app1R (w : World) (base : Nat) (v : Value) (L : List Res) (e : Res) (h : OwnR w base v L) (hl : (L.length + 1) * 72 ≤ 140737488355328) (hb : base ≤ w.heap.size) :
    ∃ v' w', (Builtin.append_ #[22, 22] 22 #[v, .slice (some ⟨w.heap.size, 0, none⟩) 1 1]).run Try.prog (w.alloc (.cells e.cells.toArray 39)) = .ok v' w' ∧ OwnR w' base v' (L ++ [e]) ∧ Below base w w' := by
  have kN : Kept [] w (w.alloc (.cells e.cells.toArray 39)) := (Kept.refl [] w).alloc _
  obtain ⟨v', w', hrun, ho, hk, hbl⟩ := run_appR (w.alloc (.cells e.cells.toArray 39)) base v L (h.kept kN (by simp)) (some ⟨w.heap.size, 0, none⟩) 1 1 [e] (one_row (heap_new w _)) rfl (.inr ⟨_, _, rfl⟩) (by simp) hl (Nat.le_trans hb kN.size)
  refine ⟨v', w', hrun, ho, ?_⟩
  have k2 : Kept v.ownBlock.toList w w' := (kN.mono (l2 := v.ownBlock.toList) (by simp)).trans (hk v.ownBlock.toList (by simp)) (fun i hi _ => hi)
  exact k2.below hb (fun g hg => (h.lt (by simpa using hg)).1)

namespace Tb
def wE (Z : List Res) : Int := if 32 < Z.length then 97 else 0
def wL (Z : List Res) : List Res := if 32 < Z.length then [] else Z
/-- What With has laid as far as i. -/
def withU (L : List Res) (e : Res) (i : Nat) : List Res := if i ≤ rank L e.action then L.take i else L.take (rank L e.action) ++ e :: (L.take i).drop (step L e)
theorem take_getD (L : List Res) (k : Nat) (h : k < L.length) : L.take (k + 1) = L.take k ++ [L.getD k res0] := by
  rw [List.take_succ_eq_append_getElem h]
  simp [List.getElem?_eq_getElem h]
theorem withU_lt {L : List Res} {e : Res} {i : Nat} (h : i < rank L e.action) (hi : i < L.length) : withU L e (i + 1) = withU L e i ++ [L.getD i res0] := by
  unfold withU
  rw [if_pos (by omega), if_pos (by omega), take_getD L i hi]
theorem withU_has {L : List Res} {e : Res} {i : Nat} (h : i = rank L e.action) (hi : i < L.length) (hh : has L e.action = true) : withU L e (i + 1) = withU L e i ++ [e] := by
  unfold withU step
  rw [if_neg (show ¬ i + 1 ≤ rank L e.action by omega), if_pos (show i ≤ rank L e.action by omega), hh, if_pos rfl, ← h, List.drop_of_length_le (by simp; omega)]
theorem withU_not {L : List Res} {e : Res} {i : Nat} (h : i = rank L e.action) (hi : i < L.length) (hh : has L e.action = false) : withU L e (i + 1) = withU L e i ++ [e] ++ [L.getD i res0] := by
  unfold withU step
  rw [if_neg (show ¬ i + 1 ≤ rank L e.action by omega), if_pos (show i ≤ rank L e.action by omega), hh, ← h]
  simp only [Bool.false_eq_true, if_false, Nat.add_zero]
  rw [take_getD L i hi, List.drop_append_of_le_length (by simp; omega), List.drop_of_length_le (by simp; omega)]
  simp
theorem withU_gt {L : List Res} {e : Res} {i : Nat} (h : rank L e.action < i) (hi : i < L.length) : withU L e (i + 1) = withU L e i ++ [L.getD i res0] := by
  have hs : step L e ≤ i := by unfold step; split <;> omega
  unfold withU
  rw [if_neg (by omega), if_neg (by omega), take_getD L i hi, List.drop_append_of_le_length (by simp; omega)]
  simp
theorem withU_end {L : List Res} {e : Res} (h : rank L e.action < L.length) : withU L e L.length = withR L e := by
  unfold withU withR
  rw [if_neg (by omega), List.take_length]
theorem withU_end' {L : List Res} {e : Res} (h : ¬ rank L e.action < L.length) : withU L e L.length ++ [e] = withR L e := by
  have h1 := rank_le L e.action
  have h2 : rank L e.action = L.length := by omega
  unfold withU withR step
  rw [if_pos (by omega), h2, List.take_length, List.drop_of_length_le (by omega)]
theorem withU_len (L : List Res) (e : Res) (i : Nat) : (withU L e i).length ≤ L.length + 1 := by
  have h1 := rank_le L e.action
  unfold withU step
  split
  · simp only [List.length_take]; omega
  · simp only [List.length_append, List.length_cons, List.length_drop, List.length_take]; omega
theorem withR_len {L : List Res} (hr : rise L = true) (e : Res) : (withR L e).length = L.length + (if has L e.action then 0 else 1) := by
  have h1 := rank_le L e.action
  have h2 := step_le hr e
  unfold withR
  unfold step at h2 ⊢
  simp only [List.length_append, List.length_cons, List.length_drop, List.length_take]
  split at h2 <;> rename_i hh <;> simp only [hh, if_true, if_false] <;> simp <;> omega
/-- What Order says on the way. -/
theorem way {L : List Res} (hr : rise L = true) (e : Res) {i : Nat} (hi : i < L.length) :
    (i < rank L e.action ∧ Lib.compareBytes (L.getD i res0).action e.action < 0) ∨ (i = rank L e.action ∧ has L e.action = true ∧ Lib.compareBytes (L.getD i res0).action e.action = 0) ∨
    (i = rank L e.action ∧ has L e.action = false ∧ 0 < Lib.compareBytes (L.getD i res0).action e.action) ∨ (rank L e.action < i ∧ 0 < Lib.compareBytes (L.getD i res0).action e.action) := by
  obtain ⟨f1, f2⟩ := rank_facts hr e.action
  rcases Nat.lt_trichotomy i (rank L e.action) with h | h | h
  · exact .inl ⟨h, f1 i h⟩
  · have h0 := f2 i (by omega) hi
    have hh := has_iff hr e.action
    rw [← h] at hh
    simp only [hi, decide_true, Bool.true_and] at hh
    by_cases h3 : (L.getD i res0).action = e.action
    · exact .inr (.inl ⟨h, by rw [hh]; simpa using h3, by rw [h3]; exact cmp_self _⟩)
    · refine .inr (.inr (.inl ⟨h, by rw [hh]; simpa using h3, ?_⟩))
      have : Lib.compareBytes (L.getD i res0).action e.action ≠ 0 := fun hz => h3 (cmp_zero hz)
      omega
  · refine .inr (.inr (.inr ⟨h, ?_⟩))
    have h0 := f2 (rank L e.action) (Nat.le_refl _) (by omega)
    have h1 := rise_pair hr h hi
    have h2 : Lib.compareBytes e.action (L.getD (rank L e.action) res0).action ≤ 0 := by have := cmp_swap (L.getD (rank L e.action) res0).action e.action; omega
    have h3 : Lib.compareBytes (L.getD (rank L e.action) res0).action (L.getD i res0).action < 0 := h1
    have h4 : Lib.compareBytes e.action (L.getD i res0).action < 0 := by
      by_cases hz : Lib.compareBytes e.action (L.getD (rank L e.action) res0).action = 0
      · rw [cmp_zero hz]; exact h3
      · exact cmp_trans (by omega) h3
    have := cmp_swap (L.getD i res0).action e.action
    omega
end Tb

set_option maxHeartbeats 3200000 in
set_option maxRecDepth 100000 in
theorem refwith_no (ao : Option Addr) (n cap : Nat) (L : List Res) (e : Res) (w : World) (hn : L.length = n) (hL : Ress w ao L) (hm : n ≤ 4611686018427387904) (hv : Tb.valid L = false ∨ Tb.noCode e = true) :
    Calls Try.prog 24 #[.slice ao n cap, .agg e.cells.toArray] w fun r w' => ToldR w w' r 80 [] := by
  obtain ⟨W0, hW0⟩ : ∃ W0, w.alloc (.cells e.cells.toArray 39) = W0 := ⟨_, rfl⟩
  have hk0 : Kept [] w W0 := by rw [← hW0]; exact (Kept.refl [] w).alloc _
  have hr0 : W0.heap[w.heap.size]? = some (.cells e.cells.toArray 39 (0, 0)) := by rw [← hW0]; exact heap_new w _
  have hva := refvalid_ok ao n cap L W0 hn (hL.kept hk0 (by simp)) hm
  have HR0 := hide hr0
  have HK0 := hide hk0
  obtain ⟨c, hc⟩ : ∃ c, e.code = c := ⟨_, rfl⟩
  have hnc : Hid (Tb.noCode e = (decide (c < 0) || decide (255 < c))) := by show _ = _; rw [← hc]; rfl
  have HC := hide hc
  obtain ⟨V, hV⟩ : ∃ V, Tb.valid L = V := ⟨_, rfl⟩
  rw [hV] at hva hv
  rw [hnc.out] at hv
  clear hL hr0 hk0 hc hV
  go_enter Try.func24, Try.ntmps24
  go_upto_region 2 with (go_at_call 14; refine hva.mono ?_; rintro r w1 ⟨rfl, hk1⟩; have HK1 := hide hk1; clear hk1 hva)
  clear hW0
  have cc : w1.cell? ⟨w.heap.size, 64, none⟩ = some (.int .i64 c) := by
    have := res_range (HK1.out.block _ (Array.getElem?_eq_some_iff.1 HR0.out).1 (by simp) ▸ HR0.out) 64 _ (Res.cod e)
    rwa [HC.out] at this
  obtain ⟨t, ht⟩ : ∃ t, w.heap.size = t := ⟨_, rfl⟩
  rw [ht] at cc ⊢
  have HF : Hid (Kept [] w w1) := HK0.out.trans HK1.out (by simp)
  clear ht HK1 HR0 HK0 HC
  cases V with
  | false =>
    go_wp2
    go_ret2
    exact ⟨⟨_, rfl, OwnR.nil _ _⟩, HF.out⟩
  | true =>
    simp only [Bool.true_eq_false, false_or, Bool.or_eq_true, decide_eq_true_eq] at hv
    by_cases h1 : c < 0
    · go_wp2
      go_ret2
      exact ⟨⟨_, rfl, OwnR.nil _ _⟩, HF.out⟩
    · have h2 : 255 < c := by omega
      clear hv
      go_wp2
      go_ret2
      exact ⟨⟨_, rfl, OwnR.nil _ _⟩, HF.out⟩

set_option maxHeartbeats 6400000 in
set_option maxRecDepth 100000 in
theorem refwith_yes (ao : Option Addr) (n cap : Nat) (L : List Res) (e : Res) (w : World) (hn : L.length = n) (hL : Ress w ao L) (hV : Tb.valid L = true) (hN : Tb.noCode e = false) :
    Calls Try.prog 24 #[.slice ao n cap, .agg e.cells.toArray] w fun r w' => ToldR w w' r (Tb.wE (Tb.withR L e)) (Tb.wL (Tb.withR L e)) := by
  have h32 := Tb.valid_len hV
  rw [hn] at h32
  have hri := Tb.valid_rise hV
  obtain ⟨W0, hW0⟩ : ∃ W0, w.alloc (.cells e.cells.toArray 39) = W0 := ⟨_, rfl⟩
  have hk0 : Kept [] w W0 := by rw [← hW0]; exact (Kept.refl [] w).alloc _
  have hr0 : W0.heap[w.heap.size]? = some (.cells e.cells.toArray 39 (0, 0)) := by rw [← hW0]; exact heap_new w _
  have hva := refvalid_ok ao n cap L W0 hn (hL.kept hk0 (by simp)) (by omega)
  rw [hV] at hva
  have HN := hide hn
  have HL0 := hide hL
  have HR0 := hide hr0
  have HK00 := hide hk0
  have HRI := hide hri
  obtain ⟨c, hc⟩ : ∃ c, e.code = c := ⟨_, rfl⟩
  have hcb : 0 ≤ c ∧ c ≤ 255 := by
    simp only [Tb.noCode, Bool.or_eq_false_iff, decide_eq_false_iff_not] at hN
    omega
  obtain ⟨hc1, hc2⟩ := hcb
  have hc1' : ¬ c < 0 := by omega
  have hc2' : ¬ 255 < c := by omega
  have HC := hide hc
  clear hL hr0 hk0 hc hV hN hri hn
  go_enter Try.func24, Try.ntmps24
  go_upto_region 2 with (go_at_call 14; refine hva.mono ?_; rintro r w1 ⟨rfl, hk1⟩; have HK1 := hide hk1; clear hk1 hva)
  clear hW0
  have hr1 : w1.heap[w.heap.size]? = some (.cells e.cells.toArray 39 (0, 0)) := by rw [HK1.out.block _ (Array.getElem?_eq_some_iff.1 HR0.out).1 (by simp)]; exact HR0.out
  have cc : w1.cell? ⟨w.heap.size, 64, none⟩ = some (.int .i64 c) := by
    have := res_range hr1 64 _ (Res.cod e)
    rwa [HC.out] at this
  obtain ⟨t, ht⟩ : ∃ t, w.heap.size = t := ⟨_, rfl⟩
  have HT := hide ht
  rw [ht] at cc hr1 ⊢
  have HK0 : Hid (Kept [] w w1) := HK00.out.trans HK1.out (by simp)
  have HE1 : Hid (w1.rangeAt t 0 e.cells ∧ t < w1.heap.size) := ⟨res_range hr1, (Array.getElem?_eq_some_iff.1 hr1).1⟩
  clear ht HK1 HR0 HK00 HC hr1
  clear W0
  obtain ⟨W0, hW0⟩ : ∃ W0, W0 = w1 := ⟨_, rfl⟩
  subst hW0
  go_wp2
  clear cc hc1 hc2 hc1' hc2'
  have ie : (Try.prog.info? 39).map (·.size) = some e.cells.length := by rw [e.len]; exact Try.infoResS
  go_loopw [7, 8, 9] (fun x z y wr => ∃ k : Nat, k ≤ n ∧ y = .int .i64 k ∧ z = .bool (decide (Tb.rank L e.action < k)) ∧ Hid (OwnR wr W0.heap.size x (Tb.withU L e k)) ∧ Hid (Below W0.heap.size W0 wr)) (fun x z y wr => n - (intOf y).toNat)
  case atStart => exact ⟨0, Nat.zero_le _, rfl, rfl, by show OwnR _ _ _ _; rw [show Tb.withU L e 0 = [] by simp [Tb.withU]]; exact OwnR.nil _ _, Below.refl _ _⟩
  case round =>
    obtain ⟨k, hk, rfl, rfl, HO, HB⟩ := hrel
    have HUL : Hid ((Tb.withU L e k).length ≤ 33) := by have := Tb.withU_len L e k; rw [HN.out] at this; show _ ≤ _; omega
    have HE2 : Hid (wr.rangeAt t 0 e.cells) := fun j v hv => (Kept.of_below HB.out).cellOf (HE1.out.1 j v hv) (by simp)
    by_cases hlt : k < n
    · have hkl : k < L.length := by rw [HN.out]; exact hlt
      obtain ⟨b, off, rfl, hrk⟩ := HL0.out k hkl
      have HX0 := hide hrk
      have HWY := hide (Tb.way HRI.out e hkl)
      have U1 := hide (@Tb.withU_lt L e k)
      have U2 := hide (@Tb.withU_has L e k)
      have U3 := hide (@Tb.withU_not L e k)
      have U4 := hide (@Tb.withU_gt L e k)
      generalize L.getD k res0 = x at HX0 HWY U1 U2 U3 U4
      have ix : (Try.prog.info? 39).map (·.size) = some x.cells.length := by rw [x.len]; exact Try.infoResS
      obtain ⟨A, hAe⟩ : ∃ A, x.action = A := ⟨_, rfl⟩
      obtain ⟨B, hBe⟩ : ∃ B, e.action = B := ⟨_, rfl⟩
      have hA : A.length = 32 := by rw [← hAe]; exact x.ha
      have hB : B.length = 32 := by rw [← hBe]; exact e.ha
      have iA : (Try.prog.info? 37).map (·.size) = some (bys A).length := by rw [bys_length, hA]; kernel_rfl
      have iB : (Try.prog.info? 37).map (·.size) = some (bys B).length := by rw [bys_length, hB]; kernel_rfl
      have hra : wr.rangeAt b (off + k * 65) (bys A) := fun j v hv => (HK0.out.trans (Kept.of_below HB.out) (by simp)).cellOf (HX0.out j v (by unfold Res.cells; rw [hAe, List.getElem?_append_left (List.getElem?_eq_some_iff.1 hv).1]; exact hv)) (by simp)
      have hrb : wr.rangeAt t 0 (bys B) := fun j v hv => HE2.out j v (by unfold Res.cells; rw [hBe, List.getElem?_append_left (List.getElem?_eq_some_iff.1 hv).1]; exact hv)
      have oc := fun W => order_ok A B W hA hB
      obtain ⟨cv, hcv⟩ : ∃ cv, Lib.compareBytes A B = cv := ⟨_, rfl⟩
      simp only [hcv] at oc
      have HW2 : Hid ((k < Tb.rank L e.action ∧ cv < 0) ∨ (k = Tb.rank L e.action ∧ Tb.has L e.action = true ∧ cv = 0) ∨ (k = Tb.rank L e.action ∧ Tb.has L e.action = false ∧ 0 < cv) ∨ (Tb.rank L e.action < k ∧ 0 < cv)) := by
        have := HWY.out
        rw [hAe, hBe, hcv, ← hBe] at this
        exact this
      obtain ⟨D, hD⟩ : ∃ D, decide (Tb.rank L e.action < k) = D := ⟨_, rfl⟩
      have HD := hide hD
      rw [hD]
      have HKL := hide hkl
      clear hrk HWY hAe hBe hcv hD hA hB hkl
      go_upto_region 9 with (fail)
      refine wp_region_held_drew (S := fun w' => Kept [] wr w') (by kernel_rfl) ((Kept.refl [] wr).drew) (fun h0 => ?_)
      generalize World.drew wr = v0 at h0 ⊢
      refine wpAnyH_take (i := 0) (v := .slice (some ⟨b, off, none⟩) n cap) rfl (by kernel_rfl) (by kernel_rfl) (by kernel_rfl) (fun _ _ _ h => h) (Or.inl ⟨by rfl, fun w hSw => by go_simp⟩) h0 ?_
      try simp only [List.getElem_toArray, List.getElem_cons_zero, List.getElem_cons_succ, Act.put, List.setIfInBounds_toArray, List.set_cons_zero, List.set_cons_succ]
      refine wpAnyH_take (i := 1) (v := .int .i64 k) rfl (by kernel_rfl) (by kernel_rfl) (by kernel_rfl) (fun _ _ _ h => h) (Or.inl ⟨by rfl, fun w hSw => by go_simp⟩) h0 ?_
      try simp only [List.getElem_toArray, List.getElem_cons_zero, List.getElem_cons_succ, Act.put, List.setIfInBounds_toArray, List.set_cons_zero, List.set_cons_succ]
      refine wpAnyH_take (i := 2) (v := .pointer (some ⟨b, off + k * 65, none⟩)) rfl (by kernel_rfl) (by kernel_rfl) (by kernel_rfl) (fun _ _ _ h => h) (Or.inl ⟨by rfl, fun w hSw => by go_simp⟩) h0 ?_
      try simp only [List.getElem_toArray, List.getElem_cons_zero, List.getElem_cons_succ, Act.put, List.setIfInBounds_toArray, List.set_cons_zero, List.set_cons_succ]
      refine wpAnyH_take (i := 3) (v := .pointer (some ⟨b, off + k * 65, none⟩)) rfl (by kernel_rfl) (by kernel_rfl) (by kernel_rfl) (fun _ _ _ h => h) (Or.inl ⟨by rfl, fun w hSw => by go_simp⟩) h0 ?_
      try simp only [List.getElem_toArray, List.getElem_cons_zero, List.getElem_cons_succ, Act.put, List.setIfInBounds_toArray, List.set_cons_zero, List.set_cons_succ]
      refine wpAnyH_take (i := 4) rfl (by kernel_rfl) (by kernel_rfl) (by kernel_rfl) (fun _ _ _ h => h) (yieldsIf_load_mid (by rfl) _ _ rfl _ _ rfl _ _ (fun w h j v hv => Kept.cellOf h (hra j v hv) (by simp)) Try.underlying37 rfl iA) h0 ?_
      try simp only [List.getElem_toArray, List.getElem_cons_zero, List.getElem_cons_succ, Act.put, List.setIfInBounds_toArray, List.set_cons_zero, List.set_cons_succ]
      refine wpAnyH_take (i := 5) (v := .pointer (some ⟨t, 0, none⟩)) rfl (by kernel_rfl) (by kernel_rfl) (by kernel_rfl) (fun _ _ _ h => h) (Or.inl ⟨by rfl, fun w hSw => by go_simp⟩) h0 ?_
      try simp only [List.getElem_toArray, List.getElem_cons_zero, List.getElem_cons_succ, Act.put, List.setIfInBounds_toArray, List.set_cons_zero, List.set_cons_succ]
      refine wpAnyH_take (i := 6) rfl (by kernel_rfl) (by kernel_rfl) (by kernel_rfl) (fun _ _ _ h => h) (yieldsIf_load_mid (by rfl) _ _ rfl _ _ rfl _ _ (fun w h j v hv => Kept.cellOf h (hrb j v hv) (by simp)) Try.underlying37 rfl iB) h0 ?_
      try simp only [List.getElem_toArray, List.getElem_cons_zero, List.getElem_cons_succ, Act.put, List.setIfInBounds_toArray, List.set_cons_zero, List.set_cons_succ]
      refine wpAnyH_ready (rs := [7]) (by kernel_rfl) (by simp) (AllReadyH.cons (i := 7) rfl (fun K hK => ?_) AllReadyH.nil)
      rw [if_pos (by rfl)]
      go_simp
      refine (oc _).mono ?_
      rintro e v1 ⟨rfl, hq⟩
      refine hK.out _ _ (h0.trans hq (by simp)) (fun h1 => ?_)
      clear hK K hq h0
      try simp only [List.getElem_toArray, List.getElem_cons_zero, List.getElem_cons_succ, Act.put, List.setIfInBounds_toArray, List.set_cons_zero, List.set_cons_succ]
      refine wpAnyH_take (i := 8) (v := .int .i64 cv) rfl (by kernel_rfl) (by kernel_rfl) (by kernel_rfl) (fun _ _ _ h => h) (Or.inl ⟨by rfl, fun w hSw => by go_simp⟩) h1 ?_
      try simp only [List.getElem_toArray, List.getElem_cons_zero, List.getElem_cons_succ, Act.put, List.setIfInBounds_toArray, List.set_cons_zero, List.set_cons_succ]
      refine wpAnyH_done (by kernel_rfl) ?_ _
      clear oc hra hrb iA iB
      have HO2 : Hid (OwnR v1 W0.heap.size u7 (Tb.withU L e k)) := HO.out.kept h1 (by simp)
      have HB2 : Hid (Below W0.heap.size W0 v1) := HB.out.trans (h1.below HB.out.size (by simp))
      replace HE2 : Hid (v1.rangeAt t 0 e.cells) := fun j v hv => h1.cellOf (HE2.out j v hv) (by simp)
      clear HO HB h1
      obtain ⟨W, hW⟩ : ∃ W, W = v1 := ⟨_, rfl⟩
      subst hW
      rcases HW2.out with ⟨g1, g2⟩ | ⟨g1, g2, g3⟩ | ⟨g1, g2, g3⟩ | ⟨g1, g2⟩
      · have HUN := hide (U1.out g1 HKL.out)
        have z1 : ¬ (0 : Int) ≤ cv := by omega
        have z2 : (cv != 0) = true := by simp; omega
        obtain rfl : D = false := by rw [← HD.out]; simp; omega
        have HG1 := hide g1
        clear g1 g2 U1 U2 U3 U4 HW2 HD
        obtain ⟨v1, w2, hrun1, ho1, hb1⟩ := run_app1R W W0.heap.size u7 _ x HO2.out (by have := HUL.out; omega) HB2.out.size
        have H1 := hide (And.intro ho1 hb1)
        clear ho1 hb1
        have rX : W.rangeAt b (off + k * 65) x.cells := fun j v hv => (HK0.out.trans (Kept.of_below HB2.out) (by simp)).cellOf (HX0.out j v hv) (by simp)
        go_wp2_with (first
          | refine wpList_load_mid rfl 39 (.tmp 54) rfl b (off + k * 65) rfl x.cells _ rX Try.underlying39 rfl ix ?_
          | refine wpList_buildOne rfl (.tmp 55) rfl x rfl ?_
          | refine wpList_app_run rfl (.tmp 51) (.tmp 56) 22 22 rfl u7 (.slice (some ⟨W.heap.size, 0, none⟩) 1 1) rfl rfl v1 w2 hrun1 ?_)
        go_roundw
        case rel => exact ⟨k + 1, by omega, by go_num, by congr 1; have := HG1.out; simp; omega, by show OwnR _ _ _ _; rw [HUN.out]; exact H1.out.1, HB2.out.trans H1.out.2⟩
        case measure => simp [intOf]; omega
      · have HUN := hide (U2.out g1 HKL.out g2)
        have z1 : (0 : Int) ≤ cv := by omega
        have z2 : (cv != 0) = false := by simp; omega
        obtain rfl : D = false := by rw [← HD.out]; simp; omega
        have HG1 := hide g1
        clear g1 g2 g3 U1 U2 U3 U4 HW2 HD
        obtain ⟨v1, w2, hrun1, ho1, hb1⟩ := run_app1R W W0.heap.size u7 _ e HO2.out (by have := HUL.out; omega) HB2.out.size
        have H1 := hide (And.intro ho1 hb1)
        clear ho1 hb1
        have rE := HE2.out
        go_upto_region 13 with (first
          | refine wpList_load_mid rfl 39 (.tmp 3) rfl t 0 rfl e.cells _ rE Try.underlying39 rfl ie ?_
          | refine wpList_buildOne rfl (.tmp 46) rfl e rfl ?_
          | refine wpList_app_run rfl (.tmp 45) (.tmp 47) 22 22 rfl u7 (.slice (some ⟨W.heap.size, 0, none⟩) 1 1) rfl rfl v1 w2 hrun1 ?_)
        clear hrun1 rE
        go_wp2
        go_roundw
        case rel => exact ⟨k + 1, by omega, by go_num, by congr 1; have := HG1.out; simp; omega, by show OwnR _ _ _ _; rw [HUN.out]; exact H1.out.1, HB2.out.trans H1.out.2⟩
        case measure => simp [intOf]; omega
      · have HUN := hide (U3.out g1 HKL.out g2)
        have z1 : (0 : Int) ≤ cv := by omega
        have z2 : (cv != 0) = true := by simp; omega
        obtain rfl : D = false := by rw [← HD.out]; simp; omega
        have HG1 := hide g1
        clear g1 g2 g3 U1 U2 U3 U4 HW2 HD
        obtain ⟨v1, w2, hrun1, ho1, hb1⟩ := run_app1R W W0.heap.size u7 _ e HO2.out (by have := HUL.out; omega) HB2.out.size
        have H1 := hide (And.intro ho1 hb1)
        clear ho1 hb1
        have rE := HE2.out
        go_upto_region 13 with (first
          | refine wpList_load_mid rfl 39 (.tmp 3) rfl t 0 rfl e.cells _ rE Try.underlying39 rfl ie ?_
          | refine wpList_buildOne rfl (.tmp 46) rfl e rfl ?_
          | refine wpList_app_run rfl (.tmp 45) (.tmp 47) 22 22 rfl u7 (.slice (some ⟨W.heap.size, 0, none⟩) 1 1) rfl rfl v1 w2 hrun1 ?_)
        clear hrun1 rE
        obtain ⟨v2, w3, hrun2, ho2, hb2⟩ := run_app1R w2 W0.heap.size v1 _ x H1.out.1 (by have := HUL.out; simp only [List.length_append, List.length_cons, List.length_nil]; omega) (HB2.out.trans H1.out.2).size
        have H2 := hide (And.intro ho2 hb2)
        clear ho2 hb2
        have rX : w2.rangeAt b (off + k * 65) x.cells := fun j v hv => (HK0.out.trans (Kept.of_below (HB2.out.trans H1.out.2)) (by simp)).cellOf (HX0.out j v hv) (by simp)
        go_wp2_with (first
          | refine wpList_load_mid rfl 39 (.tmp 54) rfl b (off + k * 65) rfl x.cells _ rX Try.underlying39 rfl ix ?_
          | refine wpList_buildOne rfl (.tmp 55) rfl x rfl ?_
          | refine wpList_app_run rfl (.tmp 51) (.tmp 56) 22 22 rfl v1 (.slice (some ⟨w2.heap.size, 0, none⟩) 1 1) rfl rfl v2 w3 hrun2 ?_)
        go_roundw
        case rel => exact ⟨k + 1, by omega, by go_num, by congr 1; have := HG1.out; simp; omega, by show OwnR _ _ _ _; rw [HUN.out]; exact H2.out.1, (HB2.out.trans H1.out.2).trans H2.out.2⟩
        case measure => simp [intOf]; omega
      · have HUN := hide (U4.out g1 HKL.out)
        have z1 : (0 : Int) ≤ cv := by omega
        have z2 : (cv != 0) = true := by simp; omega
        obtain rfl : D = true := by rw [← HD.out]; simp; omega
        have HG1 := hide g1
        clear g1 g2 U1 U2 U3 U4 HW2 HD
        obtain ⟨v1, w2, hrun1, ho1, hb1⟩ := run_app1R W W0.heap.size u7 _ x HO2.out (by have := HUL.out; omega) HB2.out.size
        have H1 := hide (And.intro ho1 hb1)
        clear ho1 hb1
        have rX : W.rangeAt b (off + k * 65) x.cells := fun j v hv => (HK0.out.trans (Kept.of_below HB2.out) (by simp)).cellOf (HX0.out j v hv) (by simp)
        go_wp2_with (first
          | refine wpList_load_mid rfl 39 (.tmp 54) rfl b (off + k * 65) rfl x.cells _ rX Try.underlying39 rfl ix ?_
          | refine wpList_buildOne rfl (.tmp 55) rfl x rfl ?_
          | refine wpList_app_run rfl (.tmp 51) (.tmp 56) 22 22 rfl u7 (.slice (some ⟨W.heap.size, 0, none⟩) 1 1) rfl rfl v1 w2 hrun1 ?_)
        go_roundw
        case rel => exact ⟨k + 1, by omega, by go_num, by congr 1; have := HG1.out; simp; omega, by show OwnR _ _ _ _; rw [HUN.out]; exact H1.out.1, HB2.out.trans H1.out.2⟩
        case measure => simp [intOf]; omega
    · obtain rfl : k = n := by omega
      have HE1' := hide (And.intro (@Tb.withU_end L e) (@Tb.withU_end' L e))
      rw [HN.out] at HE1'
      by_cases hl : Tb.rank L e.action < k
      · have HO3 : Hid (OwnR wr W0.heap.size u7 (Tb.withR L e)) := by have := HO.out; rw [HE1'.out.1 hl] at this; exact this
        have hd : decide (Tb.rank L e.action < k) = true := by simp [hl]
        rw [hd]
        clear HO HE1' hd hl HUL
        obtain ⟨ao', c', hu, hcap, hR, hao, hcm⟩ := HO3.out.ress
        subst hu
        obtain ⟨z, hz⟩ : ∃ z, (Tb.withR L e).length = z := ⟨_, rfl⟩
        rw [hz] at HO3 hcap ⊢
        have HZ := hide hz
        clear hz
        have HF : Hid (OwnR wr w.heap.size (.slice ao' z c') (Tb.withR L e) ∧ Kept [] w wr) := ⟨HO3.out.base HK0.out.size, HK0.out.trans (Kept.of_below HB.out) (by simp)⟩
        clear hR hao HO3
        by_cases h33 : 32 < z
        · have h33z : (32 : Int) < (z : Int) := by omega
          go_wp2
          go_ret2
          rw [show Tb.wE (Tb.withR L e) = 97 by unfold Tb.wE; rw [HZ.out, if_pos h33], show Tb.wL (Tb.withR L e) = [] by unfold Tb.wL; rw [HZ.out, if_pos h33]]
          exact ⟨⟨_, rfl, OwnR.nil _ _⟩, HF.out.2⟩
        · have h33z : ¬ (32 : Int) < (z : Int) := by omega
          go_wp2
          go_ret2
          rw [show Tb.wE (Tb.withR L e) = 0 by unfold Tb.wE; rw [HZ.out, if_neg h33], show Tb.wL (Tb.withR L e) = Tb.withR L e by unfold Tb.wL; rw [HZ.out, if_neg h33]]
          exact ⟨⟨_, rfl, HF.out.1⟩, HF.out.2⟩
      · obtain ⟨v1, w2, hrun1, ho1, hb1⟩ := run_app1R wr W0.heap.size u7 _ e HO.out (by have := HUL.out; omega) HB.out.size
        rw [HE1'.out.2 hl] at ho1
        have H1 := hide (And.intro ho1 hb1)
        have hd : decide (Tb.rank L e.action < k) = false := by simp [hl]
        rw [hd]
        have rE := HE2.out
        clear HO HE1' hd hl HUL ho1 hb1
        go_upto_region 17 with (first
          | refine wpList_load_mid rfl 39 (.tmp 3) rfl t 0 rfl e.cells _ rE Try.underlying39 rfl ie ?_
          | refine wpList_buildOne rfl (.tmp 61) rfl e rfl ?_
          | refine wpList_app_run rfl (.tmp 60) (.tmp 62) 22 22 rfl u7 (.slice (some ⟨wr.heap.size, 0, none⟩) 1 1) rfl rfl v1 w2 hrun1 ?_)
        clear hrun1 rE
        obtain ⟨ao', c', hu, hcap, hR, hao, hcm⟩ := H1.out.1.ress
        subst hu
        obtain ⟨z, hz⟩ : ∃ z, (Tb.withR L e).length = z := ⟨_, rfl⟩
        rw [hz] at H1 hcap ⊢
        have HZ := hide hz
        clear hz
        have HF : Hid (OwnR w2 w.heap.size (.slice ao' z c') (Tb.withR L e) ∧ Kept [] w w2) := ⟨H1.out.1.base HK0.out.size, HK0.out.trans (Kept.of_below (HB.out.trans H1.out.2)) (by simp)⟩
        clear hR hao H1
        by_cases h33 : 32 < z
        · have h33z : (32 : Int) < (z : Int) := by omega
          go_wp2
          go_ret2
          rw [show Tb.wE (Tb.withR L e) = 97 by unfold Tb.wE; rw [HZ.out, if_pos h33], show Tb.wL (Tb.withR L e) = [] by unfold Tb.wL; rw [HZ.out, if_pos h33]]
          exact ⟨⟨_, rfl, OwnR.nil _ _⟩, HF.out.2⟩
        · have h33z : ¬ (32 : Int) < (z : Int) := by omega
          go_wp2
          go_ret2
          rw [show Tb.wE (Tb.withR L e) = 0 by unfold Tb.wE; rw [HZ.out, if_neg h33], show Tb.wL (Tb.withR L e) = Tb.withR L e by unfold Tb.wL; rw [HZ.out, if_neg h33]]
          exact ⟨⟨_, rfl, HF.out.1⟩, HF.out.2⟩

theorem refwith_ok (ao : Option Addr) (n cap : Nat) (L : List Res) (e : Res) (w : World) (hn : L.length = n) (hL : Ress w ao L) (hm : n ≤ 4611686018427387904) :
    Calls Try.prog 24 #[.slice ao n cap, .agg e.cells.toArray] w fun r w' => ToldR w w' r (Tb.withE L e) (Tb.withL L e) := by
  by_cases hv : Tb.valid L = false ∨ Tb.noCode e = true
  · have h1 : Tb.withE L e = 80 := by unfold Tb.withE; rw [if_pos hv]
    have h2 : Tb.withL L e = [] := by unfold Tb.withL; rw [h1]; rfl
    rw [h1, h2]
    exact refwith_no ao n cap L e w hn hL hm hv
  · have hV : Tb.valid L = true := by
      cases h : Tb.valid L with
      | true => rfl
      | false => exact absurd (.inl h) hv
    have hN : Tb.noCode e = false := by
      cases h : Tb.noCode e with
      | false => rfl
      | true => exact absurd (.inr h) hv
    have h32 := Tb.valid_len hV
    have hl := Tb.withR_len (Tb.valid_rise hV) e
    have h := refwith_yes ao n cap L e w hn hL hV hN
    have h1 : Tb.withE L e = Tb.wE (Tb.withR L e) := by
      unfold Tb.withE Tb.wE
      rw [if_neg hv]
      cases hh : Tb.has L e.action with
      | true => rw [hh] at hl; simp only [if_true] at hl; rw [if_neg (by simp), if_neg (by omega)]
      | false =>
        rw [hh] at hl; simp only [Bool.false_eq_true, if_false] at hl
        by_cases h3 : L.length = 32
        · rw [if_pos ⟨rfl, h3⟩, if_pos (by omega)]
        · rw [if_neg (by simp [h3]), if_neg (by omega)]
    have h2 : Tb.withL L e = Tb.wL (Tb.withR L e) := by
      unfold Tb.withL
      rw [h1]
      unfold Tb.wE Tb.wL
      split <;> simp
    rw [h1, h2]
    exact h
end Go.Proofs.Ytdeneflgldagpaa
