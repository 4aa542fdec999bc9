import Derived.Test.YtmklodligplbaabD9vp
import Derived.Laws.OwnMore
import Derived.Laws.AppendOwnNone
import Derived.Maps.AppendAt
namespace Go.Proofs.Ytmklodligplbaab
section
open Go.RowKit
open Dlt
set_option linter.unusedVariables false
set_option linter.unusedSimpArgs false

/-- Bytes in memory of a call's own. -/
def OwnB (w : World) (base : Nat) (v : Value) (xs : List UInt8) : Prop := w.ownsRow base 5 1 v xs.length (bys xs)

theorem OwnB.shape {w : World} {base : Nat} {v : Value} {xs : List UInt8} (h : OwnB w base v xs) : ∃ ao cap, v = .slice ao xs.length cap ∧ xs.length ≤ cap ∧ Sl w ao xs ∧ (∀ a, ao = some a → ∃ g, a = ⟨g, 0, none⟩ ∧ base ≤ g ∧ g < w.heap.size ∧ v.ownBlock = some g) ∧ cap ≤ 9223372036854775807 ∧ (ao = none → xs = [] ∧ cap = 0) := by
  rcases h.2 with ⟨rfl, h0⟩ | ⟨g, cap, cur, rfl, hb, hg, hn, hc, hs, ht⟩
  · have : xs = [] := List.eq_nil_of_length_eq_zero h0
    subst this
    exact ⟨none, 0, rfl, Nat.le_refl _, Sl.nil _ _, by simp, by omega, fun _ => ⟨rfl, rfl⟩⟩
  · refine ⟨_, cap, rfl, hn, fun i hi => ⟨g, 0, rfl, ?_⟩, fun a ha => ?_, by unfold maxLen at hc; omega, by simp⟩
    · rw [Nat.zero_add, cell_of_row _ _ _ _ _ _ hg]
      have h1 := bys_at hi
      rw [← ht, List.getElem?_take] at h1
      split at h1
      · simpa using h1
      · cases h1
    · cases ha
      exact ⟨g, rfl, hb, (Array.getElem?_eq_some_iff.1 hg).1, rfl⟩

theorem OwnB.kept {l : List Nat} {w w' : World} {base : Nat} {v : Value} {xs : List UInt8} (h : OwnB w base v xs) (hk : Kept l w w') (hn : ∀ g, v.ownBlock = some g → g ∉ l) : OwnB w' base v xs := by
  refine ⟨h.1, ?_⟩
  rcases h.2 with h0 | ⟨g, cap, cur, hv, hb, hg, rest⟩
  · exact .inl h0
  · refine .inr ⟨g, cap, cur, hv, hb, ?_, rest⟩
    rw [hk.block g (Array.getElem?_eq_some_iff.1 hg).1 (hn g (by rw [hv]; rfl))]
    exact hg

theorem OwnB.far {w : World} {base : Nat} {v : Value} {xs : List UInt8} (h : OwnB w base v xs) (g : Nat) (hg : v.ownBlock = some g) : base ≤ g ∧ g < w.heap.size := by
  obtain ⟨ao, cap, rfl, _, _, hb, _⟩ := h.shape
  cases ao with
  | none => simp [Value.ownBlock] at hg
  | some a =>
    obtain ⟨g', rfl, h1, h2, h3⟩ := hb a rfl
    rw [hg] at h3; cases h3; exact ⟨h1, h2⟩

theorem run_appB (w : World) (base : Nat) (v : Value) (xs ys : List UInt8) (h : OwnB w base v xs) (yb yo c : Nat) (hy : ∀ i, i < ys.length → w.cell? ⟨yb, yo + i, none⟩ = some (.int .u8 (ys.getD i 0).toNat)) (hl : xs.length + ys.length ≤ 140737488355328) (hb : base ≤ w.heap.size) :
    ∃ v' w', (Builtin.append_ #[22, 22] 22 #[v, .slice (some ⟨yb, yo, none⟩) ys.length c]).run Try.prog w = .ok v' w' ∧ OwnB w' base v' (xs ++ ys) ∧ Kept v.ownBlock.toList w w' := by
  obtain ⟨i0, hi, hz0, hz1, hz2⟩ := info_parts Try.infoByte9
  obtain ⟨v', w', hrun, h1', h2, h3, h4⟩ := run_append_own_at (P := Try.prog) w base 22 22 5 i0 (.int .u8 0) 1 1 Try.underlying22 hi hz0 hz1 hz2 rfl (by omega) v xs.length (bys xs) h ⟨yb, yo, none⟩ ys.length c (bys ys) (by rw [bys_length]; omega)
    (fun j u hj => by obtain ⟨hj', rfl⟩ := bys_get hj; rw [Addr.add_mid]; exact hy j hj') (bys_oneCell ys) (by unfold maxLen; omega) (by omega) hb
  refine ⟨v', w', hrun, ?_, (Kept.refl _ w).grown h2 (fun k hk _ => by simp [hk])⟩
  unfold OwnB
  rw [List.length_append, bys_append]
  exact h1'

theorem run_appSl (w : World) (base : Nat) (v : Value) (xs ys : List UInt8) (h : OwnB w base v xs) (ao : Option Addr) (n c : Nat) (hn : ys.length = n) (hs : Sl w ao ys) (h0 : ao = none → ys = [] ∧ c = 0) (hl : xs.length + n ≤ 140737488355328) (hb : base ≤ w.heap.size) :
    ∃ v' w', (Builtin.append_ #[22, 22] 22 #[v, .slice ao n c]).run Try.prog w = .ok v' w' ∧ OwnB w' base v' (xs ++ ys) ∧ Kept v.ownBlock.toList w w' := by
  subst hn
  obtain ⟨i0, hi, hz0, hz1, hz2⟩ := info_parts Try.infoByte9
  cases ao with
  | none =>
    obtain ⟨rfl, rfl⟩ := h0 rfl
    refine ⟨v, w, run_append_owned_none (P := Try.prog) (w := w) base 22 22 5 i0 1 Try.underlying22 hi v xs.length (bys xs) h, by rw [List.append_nil]; exact h, Kept.refl _ _⟩
  | some ad =>
    obtain ⟨v', w', hrun, h1', h2, h3, h4⟩ := run_append_own_at (P := Try.prog) w base 22 22 5 i0 (.int .u8 0) 1 1 Try.underlying22 hi hz0 hz1 hz2 rfl (by omega) v xs.length (bys xs) h ad ys.length c (bys ys) (by rw [bys_length]; omega)
      (fun j u hj => by
        obtain ⟨hj', rfl⟩ := bys_get hj
        obtain ⟨b', off', e', hc⟩ := hs j hj'
        cases e'
        rw [Addr.add_mid]; exact hc) (bys_oneCell ys) (by unfold maxLen; omega) (by omega) hb
    refine ⟨v', w', hrun, ?_, (Kept.refl _ w).grown h2 (fun k hk _ => by simp [hk])⟩
    unfold OwnB
    rw [List.length_append, bys_append]
    exact h1'
/-- append([]byte{}, slice...). -/
theorem run_freshB (w : World) (ys : List UInt8) (ao : Option Addr) (n c : Nat) (hn : ys.length = n) (hs : Sl w ao ys) (h0 : ao = none → ys = [] ∧ c = 0) (hl : n ≤ 140737488355328) :
    ∃ v' w', (Builtin.append_ #[22, 22] 22 #[.slice (some ⟨w.heap.size, 0, none⟩) 0 0, .slice ao n c]).run Try.prog (w.alloc (.cells #[] 5)) = .ok v' w' ∧ OwnB w' w.heap.size v' ys ∧ Kept [] w w' := by
  have hown : OwnB (w.alloc (.cells #[] 5)) w.heap.size (.slice (some ⟨w.heap.size, 0, none⟩) 0 0) [] := World.ownsRow_made w #[] 0 (Nat.le_refl _) (by decide) rfl
  have hk := (Kept.refl [] w).alloc (.cells #[] 5)
  obtain ⟨v', w', h1, h2, h3⟩ := run_appSl _ w.heap.size _ [] ys hown ao n c hn (hs.kept hk (by simp)) h0 (by simpa using hl) hk.size
  rw [List.nil_append] at h2
  exact ⟨v', w', h1, h2, hk.trans h3 (fun g hg hlt => by simp [Value.ownBlock] at hg; omega)⟩
theorem wpList_app_run {ops : Array Oper} {rest : List Oper} {o : Oper} {a : Act} {w : World} {Q : Exit → Act → World → Prop} (hg : o.guard = none) (s x : Operand) (t t2 : TypeId) (ho : o.op = .call { callee := .builtin .append, args := #[s, x], argTypes := #[t, t2] }) (vs vx : Value) (hs : a.eval s = vs) (hx : a.eval x = vx) (v' : Value) (w' : World)
    (hrun : (Builtin.append_ #[t, t2] o.type #[vs, vx]).run Try.prog w = .ok v' w') (hK : wpList Try.prog ops Q rest (a.put o.dst v') w') : wpList Try.prog ops Q (o :: rest) a w :=
  wpList_appendRunL hg s x t t2 ho vs vx hs hx hrun hK

/-- The mark behind the end of bytes. -/
def bm (i : Nat) : UInt8 := UInt8.ofNat (99 + i)
def bms : List UInt8 := (List.range 40).map bm
theorem bm_nat {i : Nat} (h : i < 40) : (bm i).toNat = 99 + i := by
  simp [bm, UInt8.toNat_ofNat', Nat.mod_eq_of_lt (show 99 + i < 256 by omega)]
theorem bm_wrap {i : Nat} (h : i < 40) : IntKind.u8.wrap (99 + (i : Int)) = ((bm i).toNat : Int) := by
  rw [bm_nat h, IntKind.wrap_u8]; omega
theorem bms_len : bms.length = 40 := by simp [bms]
theorem bms_take (k : Nat) (h : k < 40) : bms.take (k + 1) = bms.take k ++ [bm k] := by
  rw [List.take_succ_eq_append_getElem (by rw [bms_len]; exact h)]
  simp [bms]
theorem Try.cutBy (W : World) (ao : Option Addr) (L cap m : Nat) (hm : m ≤ cap) :
    (Instr.slice 22 (.slice ao L cap) none (some (.int .i64 m)) none).run Try.prog W = .ok (.slice ao m cap) W := by
  have hz : (sizeOf (Try.prog.elem 22)).run Try.prog W = .ok 1 W := by kernel_rfl
  have h := run_slice_h (P := Try.prog) W 22 ao L cap (by kernel_rfl) .i64 m (by omega) (by omega)
  rw [h, hz]
  cases ao <;> simp [sliced, Addr.add]
/-- Bytes with the marks behind their end. -/
structure Cy (w : World) (g n cap : Nat) (xs : List UInt8) : Prop where
  sl : Sl w (some ⟨g, 0, none⟩) xs
  mks : ∀ i, i < 40 → w.cell? ⟨g, n + i, none⟩ = some (.int .u8 (bm i).toNat)
  len : xs.length = n
  cap : n + 40 ≤ cap
theorem Cy.kept {l : List Nat} {w w' : World} {g n cap : Nat} {xs : List UInt8} (h : Cy w g n cap xs) (hk : Kept l w w') (hn : g ∉ l) : Cy w' g n cap xs :=
  ⟨h.sl.kept hk (fun _ a ha => by cases ha; exact hn), fun i hi => hk.cellOf (h.mks i hi) hn, h.len, h.cap⟩
theorem cy_of {w : World} {base g n cap : Nat} {xs : List UInt8} (h : OwnB w base (.slice (some ⟨g, 0, none⟩) (n + 40) cap) (xs ++ bms)) (hn : xs.length = n) (hc : n + 40 ≤ cap) : Cy w g n cap xs := by
  obtain ⟨ao, cap', hv, _, hS, _⟩ := h.shape
  injection hv with q1 q2 q3
  subst q1
  refine ⟨fun i hi => ?_, fun i hi => ?_, hn, hc⟩
  · obtain ⟨b, off, e, h1⟩ := hS i (by rw [List.length_append]; omega)
    refine ⟨b, off, e, ?_⟩
    rw [h1]
    simp [List.getD, List.getElem?_append_left hi]
  · obtain ⟨b, off, e, h1⟩ := hS (n + i) (by rw [List.length_append, bms_len]; omega)
    cases e
    rw [Nat.zero_add] at h1
    rw [h1]
    have : (xs ++ bms).getD (n + i) 0 = bm i := by
      rw [← hn]
      simp [List.getD, bms, hi]
    rw [this]

theorem own_set9 {w : World} {base g n cap k : Nat} {xs : List UInt8} (h : OwnB w base (.slice (some ⟨g, 0, none⟩) n cap) xs) (hk : k < xs.length) (c : UInt8) :
    w.cell? ⟨g, k, none⟩ = some (.int .u8 (xs.getD k 0).toNat) ∧ w.frozen? ⟨g, k, none⟩ = false ∧ ∀ W, W = w.setCell ⟨g, k, none⟩ (.int .u8 c.toNat) → OwnB W base (.slice (some ⟨g, 0, none⟩) n cap) (xs.set k c) := by
  rcases h.2 with ⟨e, _⟩ | ⟨g', cap', cur, e, hb, hg, hn, hc, hs, ht⟩
  · cases e
  · injection e with e1 e2 e3
    injection e1 with e1
    injection e1 with e1
    subst e1; subst e3
    obtain rfl : n = xs.length := e2
    have hkc : k < cur.size := by omega
    have hcell : cur[k]? = some (.int .u8 (xs.getD k 0).toNat) := by
      have h1 := bys_at hk
      rw [← ht, List.getElem?_take_of_lt (by omega)] at h1
      simpa using h1
    refine ⟨by rw [cell_of_row _ _ _ _ _ _ hg]; exact hcell, frozen_of_row _ _ _ _ _ hg, fun W hW => ?_⟩
    subst hW
    refine ⟨by rw [bys_length, Nat.mul_one], .inr ⟨g, cap, cur.setIfInBounds k (.int .u8 c.toNat), by rw [List.length_set], hb, heap_setCell_same w _ _ _ _ _ hg, by rw [List.length_set]; exact hn, hc, by rw [Array.size_setIfInBounds]; exact hs, ?_⟩⟩
    rw [List.length_set, Array.toList_setIfInBounds, List.take_set, ht]
    simp [bys, List.map_set]
theorem u8_xor_at (a d : UInt8) : bits .xor .u8 (a.toNat : Int) (d.toNat : Int) = ((a ^^^ d).toNat : Int) := by
  show IntKind.u8.wrap ((BitVec.ofInt 8 (a.toNat : Int) ^^^ BitVec.ofInt 8 (d.toNat : Int)).toNat : Int) = _
  have ha := UInt8.toNat_lt a
  have hd := UInt8.toNat_lt d
  have h : (a ^^^ d).toNat < 256 := UInt8.toNat_lt _
  rw [UInt8.toNat_xor] at h ⊢
  rw [BitVec.toNat_xor, BitVec.toNat_ofInt, BitVec.toNat_ofInt]
  rw [show ((a.toNat : Int) % ((2 ^ 8 : Nat) : Int)).toNat = a.toNat by omega, show ((d.toNat : Int) % ((2 ^ 8 : Nat) : Int)).toNat = d.toNat by omega]
  simp [IntKind.wrap, IntKind.bits, IntKind.signed]
  omega

theorem own_len {w : World} {base : Nat} {ao : Option Addr} {n cap : Nat} {xs : List UInt8} (h : OwnB w base (.slice ao n cap) xs) : xs.length = n := by
  obtain ⟨_, _, e, _⟩ := OwnB.shape h
  injection e with _ e _
  exact e.symm
theorem OwnB.in8 {w : World} {base : Nat} {ao : Option Addr} {n cap : Nat} {xs : List UInt8} (h : OwnB w base (.slice ao n cap) xs) : InB8 w ao n cap xs := by
  have hl := own_len h
  subst hl
  exact own_in8 h
end

section
open Go.RowKit
open Dlt
set_option linter.unusedVariables false
set_option linter.unusedSimpArgs false

theorem Try.builtW1a (f : Nat → UInt8) (x : Int) (W : World) : (Instr.buildSlice 26 1 #[(0, .agg (.int .i64 x :: bys ((List.range 32).map f)).toArray)]).run Try.prog W = .ok (.slice (some ⟨W.heap.size, 0, none⟩) 1 1) (W.alloc (.cells (.int .i64 x :: bys ((List.range 32).map f)).toArray 50)) := by kernel_rfl
theorem Try.builtW1 (e : Wk) (W : World) : (Instr.buildSlice 26 1 #[(0, .agg e.cells.toArray)]).run Try.prog W = .ok (.slice (some ⟨W.heap.size, 0, none⟩) 1 1) (W.alloc (.cells e.cells.toArray 50)) := by
  have h := Try.builtW1a (fun i => e.id.getD i 0) e.sum W
  rw [range32 e.hid] at h
  exact h
/-- append(list, block). -/
theorem OwnW.add {w : World} {base : Nat} {v : Value} {L : List Wk} (h : OwnW w base v L) (hb : base ≤ w.heap.size) (N : Nat) (e : Wk) (hN : w.rangeAt N 0 e.cells) (hl : L.length ≤ 1000000) :
    ∃ v' w', (Builtin.append_ #[26, 26] 26 #[v, .slice (some ⟨N, 0, none⟩) 1 1]).run Try.prog w = .ok v' w' ∧ OwnW w' base v' (L ++ [e]) ∧ Kept v.ownBlock.toList w w' := by
  obtain ⟨i0, hi, hz0, hz1, hz2⟩ := info_parts Try.infoWeak
  obtain ⟨v', w', hrun, h4, h5, _, _⟩ := run_append_own_at (P := Try.prog) w base 26 26 50 i0 (.agg zeroK) 33 40 Try.underlying26 hi hz0 hz1 hz2 rfl (by decide) v _ _ h ⟨N, 0, none⟩ 1 1 e.cells (by rw [e.len]) (fun j u hv => by
      rw [Addr.add_mid]; exact hN j u hv) (wk_one e) (by unfold maxLen; omega) (by omega) hb
  refine ⟨v', w', hrun, ?_, (Kept.refl _ w).grown h5 (fun g hg _ => by rw [hg]; simp)⟩
  unfold OwnW
  rw [List.length_append, wrows_app, show wrows [e] = e.cells by simp [wrows]]
  exact h4

theorem wp_buildSl9 {o : Oper} {a : Act} {w : World} {K : Act → World → Prop} {Q : Exit → Act → World → Prop} (t : TypeId) (n : Nat) (parts : Array (Nat × Operand)) (ho : o.op = .buildSlice t n parts) (vals : Array (Nat × Value)) (hv : (parts.map fun (i, x) => (i, a.eval x)) = vals) {v : Value} {w' : World} (hrun : (Instr.buildSlice t n vals).run Try.prog w = .ok v w') (h : K (a.put o.dst v) w') : o.wp Try.prog a w K Q := by
  unfold Oper.wp execOp
  simp only [ho, hv, Sem.run_bind, hrun, Result.andThen_ok]
  exact h
set_option maxHeartbeats 1600000 in
theorem rsized_ok (x z : Int) (w : World) :
    Calls Try.prog 30 #[.int .i64 x, .int .i64 z] w fun e w' => e = .returned (.bool (isW x && isZ z)) ∧ w' = w := by
  have HR : Hid ((isW x && isZ z) = (decide (1 ≤ x) && decide (x ≤ 32) && decide (16 ≤ z) && decide (z ≤ 4096))) := by
    show _ = _
    rw [Bool.eq_iff_iff]
    simp only [Bool.and_eq_true, decide_eq_true_eq, isW, isZ, Dlt.within_iff]
    omega
  by_cases h1 : 1 ≤ x <;> by_cases h2 : x ≤ 32 <;> by_cases h3 : 16 ≤ z <;> by_cases h4 : z ≤ 4096 <;>
    (go_enter Try.func30, Try.ntmps30; go_wp2; go_ret; exact ⟨by rw [HR.out]; simp [h1, h2, h3, h4], rfl⟩)
end

end Go.Proofs.Ytmklodligplbaab
