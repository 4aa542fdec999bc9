import Derived.Test.YtmklodligplbaaaGreatD9vm
import Derived.Laws.OwnMore
import Derived.Laws.AppendOwnNone
import Derived.Maps.AppendAt
open Go.RowKit
set_option linter.unusedVariables false
set_option linter.unusedSimpArgs false
set_option maxRecDepth 100000
set_option maxHeartbeats 51200000
namespace Go.Proofs.YtmklodligplbaaaGreat
section
open Dlt
def OwnB (w : World) (base : Nat) (v : Value) (xs : List UInt8) : Prop := w.ownsRow base 5 1 v xs.length (bys xs)
theorem OwnB.shape {w : World} {base : Nat} {v : Value} {xs : List UInt8} (h : OwnB w base v xs) : ∃ ao cap, v = .slice ao xs.length cap ∧ xs.length <= cap ∧ Sl w ao xs ∧ (∀ a, ao = some a -> ∃ g, a = ⟨g, 0, none⟩ ∧ base <= g ∧ g < w.heap.size ∧ v.ownBlock = some g) ∧ cap <= 9223372036854775807 ∧ (ao = none -> xs = [] ∧ cap = 0) := by
 rcases h.2 with ⟨rfl, h0⟩ | ⟨g, cap, cur, rfl, hb, hg, hn, hc, hs, ht⟩
 ·have : xs = [] := List.eq_nil_of_length_eq_zero h0
  subst this
  exact ⟨none, 0, rfl, Nat.le_refl _, Sl.nil _ _, by simp, by omega, fun _ => ⟨rfl, rfl⟩⟩
 ·refine ⟨_, cap, rfl, hn, fun i hi => ⟨g, 0, rfl, ?_⟩, fun a ha => ?_, by unfold maxLen at hc; omega, by simp⟩
  ·rw [Nat.zero_add, cell_of_row _ _ _ _ _ _ hg]
   have h1 := bys_at hi
   rw [<-ht, List.getElem?_take] at h1
   split at h1
   ·simpa using h1
   ·cases h1
  ·cases ha
   exact ⟨g, rfl, hb, (gs hg).1, rfl⟩
theorem OwnB.kept {l : List Nat} {w w' : World} {base : Nat} {v : Value} {xs : List UInt8} (h : OwnB w base v xs) (hk : Kept l w w') (hn : ∀ g, v.ownBlock = some g -> g ∉ l) : OwnB w' base v xs := by
 refine ⟨h.1, ?_⟩
 rcases h.2 with h0 | ⟨g, cap, cur, hv, hb, hg, rest⟩
 ·exact .inl h0
 ·refine .inr ⟨g, cap, cur, hv, hb, ?_, rest⟩
  rw [hk.block g (gs hg).1 (hn g (by rw [hv]; rfl))]
  exact hg
theorem OwnB.far {w : World} {base : Nat} {v : Value} {xs : List UInt8} (h : OwnB w base v xs) (g : Nat) (hg : v.ownBlock = some g) : base <= g ∧ g < w.heap.size := by
 obtain ⟨ao, cap, rfl, _, _, hb, _⟩ := h.shape
 cases ao with
 | none => simp [Value.ownBlock] at hg
 | some a =>
  obtain ⟨g', rfl, h1, h2, h3⟩ := hb a rfl
  rw [hg] at h3; cases h3; exact ⟨h1, h2⟩
theorem run_appB (w : World) (base : Nat) (v : Value) (xs ys : List UInt8) (h : OwnB w base v xs) (yb yo c : Nat) (hy : ∀ i, i < ys.length -> w.cell? ⟨yb, yo + i, none⟩ = some (.int .u8 (ys.getD i 0).toNat)) (hl : xs.length + ys.length <= 140737488355328) (hb : base <= w.heap.size) :
  ∃ v' w', (Builtin.append_ #[22, 22] 22 #[v, .slice (some ⟨yb, yo, none⟩) ys.length c]).run Tryz.prog w = .ok v' w' ∧ OwnB w' base v' (xs ++ ys) ∧ Kept v.ownBlock.toList w w' := by
 obtain ⟨i0, hi, hz0, hz1, hz2⟩ := info_parts Tryz.infoByte9
 obtain ⟨v', w', hrun, h1', h2, h3, h4⟩ := run_append_own_at (P := Tryz.prog) w base 22 22 5 i0 (.int .u8 0) 1 1 Tryz.underlying22 hi hz0 hz1 hz2 rfl (by omega) v xs.length (bys xs) h ⟨yb, yo, none⟩ ys.length c (bys ys) (by rw [bys_length]; omega)
  (fun j u hj => by obtain ⟨hj', rfl⟩ := bys_get hj; rw [Addr.add_mid]; exact hy j hj') (bys_oneCell ys) (by unfold maxLen; omega) (by omega) hb
 refine ⟨v', w', hrun, ?_, (Kept.refl _ w).grown h2 (fun k hk _ => by simp [hk])⟩
 unfold OwnB
 rw [List.length_append, bys_append]
 exact h1'
theorem run_appSl (w : World) (base : Nat) (v : Value) (xs ys : List UInt8) (h : OwnB w base v xs) (ao : Option Addr) (n c : Nat) (hn : ys.length = n) (hs : Sl w ao ys) (h0 : ao = none -> ys = [] ∧ c = 0) (hl : xs.length + n <= 140737488355328) (hb : base <= w.heap.size) :
  ∃ v' w', (Builtin.append_ #[22, 22] 22 #[v, .slice ao n c]).run Tryz.prog w = .ok v' w' ∧ OwnB w' base v' (xs ++ ys) ∧ Kept v.ownBlock.toList w w' := by
 subst hn
 obtain ⟨i0, hi, hz0, hz1, hz2⟩ := info_parts Tryz.infoByte9
 cases ao with
 | none =>
  obtain ⟨rfl, rfl⟩ := h0 rfl
  refine ⟨v, w, run_append_owned_none (P := Tryz.prog) (w := w) base 22 22 5 i0 1 Tryz.underlying22 hi v xs.length (bys xs) h, by rw [List.append_nil]; exact h, Kept.refl _ _⟩
 | some ad =>
  obtain ⟨v', w', hrun, h1', h2, h3, h4⟩ := run_append_own_at (P := Tryz.prog) w base 22 22 5 i0 (.int .u8 0) 1 1 Tryz.underlying22 hi hz0 hz1 hz2 rfl (by omega) v xs.length (bys xs) h ad ys.length c (bys ys) (by rw [bys_length]; omega)
   (fun j u hj => by
    obtain ⟨hj', rfl⟩ := bys_get hj
    obtain ⟨b', off', e', hc⟩ := hs j hj'
    cases e'
    rw [Addr.add_mid]; exact hc) (bys_oneCell ys) (by unfold maxLen; omega) (by omega) hb
  refine ⟨v', w', hrun, ?_, (Kept.refl _ w).grown h2 (fun k hk _ => by simp [hk])⟩
  unfold OwnB
  rw [List.length_append, bys_append]
  exact h1'
theorem run_freshB (w : World) (ys : List UInt8) (ao : Option Addr) (n c : Nat) (hn : ys.length = n) (hs : Sl w ao ys) (h0 : ao = none -> ys = [] ∧ c = 0) (hl : n <= 140737488355328) :
  ∃ v' w', (Builtin.append_ #[22, 22] 22 #[.slice (some ⟨w.heap.size, 0, none⟩) 0 0, .slice ao n c]).run Tryz.prog (w.alloc (.cells #[] 5)) = .ok v' w' ∧ OwnB w' w.heap.size v' ys ∧ Kept [] w w' := by
 have hown : OwnB (w.alloc (.cells #[] 5)) w.heap.size (.slice (some ⟨w.heap.size, 0, none⟩) 0 0) [] := World.ownsRow_made w #[] 0 (Nat.le_refl _) (by decide) rfl
 have hk := (Kept.refl [] w).alloc (.cells #[] 5)
 obtain ⟨v', w', h1, h2, h3⟩ := run_appSl _ w.heap.size _ [] ys hown ao n c hn (hs.kept hk (by simp)) h0 (by simpa using hl) hk.size
 rw [List.nil_append] at h2
 exact ⟨v', w', h1, h2, hk.trans h3 (fun g hg hlt => by simp [Value.ownBlock] at hg; omega)⟩
theorem wpList_app_run {ops : Array Oper} {rest : List Oper} {o : Oper} {a : Act} {w : World} {Q : Exit -> Act -> World -> Prop} (hg : o.guard = none) (s x : Operand) (t t2 : TypeId) (ho : o.op = .call { callee := .builtin .append, args := #[s, x], argTypes := #[t, t2] }) (vs vx : Value) (hs : a.eval s = vs) (hx : a.eval x = vx) (v' : Value) (w' : World)
  (hrun : (Builtin.append_ #[t, t2] o.type #[vs, vx]).run Tryz.prog w = .ok v' w') (hK : wpList Tryz.prog ops Q rest (a.put o.dst v') w') : wpList Tryz.prog ops Q (o :: rest) a w :=
 wpList_appendRunL hg s x t t2 ho vs vx hs hx hrun hK
def bm (i : Nat) : UInt8 := UInt8.ofNat (99 + i)
def bms : List UInt8 := (List.range 40).map bm
theorem bm_nat {i : Nat} (h : i < 40) : (bm i).toNat = 99 + i := by
 simp [bm, UInt8.toNat_ofNat', Nat.mod_eq_of_lt (show 99 + i < 256 by omega)]
theorem bm_wrap {i : Nat} (h : i < 40) : IntKind.u8.wrap (99 + (i : Int)) = ((bm i).toNat : Int) := by
 rw [bm_nat h, IntKind.wrap_u8]; omega
theorem bms_len : bms.length = 40 := by simp [bms]
theorem bms_take (k : Nat) (h : k < 40) : bms.take (k + 1) = bms.take k ++ [bm k] := by
 rw [List.take_succ_eq_append_getElem (by rw [bms_len]; exact h)]
 simp [bms]
theorem Tryz.cutBy (W : World) (ao : Option Addr) (L cap m : Nat) (hm : m <= cap) :
  (Instr.slice 22 (.slice ao L cap) none (some (.int .i64 m)) none).run Tryz.prog W = .ok (.slice ao m cap) W := by
 have hz : (sizeOf (Tryz.prog.elem 22)).run Tryz.prog W = .ok 1 W := by kernel_rfl
 have h := run_slice_h (P := Tryz.prog) W 22 ao L cap (by kernel_rfl) .i64 m (by omega) (by omega)
 rw [h, hz]
 cases ao <;> simp [sliced, Addr.add]
structure Cy (w : World) (g n cap : Nat) (xs : List UInt8) : Prop where
 sl : Sl w (some ⟨g, 0, none⟩) xs
 mks : ∀ i, i < 40 -> w.cell? ⟨g, n + i, none⟩ = some (.int .u8 (bm i).toNat)
 len : xs.length = n
 cap : n + 40 <= cap
theorem Cy.kept {l : List Nat} {w w' : World} {g n cap : Nat} {xs : List UInt8} (h : Cy w g n cap xs) (hk : Kept l w w') (hn : g ∉ l) : Cy w' g n cap xs :=
 ⟨h.sl.kept hk (fun _ a ha => by cases ha; exact hn), fun i hi => hk.cellOf (h.mks i hi) hn, h.len, h.cap⟩
theorem cy_of {w : World} {base g n cap : Nat} {xs : List UInt8} (h : OwnB w base (.slice (some ⟨g, 0, none⟩) (n + 40) cap) (xs ++ bms)) (hn : xs.length = n) (hc : n + 40 <= cap) : Cy w g n cap xs := by
 obtain ⟨ao, cap', hv, _, hS, _⟩ := h.shape
 injection hv with q1 q2 q3
 subst q1
 refine ⟨fun i hi => ?_, fun i hi => ?_, hn, hc⟩
 ·obtain ⟨b, off, e, h1⟩ := hS i (by rw [List.length_append]; omega)
  refine ⟨b, off, e, ?_⟩
  rw [h1]
  simp [List.getD, List.getElem?_append_left hi]
 ·obtain ⟨b, off, e, h1⟩ := hS (n + i) (by rw [List.length_append, bms_len]; omega)
  cases e
  rw [Nat.zero_add] at h1
  rw [h1]
  have : (xs ++ bms).getD (n + i) 0 = bm i := by
   rw [<-hn]
   simp [List.getD, bms, hi]
  rw [this]
theorem roomy_ok (ao : Option Addr) (n c : Nat) (xs : List UInt8) (w : World) (hn : xs.length = n) (hL : Sl w ao xs) (h0 : ao = none -> xs = [] ∧ c = 0) (hm : n <= 140737488351232) :
  Calls Tryz.prog 7 #[.slice ao n c] w fun r w' => (∃ g cap, r = .returned (.slice (some ⟨g, 0, none⟩) n cap) ∧ OwnB w' w.heap.size (.slice (some ⟨g, 0, none⟩) (n + 40) cap) (xs ++ bms) ∧ n + 40 <= cap) ∧ Kept [] w w' := by
 obtain ⟨i0, hi, hz0, hz1, hz2⟩ := info_parts Tryz.infoByte9
 have hmk := run_make (P := Tryz.prog) w 22 5 i0 (.int .u8 0) Tryz.underlying22 hi hz0 .i64 .i64 0 ((n + 40 : Nat) : Int) (by omega) (by omega) (by rw [hz2]; omega) (by omega)
 rw [hz1] at hmk
 simp only [Int.toNat_zero, Int.toNat_natCast] at hmk
 have ho1 : OwnB (w.alloc (.cells (madeCells (Value.int .u8 0).cells ((n + 40) * 1)) 5)) w.heap.size (.slice (some ⟨w.heap.size, 0, none⟩) 0 (n + 40)) [] :=
  World.ownsRow_made w _ (n + 40) (Nat.le_refl _) (by unfold maxLen; omega) (size_madeCells _ _)
 have hk1 := ka w (.cells (madeCells (Value.int .u8 0).cells ((n + 40) * 1)) 5)
 generalize w.alloc (.cells (madeCells (Value.int .u8 0).cells ((n + 40) * 1)) 5) = w1 at hmk ho1 hk1
 rw [show ((n + 40 : Nat) : Int) = (n : Int) + 40 by omega] at hmk
 obtain ⟨v2, w2, hrun2, ho2, hk2⟩ := run_appSl w1 w.heap.size _ [] xs ho1 ao n c hn (hL.kept hk1 (by simp)) h0 (by simp; omega) hk1.size
 rw [List.nil_append] at ho2
 have hk12 : Kept [] w w2 := hk1.trans hk2 (fun g hg hlt => by simp [Value.ownBlock] at hg; omega)
 have H2 : Hid (OwnB w2 w.heap.size v2 xs ∧ Kept [] w w2) := ⟨ho2, hk12⟩
 have HN := hide hn
 clear ho1 hk1 ho2 hk2 hk12 hL hn hi hz0 hz1 hz2
 go_enter Tryz.func7, Tryz.ntmps7
 go_wp2_with (refine wpList_app_run rfl (.tmp 8) (.tmp 9) 22 22 rfl (.slice (some ⟨w.heap.size, 0, none⟩) 0 (n + 40)) (.slice ao n c) rfl rfl v2 w2 hrun2 ?_)
 clear hmk hrun2
 go_loopw [3, 4] (fun x y wr => ∃ k : Nat, k <= 40 ∧ y = .int .i64 k ∧ Hid (OwnB wr w.heap.size x (xs ++ bms.take k) ∧ Kept [] w wr)) (fun x y wr => 40 - (intOf y).toNat)
 case atStart => exact ⟨0, Nat.zero_le _, rfl, by show _ ∧ _; simpa using H2.out⟩
 case round =>
  obtain ⟨k, hk, rfl, HK⟩ := hrel
  by_cases hlt : k < 40
  ·have HT := hide (bms_take k hlt)
   have hwu := bm_wrap hlt
   have hll : (xs ++ bms.take k).length = n + k := by rw [List.length_append, List.length_take, bms_len, HN.out]; omega
   generalize bm k = x at hwu HT
   have kN := ka wr (.cells #[.int .u8 x.toNat] 5)
   obtain ⟨v4, w4, hrun4, ho4, hk4⟩ := run_appB (wr.alloc (.cells #[.int .u8 x.toNat] 5)) w.heap.size u3 (xs ++ bms.take k) [x] (HK.out.1.kept kN (by simp)) wr.heap.size 0 1 (fun i hi => by
    have hnew := heap_new wr (.cells #[.int .u8 x.toNat] 5)
    rw [Nat.zero_add, cell_of_row _ _ _ _ _ _ hnew]
    obtain rfl : i = 0 := by simp at hi; omega
    rfl) (by rw [hll]; simp; omega) (Nat.le_trans HK.out.2.size kN.size)
   rw [show [x].length = 1 from rfl] at hrun4
   have H4 : Hid (OwnB w4 w.heap.size v4 (xs ++ bms.take (k + 1)) ∧ Kept [] w w4) := ⟨by rw [HT.out, <-List.append_assoc]; exact ho4, (HK.out.2.tr kN).trans hk4 (fun g hg hl2 => by have := (HK.out.1.far g (by simpa using hg)).1; omega)⟩
   clear ho4 hk4 kN HK hll HT
   go_wp2_with (refine wpList_app_run rfl (.tmp 15) (.tmp 19) 22 22 rfl u3 (.slice (some ⟨wr.heap.size, 0, none⟩) 1 1) rfl rfl v4 w4 hrun4 ?_)
   go_roundw
   case rel => exact ⟨k + 1, by omega, by go_num, H4.out⟩
   case measure => simp [intOf]; omega
  ·obtain rfl : k = 40 := by omega
   have ho := HK.out.1
   rw [List.take_of_length_le (by rw [bms_len]; omega)] at ho
   have hll : (xs ++ bms).length = n + 40 := by rw [List.length_append, bms_len, HN.out]
   rcases ho.2 with ⟨_, h2⟩ | ⟨g, cap, cur, hv, hb, hg, hnn, hc, hs, hta⟩
   ·rw [hll] at h2; omega
   ·rw [hll] at hv hnn
    subst hv
    have hcut := fun W => Tryz.cutBy W (some ⟨g, 0, none⟩) (n + 40) cap n (by omega)
    have HC : Hid ((OwnB wr w.heap.size (.slice (some ⟨g, 0, none⟩) (n + 40) cap) (xs ++ bms) ∧ n + 40 <= cap) ∧ Kept [] w wr) := ⟨⟨ho, hnn⟩, HK.out.2⟩
    clear ho HK hg hs hta hll
    go_wp2
    go_ret
    exact ⟨⟨g, cap, rfl, HC.out.1⟩, HC.out.2⟩
theorem stands_ok (g n cap : Nat) (xs : List UInt8) (bo : Option Addr) (bc : Nat) (w : World) (hC : Cy w g n cap xs) (hE : Sl w bo xs) (hm : n <= 140737488351232) :
  Calls Tryz.prog 11 #[.slice (some ⟨g, 0, none⟩) n cap, .slice bo n bc] w fun r w' => r = .returned (.bool true) ∧ Kept [] w w' := by
 have HC := hide hC
 have HE := hide hE
 have hcap := hC.cap
 have hcut := fun W => Tryz.cutBy W (some ⟨g, 0, none⟩) n cap (n + 40) hcap
 rw [show ((n + 40 : Nat) : Int) = (n : Int) + 40 by omega] at hcut
 clear hC hE
 go_enter Tryz.func11, Tryz.ntmps11
 go_wp2
 clear hcut
 go_loopw [6] (fun x wr => ∃ k : Nat, k <= 40 ∧ x = .int .i64 k ∧ Hid (Kept [] w wr)) (fun x wr => 40 - (intOf x).toNat)
 case atStart => exact ⟨0, Nat.zero_le _, rfl, Kept.refl _ _⟩
 case round =>
  obtain ⟨k, hk, rfl, HK⟩ := hrel
  by_cases hlt : k < 40
  ·have hck : wr.cell? ⟨g, n + k, none⟩ = some (.int .u8 (bm k).toNat) := HK.out.cellOf (HC.out.mks k hlt) (by simp)
   have hwu := bm_wrap hlt
   have hb8 := UInt8.toNat_lt (bm k)
   generalize (bm k).toNat = x at hck hwu hb8
   have hxx : ((x : Int) != (x : Int)) = false := by simp
   go_wp2
   go_roundw
   case rel => exact ⟨k + 1, by omega, by go_num, HK.out⟩
   case measure => simp [intOf]; omega
  ·have hal := same_any (some ⟨g, 0, none⟩) bo n cap n bc xs xs wr HC.out.len HC.out.len (by omega) (HC.out.sl.kept HK.out (by simp)) (HE.out.kept HK.out (by simp))
   rw [decide_eq_true (rfl : xs = xs)] at hal
   go_wp2_with (go_at_call 16; refine hal.mono ?_; rintro r v2 ⟨rfl, m2, rfl⟩; have HK2 := hide (HK.out.drewN m2); clear hal)
   go_ret
   exact ⟨rfl, HK2.out⟩
theorem tmod_in (v : Int) (n : Nat) (h : 0 < n) : (v.tmod n < 0 -> ∃ r : Nat, r < n ∧ v.tmod n + n = r) ∧ (¬ v.tmod n < 0 -> ∃ r : Nat, r < n ∧ v.tmod n = r) := by
 have h1 := Int.lt_tmod_of_pos v (b := (n : Int)) (by omega)
 have h2 := Int.tmod_lt_of_pos v (b := (n : Int)) (by omega)
 exact ⟨fun h => ⟨(v.tmod n + n).toNat, by omega, by omega⟩, fun h => ⟨(v.tmod n).toNat, by omega, by omega⟩⟩
theorem round18_ok (v : Int) (n : Nat) (w : World) (hv : (Lit.int .i64 v).wf = true) (h0 : 0 < n) (hn : n <= 140737488355328) : Calls Tryz.prog 32 #[.int .i64 v, .int .i64 n] w fun e w' => ∃ r : Nat, r < n ∧ e = .returned (.int .i64 r) ∧ w' = w := by
 have ht := tmod_in v n h0
 have hb : -(n : Int) < v.tmod n ∧ v.tmod n < n := ⟨Int.lt_tmod_of_pos v (by omega), Int.tmod_lt_of_pos v (by omega)⟩
 have hz : ((n : Int) == 0) = false := by simp; omega
 have hw : IntKind.i64.wrap (v.tmod n) = v.tmod n := IntWalk.i64_in _ (by omega)
 have hw2 : IntKind.i64.wrap (v.tmod n + n) = v.tmod n + n := IntWalk.i64_in _ (by omega)
 by_cases h : v.tmod n < 0
 ·obtain ⟨r, hr, e⟩ := ht.1 h
  have HR := hide (ai hr e)
  clear ht hr e
  go_enter Tryz.func32, Tryz.ntmps32
  go_wp2
  go_ret
  exact ⟨r, HR.out.1, by rw [<-HR.out.2]; rfl, rfl⟩
 ·obtain ⟨r, hr, e⟩ := ht.2 h
  have HR := hide (ai hr e)
  clear ht hr e
  go_enter Tryz.func32, Tryz.ntmps32
  go_wp2
  go_ret
  exact ⟨r, HR.out.1, by rw [<-HR.out.2]; rfl, rfl⟩
theorem own_set9 {w : World} {base g n cap k : Nat} {xs : List UInt8} (h : OwnB w base (.slice (some ⟨g, 0, none⟩) n cap) xs) (hk : k < xs.length) (c : UInt8) :
  w.cell? ⟨g, k, none⟩ = some (.int .u8 (xs.getD k 0).toNat) ∧ w.frozen? ⟨g, k, none⟩ = false ∧ ∀ W, W = w.setCell ⟨g, k, none⟩ (.int .u8 c.toNat) -> OwnB W base (.slice (some ⟨g, 0, none⟩) n cap) (xs.set k c) := by
 rcases h.2 with ⟨e, _⟩ | ⟨g', cap', cur, e, hb, hg, hn, hc, hs, ht⟩
 ·cases e
 ·injection e with e1 e2 e3
  injection e1 with e1
  injection e1 with e1
  subst e1; subst e3
  obtain rfl : n = xs.length := e2
  have hkc : k < cur.size := by omega
  have hcell : cur[k]? = some (.int .u8 (xs.getD k 0).toNat) := by
   have h1 := bys_at hk
   rw [<-ht, List.getElem?_take_of_lt (by omega)] at h1
   simpa using h1
  refine ⟨by rw [cell_of_row _ _ _ _ _ _ hg]; exact hcell, frozen_of_row _ _ _ _ _ hg, fun W hW => ?_⟩
  subst hW
  refine ⟨by rw [bys_length, Nat.mul_one], .inr ⟨g, cap, cur.setIfInBounds k (.int .u8 c.toNat), by rw [List.length_set], hb, heap_setCell_same w _ _ _ _ _ hg, by rw [List.length_set]; exact hn, hc, by rw [Array.size_setIfInBounds]; exact hs, ?_⟩⟩
  rw [List.length_set, Array.toList_setIfInBounds, List.take_set, ht]
  simp [bys, List.map_set]
theorem u8_xor_at (a d : UInt8) : bits .xor .u8 (a.toNat : Int) (d.toNat : Int) = ((a ^^^ d).toNat : Int) := by
 show IntKind.u8.wrap ((BitVec.ofInt 8 (a.toNat : Int) ^^^ BitVec.ofInt 8 (d.toNat : Int)).toNat : Int) = _
 have ha := UInt8.toNat_lt a
 have hd := UInt8.toNat_lt d
 have h : (a ^^^ d).toNat < 256 := UInt8.toNat_lt _
 rw [UInt8.toNat_xor] at h ⊢
 rw [BitVec.toNat_xor, BitVec.toNat_ofInt, BitVec.toNat_ofInt]
 rw [show ((a.toNat : Int) % ((2 ^ 8 : Nat) : Int)).toNat = a.toNat by omega, show ((d.toNat : Int) % ((2 ^ 8 : Nat) : Int)).toNat = d.toNat by omega]
 simp [IntKind.wrap, IntKind.bits, IntKind.signed]
 omega
theorem turned18_none (ao : Option Addr) (cap : Nat) (bo : Option Addr) (wc : Nat) (at_ : Int) (w : World) :
  Calls Tryz.prog 12 #[.slice ao 0 cap, .slice bo 0 wc, .int .i64 at_] w fun e w' => e = .returned (.bool false) ∧ w' = w := by
 go_enter Tryz.func12, Tryz.ntmps12
 go_wp2
 go_ret
 exact ⟨rfl, rfl⟩
theorem turned18_ok (g h n cap wc base base' : Nat) (at_ : Int) (xs : List UInt8) (w : World) (hA : OwnB w base (.slice (some ⟨g, 0, none⟩) (n + 40) cap) (xs ++ bms)) (hW : OwnB w base' (.slice (some ⟨h, 0, none⟩) n wc) xs) (hgh : g ≠ h) (hn : xs.length = n) (hm : n <= 140737488351232) (h0 : n ≠ 0) (hat : (Lit.int .i64 at_).wf = true) :
  Calls Tryz.prog 12 #[.slice (some ⟨g, 0, none⟩) n cap, .slice (some ⟨h, 0, none⟩) n wc, .int .i64 at_] w fun e w' => e = .returned (.bool true) ∧ (∃ ys : List UInt8, ys.length = n ∧ OwnB w' base (.slice (some ⟨g, 0, none⟩) (n + 40) cap) (ys ++ bms) ∧ OwnB w' base' (.slice (some ⟨h, 0, none⟩) n wc) ys) ∧ Kept [g, h] w w' := by
 have hr := round18_ok at_ n w hat (by omega) (by omega)
 have hnz : ((n : Int) == 0) = false := by simp; omega
 have HA := hide hA
 have HW := hide hW
 have HN := hide hn
 clear hA hW hn hat
 go_enter Tryz.func12, Tryz.ntmps12
 go_upto_region 4 with (go_at_call 32; refine hr.mono ?_; rintro e w' ⟨k, hk, rfl, hww⟩; obtain rfl := hww.symm; clear hr)
 obtain ⟨c1, f1, s1⟩ := own_set9 HW.out (k := k) (by rw [HN.out]; exact hk) (xs.getD k 0 ^^^ 1)
 obtain ⟨c2, f2, s2⟩ := own_set9 HA.out (k := k) (by rw [List.length_append, HN.out]; omega) (xs.getD k 0 ^^^ 1)
 have hxr := u8_xor_at (xs.getD k 0) 1
 rw [show ((1 : UInt8).toNat : Int) = 1 from rfl] at hxr
 have hb1 := UInt8.toNat_lt (xs.getD k 0)
 have hb2 := UInt8.toNat_lt (xs.getD k 0 ^^^ 1)
 obtain ⟨y, hy⟩ := nm (xs.getD k 0 ^^^ 1)
 rw [hy] at s1 s2 hxr hb2
 have kh : Kept [h] w (w.setCell ⟨h, k, none⟩ (.int .u8 y.toNat)) := (Kept.refl [h] w).setCell (by simp) _
 have HS1 := hide (s1 _ rfl)
 have c3 : (w.setCell ⟨h, k, none⟩ (.int .u8 y.toNat)).cell? ⟨h, k, none⟩ = some (.int .u8 y.toNat) := World.cell?_setCell_same _ _ _ c1
 have c4 := kh.cellOf c2 (by simp; omega)
 have f4 := (kh.frozen (World.block_lt_of_cell? _ _ c2) (by simp; omega)).trans f2
 have HS2 := hide ((own_set9 (HA.out.kept kh (fun q hq => by cases hq; simpa using hgh)) (k := k) (by rw [List.length_append, HN.out]; omega) y).2.2 _ rfl)
 clear s1 s2 hy c2 f2
 generalize ((xs ++ bms).getD k 0).toNat = z2 at c4
 generalize hxv : (xs.getD k 0).toNat = xv at c1 hxr hb1
 clear hxv
 have HF : Hid (OwnB ((w.setCell ⟨h, k, none⟩ (.int .u8 y.toNat)).setCell ⟨g, k, none⟩ (.int .u8 y.toNat)) base (.slice (some ⟨g, 0, none⟩) (n + 40) cap) (xs.set k y ++ bms) ∧ OwnB ((w.setCell ⟨h, k, none⟩ (.int .u8 y.toNat)).setCell ⟨g, k, none⟩ (.int .u8 y.toNat)) base' (.slice (some ⟨h, 0, none⟩) n wc) (xs.set k y) ∧ Kept [g, h] w ((w.setCell ⟨h, k, none⟩ (.int .u8 y.toNat)).setCell ⟨g, k, none⟩ (.int .u8 y.toNat))) := by
  have kg : Kept [g] (w.setCell ⟨h, k, none⟩ (.int .u8 y.toNat)) ((w.setCell ⟨h, k, none⟩ (.int .u8 y.toNat)).setCell ⟨g, k, none⟩ (.int .u8 y.toNat)) := (Kept.refl [g] _).setCell (by simp) _
  refine ⟨?_, HS1.out.kept kg (fun q hq => by cases hq; simpa using fun e => hgh e.symm), (show Kept [g, h] w _ from kh.mono (by simp)).tr kg⟩
  have := HS2.out
  rw [List.set_append_left _ _ (by rw [HN.out]; exact hk)] at this
  exact this
 clear HS1 HS2 kh
 obtain ⟨yv, hyv⟩ := nm (y.toNat)
 rw [hyv] at hxr hb2 c3 c4 f4
 rw [hyv] at HF
 clear hyv
 go_wp2
 go_ret
 exact ⟨rfl, ⟨xs.set k y, by rw [List.length_set]; exact HN.out, HF.out.1, HF.out.2.1⟩, HF.out.2.2⟩
theorem own_len {w : World} {base : Nat} {ao : Option Addr} {n cap : Nat} {xs : List UInt8} (h : OwnB w base (.slice ao n cap) xs) : xs.length = n := by
 obtain ⟨_, _, e, _⟩ := OwnB.shape h
 injection e with _ e _
 exact e.symm
theorem OwnB.in8 {w : World} {base : Nat} {ao : Option Addr} {n cap : Nat} {xs : List UInt8} (h : OwnB w base (.slice ao n cap) xs) : InB8 w ao n cap xs := by
 have hl := own_len h
 subst hl
 exact own_in8 h
end

section
open Dlt
theorem Tryz.builtW1a (f : Nat -> UInt8) (x : Int) (W : World) : (Instr.buildSlice 27 1 #[(0, .agg (.int .i64 x :: bys ((List.range 32).map f)).toArray)]).run Tryz.prog W = .ok (.slice (some ⟨W.heap.size, 0, none⟩) 1 1) (W.alloc (.cells (.int .i64 x :: bys ((List.range 32).map f)).toArray 45)) := by kernel_rfl
theorem Tryz.builtW1 (e : Wk) (W : World) : (Instr.buildSlice 27 1 #[(0, .agg e.cells.toArray)]).run Tryz.prog W = .ok (.slice (some ⟨W.heap.size, 0, none⟩) 1 1) (W.alloc (.cells e.cells.toArray 45)) := by
 have h := Tryz.builtW1a (fun i => e.id.getD i 0) e.sum W
 rw [range32 e.hid] at h
 exact h
theorem OwnW.add {w : World} {base : Nat} {v : Value} {L : List Wk} (h : OwnW w base v L) (hb : base <= w.heap.size) (N : Nat) (e : Wk) (hN : w.rangeAt N 0 e.cells) (hl : L.length <= 1000000) :
  ∃ v' w', (Builtin.append_ #[27, 27] 27 #[v, .slice (some ⟨N, 0, none⟩) 1 1]).run Tryz.prog w = .ok v' w' ∧ OwnW w' base v' (L ++ [e]) ∧ Kept v.ownBlock.toList w w' := by
 obtain ⟨i0, hi, hz0, hz1, hz2⟩ := info_parts Tryz.infoWeak
 obtain ⟨v', w', hrun, h4, h5, _, _⟩ := run_append_own_at (P := Tryz.prog) w base 27 27 45 i0 (.agg zeroK) 33 40 Tryz.underlying27 hi hz0 hz1 hz2 rfl (by decide) v _ _ h ⟨N, 0, none⟩ 1 1 e.cells (by rw [e.len]) (fun j u hv => by
   rw [Addr.add_mid]; exact hN j u hv) (wk_one e) (by unfold maxLen; omega) (by omega) hb
 refine ⟨v', w', hrun, ?_, (Kept.refl _ w).grown h5 (fun g hg _ => by rw [hg]; simp)⟩
 unfold OwnW
 rw [List.length_append, wrows_app, show wrows [e] = e.cells by simp [wrows]]
 exact h4
theorem rsized_ok (x z : Int) (w : World) :
  Calls Tryz.prog 27 #[.int .i64 x, .int .i64 z] w fun e w' => e = .returned (.bool (isW x && isZ z)) ∧ w' = w := by
 have HR : Hid ((isW x && isZ z) = (decide (1 <= x) && decide (x <= 32) && decide (16 <= z) && decide (z <= 4096))) := by
  show _ = _
  rw [Bool.eq_iff_iff]
  simp only [Bool.and_eq_true, decide_eq_true_eq, isW, isZ, Dlt.within_iff]
  omega
 by_cases h1 : 1 <= x <;> by_cases h2 : x <= 32 <;> by_cases h3 : 16 <= z <;> by_cases h4 : z <= 4096 <;>
  (go_enter Tryz.func27, Tryz.ntmps27; go_wp2; go_ret; exact ⟨by rw [HR.out]; simp [h1, h2, h3, h4], rfl⟩)
end

end Go.Proofs.YtmklodligplbaaaGreat
