/-
  table.Parse. (Written by tools/t9t.py.)
-/
import Derived.Test.YtmhnjhnnaciokaaNi
import Derived.Test.YtmhnjhnnaciokaaPure5
import Derived.Test.YtmhnjhnnaciokaaT8b
import Derived.Test.YtmhnjhnnaciokaaZk
import Derived.Test.YtmhnjhnnaciokaaZq
import Derived.WalkArith
import Derived.Laws.CopyRow
import Derived.Laws.IdiomCopy
import Derived.Lib.SlBuf
namespace Go.Proofs.Ytmhnjhnnaciokaa
open Go.RowKit Go.Sort
set_option linter.unusedVariables false
set_option linter.unusedSimpArgs false

namespace Tb
def by' (xs : List UInt8) (i : Nat) : Nat := (xs.getD i 0).toNat
def pad (l : List UInt8) : List UInt8 := if l.length = 32 then l else List.replicate 32 0
theorem pad_len (l : List UInt8) : (pad l).length = 32 := by unfold pad; split; assumption; simp
theorem pad_eq {l : List UInt8} (h : l.length = 32) : pad l = l := by unfold pad; rw [if_pos h]
theorem by_lt (xs : List UInt8) (i : Nat) : by' xs i < 256 := UInt8.toNat_lt _
theorem wf_byte {n : Int} (h : 0 ≤ n ∧ n ≤ 255) : (Lit.int .i64 n).wf = true := by
  unfold Lit.wf
  simp only [Bool.and_eq_true, decide_eq_true_eq]
  have h1 : IntKind.i64.min = -9223372036854775808 := rfl
  have h2 : IntKind.i64.max = 9223372036854775807 := rfl
  rw [h1, h2]
  omega
/-- The result that stands at a place. -/
def resAt (xs : List UInt8) (a : Nat) : Res := ⟨pad ((xs.drop a).take 32), pad ((xs.drop (a + 32)).take 32), (by' xs (a + 64) : Nat), pad_len _, pad_len _, wf_byte (by have := by_lt xs (a + 64); omega)⟩
theorem fix_range (xs : List UInt8) (s : Rs) : 0 ≤ (stFixed xs s 1).1 ∧ (stFixed xs s 1).1 ≤ 255 := by
  unfold stFixed
  split
  · split
    · simp
    · split
      · simp
      · have := Pure.be_lt ((xs.drop s.at_).take (1 : Int).toNat)
        have hl : ((xs.drop s.at_).take (1 : Int).toNat).length ≤ 1 := by simp; omega
        have h2 : 256 ^ ((xs.drop s.at_).take (1 : Int).toNat).length ≤ 256 ^ 1 := Nat.pow_le_pow_right (by omega) hl
        simp only
        omega
  · simp
/-- What readResult makes of a reader's state. -/
def rd (xs : List UInt8) (s : Rs) : Res × Rs :=
  (⟨pad (stRaw xs s 32).1, pad (stRaw xs (stRaw xs s 32).2 32).1, (stFixed xs (stRaw xs (stRaw xs s 32).2 32).2 1).1, pad_len _, pad_len _, wf_byte (fix_range _ _)⟩, (stFixed xs (stRaw xs (stRaw xs s 32).2 32).2 1).2)
def rds (xs : List UInt8) (s : Rs) : Nat → List Res × Rs
  | 0 => ([], s)
  | k + 1 => ((rds xs s k).1 ++ [(rd xs (rds xs s k).2).1], (rd xs (rds xs s k).2).2)
theorem rds_len (xs : List UInt8) (s : Rs) (k : Nat) : (rds xs s k).1.length = k := by
  induction k with
  | zero => rfl
  | succ k ih => simp [rds, ih]
def fin (xs : List UInt8) (s : Rs) : Bool := decide (s.e = 0) && decide (stLeft xs s = 0)
/-- P8.2 -/
def parse (xs : List UInt8) : Option (List Res) :=
  if xs.length ≠ 0 ∧ by' xs 0 ≤ 32 ∧ xs.length = 1 + 65 * by' xs 0 ∧ valid ((List.range (by' xs 0)).map fun i => resAt xs (1 + 65 * i)) = true then some ((List.range (by' xs 0)).map fun i => resAt xs (1 + 65 * i)) else none
theorem drop_at {xs : List UInt8} {a : Nat} (h : a < xs.length) : ∃ c rest, xs.drop a = c :: rest ∧ c.toNat = by' xs a := by
  refine ⟨xs[a], xs.drop (a + 1), List.drop_eq_getElem_cons h, ?_⟩
  simp [by', List.getD, List.getElem?_eq_getElem h]
theorem num_low {xs : List UInt8} {a : Nat} (h : a < xs.length) (hb : by' xs a < 128) : Pure.num (xs.drop a) = (by' xs a, 1, 0) := by
  obtain ⟨c, rest, e, hc⟩ := drop_at h
  have hlt : c.toNat < 128 := by rw [hc]; exact hb
  have := Pure.num_back (v := c.toNat) (by omega) rest
  rw [Pure.enc_small hlt] at this
  simp only [List.length_cons, List.length_nil, Nat.zero_add] at this
  rw [e, ← hc, ← this]
  simp
theorem rd_sticky {xs : List UInt8} {s : Rs} (h : s.e ≠ 0) : (rd xs s).2 = s := by
  simp [rd, stRaw, stFixed, h]
theorem rd_short {xs : List UInt8} {a : Nat} {p : Int} (h : xs.length < a + 65) : (rd xs ⟨a, 0, p⟩).2.e ≠ 0 := by
  show (stFixed xs (stRaw xs (stRaw xs ⟨a, 0, p⟩ 32).2 32).2 1).2.e ≠ 0
  by_cases h1 : xs.length < a + 32
  · have e1 : stRaw xs ⟨a, 0, p⟩ 32 = ([], ⟨a, 10, a⟩) := by
      simp only [stRaw, if_true]
      rw [if_neg (by omega), if_pos (by omega)]
    rw [e1]
    simp [stRaw, stFixed]
  · have e1 : stRaw xs ⟨a, 0, p⟩ 32 = ((xs.drop a).take 32, ⟨a + 32, 0, p⟩) := by
      simp only [stRaw, if_true]
      rw [if_neg (by omega), if_neg (by omega)]
      rfl
    rw [e1]
    by_cases h2 : xs.length < a + 64
    · have e2 : stRaw xs ⟨a + 32, 0, p⟩ 32 = ([], ⟨a + 32, 10, (a + 32 : Nat)⟩) := by
        simp only [stRaw, if_true]
        rw [if_neg (by omega), if_pos (by omega)]
      simp only [e2]
      simp [stFixed]
    · have e2 : stRaw xs ⟨a + 32, 0, p⟩ 32 = ((xs.drop (a + 32)).take 32, ⟨a + 64, 0, p⟩) := by
        simp only [stRaw, if_true]
        rw [if_neg (by omega), if_neg (by omega)]
        rfl
      simp only [e2]
      simp only [stFixed, if_true]
      rw [if_neg (by omega), if_pos (by omega)]
      simp
theorem rd_long {xs : List UInt8} {a : Nat} {p : Int} (h : a + 65 ≤ xs.length) : rd xs ⟨a, 0, p⟩ = (resAt xs a, ⟨a + 65, 0, p⟩) := by
  have e1 : stRaw xs ⟨a, 0, p⟩ 32 = ((xs.drop a).take 32, ⟨a + 32, 0, p⟩) := by
    simp only [stRaw, if_true]
    rw [if_neg (by omega), if_neg (by omega)]
    rfl
  have e2 : stRaw xs ⟨a + 32, 0, p⟩ 32 = ((xs.drop (a + 32)).take 32, ⟨a + 64, 0, p⟩) := by
    simp only [stRaw, if_true]
    rw [if_neg (by omega), if_neg (by omega)]
    rfl
  have e3 : stFixed xs ⟨a + 64, 0, p⟩ 1 = (((by' xs (a + 64) : Nat) : Int), (⟨a + 65, 0, p⟩ : Rs)) := by
    simp only [stFixed, if_true]
    rw [if_neg (by omega), if_neg (by omega)]
    obtain ⟨c, rest, e, hc⟩ := drop_at (xs := xs) (a := a + 64) (by omega)
    simp only [e]
    rw [show ((c :: rest).take (1 : Int).toNat) = [c] from rfl, ← hc]
    simp [Pure.be]
  unfold rd resAt
  refine Prod.ext (Res.same ?_ ?_ ?_) ?_
  · simp only [e1]
  · simp only [e1, e2]
  · simp only [e1, e2, e3]
  · simp only [e1, e2, e3]
theorem rds_at (xs : List UInt8) (a : Nat) (p : Int) : ∀ k, (a + 65 * k ≤ xs.length ∧ rds xs ⟨a, 0, p⟩ k = ((List.range k).map fun i => resAt xs (a + 65 * i), ⟨a + 65 * k, 0, p⟩)) ∨ (xs.length < a + 65 * k ∧ (a ≤ xs.length → (rds xs ⟨a, 0, p⟩ k).2.e ≠ 0)) := by
  intro k
  induction k with
  | zero =>
    by_cases h : a ≤ xs.length
    · exact .inl ⟨by omega, by simp [rds]⟩
    · exact .inr ⟨by omega, fun h' => absurd h' h⟩
  | succ k ih =>
    rcases ih with ⟨h1, h2⟩ | ⟨h1, h2⟩
    · by_cases h3 : a + 65 * (k + 1) ≤ xs.length
      · refine .inl ⟨h3, ?_⟩
        simp only [rds, h2]
        rw [rd_long (by omega), List.range_succ, List.map_append]
        simp only [List.map_cons, List.map_nil]
        rw [show a + 65 * k + 65 = a + 65 * (k + 1) by omega]
      · refine .inr ⟨by omega, fun _ => ?_⟩
        simp only [rds, h2]
        exact rd_short (by omega)
    · refine .inr ⟨by omega, fun ha => ?_⟩
      simp only [rds]
      rw [rd_sticky (h2 ha)]
      exact h2 ha
/-- What the program reads is what the document says. -/
theorem parse_is {xs : List UInt8} {v : Nat} {s1 : Rs} (hN : stNumber xs ⟨0, 0, 0⟩ = ((v : Int), s1)) :
    parse xs = if v ≤ 32 ∧ fin xs (rds xs s1 v).2 = true ∧ valid (rds xs s1 v).1 = true then some (rds xs s1 v).1 else none := by
  simp only [stNumber, if_true, List.drop_zero] at hN
  rcases hq : Pure.num xs with ⟨v', k, c⟩
  rw [hq] at hN
  by_cases hx : xs.length = 0
  · have h1 : parse xs = none := by unfold parse; rw [if_neg (fun h => h.1 hx)]
    rw [h1]
    have hxs : xs = [] := List.eq_nil_of_length_eq_zero hx
    subst hxs
    have hf := Pure.num_facts []
    rw [hq] at hf
    simp only [List.length_nil] at hf
    have hc : c ≠ 0 := by omega
    simp only [hc, if_false, Prod.mk.injEq] at hN
    obtain ⟨hv, rfl⟩ := hN
    obtain rfl : v = 0 := by omega
    rw [if_neg]
    rintro ⟨_, h2, _⟩
    simp only [rds, fin, Bool.and_eq_true, decide_eq_true_eq] at h2
    have h3 : ((c : Nat) : Int) = 0 := of_decide_eq_true h2.1
    omega
  · by_cases hb : by' xs 0 < 128
    · have hl := num_low (xs := xs) (a := 0) (by omega) hb
      rw [List.drop_zero, hq] at hl
      simp only [Prod.mk.injEq] at hl
      obtain ⟨rfl, rfl, rfl⟩ := hl
      simp only [if_true, Prod.mk.injEq, Nat.zero_add] at hN
      obtain ⟨hv, rfl⟩ := hN
      obtain rfl : v = by' xs 0 := by omega
      unfold parse
      rcases rds_at xs 1 0 (by' xs 0) with ⟨h1, h2⟩ | ⟨h1, h2⟩
      · rw [h2]
        have hfin : fin xs ⟨1 + 65 * by' xs 0, 0, 0⟩ = decide (xs.length = 1 + 65 * by' xs 0) := by
          simp only [fin, stLeft, if_true, decide_true, Bool.true_and]
          congr 1
          simp only [eq_iff_iff]
          omega
        simp only [hfin, decide_eq_true_eq]
        by_cases h3 : xs.length = 1 + 65 * by' xs 0
        · simp only [h3, ne_eq, true_and]
          by_cases h4 : by' xs 0 ≤ 32
          · simp [h4]
          · simp [h4]
        · rw [if_neg (fun h => h3 h.2.2.1), if_neg (fun h => h3 h.2.1)]
      · have he := h2 (by omega)
        rw [if_neg (fun h => by omega), if_neg]
        rintro ⟨_, h3, _⟩
        simp only [fin, Bool.and_eq_true, decide_eq_true_eq] at h3
        exact he h3.1
    · have h1 : parse xs = none := by unfold parse; rw [if_neg (fun h => by omega)]
      rw [h1]
      by_cases hc : c = 0
      · subst hc
        simp only [if_true, Prod.mk.injEq] at hN
        obtain ⟨hv, _⟩ := hN
        have hv2 : v = v' := by omega
        rw [if_neg]
        rintro ⟨h2, _⟩
        obtain ⟨h3, h4, _⟩ := Pure.num_enc hq
        rw [Pure.enc_small (by omega)] at h3
        obtain ⟨cc, rest, e, hcc⟩ := drop_at (xs := xs) (a := 0) (by omega)
        rw [List.drop_zero] at e
        have hf := Pure.num_facts xs
        rw [hq] at hf
        obtain ⟨k', rfl⟩ : ∃ k', k = k' + 1 := ⟨k - 1, by simp only at hf; omega⟩
        rw [e, List.take_succ_cons] at h3
        injection h3 with h5 _
        rw [← h5] at hcc
        rw [UInt8.toNat_ofNat', Nat.mod_eq_of_lt (by omega)] at hcc
        omega
      · simp only [hc, if_false, Prod.mk.injEq] at hN
        obtain ⟨hv, rfl⟩ := hN
        obtain rfl : v = 0 := by omega
        rw [if_neg]
        rintro ⟨_, h2, _⟩
        simp only [rds, fin, Bool.and_eq_true, decide_eq_true_eq] at h2
        have h3 : ((c : Nat) : Int) = 0 := of_decide_eq_true h2.1
        omega
end Tb

theorem RdS.blk {w : World} {b : Nat} {ao : Option Addr} {cap : Nat} {xs : List UInt8} {s : Rs} (h : RdS w b ao cap xs s) (hx : xs ≠ []) (a : Addr) (ha : ao = some a) : a.block < w.heap.size := by
  obtain ⟨_, _, hr⟩ := h
  obtain ⟨b', off, e, hl, _⟩ := hr.sl.open hx
  rw [e] at ha; cases ha
  exact hl
/-- In readResult: the reader, the variable, the result's place. -/
structure Rx (w W : World) (b : Nat) (ao : Option Addr) (cap : Nat) (xs : List UInt8) (s : Rs) (e : Res) : Prop where
  rd : RdS W b ao cap xs s
  kp : Kept [b] w W
  lt : b < w.heap.size
  bl : xs ≠ [] → ∀ a, ao = some a → a.block < w.heap.size
  er : W.heap[w.heap.size + 1]? = some (.cells e.cells.toArray 26 (0, 0))
  rr : W.heap[w.heap.size]? = some (.cells zeroR 26 (0, 0))
section
variable {w W W' : World} {b : Nat} {ao : Option Addr} {cap : Nat} {xs : List UInt8} {s s' : Rs} {e : Res}
theorem Rx.start (h : RdS w b ao cap xs s) : Rx w ((w.alloc (.cells zeroR 26)).alloc (.cells zeroR 26)) b ao cap xs s res0 := by
  have hk : Kept [] w ((w.alloc (.cells zeroR 26)).alloc (.cells zeroR 26)) := ((Kept.refl [] w).alloc _).alloc _
  refine ⟨h.kept hk (by simp) (by simp), hk.mono (by simp), h.lt, fun hx a ha => h.blk hx a ha, ?_, ?_⟩
  · have := heap_new (w.alloc (.cells zeroR 26)) (.cells zeroR 26)
    have hsz : (w.alloc (.cells zeroR 26)).heap.size = w.heap.size + 1 := by simp
    rw [hsz] at this
    exact this
  · have h1 : Kept [] (w.alloc (.cells zeroR 26)) ((w.alloc (.cells zeroR 26)).alloc (.cells zeroR 26)) := (Kept.refl [] _).alloc _
    rw [h1.block w.heap.size (by simp) (by simp)]
    exact heap_new w _
theorem Rx.call (h : Rx w W b ao cap xs s e) (hk : Kept [b] W W') (hr : RdS W' b ao cap xs s') : Rx w W' b ao cap xs s' e := by
  have h1 := (Array.getElem?_eq_some_iff.1 h.er).1
  have := h.lt
  exact ⟨hr, h.kp.trans hk (by simp), h.lt, h.bl, by rw [hk.block _ h1 (by simp; omega)]; exact h.er, by rw [hk.block _ (by omega) (by simp; omega)]; exact h.rr⟩
theorem Rx.turn (h : Rx w W b ao cap xs s e) (hk : Kept [w.heap.size + 1] W W') {e' : Res} (hr : W'.heap[w.heap.size + 1]? = some (.cells e'.cells.toArray 26 (0, 0))) : Rx w W' b ao cap xs s e' := by
  have h1 := (Array.getElem?_eq_some_iff.1 h.er).1
  have := h.lt
  refine ⟨h.rd.kept hk (by simp; omega) (fun hx a ha => by have := h.bl hx a ha; simp; omega), ?_, h.lt, h.bl, hr, by rw [hk.block _ (by omega) (by simp)]; exact h.rr⟩
  refine ⟨hk.os.trans h.kp.os, hk.tape.trans h.kp.tape, hk.output.trans h.kp.output, Nat.le_trans h.kp.size hk.size, fun k hk1 hk2 => ?_⟩
  rw [hk.block k (Nat.lt_of_lt_of_le hk1 h.kp.size) (by simp; omega)]
  exact h.kp.block k hk1 hk2
theorem Rx.cell (h : Rx w W b ao cap xs s e) (j : Nat) : W.cell? ⟨w.heap.size + 1, j, none⟩ = e.cells[j]? := by
  rw [cell_of_row _ _ _ _ _ _ h.er]; simp
theorem Rx.free (h : Rx w W b ao cap xs s e) (j : Nat) : W.frozen? ⟨w.heap.size + 1, j, none⟩ = false := frozen_of_row _ _ _ _ _ h.er
theorem Rx.drewN (h : Rx w W b ao cap xs s e) (n : Nat) : Rx w (W.drewN n) b ao cap xs s e := ⟨h.rd.drewN n, h.kp.drewN n, h.lt, h.bl, h.er, h.rr⟩
end
theorem raw_len (xs : List UInt8) (s : Rs) : (stRaw xs s 32).1 = [] ∨ (stRaw xs s 32).1.length = 32 := by
  unfold stRaw
  repeat' split
  all_goals first | (left; rfl) | (right; simp; omega)
def resA (A : List UInt8) : Res := ⟨Tb.pad A, List.replicate 32 0, 0, Tb.pad_len _, rfl, rfl⟩
def resB (A B : List UInt8) : Res := ⟨Tb.pad A, Tb.pad B, 0, Tb.pad_len _, Tb.pad_len _, rfl⟩
def resC (A B : List UInt8) (c : Int) (h : (Lit.int .i64 c).wf = true) : Res := ⟨Tb.pad A, Tb.pad B, c, Tb.pad_len _, Tb.pad_len _, h⟩
theorem resA_cells (A : List UInt8) : (resA A).cells = bys (Tb.pad A) ++ (bys (List.replicate 32 0) ++ [.int .i64 0]) := rfl
theorem resB_cells (A B : List UInt8) : (resB A B).cells = bys (Tb.pad A) ++ (bys (Tb.pad B) ++ [.int .i64 0]) := rfl
theorem cells_a {A : List UInt8} (h : A.length = 32) : (res0.cells.toArray.toList.take 0 ++ bys A ++ res0.cells.toArray.toList.drop (0 + A.length)) = (resA A).cells := by
  rw [resA_cells, Tb.pad_eq h, h]
  rfl
theorem cells_b {A B : List UInt8} (h : B.length = 32) : ((resA A).cells.toArray.toList.take 32 ++ bys B ++ (resA A).cells.toArray.toList.drop (32 + B.length)) = (resB A B).cells := by
  rw [resB_cells, Tb.pad_eq h, h, resA_cells]
  have h1 : (bys (Tb.pad A)).length = 32 := by rw [bys_length, Tb.pad_len]
  generalize bys (Tb.pad A) = Q at h1
  rw [List.take_append_of_le_length (by omega), List.take_of_length_le (by omega), List.drop_append, h1, List.drop_of_length_le (by omega), List.nil_append, List.append_assoc]
  rfl

set_option maxHeartbeats 3200000 in
set_option maxRecDepth 100000 in
theorem readResult_ok {w : World} {b : Nat} {ao : Option Addr} {cap : Nat} {xs : List UInt8} {s : Rs} (h : RdS w b ao cap xs s) :
    Calls Try.prog 41 #[.pointer (some ⟨b, 0, none⟩)] w fun r w' => r = .returned (.agg (Tb.rd xs s).1.cells.toArray) ∧ RdS w' b ao cap xs (Tb.rd xs s).2 ∧ Kept [b] w w' := by
  have hz := Try.zeroRes
  have H1 := hide (Rx.start h)
  have HRD : Hid ((Tb.rd xs s) = (resC (stRaw xs s 32).1 (stRaw xs (stRaw xs s 32).2 32).1 (stFixed xs (stRaw xs (stRaw xs s 32).2 32).2 1).1 (Tb.wf_byte (Tb.fix_range _ _)), (stFixed xs (stRaw xs (stRaw xs s 32).2 32).2 1).2)) := rfl
  have Q1 : Hid (∀ A s1, stRaw xs s 32 = (A, s1) → A = [] ∨ A.length = 32) := fun A s1 e => by have := raw_len xs s; rw [e] at this; exact this
  clear h
  rcases hq1 : stRaw xs s 32 with ⟨A, s1⟩
  rcases hq2 : stRaw xs s1 32 with ⟨B, s2⟩
  rcases hq3 : stFixed xs s2 1 with ⟨c, s3⟩
  have hcw : (Lit.int .i64 c).wf = true := by have := Tb.fix_range xs s2; rw [hq3] at this; exact Tb.wf_byte this
  have HF : Hid (Tb.rd xs s = (resC A B c hcw, s3)) := by
    show _ = _
    rw [HRD.out]
    simp only [hq1, hq2, hq3]
  have L1 : Hid (A = [] ∨ A.length = 32) := Q1.out A s1 hq1
  have L2 : Hid (B = [] ∨ B.length = 32) := by have := raw_len xs s1; rw [hq2] at this; exact this
  have X1 := hide hq1
  have X2 := hide hq2
  have X3 := hide hq3
  have E1 : A.length = 32 → _ := fun h => cells_a (A := A) h
  have E2 : B.length = 32 → _ := fun h => cells_b (A := A) (B := B) h
  clear hq1 hq2 hq3 Q1 HRD
  go_enter Try.func41, Try.ntmps41
  go_upto_region 2 with (fail)
  generalize (w.alloc (.cells zeroR 26)).alloc (.cells zeroR 26) = W1 at H1 ⊢
  refine wp_region_held_drew (S := fun w' => True) (by kernel_rfl) trivial (fun h0 => ?_)
  have H0 : Hid (Rx w W1.drew b ao cap xs s res0) := H1.out.drewN 1
  clear H1
  generalize World.drew W1 = v10 at H0 h0 ⊢
  refine wpAnyH_take (i := 0) (v := .pointer (some ⟨w.heap.size + 1, 0, none⟩)) rfl (by kernel_rfl) (by kernel_rfl) (by kernel_rfl) (fun _ _ _ h => h) (Or.inl ⟨by rfl, fun w hSw => by go_simp⟩) h0 ?_
  try simp only [List.getElem_toArray, List.getElem_cons_zero, List.getElem_cons_succ, Act.put, List.setIfInBounds_toArray, List.set_cons_zero, List.set_cons_succ]
  refine wpAnyH_take (i := 1) (v := .slice (some ⟨w.heap.size + 1, 0, none⟩) 32 32) rfl (by kernel_rfl) (by kernel_rfl) (by kernel_rfl) (fun _ _ _ h => h) (Or.inl ⟨by rfl, fun W hSw => by have c := Try.slice32 W (w.heap.size + 1) 0; go_simp⟩) h0 ?_
  try simp only [List.getElem_toArray, List.getElem_cons_zero, List.getElem_cons_succ, Act.put, List.setIfInBounds_toArray, List.set_cons_zero, List.set_cons_succ]
  refine wpAnyH_take (i := 2) (v := .pointer (some ⟨b, 0, none⟩)) rfl (by kernel_rfl) (by kernel_rfl) (by kernel_rfl) (fun _ _ _ h => h) (Or.inl ⟨by rfl, fun w hSw => by go_simp⟩) h0 ?_
  try simp only [List.getElem_toArray, List.getElem_cons_zero, List.getElem_cons_succ, Act.put, List.setIfInBounds_toArray, List.set_cons_zero, List.set_cons_succ]
  refine wpAnyH_ready (rs := [3]) (by kernel_rfl) (by simp) (AllReadyH.cons (i := 3) rfl (fun K hK => ?_) AllReadyH.nil)
  rw [if_pos (by rfl)]
  go_simp
  have hrw := raw_st H0.out.rd 32
  rw [X1.out] at hrw
  refine hrw.mono ?_
  rintro r v11 ⟨⟨ao5, cap5, rfl, hfr5⟩, hk5, hr5⟩
  have hx5 := H0.out.call hk5 hr5
  refine hK.out _ _ trivial (fun h1 => ?_)
  clear hK K hrw hk5 hr5 H0
  try simp only [List.getElem_toArray, List.getElem_cons_zero, List.getElem_cons_succ, Act.put, List.setIfInBounds_toArray, List.set_cons_zero, List.set_cons_succ]
  refine wpAnyH_ready (rs := [4]) (by kernel_rfl) (by simp) (AllReadyH.cons (i := 4) rfl (fun K hK => ?_) AllReadyH.nil)
  have hcp : ∃ v2, (Builtin.copy_ #[35, 35] 3 #[.slice (some ⟨w.heap.size + 1, 0, none⟩) 32 32, .slice ao5 A.length cap5]).run Try.prog v11 = .ok (.int .i64 A.length) v2 ∧ Rx w v2 b ao cap xs s1 (resA A) := by
    rcases L1.out with h3 | h3
    · subst h3
      refine ⟨v11, ?_, hx5⟩
      exact run_copy_none v11 35 35 3 5 _ ao5 32 32 0 cap5 Try.underlying35 Try.sizeByte (by simp)
    · have hne : A ≠ [] := by rintro rfl; simp at h3
      obtain ⟨g5, o5, rfl, hg5, hc5⟩ := hfr5.1.open hne
      have hcr := run_copy_row (P := Try.prog) v11 35 35 3 5 (w.heap.size + 1) 0 32 32 ⟨g5, o5, none⟩ A.length cap5 _ _ (bys A) Try.underlying35 Try.sizeByte hx5.er (by rw [bys_length, h3]; rfl) (fun j v hv => by
        obtain ⟨hj, rfl⟩ := bys_get hv
        rw [Addr.add_mid]; exact hc5 j hj) (by simp [bys_length, h3, Res.len]) (bys_oneCell A)
      rw [bys_length] at hcr
      refine ⟨_, hcr, ?_⟩
      refine hx5.turn (kept_row v11 _ _) ?_
      rw [setRow_heap _ _ _ _ _ _ hx5.er]
      exact congrArg (fun q : List Value => some (Obj.cells q.toArray 26 (0, 0))) (E1 h3)
  obtain ⟨v12, hrun, hx6⟩ := hcp
  rw [if_pos (by rfl)]
  refine Lib.wp_copy_run _ _ _ 35 35 rfl _ _ rfl rfl hrun ?_
  refine hK.out _ _ trivial (fun h2 => ?_)
  clear hK K hrun hx5 hfr5
  try simp only [List.getElem_toArray, List.getElem_cons_zero, List.getElem_cons_succ, Act.put, List.setIfInBounds_toArray, List.set_cons_zero, List.set_cons_succ]
  refine wpAnyH_done (by kernel_rfl) ?_ _
  have H2 : Hid (Rx w v12 b ao cap xs s1 (resA A)) := hx6
  clear hx6 h0 h1 h2 E1
  go_upto_region 3 with (fail)
  refine wp_region_held_drew (S := fun w' => True) (by kernel_rfl) trivial (fun h0 => ?_)
  have H0 : Hid (Rx w v12.drew b ao cap xs s1 (resA A)) := H2.out.drewN 1
  clear H2
  generalize World.drew v12 = v20 at H0 h0 ⊢
  refine wpAnyH_take (i := 0) (v := .pointer (some ⟨w.heap.size + 1, 32, none⟩)) rfl (by kernel_rfl) (by kernel_rfl) (by kernel_rfl) (fun _ _ _ h => h) (Or.inl ⟨by rfl, fun w hSw => by go_simp⟩) h0 ?_
  try simp only [List.getElem_toArray, List.getElem_cons_zero, List.getElem_cons_succ, Act.put, List.setIfInBounds_toArray, List.set_cons_zero, List.set_cons_succ]
  refine wpAnyH_take (i := 1) (v := .slice (some ⟨w.heap.size + 1, 32, none⟩) 32 32) rfl (by kernel_rfl) (by kernel_rfl) (by kernel_rfl) (fun _ _ _ h => h) (Or.inl ⟨by rfl, fun W hSw => by have c := Try.slice32 W (w.heap.size + 1) 32; go_simp⟩) h0 ?_
  try simp only [List.getElem_toArray, List.getElem_cons_zero, List.getElem_cons_succ, Act.put, List.setIfInBounds_toArray, List.set_cons_zero, List.set_cons_succ]
  refine wpAnyH_take (i := 2) (v := .pointer (some ⟨b, 0, none⟩)) rfl (by kernel_rfl) (by kernel_rfl) (by kernel_rfl) (fun _ _ _ h => h) (Or.inl ⟨by rfl, fun w hSw => by go_simp⟩) h0 ?_
  try simp only [List.getElem_toArray, List.getElem_cons_zero, List.getElem_cons_succ, Act.put, List.setIfInBounds_toArray, List.set_cons_zero, List.set_cons_succ]
  refine wpAnyH_ready (rs := [3]) (by kernel_rfl) (by simp) (AllReadyH.cons (i := 3) rfl (fun K hK => ?_) AllReadyH.nil)
  rw [if_pos (by rfl)]
  go_simp
  have hrw := raw_st H0.out.rd 32
  rw [X2.out] at hrw
  refine hrw.mono ?_
  rintro r v21 ⟨⟨ao5, cap5, rfl, hfr5⟩, hk5, hr5⟩
  have hx5 := H0.out.call hk5 hr5
  refine hK.out _ _ trivial (fun h1 => ?_)
  clear hK K hrw hk5 hr5 H0
  try simp only [List.getElem_toArray, List.getElem_cons_zero, List.getElem_cons_succ, Act.put, List.setIfInBounds_toArray, List.set_cons_zero, List.set_cons_succ]
  refine wpAnyH_ready (rs := [4]) (by kernel_rfl) (by simp) (AllReadyH.cons (i := 4) rfl (fun K hK => ?_) AllReadyH.nil)
  have hcp : ∃ v2, (Builtin.copy_ #[35, 35] 3 #[.slice (some ⟨w.heap.size + 1, 32, none⟩) 32 32, .slice ao5 B.length cap5]).run Try.prog v21 = .ok (.int .i64 B.length) v2 ∧ Rx w v2 b ao cap xs s2 (resB A B) := by
    rcases L2.out with h3 | h3
    · subst h3
      refine ⟨v21, ?_, hx5⟩
      exact run_copy_none v21 35 35 3 5 _ ao5 32 32 0 cap5 Try.underlying35 Try.sizeByte (by simp)
    · have hne : B ≠ [] := by rintro rfl; simp at h3
      obtain ⟨g5, o5, rfl, hg5, hc5⟩ := hfr5.1.open hne
      have hcr := run_copy_row (P := Try.prog) v21 35 35 3 5 (w.heap.size + 1) 32 32 32 ⟨g5, o5, none⟩ B.length cap5 _ _ (bys B) Try.underlying35 Try.sizeByte hx5.er (by rw [bys_length, h3]; rfl) (fun j v hv => by
        obtain ⟨hj, rfl⟩ := bys_get hv
        rw [Addr.add_mid]; exact hc5 j hj) (by simp [bys_length, h3, Res.len]) (bys_oneCell B)
      rw [bys_length] at hcr
      refine ⟨_, hcr, ?_⟩
      refine hx5.turn (kept_row v21 _ _) ?_
      rw [setRow_heap _ _ _ _ _ _ hx5.er]
      exact congrArg (fun q : List Value => some (Obj.cells q.toArray 26 (0, 0))) (E2 h3)
  obtain ⟨v22, hrun, hx6⟩ := hcp
  rw [if_pos (by rfl)]
  refine Lib.wp_copy_run _ _ _ 35 35 rfl _ _ rfl rfl hrun ?_
  refine hK.out _ _ trivial (fun h2 => ?_)
  clear hK K hrun hx5 hfr5
  try simp only [List.getElem_toArray, List.getElem_cons_zero, List.getElem_cons_succ, Act.put, List.setIfInBounds_toArray, List.set_cons_zero, List.set_cons_succ]
  refine wpAnyH_done (by kernel_rfl) ?_ _
  have H3 : Hid (Rx w v22 b ao cap xs s2 (resB A B)) := hx6
  clear hx6 h0 h1 h2 E2
  have hf := rfixed_st H3.out.rd 1
  rw [X3.out] at hf
  go_upto_region 5 with (go_at_call 55; refine hf.mono ?_; rintro r w4 ⟨rfl, hk4, hr4⟩; have hx4 := H3.out.call hk4 hr4; have H4 := hide hx4; have c4 : w4.cell? ⟨w.heap.size + 1, 64, none⟩ = some (.int .i64 0) := (by rw [hx4.cell 64]; exact Res.cod _); have f4 := hx4.free 64; clear hf hk4 hr4 hx4)
  have H5 : Hid (Rx w (w4.setCell ⟨w.heap.size + 1, 64, none⟩ (.int .i64 c)) b ao cap xs s3 (resC A B c hcw)) := by
    refine H4.out.turn ((Kept.refl _ w4).setCell (by simp) _) ?_
    rw [heap_setCell_same w4 _ 64 _ _ _ H4.out.er]
    congr 2
    have h65 := (resB A B).len
    apply Array.ext'
    simp only [Array.toList_setIfInBounds, List.toList_toArray]
    have h1 : (bys (Tb.pad A)).length = 32 := by rw [bys_length, Tb.pad_len]
    have h2 : (bys (Tb.pad B)).length = 32 := by rw [bys_length, Tb.pad_len]
    unfold resB resC Res.cells
    simp only
    rw [List.set_append_right _ _ (by omega), h1, List.set_append_right _ _ (by omega), h2]
    rfl
  clear c4 f4 H4 hz
  generalize w4.setCell ⟨w.heap.size + 1, 64, none⟩ (.int .i64 c) = w5 at H5 ⊢
  obtain ⟨e, he⟩ : ∃ e, resC A B c hcw = e := ⟨_, rfl⟩
  rw [he] at H5 HF
  clear he
  have er := H5.out.er
  have rr := H5.out.rr
  have hia : (Try.prog.info? 26).map (·.size) = some e.cells.toArray.size := by rw [res_size]; exact Try.infoResS
  have hil : (Try.prog.info? 26).map (·.size) = some e.cells.length := by rw [e.len]; exact Try.infoResS
  have rE := res_range er
  go_wp2_with (first
    | refine wpList_load_mid rfl 26 (.tmp 3) rfl (w.heap.size + 1) 0 rfl e.cells _ rE Try.underlying26 rfl hil ?_
    | refine wpList_store_rowTo rfl 26 (.tmp 2) (.tmp 17) rfl rfl w.heap.size e.cells.toArray rfl rfl 26 zeroR rr hia (zero_size e) (res_all e) ?_)
  have hkk : Kept [w.heap.size] w5 (w5.setRow w.heap.size e.cells.toArray) := kept_row w5 _ _
  refine ret_row rfl rfl w.heap.size 26 e.cells.toArray (0, 0) _ rfl (setRow_heap _ _ _ _ _ _ rr) Try.underlying26 rfl hia ?_
  have hlt := H5.out.lt
  rw [HF.out]
  refine ⟨rfl, H5.out.rd.kept hkk (by simp; omega) (fun hx a ha => by have := H5.out.bl hx a ha; simp; omega), ?_⟩
  refine ⟨hkk.os.trans H5.out.kp.os, hkk.tape.trans H5.out.kp.tape, hkk.output.trans H5.out.kp.output, Nat.le_trans H5.out.kp.size hkk.size, fun k hk1 hk2 => ?_⟩
  rw [hkk.block k (Nat.lt_of_lt_of_le hk1 H5.out.kp.size) (by simp; omega)]
  exact H5.out.kp.block k hk1 hk2
theorem one_row' {w : World} {g : Nat} {e : Res} {t : TypeId} {f : Nat × Nat} (h : w.heap[g]? = some (.cells e.cells.toArray t f)) : Ress w (some ⟨g, 0, none⟩) [e] := fun i hi => by
  obtain rfl : i = 0 := by simpa using hi
  exact ⟨g, 0, rfl, by rw [Nat.zero_mul]; exact res_range h⟩
/-- append(results, one): and what is kept. -/
theorem run_app3R (w : World) (base : Nat) (v : Value) (L : List Res) (e : Res) (h : OwnR w base v L) (hl : (L.length + 1) * 72 ≤ 140737488355328) (hb : base ≤ w.heap.size) :
    ∃ v' w', (Builtin.append_ #[22, 22] 22 #[v, .slice (some ⟨w.heap.size, 0, none⟩) 1 1]).run Try.prog (w.alloc (.cells e.cells.toArray 26)) = .ok v' w' ∧ OwnR w' base v' (L ++ [e]) ∧ Kept v.ownBlock.toList w w' := by
  have kN : Kept [] w (w.alloc (.cells e.cells.toArray 26)) := (Kept.refl [] w).alloc _
  obtain ⟨v', w', hrun, ho, hk, hbl⟩ := run_appR (w.alloc (.cells e.cells.toArray 26)) base v L (h.kept kN (by simp)) (some ⟨w.heap.size, 0, none⟩) 1 1 [e] (one_row' (heap_new w _)) rfl (.inr ⟨_, rfl⟩) (by simp) hl (Nat.le_trans hb kN.size)
  exact ⟨v', w', hrun, ho, (kN.mono (l2 := v.ownBlock.toList) (by simp)).trans (hk v.ownBlock.toList (by simp)) (fun i hi _ => hi)⟩

set_option maxHeartbeats 3200000 in
set_option maxRecDepth 100000 in
theorem read_many {w : World} {b : Nat} {ao : Option Addr} {cap : Nat} {xs : List UInt8} {v : Nat} {s1 : Rs} (h : RdS w b ao cap xs ⟨0, 0, 0⟩) (hN : stNumber xs ⟨0, 0, 0⟩ = ((v : Int), s1)) (hv : 32 < v) :
    Calls Try.prog 25 #[.pointer (some ⟨b, 0, none⟩)] w fun r w' => r = .returned (.tuple #[.slice none 0 0, .bool false]) ∧ Kept [b] w w' := by
  have hnu := rnumber_st h
  rw [hN] at hnu
  have hvz : (32 : Int) < (v : Int) := by omega
  clear h hN
  go_enter Try.func25, Try.ntmps25
  go_wp2_with (go_at_call 40; refine hnu.mono ?_; rintro r w1 ⟨rfl, hk1, hr1⟩; have HK := hide hk1; clear hnu hk1 hr1)
  go_ret2
  exact ⟨rfl, HK.out⟩

set_option maxHeartbeats 6400000 in
set_option maxRecDepth 100000 in
theorem read_few {w : World} {b : Nat} {ao : Option Addr} {cap : Nat} {xs : List UInt8} {v : Nat} {s1 : Rs} (h : RdS w b ao cap xs ⟨0, 0, 0⟩) (hN : stNumber xs ⟨0, 0, 0⟩ = ((v : Int), s1)) (hv : v ≤ 32) :
    Calls Try.prog 25 #[.pointer (some ⟨b, 0, none⟩)] w fun r w' => ∃ x, r = .returned (.tuple #[x, .bool (Tb.fin xs (Tb.rds xs s1 v).2)]) ∧ OwnR w' w.heap.size x (Tb.rds xs s1 v).1 ∧ Kept [b] w w' := by
  have hnu := rnumber_st h
  rw [hN] at hnu
  have hvz : ¬ (32 : Int) < (v : Int) := by omega
  have HLT : Hid (b < w.heap.size) := h.lt
  have HBL : Hid (xs ≠ [] → ∀ a, ao = some a → a.block < w.heap.size) := fun hx a ha => h.blk hx a ha
  clear h hN
  go_enter Try.func25, Try.ntmps25
  go_wp2_with (go_at_call 40; refine hnu.mono ?_; rintro r w1 ⟨rfl, hk1, hr1⟩; have HK1 : Hid (RdS w1 b ao cap xs s1 ∧ Kept [b] w w1) := ⟨hr1, hk1⟩; clear hnu hk1 hr1)
  go_loopw [5, 13] (fun x y wr => ∃ k : Nat, k ≤ v ∧ y = .int .i64 k ∧ Hid (OwnR wr w.heap.size x (Tb.rds xs s1 k).1) ∧ Hid (RdS wr b ao cap xs (Tb.rds xs s1 k).2) ∧ Hid (Kept [b] w wr)) (fun x y wr => v - (intOf y).toNat)
  case atStart => exact ⟨0, Nat.zero_le _, rfl, OwnR.nil _ _, HK1.out.1, HK1.out.2⟩
  case round =>
    clear HK1
    obtain ⟨k, hk, rfl, HO, HR, HK⟩ := hrel
    by_cases hlt : k < v
    · have hkz : (k : Int) < (v : Int) := by omega
      have hre := readResult_ok HR.out
      have HNX : Hid (Tb.rds xs s1 (k + 1) = ((Tb.rds xs s1 k).1 ++ [(Tb.rd xs (Tb.rds xs s1 k).2).1], (Tb.rd xs (Tb.rds xs s1 k).2).2)) := rfl
      have HLn : Hid ((Tb.rds xs s1 k).1.length = k) := Tb.rds_len xs s1 k
      generalize Tb.rd xs (Tb.rds xs s1 k).2 = q at hre HNX
      generalize Tb.rds xs s1 k = p at HO HR HNX HLn
      obtain ⟨e, s2⟩ := q
      obtain ⟨L, s0⟩ := p
      simp only at hre
      go_wp2_with (first
        | (go_at_call 41; refine hre.mono ?_; rintro r w2 ⟨rfl, hr2, hk2⟩; have H2 : Hid (RdS w2 b ao cap xs s2 ∧ Kept [b] wr w2) := ⟨hr2, hk2⟩; clear hre hr2 hk2; have o2 : OwnR w2 w.heap.size u5 L := HO.out.kept H2.out.2 (fun g hg => by have := (HO.out.lt hg).1; have := HLT.out; simp; omega); obtain ⟨v3, w3, hrun, o3, k3⟩ := run_app3R w2 w.heap.size u5 L e o2 (by have : L.length = k := HLn.out; omega) (Nat.le_trans HK.out.size H2.out.2.size); have H3 := hide (And.intro o2 (And.intro o3 k3)); clear o2 o3 k3)
        | refine wpList_plain rfl (fun _ hK => wp_build1 (.tmp 17) rfl e rfl (hK _ _ ?_))
        | refine wpList_app_run rfl (.tmp 15) (.tmp 18) 22 22 rfl u5 (.slice (some ⟨w2.heap.size, 0, none⟩) 1 1) rfl rfl v3 w3 hrun ?_)
      go_roundw
      case rel =>
        have hob : ∀ g, u5.ownBlock = some g → w.heap.size ≤ g := fun g hg => (H3.out.1.lt hg).1
        refine ⟨k + 1, by omega, by go_num, ?_, ?_, ?_⟩
        · show OwnR _ _ _ _
          rw [HNX.out]; exact H3.out.2.1
        · show RdS _ _ _ _ _ _
          rw [HNX.out]
          refine H2.out.1.kept H3.out.2.2 (fun hm => ?_) (fun hx a ha hm => ?_)
          · have := hob b (by simpa using hm); have := HLT.out; omega
          · have := hob a.block (by simpa using hm); have := HBL.out hx a ha; omega
        · exact (HK.out.trans H2.out.2 (by simp)).trans H3.out.2.2 (fun g hg hl => by have := hob g (by simpa using hg); omega)
      case measure => simp [intOf]; omega
    · obtain rfl : k = v := by omega
      have her := err_st HR.out
      have hle := fun n => left_st (HR.out.drewN n)
      rcases hq : Tb.rds xs s1 k with ⟨L, s2⟩
      rw [hq] at her HO HR
      simp only [hq] at hle
      have HQ := hide hq
      clear hq
      simp only at her
      by_cases he : s2.e = 0
      · have hez : (s2.e == 0) = true := by simp [he]
        obtain ⟨m, hm⟩ : ∃ m, stLeft xs s2 = m := ⟨_, rfl⟩
        rw [he] at her
        simp only [hm] at hle
        have HF : Hid (Tb.fin xs s2 = (m == 0)) := by
          show _ = _
          unfold Tb.fin
          rw [he, hm]
          simp
          rfl
        clear hez hm he
        obtain ⟨z, hz⟩ : ∃ z, (m == 0) = z := ⟨_, rfl⟩
        go_wp2_with (first
          | (go_at_call 42; refine her.mono ?_; rintro r w2 ⟨rfl, n2, rfl⟩; have hle2 := hle n2; clear her hle)
          | (go_at_call 43; refine hle2.mono ?_; rintro r w3 ⟨rfl, n3, rfl⟩; clear hle2))
        go_ret2
        rw [HQ.out]
        refine ⟨u5, ?_, (HO.out.kept ((Kept.refl [] wr).drewN _) (by simp)), HK.out.drewN _⟩
        simp only [HF.out, hz]
        rfl
      · have hez : (s2.e == 0) = false := by simp [he]
        have HF : Hid (Tb.fin xs s2 = false) := by show _ = _; unfold Tb.fin; simp [he]
        generalize s2.e = E at *
        clear he
        go_wp2_with (go_at_call 42; refine her.mono ?_; rintro r w2 ⟨rfl, n2, rfl⟩; clear her hle)
        go_ret2
        rw [HQ.out]
        refine ⟨u5, ?_, (HO.out.kept ((Kept.refl [] wr).drewN n2) (by simp)), HK.out.drewN n2⟩
        simp only [HF.out]
        rfl

set_option maxHeartbeats 3200000 in
set_option maxRecDepth 100000 in
theorem parse_ok (ao : Option Addr) (n cap : Nat) (xs : List UInt8) (w : World) (hn : xs.length = n) (hm : n ≤ 140737488355328) (hs : Sl w ao xs) (h0 : ao = none → xs = [] ∧ cap = 0) :
    Calls Try.prog 8 #[.slice ao n cap] w fun r w' => ToldR w w' r (Tb.code (Tb.parse xs).isSome) ((Tb.parse xs).getD []) := by
  have hrd := read_any ao n cap xs w hn (by omega) hs h0
  obtain ⟨v, s1, hN⟩ : ∃ (v : Nat) (s1 : Rs), stNumber xs ⟨0, 0, 0⟩ = ((v : Int), s1) := by
    unfold stNumber
    simp only [if_true]
    split
    · exact ⟨_, _, rfl⟩
    · exact ⟨0, _, rfl⟩
  have HP := hide (Tb.parse_is hN)
  have HN := hide hN
  clear hs h0 hN
  by_cases hv : 32 < v
  · have HPN : Hid (Tb.parse xs = none) := by show _ = _; rw [HP.out, if_neg (fun h => by omega)]
    clear HP
    go_enter Try.func8, Try.ntmps8
    go_wp2_with (first
      | (go_at_call 26; refine hrd.mono ?_; rintro r w1 ⟨b, ao', cap', rfl, hb, hbl, hbl2, hR, hk1⟩; have hre := read_many (w := w1) (b := b) (ao := ao') (cap := cap') (xs := xs) ⟨0, fun _ => rfl, hR⟩ HN.out hv; have H1 := hide (And.intro hb hk1); clear hrd hb hbl hbl2 hR hk1)
      | (go_at_call 25; refine hre.mono ?_; rintro r w2 ⟨rfl, hk2⟩; have H2 := hide hk2; clear hre hk2))
    go_ret2
    rw [HPN.out]
    exact ⟨⟨_, rfl, OwnR.nil _ _⟩, H1.out.2.trans H2.out (fun i hi hl => by simp at hi; have := H1.out.1; omega)⟩
  · have hv' : v ≤ 32 := by omega
    replace HP : Hid (Tb.parse xs = if Tb.fin xs (Tb.rds xs s1 v).2 = true ∧ Tb.valid (Tb.rds xs s1 v).1 = true then some (Tb.rds xs s1 v).1 else none) := by show _ = _; rw [HP.out]; simp only [hv', true_and]
    have HLn : Hid ((Tb.rds xs s1 v).1.length ≤ 32) := by show _ ≤ _; rw [Tb.rds_len]; exact hv'
    have HRF : Hid (∀ (w1 : World) (b : Nat) (ao' : Option Addr) (cap' : Nat), RdS w1 b ao' cap' xs ⟨0, 0, 0⟩ → Calls Try.prog 25 #[.pointer (some ⟨b, 0, none⟩)] w1 fun r w' => ∃ x, r = .returned (.tuple #[x, .bool (Tb.fin xs (Tb.rds xs s1 v).2)]) ∧ OwnR w' w1.heap.size x (Tb.rds xs s1 v).1 ∧ Kept [b] w1 w') := fun w1 b ao' cap' h => read_few h HN.out hv'
    generalize Tb.fin xs (Tb.rds xs s1 v).2 = F at HP HRF
    generalize (Tb.rds xs s1 v).1 = L at HP HRF HLn
    clear HN
    go_enter Try.func8, Try.ntmps8
    go_upto_region 2 with (first
      | (go_at_call 26; refine hrd.mono ?_; rintro r w1 ⟨b, ao', cap', rfl, hb, hbl, hbl2, hR, hk1⟩; have hre := HRF.out w1 b ao' cap' ⟨0, fun _ => rfl, hR⟩; have H1 := hide (And.intro hb hk1); clear hrd hb hbl hbl2 hR hk1)
      | (go_at_call 25; refine hre.mono ?_; rintro r w2 ⟨x, rfl, ho2, hk2⟩; have H2 := hide (And.intro ho2 hk2); clear hre ho2 hk2))
    clear HRF
    have H3 : Hid (OwnR w2 w.heap.size x L ∧ Kept [] w w2) := ⟨H2.out.1.base H1.out.2.size, H1.out.2.trans H2.out.2 (fun i hi hl => by simp at hi; have := H1.out.1; omega)⟩
    clear H1 H2
    cases F with
    | false =>
      have HPN : Hid (Tb.parse xs = none) := by show _ = _; rw [HP.out, if_neg (by simp)]
      go_wp2
      go_ret2
      rw [HPN.out]
      exact ⟨⟨_, rfl, OwnR.nil _ _⟩, H3.out.2⟩
    | true =>
      obtain ⟨bo, c, hx, _, hR, hao, _⟩ := H3.out.1.ress
      subst hx
      have hva := valid_ok bo L.length c L w2 rfl hR (by cases bo with
        | none => exact .inl rfl
        | some a => obtain ⟨g, rfl, _⟩ := hao a rfl; exact .inr ⟨_, rfl⟩) (by have := HLn.out; omega)
      clear hR hao
      obtain ⟨V, hV⟩ : ∃ V, Tb.valid L = V := ⟨_, rfl⟩
      rw [hV] at hva
      simp only [true_and, hV] at HP
      clear hV
      cases V with
      | false =>
        have HPN : Hid (Tb.parse xs = none) := by show _ = _; rw [HP.out, if_neg (by simp)]
        go_wp2_with (go_at_call 13; refine hva.mono ?_; rintro r w3 ⟨rfl, hk3⟩; have K3 := hide hk3; clear hva hk3)
        go_ret2
        rw [HPN.out]
        exact ⟨⟨_, rfl, OwnR.nil _ _⟩, H3.out.2.trans K3.out (by simp)⟩
      | true =>
        have HPN : Hid (Tb.parse xs = some L) := by show _ = _; rw [HP.out, if_pos rfl]
        go_wp2_with (go_at_call 13; refine hva.mono ?_; rintro r w3 ⟨rfl, hk3⟩; have K3 := hide hk3; clear hva hk3)
        go_ret2
        rw [HPN.out]
        exact ⟨⟨_, rfl, H3.out.1.kept K3.out (by simp)⟩, H3.out.2.trans K3.out (by simp)⟩
end Go.Proofs.Ytmhnjhnnaciokaa
