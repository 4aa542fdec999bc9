import Derived.Test.YtngaimahhgmciabGreatDoorNfv
import Derived.Test.YtngaimahhgmciabGreatDoorRd5v
import Derived.Lib.SlBuf
import Derived.Lib.BufferRead
import Derived.Laws.IdiomStrings
import Derived.Laws.CopyRow
import Derived.Laws.IdiomCopy
namespace Go.Proofs.YtngaimahhgmciabGreatDoor
section
set_option linter.unusedVariables false
set_option linter.unusedSimpArgs false

namespace Tn

/-- The entry that stands at a place, and the place behind it. -/
def entAt (xs : List UInt8) (a : Nat) : Option (Ent × Nat) :=
  if xs.length < a + 2 then none
  else if 32 < by' xs (a + 1) ∨ xs.length < a + 2 + by' xs (a + 1) + 32 then none
  else some (⟨(xs.drop (a + 2)).take (by' xs (a + 1)), by' xs a, (xs.drop (a + 2 + by' xs (a + 1))).take 32⟩, a + 2 + by' xs (a + 1) + 32)

/-- The first so many entries, and the place behind them. -/
def upto (xs : List UInt8) (a : Nat) : Nat → Option (List Ent × Nat)
  | 0 => some ([], a)
  | i + 1 => (upto xs a i).bind fun p => (entAt xs p.2).map fun q => (p.1 ++ [q.1], q.2)

/-- P7.4. -/
def parse (xs : List UInt8) : Option (List Ent) :=
  if xs.length < 2 ∨ by' xs 0 ≠ 84 ∨ 32 < by' xs 1 then none
  else (upto xs 2 (by' xs 1)).bind fun p => if p.2 = xs.length ∧ isTree p.1 = true then some p.1 else none

theorem drop_at {xs : List UInt8} {a : Nat} (h : a < xs.length) : ∃ c rest, xs.drop a = c :: rest ∧ c.toNat = by' xs a := by
  refine ⟨xs[a], xs.drop (a + 1), List.drop_eq_getElem_cons h, ?_⟩
  simp [by', List.getD, List.getElem?_eq_getElem h]

theorem num_low {xs : List UInt8} {a : Nat} (h : a < xs.length) (hb : by' xs a < 128) : Pure.num (xs.drop a) = (by' xs a, 1, 0) := by
  obtain ⟨c, rest, e, hc⟩ := drop_at h
  have hlt : c.toNat < 128 := by rw [hc]; exact hb
  have := Pure.num_back (v := c.toNat) (by omega) rest
  rw [Pure.enc_small hlt] at this
  simp only [List.length_cons, List.length_nil, Nat.zero_add] at this
  rw [e, ← hc, ← this]
  simp

theorem num_32 {xs : List UInt8} {a v k : Nat} (h : Pure.num (xs.drop a) = (v, k, 0)) (hv : v ≤ 127) : a < xs.length ∧ k = 1 ∧ v = by' xs a := by
  obtain ⟨h1, h2, _⟩ := Pure.num_enc h
  rw [Pure.enc_small (by omega)] at h1
  have hl : (xs.drop a).length = xs.length - a := by simp
  have ha : a < xs.length := by
    rcases Nat.lt_or_ge a xs.length with g | g
    · exact g
    · rw [List.drop_of_length_le g] at h1; simp at h1
  obtain ⟨c, rest, e, hc⟩ := drop_at ha
  rw [e] at h1
  cases k with
  | zero => simp at h1
  | succ k =>
    simp only [List.take_succ_cons, List.cons.injEq] at h1
    have hk : k = 0 := by
      have := congrArg List.length h1.2
      rw [e] at h2
      simp only [List.length_nil, List.length_take, List.length_cons] at this h2
      omega
    subst hk
    refine ⟨ha, rfl, ?_⟩
    rw [← hc, ← h1.1]
    simp [UInt8.toNat_ofNat', Nat.mod_eq_of_lt (show v < 256 by omega)]

/-- What the program's reader makes of an entry. -/
def rd1 (xs : List UInt8) (a : Nat) (p : Int) : Int × Rs := stFixed xs ⟨a, 0, p⟩ 1

def rd2 (xs : List UInt8) (a : Nat) (p : Int) : List UInt8 × Rs := stText xs (rd1 xs a p).2 32

def rd3 (xs : List UInt8) (a : Nat) (p : Int) : List UInt8 × Rs := stRaw xs (rd2 xs a p).2 32

theorem stText_off (xs : List UInt8) (s : Rs) (m : Int) (h : s.e ≠ 0) : stText xs s m = ([], s) := by simp [stText, h]

theorem stRaw_off (xs : List UInt8) (s : Rs) (m : Int) (h : s.e ≠ 0) : stRaw xs s m = ([], s) := by simp [stRaw, h]

theorem rd1_short {xs : List UInt8} {a : Nat} (p : Int) (h : xs.length < a + 1) : rd1 xs a p = (0, ⟨a, 10, a⟩) := by
  have : ((xs.length - a : Nat) : Int) < 1 := by omega
  simp [rd1, stFixed, this]

theorem rd1_ok {xs : List UInt8} {a : Nat} (p : Int) (h : a < xs.length) : rd1 xs a p = (((by' xs a : Nat) : Int), (⟨a + 1, 0, p⟩ : Rs)) := by
  have h1 : ¬ ((xs.length - a : Nat) : Int) < 1 := by omega
  obtain ⟨c, rest, e, hc⟩ := drop_at h
  simp only [rd1, stFixed, if_true, h1, if_false]
  rw [if_neg (by omega), e, ← hc]
  simp [Pure.be]

/-- An entry is read: just so; and where there is none, not. -/
theorem rd_some {xs : List UInt8} {a : Nat} {p : Int} {e : Ent} {a' : Nat} (h : entAt xs a = some (e, a')) :
    (rd1 xs a p).1 = e.kind ∧ (rd2 xs a p).1 = e.name ∧ rd3 xs a p = (e.id, ⟨a', 0, p⟩) ∧ EntOk e := by
  unfold entAt at h
  split at h
  · cases h
  · split at h
    · cases h
    · rename_i h1 h2
      simp only [Option.some.injEq, Prod.mk.injEq] at h
      obtain ⟨rfl, rfl⟩ := h
      have hb : by' xs (a + 1) ≤ 32 := by omega
      have e1 := rd1_ok p (show a < xs.length by omega)
      have e2 : rd2 xs a p = ((xs.drop (a + 2)).take (by' xs (a + 1)), ⟨a + 2 + by' xs (a + 1), 0, p⟩) := by
        have hnum := num_low (show a + 1 < xs.length by omega) (by omega)
        unfold rd2
        rw [e1]
        simp only [stText, if_true, hnum]
        rw [if_neg (by omega), if_neg (by omega), if_neg (by omega)]
      have e3 : rd3 xs a p = ((xs.drop (a + 2 + by' xs (a + 1))).take 32, ⟨a + 2 + by' xs (a + 1) + 32, 0, p⟩) := by
        unfold rd3
        rw [e2]
        simp only [stRaw, if_true]
        rw [if_neg (by omega), if_neg (by omega)]
        rfl
      refine ⟨by rw [e1], by rw [e2], e3, ⟨by simp; omega, by simp; omega, ?_⟩⟩
      have := by_lt xs a
      simp [Lit.wf, IntKind.min, IntKind.max, IntKind.bits, IntKind.signed]
      omega

theorem rd_none {xs : List UInt8} {a : Nat} {p : Int} (h : entAt xs a = none) : (rd3 xs a p).2.e ≠ 0 := by
  by_cases h0 : xs.length < a + 1
  · have e1 := rd1_short p h0
    have e2 : rd2 xs a p = ([], ⟨a, 10, a⟩) := by unfold rd2; rw [e1]; exact stText_off _ _ _ (by simp)
    unfold rd3; rw [e2, stRaw_off _ _ _ (by simp)]; simp
  · have e1 := rd1_ok p (show a < xs.length by omega)
    rcases hn : Pure.num (xs.drop (a + 1)) with ⟨v, k, c⟩
    have off : (rd2 xs a p).2.e ≠ 0 → (rd3 xs a p).2.e ≠ 0 := fun g => by unfold rd3; rw [stRaw_off _ _ _ g]; exact g
    by_cases hc : c = 0
    · subst hc
      by_cases hv : v ≤ 32
      · obtain ⟨ha, rfl, rfl⟩ := num_32 hn (by omega)
        by_cases hs : xs.length - (a + 1 + 1) < by' xs (a + 1)
        · apply off
          unfold rd2; rw [e1]
          simp only [stText, if_true, hn]
          rw [if_neg (by omega), if_neg (by omega), if_pos (by omega)]
          simp
        · have e2 : rd2 xs a p = ((xs.drop (a + 2)).take (by' xs (a + 1)), ⟨a + 2 + by' xs (a + 1), 0, p⟩) := by
            unfold rd2
            rw [e1]
            simp only [stText, if_true, hn]
            rw [if_neg (by omega), if_neg (by omega), if_neg (by omega)]
          unfold entAt at h
          rw [if_neg (by omega)] at h
          split at h
          · rename_i h2
            unfold rd3; rw [e2]
            simp only [stRaw, if_true]
            rw [if_neg (by omega), if_pos (by omega)]
            simp
          · cases h
      · apply off
        unfold rd2; rw [e1]
        simp only [stText, if_true, hn]
        rw [if_neg (by omega), if_pos (by omega)]
        simp
    · apply off
      have := Pure.num_facts (xs.drop (a + 1))
      rw [hn] at this
      simp only at this
      unfold rd2; rw [e1]
      simp only [stText, if_true, hn]
      rw [if_neg (by omega), if_neg hc]
      simp; omega

theorem upto_next {xs : List UInt8} {a k : Nat} {L : List Ent} {at_ : Nat} {e : Ent} {a' : Nat} (h : upto xs a k = some (L, at_)) (he : entAt xs at_ = some (e, a')) : upto xs a (k + 1) = some (L ++ [e], a') := by
  simp [upto, h, he]

theorem upto_none {xs : List UInt8} {a k : Nat} (h : upto xs a k = none) : ∀ c, k ≤ c → upto xs a c = none := by
  intro c hc
  induction c with
  | zero =>
    obtain rfl : k = 0 := by omega
    exact h
  | succ c ih =>
    by_cases e : k = c + 1
    · rw [← e]; exact h
    · simp [upto, ih (by omega)]

theorem upto_stop {xs : List UInt8} {a k : Nat} {L : List Ent} {at_ : Nat} (h : upto xs a k = some (L, at_)) (he : entAt xs at_ = none) : ∀ c, k < c → upto xs a c = none :=
  fun c hc => upto_none (k := k + 1) (by simp [upto, h, he]) c hc

theorem upto_len {xs : List UInt8} {a : Nat} : ∀ {k : Nat} {L : List Ent} {at_ : Nat}, upto xs a k = some (L, at_) → L.length = k
  | 0, L, at_, h => by simp [upto] at h; rw [h.1]; rfl
  | k + 1, L, at_, h => by
    simp only [upto, Option.bind_eq_some_iff, Option.map_eq_some_iff] at h
    obtain ⟨⟨L0, a0⟩, h1, ⟨e, a1⟩, _, h2⟩ := h
    cases h2
    have := upto_len h1
    simp [this]

theorem upto_pre {xs : List UInt8} {a : Nat} {k : Nat} {L : List Ent} {at_ : Nat} (h : upto xs a k = some (L, at_)) : ∀ c L' a', k ≤ c → upto xs a c = some (L', a') → L'.take k = L := by
  intro c
  induction c with
  | zero =>
    intro L' a' hc h'
    obtain rfl : k = 0 := by omega
    rw [h] at h'; cases h'
    have := upto_len h
    rw [List.take_of_length_le (by omega)]
  | succ c ih =>
    intro L' a' hc h'
    by_cases e : k = c + 1
    · subst e
      rw [h] at h'; cases h'
      have := upto_len h
      rw [List.take_of_length_le (by omega)]
    · have h2 := h'
      simp only [upto, Option.bind_eq_some_iff, Option.map_eq_some_iff] at h2
      obtain ⟨⟨L0, a0⟩, h3, ⟨e0, a1⟩, _, h4⟩ := h2
      cases h4
      have hl := upto_len h3
      have e5 : (L0 ++ [e0]).take k = L0.take k := List.take_append_of_le_length (by omega)
      show (L0 ++ [e0]).take k = L
      rw [e5]
      exact ih L0 a0 (by omega) h3

/-- Where an entry does not follow, there is no tree. -/
theorem upto_no {xs : List UInt8} {a k : Nat} {L : List Ent} {at_ : Nat} {e : Ent} {a' : Nat} (h : upto xs a k = some (L, at_)) (he : entAt xs at_ = some (e, a')) (hm : may L e = false) (c : Nat) (hc : k < c) (L' : List Ent) (a2 : Nat) (h' : upto xs a c = some (L', a2)) : isTree L' = false := by
  have hn := upto_next h he
  have ht := upto_pre hn c L' a2 hc h'
  have hl := upto_len h
  have hl' := upto_len h'
  have hk : k < L'.length := by omega
  refine isTree_no hk ?_
  have e1 : L'.take k = L := upto_pre h c L' a2 (by omega) h'
  have e2 : L'.getD k ent0 = e := by
    have : (L'.take (k + 1)).getD k ent0 = (L ++ [e]).getD k ent0 := by rw [ht]
    rw [getD_take (by omega)] at this
    rw [this]
    simp [List.getD, ← hl]
  rw [e1, e2]; exact hm

theorem parse_head {xs : List UInt8} (h : xs.length < 2 ∨ by' xs 0 ≠ 84 ∨ 32 < by' xs 1) : parse xs = none := by
  unfold parse; rw [if_pos h]

theorem parse_count {xs : List UInt8} (h : ¬ (xs.length < 2 ∨ by' xs 0 ≠ 84 ∨ 32 < by' xs 1)) : parse xs = (upto xs 2 (by' xs 1)).bind fun p => if p.2 = xs.length ∧ isTree p.1 = true then some p.1 else none := by
  unfold parse; rw [if_neg h]

theorem parse_fails {xs : List UInt8} (h : ∀ L a, upto xs 2 (by' xs 1) = some (L, a) → ¬ (a = xs.length ∧ isTree L = true)) : parse xs = none := by
  by_cases hh : xs.length < 2 ∨ by' xs 0 ≠ 84 ∨ 32 < by' xs 1
  · exact parse_head hh
  · rw [parse_count hh]
    rcases hq : upto xs 2 (by' xs 1) with _ | ⟨L, a⟩
    · rfl
    · simp only [Option.bind_some]
      rw [if_neg (h L a hq)]

theorem parse_works {xs : List UInt8} {L : List Ent} (h0 : by' xs 0 = 84) (h1 : by' xs 1 ≤ 32) (h2 : 2 ≤ xs.length) (h : upto xs 2 (by' xs 1) = some (L, xs.length)) (ht : isTree L = true) : parse xs = some L := by
  rw [parse_count (by omega), h]
  simp [ht]

end Tn
end

section
open Go.RowKit
set_option linter.unusedVariables false
set_option linter.unusedSimpArgs false

theorem ret_row {P : Program} {fn : Func} {p : Tmp} {ty : TypeId} {R : Ending → World → Prop} {a : Act} {w : World} (h : fn.results = #[.cell p ty]) (hd : a.defers = []) (g : Nat) (t : TypeId) (cs : Array Value) (fr : Nat × Nat) (d : TypeDesc)
    (hp : a.tmps.getD p undef = .pointer (some ⟨g, 0, none⟩)) (hg : w.heap[g]? = some (.cells cs t fr)) (hu : P.underlying ty = some d) (hx : (match d with | .struct _ | .array _ _ => true | _ => false) = true) (hi : (P.info? ty).map (·.size) = some cs.size)
    (hR : R (.returned (.agg cs)) w) : bodyPost P fn R .ret a w :=
  bodyPost_ret (results_cell_row h a.tmps w g t cs fr d hp hg hu hx hi) hd hR

set_option maxRecDepth 100000 in
theorem isSound_ok {w : World} {b : Nat} {ao : Option Addr} {cap : Nat} {xs : List UInt8} {s : Rs} (h : RdS w b ao cap xs s) :
    Calls Tryz.prog 78 #[.pointer (some ⟨b, 0, none⟩)] w fun r w' => r = .returned (.bool (decide (s.e = 0))) ∧ ∃ n, w' = w.drewN n := by
  have he := err_st h
  obtain ⟨at_, e, p⟩ := s
  simp only at he ⊢
  clear h
  by_cases h0 : e = 0
  · subst h0
    go_enter Tryz.func78, Tryz.ntmps78
    go_wp2_with (go_at_call 87; refine he.mono ?_; rintro r w1 ⟨rfl, hn⟩)
    go_ret
    exact ⟨rfl, hn⟩
  · have h1 : (e == 0) = false := by simpa using h0
    go_enter Tryz.func78, Tryz.ntmps78
    go_wp2_with (go_at_call 87; refine he.mono ?_; rintro r w1 ⟨rfl, hn⟩)
    go_ret
    exact ⟨by simp [Act.eval, h0], hn⟩

/-- string(b). -/
theorem conv_sl (W : World) (ao : Option Addr) (n c : Nat) (xs : List UInt8) (hn : xs.length = n) (h : Sl W ao xs) (h0 : ao = none → n = 0) : (convert 33 9 (.slice ao n c)).run Tryz.prog W = .ok (.string ⟨xs.toArray⟩) W := by
  cases ao with
  | none =>
    obtain rfl := h0 rfl
    have : xs = [] := List.eq_nil_of_length_eq_zero hn
    subst this
    exact Lib.run_convert_nil_bytes W 33 9 5 c Tryz.underlying33 Tryz.underlying5 Tryz.underlying9
  | some ad =>
    subst hn
    refine run_convert_bytes_back W 33 9 5 ad c xs Tryz.underlying33 Tryz.underlying5 Tryz.underlying9 (fun j hj => ?_)
    obtain ⟨b', off', e', hcell⟩ := h j hj
    injection e' with e'
    subst e'
    rw [show ((⟨b', off', none⟩ : Addr).add j) = ⟨b', off' + j, none⟩ from by unfold Addr.add; by_cases h : j = 0 <;> simp [h], hcell]
    simp [List.getElem?_eq_getElem hj]

theorem RdS.blk {w : World} {b : Nat} {ao : Option Addr} {cap : Nat} {xs : List UInt8} {s : Rs} (h : RdS w b ao cap xs s) (hx : xs ≠ []) (a : Addr) (ha : ao = some a) : a.block < w.heap.size := by
  obtain ⟨_, _, hr⟩ := h
  obtain ⟨b', off, e, hl, _⟩ := hr.sl.open hx
  rw [e] at ha; cases ha
  exact hl

/-- In readEntry: the reader, the variable, the result's place. -/
structure Rx (w W : World) (b : Nat) (ao : Option Addr) (cap : Nat) (xs : List UInt8) (s : Rs) (e : Ent) : Prop where
  rd : RdS W b ao cap xs s
  kp : Kept [b] w W
  lt : b < w.heap.size
  bl : xs ≠ [] → ∀ a, ao = some a → a.block < w.heap.size
  er : W.heap[w.heap.size + 1]? = some (.cells e.cells.toArray 45 (0, 0))
  rr : W.heap[w.heap.size]? = some (.cells zeroE 45 (0, 0))

section

variable {w W W' : World} {b : Nat} {ao : Option Addr} {cap : Nat} {xs : List UInt8} {s s' : Rs} {e : Ent}

theorem Rx.start (h : RdS w b ao cap xs s) : Rx w ((w.alloc (.cells zeroE 45)).alloc (.cells zeroE 45)) b ao cap xs s ent0 := by
  have hk : Kept [] w ((w.alloc (.cells zeroE 45)).alloc (.cells zeroE 45)) := ((Kept.refl [] w).alloc _).alloc _
  refine ⟨h.kept hk (by simp) (by simp), hk.mono (by simp), h.lt, fun hx a ha => h.blk hx a ha, ?_, ?_⟩
  · have := heap_new (w.alloc (.cells zeroE 45)) (.cells zeroE 45)
    have hsz : (w.alloc (.cells zeroE 45)).heap.size = w.heap.size + 1 := by simp
    rw [hsz] at this
    exact this
  · have h1 : Kept [] (w.alloc (.cells zeroE 45)) ((w.alloc (.cells zeroE 45)).alloc (.cells zeroE 45)) := (Kept.refl [] _).alloc _
    rw [h1.block w.heap.size (by simp) (by simp)]
    exact heap_new w _

theorem Rx.call (h : Rx w W b ao cap xs s e) (hk : Kept [b] W W') (hr : RdS W' b ao cap xs s') : Rx w W' b ao cap xs s' e := by
  have h1 := (Array.getElem?_eq_some_iff.1 h.er).1
  have := h.lt
  exact ⟨hr, h.kp.trans hk (by simp), h.lt, h.bl, by rw [hk.block _ h1 (by simp; omega)]; exact h.er, by rw [hk.block _ (by omega) (by simp; omega)]; exact h.rr⟩

theorem Rx.turn (h : Rx w W b ao cap xs s e) (hk : Kept [w.heap.size + 1] W W') {e' : Ent} (hr : W'.heap[w.heap.size + 1]? = some (.cells e'.cells.toArray 45 (0, 0))) : Rx w W' b ao cap xs s e' := by
  have h1 := (Array.getElem?_eq_some_iff.1 h.er).1
  have := h.lt
  refine ⟨h.rd.kept hk (by simp; omega) (fun hx a ha => by have := h.bl hx a ha; simp; omega), ?_, h.lt, h.bl, hr, by rw [hk.block _ (by omega) (by simp)]; exact h.rr⟩
  refine ⟨hk.os.trans h.kp.os, hk.tape.trans h.kp.tape, hk.output.trans h.kp.output, Nat.le_trans h.kp.size hk.size, fun k hk1 hk2 => ?_⟩
  rw [hk.block k (Nat.lt_of_lt_of_le hk1 h.kp.size) (by simp; omega)]
  exact h.kp.block k hk1 hk2

theorem Rx.cell (h : Rx w W b ao cap xs s e) (j : Nat) : W.cell? ⟨w.heap.size + 1, j, none⟩ = e.cells[j]? := by
  rw [cell_of_row _ _ _ _ _ _ h.er]; simp

theorem Rx.free (h : Rx w W b ao cap xs s e) (j : Nat) : W.frozen? ⟨w.heap.size + 1, j, none⟩ = false := frozen_of_row _ _ _ _ _ h.er

theorem Rx.kind (h : Rx w W b ao cap xs s e) (k : Int) : Rx w (W.setCell ⟨w.heap.size + 1, 1, none⟩ (.int .i64 k)) b ao cap xs s ⟨e.name, k, e.id⟩ := by
  refine h.turn ((Kept.refl _ W).setCell (by simp) _) ?_
  rw [heap_setCell_same W _ 1 _ _ _ h.er]
  simp [Ent.cells]

theorem Rx.name (h : Rx w W b ao cap xs s e) (nm : List UInt8) : Rx w (W.setCell ⟨w.heap.size + 1, 0, none⟩ (.string ⟨nm.toArray⟩)) b ao cap xs s ⟨nm, e.kind, e.id⟩ := by
  refine h.turn ((Kept.refl _ W).setCell (by simp) _) ?_
  rw [heap_setCell_same W _ 0 _ _ _ h.er]
  simp [Ent.cells]

theorem Rx.drewN (h : Rx w W b ao cap xs s e) (n : Nat) : Rx w (W.drewN n) b ao cap xs s e := ⟨h.rd.drewN n, h.kp.drewN n, h.lt, h.bl, h.er, h.rr⟩

end

theorem kept_row (w : World) (g : Nat) (cs : Array Value) : Kept [g] w (w.setRow g cs) := ⟨rfl, rfl, rfl, by rw [size_setRow]; exact Nat.le_refl _, fun k hk hn => setRow_other _ _ _ _ (by simpa using hn)⟩

theorem Tn.raw_len (xs : List UInt8) (s : Rs) : (stRaw xs s 32).1 = [] ∨ (stRaw xs s 32).1.length = 32 := by
  unfold stRaw
  repeat' split
  all_goals first | (left; rfl) | (right; simp; omega)

set_option maxHeartbeats 3200000 in
set_option maxRecDepth 100000 in
theorem readEntry_ok {w : World} {b : Nat} {ao : Option Addr} {cap : Nat} {xs : List UInt8} {a : Nat} {p : Int} (h : RdS w b ao cap xs ⟨a, 0, p⟩) :
    Calls Tryz.prog 79 #[.pointer (some ⟨b, 0, none⟩)] w fun r w' => ((∃ e a', Tn.entAt xs a = some (e, a') ∧ r = .returned (.agg e.cells.toArray) ∧ RdS w' b ao cap xs ⟨a', 0, p⟩) ∨ (Tn.entAt xs a = none ∧ r = gaveUp)) ∧ Kept [b] w w' := by
  have hz := Tryz.zeroEntry
  have hs := Rx.start h
  have hf := rfixed_st hs.rd 1
  have HS := hide hs
  have e1 : stFixed xs ⟨a, 0, p⟩ 1 = Tn.rd1 xs a p := rfl
  rw [e1] at hf
  have E2 : Hid (stText xs (Tn.rd1 xs a p).2 32 = Tn.rd2 xs a p) := rfl
  have E3 : Hid (stRaw xs (Tn.rd2 xs a p).2 32 = Tn.rd3 xs a p) := rfl
  have E4 : Hid ((Tn.rd3 xs a p).1 = [] ∨ (Tn.rd3 xs a p).1.length = 32) := Tn.raw_len xs _
  have EN : Hid (Tn.entAt xs a = none → (Tn.rd3 xs a p).2.e ≠ 0) := Tn.rd_none
  have ES : Hid (∀ e a', Tn.entAt xs a = some (e, a') → (Tn.rd1 xs a p).1 = e.kind ∧ (Tn.rd2 xs a p).1 = e.name ∧ Tn.rd3 xs a p = (e.id, ⟨a', 0, p⟩) ∧ EntOk e) := fun e a' h => Tn.rd_some h
  clear e1 hs h
  generalize Tn.rd1 xs a p = r1 at *
  generalize Tn.rd2 xs a p = r2 at *
  generalize Tn.rd3 xs a p = r3 at *
  obtain ⟨K1, s1⟩ := r1
  obtain ⟨N2, s2⟩ := r2
  obtain ⟨I3, s3⟩ := r3
  simp only at hf E2 E3 E4 EN ES
  go_enter Tryz.func79, Tryz.ntmps79
  go_upto_region 3 with (go_at_call 76; refine hf.mono ?_; rintro r w1 ⟨rfl, hk1, hr1⟩; have hx1 := HS.out.call hk1 hr1; have c1 : w1.cell? ⟨w.heap.size + 1, 1, none⟩ = some (.int .i64 0) := hx1.cell 1; have f1 := hx1.free 1; have H2 := hide (hx1.kind K1); clear hf hk1 hr1 hx1 HS)
  clear c1 f1 hz
  generalize World.setCell w1 _ _ = w2 at H2 ⊢
  have ht := text_st H2.out.rd 32
  rw [E2.out] at ht
  go_upto_region 4 with (go_at_call 88; refine ht.mono ?_; rintro r w3 ⟨⟨ao3, cap3, rfl, hfr⟩, hk3, hr3⟩; have hx3 := H2.out.call hk3 hr3; have cv := conv_sl w3 ao3 N2.length cap3 N2 rfl hfr.1 (fun h => by rw [(hfr.2.2.1 h).1]; rfl); have c3 : w3.cell? ⟨w.heap.size + 1, 0, none⟩ = some (.string ⟨#[]⟩) := hx3.cell 0; have f3 := hx3.free 0; have H4 := hide (hx3.name N2); clear ht hk3 hr3 hx3 hfr H2)
  clear c3 f3 cv
  generalize World.setCell w3 _ _ = w4 at H4 ⊢
  refine wp_region_held_drew (S := fun w' => True) (by kernel_rfl) trivial (fun h0 => ?_)
  have H0 : Hid (Rx w w4.drew b ao cap xs s2 ⟨N2, K1, List.replicate 32 0⟩) := H4.out.drewN 1
  clear H4
  generalize World.drew w4 = v0 at H0 h0 ⊢
  refine wpAnyH_take (i := 0) (v := .pointer (some ⟨w.heap.size + 1, 2, none⟩)) rfl (by kernel_rfl) (by kernel_rfl) (by kernel_rfl) (fun _ _ _ h => h) (Or.inl ⟨by rfl, fun w hSw => by go_simp⟩) h0 ?_
  try simp only [List.getElem_toArray, List.getElem_cons_zero, List.getElem_cons_succ, Act.put, List.setIfInBounds_toArray, List.set_cons_zero, List.set_cons_succ]
  refine wpAnyH_take (i := 1) (v := .slice (some ⟨w.heap.size + 1, 2, none⟩) 32 32) rfl (by kernel_rfl) (by kernel_rfl) (by kernel_rfl) (fun _ _ _ h => h) (Or.inl ⟨by rfl, fun W hSw => by have c := Tryz.slice32 W (w.heap.size + 1) 2; go_simp⟩) h0 ?_
  try simp only [List.getElem_toArray, List.getElem_cons_zero, List.getElem_cons_succ, Act.put, List.setIfInBounds_toArray, List.set_cons_zero, List.set_cons_succ]
  refine wpAnyH_take (i := 2) (v := .pointer (some ⟨b, 0, none⟩)) rfl (by kernel_rfl) (by kernel_rfl) (by kernel_rfl) (fun _ _ _ h => h) (Or.inl ⟨by rfl, fun w hSw => by go_simp⟩) h0 ?_
  try simp only [List.getElem_toArray, List.getElem_cons_zero, List.getElem_cons_succ, Act.put, List.setIfInBounds_toArray, List.set_cons_zero, List.set_cons_succ]
  refine wpAnyH_ready (rs := [3]) (by kernel_rfl) (by simp) (AllReadyH.cons (i := 3) rfl (fun K hK => ?_) AllReadyH.nil)
  rw [if_pos (by rfl)]
  go_simp
  have hrw := raw_st H0.out.rd 32
  rw [E3.out] at hrw
  refine hrw.mono ?_
  rintro r v1 ⟨⟨ao5, cap5, rfl, hfr5⟩, hk5, hr5⟩
  have hx5 := H0.out.call hk5 hr5
  refine hK.out _ _ trivial (fun h1 => ?_)
  clear hK K hrw hk5 hr5 H0
  try simp only [List.getElem_toArray, List.getElem_cons_zero, List.getElem_cons_succ, Act.put, List.setIfInBounds_toArray, List.set_cons_zero, List.set_cons_succ]
  refine wpAnyH_ready (rs := [4]) (by kernel_rfl) (by simp) (AllReadyH.cons (i := 4) rfl (fun K hK => ?_) AllReadyH.nil)
  have hcp : ∃ v2, (Builtin.copy_ #[33, 33] 3 #[.slice (some ⟨w.heap.size + 1, 2, none⟩) 32 32, .slice ao5 I3.length cap5]).run Tryz.prog v1 = .ok (.int .i64 I3.length) v2 ∧ Rx w v2 b ao cap xs s3 ⟨N2, K1, if I3 = [] then List.replicate 32 0 else I3⟩ := by
    rcases E4.out with h3 | h3
    · subst h3
      refine ⟨v1, ?_, by simpa using hx5⟩
      exact run_copy_none v1 33 33 3 5 _ ao5 32 32 0 cap5 Tryz.underlying33 Tryz.sizeByte (by simp)
    · have hne : I3 ≠ [] := by rintro rfl; simp at h3
      obtain ⟨g5, o5, rfl, hg5, hc5⟩ := hfr5.1.open hne
      have hcr := run_copy_row (P := Tryz.prog) v1 33 33 3 5 (w.heap.size + 1) 2 32 32 ⟨g5, o5, none⟩ I3.length cap5 _ _ (bys I3) Tryz.underlying33 Tryz.sizeByte hx5.er (by rw [bys_length, h3]; rfl) (fun j v hv => by
        obtain ⟨hj, rfl⟩ := bys_get hv
        rw [Addr.add_mid]; exact hc5 j hj) (by simp [bys_length, h3, Ent.cells]) (bys_oneCell I3)
      rw [bys_length] at hcr
      refine ⟨_, hcr, ?_⟩
      refine hx5.turn (kept_row v1 _ _) ?_
      rw [setRow_heap _ _ _ _ _ _ hx5.er]
      simp [Ent.cells, hne, bys_length, h3, bys]
  obtain ⟨v2, hrun, hx6⟩ := hcp
  rw [if_pos (by rfl)]
  refine Lib.wp_copy_run _ _ _ 33 33 rfl _ _ rfl rfl hrun ?_
  refine hK.out _ _ trivial (fun h2 => ?_)
  clear hK K hrun hx5 hfr5
  try simp only [List.getElem_toArray, List.getElem_cons_zero, List.getElem_cons_succ, Act.put, List.setIfInBounds_toArray, List.set_cons_zero, List.set_cons_succ]
  refine wpAnyH_done (by kernel_rfl) ?_ _
  have H6 := hide hx6
  clear hx6 h0 h1 h2
  have hso := isSound_ok H6.out.rd
  by_cases he : s3.e = 0
  · rw [decide_eq_true he] at hso
    obtain ⟨⟨e, a'⟩, hea⟩ : ∃ q, Tn.entAt xs a = some q := by
      rcases hq : Tn.entAt xs a with _ | q
      · exact absurd he (EN.out hq)
      · exact ⟨q, rfl⟩
    obtain ⟨q1, q2, q3, q4⟩ := ES.out e a' hea
    simp only [Prod.mk.injEq] at q3
    obtain ⟨rfl, rfl⟩ := q3
    have hne : e.id ≠ [] := by intro h; have := q4.idl; rw [h] at this; simp at this
    have HE : Hid (Tn.entAt xs a = some (e, a')) := hea
    have H7 : Hid (Rx w v2 b ao cap xs ⟨a', 0, p⟩ e) := by
      have := H6.out
      rw [q1, q2, if_neg hne] at this
      exact this
    have HOK := hide q4
    clear H6 q1 q2 q4 hea hne E2 E3 E4 EN ES he
    have hia : (Tryz.prog.info? 45).map (·.size) = some e.cells.toArray.size := by rw [ent_size HOK.out]; exact Tryz.infoEntry
    have hzs := zero_size HOK.out
    have hal := ent_all e
    go_wp2_with (first
      | (go_at_call 78; refine hso.mono ?_; rintro r v3 ⟨rfl, m, rfl⟩; have H8 := hide (H7.out.drewN m); clear hso H7; generalize World.drewN v2 m = v3 at H8 ⊢; have hmt := must_true v3)
      | (go_at_call 75; refine hmt.mono ?_; rintro r v4 ⟨rfl, rfl⟩; clear hmt; have er := H8.out.er; have rr := H8.out.rr)
      | refine wpList_load_row rfl 45 (.tmp 3) rfl (w.heap.size + 1) rfl 45 _ (0, 0) _ er Tryz.underlying45 rfl hia ?_
      | refine wpList_store_rowTo rfl 45 (.tmp 2) (.tmp 19) rfl rfl w.heap.size e.cells.toArray rfl rfl 45 zeroE rr hia hzs hal ?_)
    have hko : ∀ k, k ≠ w.heap.size → (v4.setRow w.heap.size e.cells.toArray).heap[k]? = v4.heap[k]? := fun k hk => setRow_other _ _ _ _ hk
    have hkk : Kept [w.heap.size] v4 (v4.setRow w.heap.size e.cells.toArray) := ⟨rfl, rfl, rfl, by rw [size_setRow]; exact Nat.le_refl _, fun k hk hn => hko k (by simpa using hn)⟩
    have hlt := H8.out.lt
    refine ret_row rfl rfl w.heap.size 45 _ (0, 0) _ rfl (setRow_heap _ _ _ _ _ _ H8.out.rr) Tryz.underlying45 rfl hia ⟨.inl ⟨e, a', HE.out, rfl, H8.out.rd.kept hkk (by simp; omega) (fun hx a ha => by have := H8.out.bl hx a ha; simp; omega)⟩, ?_⟩
    refine ⟨H8.out.kp.os, H8.out.kp.tape, H8.out.kp.output, Nat.le_trans H8.out.kp.size hkk.size, fun k hk hn => ?_⟩
    rw [hko k (by omega)]
    exact H8.out.kp.block k hk hn
  · have he' : decide (s3.e = 0) = false := by simpa using he
    rw [he'] at hso
    have hno : Tn.entAt xs a = none := by
      rcases hq : Tn.entAt xs a with _ | ⟨e, a'⟩
      · rfl
      · obtain ⟨_, _, q3, _⟩ := ES.out e a' hq
        simp only [Prod.mk.injEq] at q3
        rw [q3.2] at he
        exact absurd rfl he
    have HE := hide hno
    clear E2 E3 E4 EN ES he he' hno
    go_wp2_with (first
      | (go_at_call 78; refine hso.mono ?_; rintro r v3 ⟨rfl, m, rfl⟩; have H8 := hide (H6.out.drewN m); clear hso H6; generalize World.drewN v2 m = v3 at H8 ⊢; have hmf := must_false v3)
      | (go_at_call 75; refine hmf.mono ?_; rintro r v4 ⟨rfl, rfl⟩; clear hmf))
    exact ⟨rfl, .inr ⟨HE.out, rfl⟩, H8.out.kp⟩
end

end Go.Proofs.YtngaimahhgmciabGreatDoor
