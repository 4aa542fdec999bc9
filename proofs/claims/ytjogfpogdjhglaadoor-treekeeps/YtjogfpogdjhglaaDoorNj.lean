/-
  A tree's form read: mathematics.
-/
import Derived.Test.YtjogfpogdjhglaaDoorNh
import Derived.Test.YtjogfpogdjhglaaDoorNi
import Derived.Test.YtjogfpogdjhglaaDoorPure5
namespace Go.Proofs.YtjogfpogdjhglaaDoor
set_option linter.unusedVariables false
set_option linter.unusedSimpArgs false

namespace Tn
/-- The entry that stands at a place, and the place behind it. -/
def entAt (xs : List UInt8) (a : Nat) : Option (Ent × Nat) :=
  if xs.length < a + 2 then none
  else if 32 < by' xs (a + 1) ∨ xs.length < a + 2 + by' xs (a + 1) + 32 then none
  else some (⟨(xs.drop (a + 2)).take (by' xs (a + 1)), by' xs a, (xs.drop (a + 2 + by' xs (a + 1))).take 32⟩, a + 2 + by' xs (a + 1) + 32)
/-- The first so many entries, and the place behind them. -/
def upto (xs : List UInt8) (a : Nat) : Nat → Option (List Ent × Nat)
  | 0 => some ([], a)
  | i + 1 => (upto xs a i).bind fun p => (entAt xs p.2).map fun q => (p.1 ++ [q.1], q.2)
/-- P7.4. -/
def parse (xs : List UInt8) : Option (List Ent) :=
  if xs.length < 2 ∨ by' xs 0 ≠ 84 ∨ 32 < by' xs 1 then none
  else (upto xs 2 (by' xs 1)).bind fun p => if p.2 = xs.length ∧ isTree p.1 = true then some p.1 else none

theorem drop_at {xs : List UInt8} {a : Nat} (h : a < xs.length) : ∃ c rest, xs.drop a = c :: rest ∧ c.toNat = by' xs a := by
  refine ⟨xs[a], xs.drop (a + 1), List.drop_eq_getElem_cons h, ?_⟩
  simp [by', List.getD, List.getElem?_eq_getElem h]
theorem num_low {xs : List UInt8} {a : Nat} (h : a < xs.length) (hb : by' xs a < 128) : Pure.num (xs.drop a) = (by' xs a, 1, 0) := by
  obtain ⟨c, rest, e, hc⟩ := drop_at h
  have hlt : c.toNat < 128 := by rw [hc]; exact hb
  have := Pure.num_back (v := c.toNat) (by omega) rest
  rw [Pure.enc_small hlt] at this
  simp only [List.length_cons, List.length_nil, Nat.zero_add] at this
  rw [e, ← hc, ← this]
  simp
theorem num_32 {xs : List UInt8} {a v k : Nat} (h : Pure.num (xs.drop a) = (v, k, 0)) (hv : v ≤ 127) : a < xs.length ∧ k = 1 ∧ v = by' xs a := by
  obtain ⟨h1, h2, _⟩ := Pure.num_enc h
  rw [Pure.enc_small (by omega)] at h1
  have hl : (xs.drop a).length = xs.length - a := by simp
  have ha : a < xs.length := by
    rcases Nat.lt_or_ge a xs.length with g | g
    · exact g
    · rw [List.drop_of_length_le g] at h1; simp at h1
  obtain ⟨c, rest, e, hc⟩ := drop_at ha
  rw [e] at h1
  cases k with
  | zero => simp at h1
  | succ k =>
    simp only [List.take_succ_cons, List.cons.injEq] at h1
    have hk : k = 0 := by
      have := congrArg List.length h1.2
      rw [e] at h2
      simp only [List.length_nil, List.length_take, List.length_cons] at this h2
      omega
    subst hk
    refine ⟨ha, rfl, ?_⟩
    rw [← hc, ← h1.1]
    simp [UInt8.toNat_ofNat', Nat.mod_eq_of_lt (show v < 256 by omega)]

/-- What the program's reader makes of an entry. -/
def rd1 (xs : List UInt8) (a : Nat) (p : Int) : Int × Rs := stFixed xs ⟨a, 0, p⟩ 1
def rd2 (xs : List UInt8) (a : Nat) (p : Int) : List UInt8 × Rs := stText xs (rd1 xs a p).2 32
def rd3 (xs : List UInt8) (a : Nat) (p : Int) : List UInt8 × Rs := stRaw xs (rd2 xs a p).2 32
theorem stText_off (xs : List UInt8) (s : Rs) (m : Int) (h : s.e ≠ 0) : stText xs s m = ([], s) := by simp [stText, h]
theorem stRaw_off (xs : List UInt8) (s : Rs) (m : Int) (h : s.e ≠ 0) : stRaw xs s m = ([], s) := by simp [stRaw, h]
theorem rd1_short {xs : List UInt8} {a : Nat} (p : Int) (h : xs.length < a + 1) : rd1 xs a p = (0, ⟨a, 10, a⟩) := by
  have : ((xs.length - a : Nat) : Int) < 1 := by omega
  simp [rd1, stFixed, this]
theorem rd1_ok {xs : List UInt8} {a : Nat} (p : Int) (h : a < xs.length) : rd1 xs a p = (((by' xs a : Nat) : Int), (⟨a + 1, 0, p⟩ : Rs)) := by
  have h1 : ¬ ((xs.length - a : Nat) : Int) < 1 := by omega
  obtain ⟨c, rest, e, hc⟩ := drop_at h
  simp only [rd1, stFixed, if_true, h1, if_false]
  rw [if_neg (by omega), e, ← hc]
  simp [Pure.be]
/-- An entry is read: just so; and where there is none, not. -/
theorem rd_some {xs : List UInt8} {a : Nat} {p : Int} {e : Ent} {a' : Nat} (h : entAt xs a = some (e, a')) :
    (rd1 xs a p).1 = e.kind ∧ (rd2 xs a p).1 = e.name ∧ rd3 xs a p = (e.id, ⟨a', 0, p⟩) ∧ EntOk e := by
  unfold entAt at h
  split at h
  · cases h
  · split at h
    · cases h
    · rename_i h1 h2
      simp only [Option.some.injEq, Prod.mk.injEq] at h
      obtain ⟨rfl, rfl⟩ := h
      have hb : by' xs (a + 1) ≤ 32 := by omega
      have e1 := rd1_ok p (show a < xs.length by omega)
      have e2 : rd2 xs a p = ((xs.drop (a + 2)).take (by' xs (a + 1)), ⟨a + 2 + by' xs (a + 1), 0, p⟩) := by
        have hnum := num_low (show a + 1 < xs.length by omega) (by omega)
        unfold rd2
        rw [e1]
        simp only [stText, if_true, hnum]
        rw [if_neg (by omega), if_neg (by omega), if_neg (by omega)]
      have e3 : rd3 xs a p = ((xs.drop (a + 2 + by' xs (a + 1))).take 32, ⟨a + 2 + by' xs (a + 1) + 32, 0, p⟩) := by
        unfold rd3
        rw [e2]
        simp only [stRaw, if_true]
        rw [if_neg (by omega), if_neg (by omega)]
        rfl
      refine ⟨by rw [e1], by rw [e2], e3, ⟨by simp; omega, by simp; omega, ?_⟩⟩
      have := by_lt xs a
      simp [Lit.wf, IntKind.min, IntKind.max, IntKind.bits, IntKind.signed]
      omega
theorem rd_none {xs : List UInt8} {a : Nat} {p : Int} (h : entAt xs a = none) : (rd3 xs a p).2.e ≠ 0 := by
  by_cases h0 : xs.length < a + 1
  · have e1 := rd1_short p h0
    have e2 : rd2 xs a p = ([], ⟨a, 10, a⟩) := by unfold rd2; rw [e1]; exact stText_off _ _ _ (by simp)
    unfold rd3; rw [e2, stRaw_off _ _ _ (by simp)]; simp
  · have e1 := rd1_ok p (show a < xs.length by omega)
    rcases hn : Pure.num (xs.drop (a + 1)) with ⟨v, k, c⟩
    have off : (rd2 xs a p).2.e ≠ 0 → (rd3 xs a p).2.e ≠ 0 := fun g => by unfold rd3; rw [stRaw_off _ _ _ g]; exact g
    by_cases hc : c = 0
    · subst hc
      by_cases hv : v ≤ 32
      · obtain ⟨ha, rfl, rfl⟩ := num_32 hn (by omega)
        by_cases hs : xs.length - (a + 1 + 1) < by' xs (a + 1)
        · apply off
          unfold rd2; rw [e1]
          simp only [stText, if_true, hn]
          rw [if_neg (by omega), if_neg (by omega), if_pos (by omega)]
          simp
        · have e2 : rd2 xs a p = ((xs.drop (a + 2)).take (by' xs (a + 1)), ⟨a + 2 + by' xs (a + 1), 0, p⟩) := by
            unfold rd2
            rw [e1]
            simp only [stText, if_true, hn]
            rw [if_neg (by omega), if_neg (by omega), if_neg (by omega)]
          unfold entAt at h
          rw [if_neg (by omega)] at h
          split at h
          · rename_i h2
            unfold rd3; rw [e2]
            simp only [stRaw, if_true]
            rw [if_neg (by omega), if_pos (by omega)]
            simp
          · cases h
      · apply off
        unfold rd2; rw [e1]
        simp only [stText, if_true, hn]
        rw [if_neg (by omega), if_pos (by omega)]
        simp
    · apply off
      have := Pure.num_facts (xs.drop (a + 1))
      rw [hn] at this
      simp only at this
      unfold rd2; rw [e1]
      simp only [stText, if_true, hn]
      rw [if_neg (by omega), if_neg hc]
      simp; omega

theorem upto_next {xs : List UInt8} {a k : Nat} {L : List Ent} {at_ : Nat} {e : Ent} {a' : Nat} (h : upto xs a k = some (L, at_)) (he : entAt xs at_ = some (e, a')) : upto xs a (k + 1) = some (L ++ [e], a') := by
  simp [upto, h, he]
theorem upto_none {xs : List UInt8} {a k : Nat} (h : upto xs a k = none) : ∀ c, k ≤ c → upto xs a c = none := by
  intro c hc
  induction c with
  | zero => obtain rfl : k = 0 := by omega
            exact h
  | succ c ih =>
    by_cases e : k = c + 1
    · rw [← e]; exact h
    · simp [upto, ih (by omega)]
theorem upto_stop {xs : List UInt8} {a k : Nat} {L : List Ent} {at_ : Nat} (h : upto xs a k = some (L, at_)) (he : entAt xs at_ = none) : ∀ c, k < c → upto xs a c = none :=
  fun c hc => upto_none (k := k + 1) (by simp [upto, h, he]) c hc
theorem upto_len {xs : List UInt8} {a : Nat} : ∀ {k : Nat} {L : List Ent} {at_ : Nat}, upto xs a k = some (L, at_) → L.length = k
  | 0, L, at_, h => by simp [upto] at h; rw [h.1]; rfl
  | k + 1, L, at_, h => by
    simp only [upto, Option.bind_eq_some_iff, Option.map_eq_some_iff] at h
    obtain ⟨⟨L0, a0⟩, h1, ⟨e, a1⟩, _, h2⟩ := h
    cases h2
    have := upto_len h1
    simp [this]
theorem upto_pre {xs : List UInt8} {a : Nat} {k : Nat} {L : List Ent} {at_ : Nat} (h : upto xs a k = some (L, at_)) : ∀ c L' a', k ≤ c → upto xs a c = some (L', a') → L'.take k = L := by
  intro c
  induction c with
  | zero =>
    intro L' a' hc h'
    obtain rfl : k = 0 := by omega
    rw [h] at h'; cases h'
    have := upto_len h
    rw [List.take_of_length_le (by omega)]
  | succ c ih =>
    intro L' a' hc h'
    by_cases e : k = c + 1
    · subst e
      rw [h] at h'; cases h'
      have := upto_len h
      rw [List.take_of_length_le (by omega)]
    · have h2 := h'
      simp only [upto, Option.bind_eq_some_iff, Option.map_eq_some_iff] at h2
      obtain ⟨⟨L0, a0⟩, h3, ⟨e0, a1⟩, _, h4⟩ := h2
      cases h4
      have hl := upto_len h3
      have e5 : (L0 ++ [e0]).take k = L0.take k := List.take_append_of_le_length (by omega)
      show (L0 ++ [e0]).take k = L
      rw [e5]
      exact ih L0 a0 (by omega) h3
/-- Where an entry does not follow, there is no tree. -/
theorem upto_no {xs : List UInt8} {a k : Nat} {L : List Ent} {at_ : Nat} {e : Ent} {a' : Nat} (h : upto xs a k = some (L, at_)) (he : entAt xs at_ = some (e, a')) (hm : may L e = false) (c : Nat) (hc : k < c) (L' : List Ent) (a2 : Nat) (h' : upto xs a c = some (L', a2)) : isTree L' = false := by
  have hn := upto_next h he
  have ht := upto_pre hn c L' a2 hc h'
  have hl := upto_len h
  have hl' := upto_len h'
  have hk : k < L'.length := by omega
  refine isTree_no hk ?_
  have e1 : L'.take k = L := upto_pre h c L' a2 (by omega) h'
  have e2 : L'.getD k ent0 = e := by
    have : (L'.take (k + 1)).getD k ent0 = (L ++ [e]).getD k ent0 := by rw [ht]
    rw [getD_take (by omega)] at this
    rw [this]
    simp [List.getD, ← hl]
  rw [e1, e2]; exact hm
theorem parse_head {xs : List UInt8} (h : xs.length < 2 ∨ by' xs 0 ≠ 84 ∨ 32 < by' xs 1) : parse xs = none := by
  unfold parse; rw [if_pos h]
theorem parse_count {xs : List UInt8} (h : ¬ (xs.length < 2 ∨ by' xs 0 ≠ 84 ∨ 32 < by' xs 1)) : parse xs = (upto xs 2 (by' xs 1)).bind fun p => if p.2 = xs.length ∧ isTree p.1 = true then some p.1 else none := by
  unfold parse; rw [if_neg h]
theorem parse_fails {xs : List UInt8} (h : ∀ L a, upto xs 2 (by' xs 1) = some (L, a) → ¬ (a = xs.length ∧ isTree L = true)) : parse xs = none := by
  by_cases hh : xs.length < 2 ∨ by' xs 0 ≠ 84 ∨ 32 < by' xs 1
  · exact parse_head hh
  · rw [parse_count hh]
    rcases hq : upto xs 2 (by' xs 1) with _ | ⟨L, a⟩
    · rfl
    · simp only [Option.bind_some]
      rw [if_neg (h L a hq)]
theorem parse_works {xs : List UInt8} {L : List Ent} (h0 : by' xs 0 = 84) (h1 : by' xs 1 ≤ 32) (h2 : 2 ≤ xs.length) (h : upto xs 2 (by' xs 1) = some (L, xs.length)) (ht : isTree L = true) : parse xs = some L := by
  rw [parse_count (by omega), h]
  simp [ht]
end Tn
end Go.Proofs.YtjogfpogdjhglaaDoor
