/-
  A reader's state, and what each call makes of it; code.Read. (Written by tools/ni.py.)
-/
import Derived.Test.YtjogfpogdjhglaaDoorRd7
namespace Go.Proofs.YtjogfpogdjhglaaDoor
open Go.RowKit
set_option linter.unusedVariables false
set_option linter.unusedSimpArgs false

/-- Where a reader stands, its error, and where that was. -/
structure Rs where
  at_ : Nat
  e : Int
  p : Int

def stNumber (xs : List UInt8) (s : Rs) : Int × Rs :=
  if s.e = 0 then
    if (Pure.num (xs.drop s.at_)).2.2 = 0 then (((Pure.num (xs.drop s.at_)).1 : Nat), ⟨s.at_ + (Pure.num (xs.drop s.at_)).2.1, 0, s.p⟩)
    else (0, ⟨s.at_, ((Pure.num (xs.drop s.at_)).2.2 : Nat), s.at_⟩)
  else (0, s)
def stFixed (xs : List UInt8) (s : Rs) (n : Int) : Int × Rs :=
  if s.e = 0 then
    if n < 1 ∨ 4 < n then (0, ⟨s.at_, 1, s.at_⟩)
    else if ((xs.length - s.at_ : Nat) : Int) < n then (0, ⟨s.at_, 10, s.at_⟩)
    else ((Pure.be ((xs.drop s.at_).take n.toNat) : Nat), ⟨s.at_ + n.toNat, 0, s.p⟩)
  else (0, s)
def stRaw (xs : List UInt8) (s : Rs) (n : Int) : List UInt8 × Rs :=
  if s.e = 0 then
    if n < 0 then ([], ⟨s.at_, 1, s.at_⟩)
    else if ((xs.length - s.at_ : Nat) : Int) < n then ([], ⟨s.at_, 10, s.at_⟩)
    else ((xs.drop s.at_).take n.toNat, ⟨s.at_ + n.toNat, 0, s.p⟩)
  else ([], s)
def stText (xs : List UInt8) (s : Rs) (most : Int) : List UInt8 × Rs :=
  if s.e = 0 then
    if most < 0 then ([], ⟨s.at_, 1, s.at_⟩)
    else if (Pure.num (xs.drop s.at_)).2.2 = 0 then
      if most < ((Pure.num (xs.drop s.at_)).1 : Nat) then ([], ⟨s.at_, 2, s.at_⟩)
      else if xs.length - (s.at_ + (Pure.num (xs.drop s.at_)).2.1) < (Pure.num (xs.drop s.at_)).1 then ([], ⟨s.at_, 10, s.at_⟩)
      else ((xs.drop (s.at_ + (Pure.num (xs.drop s.at_)).2.1)).take (Pure.num (xs.drop s.at_)).1, ⟨s.at_ + (Pure.num (xs.drop s.at_)).2.1 + (Pure.num (xs.drop s.at_)).1, 0, s.p⟩)
    else ([], ⟨s.at_, ((Pure.num (xs.drop s.at_)).2.2 : Nat), s.at_⟩)
  else ([], s)
def stLeft (xs : List UInt8) (s : Rs) : Int := if s.e = 0 then ((xs.length - s.at_ : Nat) : Int) else 0

/-- The program's reader in a state. -/
def RdS (w : World) (b : Nat) (ao : Option Addr) (cap : Nat) (xs : List UInt8) (s : Rs) : Prop := ∃ a, (s.e = 0 → a = s.at_) ∧ Rd w b s.e s.p ao cap xs a
theorem RdS.kept {l : List Nat} {w w' : World} {b : Nat} {ao : Option Addr} {cap : Nat} {xs : List UInt8} {s : Rs} (h : RdS w b ao cap xs s) (hk : Kept l w w') (hn : b ∉ l) (hs : xs ≠ [] → ∀ a, ao = some a → a.block ∉ l) : RdS w' b ao cap xs s := by
  obtain ⟨a, ha, hr⟩ := h
  exact ⟨a, ha, hr.kept hk hn hs⟩
theorem RdS.lt {w : World} {b : Nat} {ao : Option Addr} {cap : Nat} {xs : List UInt8} {s : Rs} (h : RdS w b ao cap xs s) : b < w.heap.size := by
  obtain ⟨a, ha, hr⟩ := h
  exact hr.lt
theorem RdS.drewN {w : World} {b : Nat} {ao : Option Addr} {cap : Nat} {xs : List UInt8} {s : Rs} (h : RdS w b ao cap xs s) (n : Nat) : RdS (w.drewN n) b ao cap xs s := h.kept ((Kept.refl [] w).drewN n) (by simp) (by simp)
/-- A row that a call answers, in new memory. -/
def RowEnd (w w' : World) (e : Ending) (ys : List UInt8) : Prop := ∃ ao cap, e = .returned (.slice ao ys.length cap) ∧ Fresh w w' ao cap ys
theorem RowEnd.nil (w w' : World) : RowEnd w w' (.returned (.slice none 0 0)) [] := ⟨none, 0, rfl, Sl.nil _ _, Nat.le_refl _, fun _ => ⟨rfl, rfl⟩, by simp⟩

theorem rnumber_st {w : World} {b : Nat} {ao : Option Addr} {cap : Nat} {xs : List UInt8} {s : Rs} (h : RdS w b ao cap xs s) :
    Calls Tryd.prog 32 #[.pointer (some ⟨b, 0, none⟩)] w fun e' w' => e' = .returned (.int .i64 (stNumber xs s).1) ∧ Kept [b] w w' ∧ RdS w' b ao cap xs (stNumber xs s).2 := by
  obtain ⟨a, ha, hr⟩ := h
  obtain ⟨at_, e, p⟩ := s
  unfold stNumber
  by_cases he : e = 0
  · subst he
    obtain rfl := ha rfl
    rw [if_pos rfl]
    rcases hn : Pure.num (xs.drop a) with ⟨v, k, c⟩
    simp only [hn]
    by_cases hc : c = 0
    · subst hc
      rw [if_pos rfl]
      exact (rnumber_as hr hn).mono fun e w' ⟨h1, h2, h3⟩ => ⟨h1, h2, _, fun _ => rfl, h3⟩
    · rw [if_neg hc]
      exact (rnumber_no hr hn hc).mono fun e w' ⟨h1, h2, h3⟩ => ⟨h1, h2, _, fun _ => rfl, h3⟩
  · rw [if_neg he]
    exact (rnumber_bad hr.c0 (by simpa using he)).mono fun e w' ⟨h1, h2⟩ => by
      subst h2
      exact ⟨h1, Kept.refl _ _, a, fun h => absurd h he, hr⟩

theorem rfixed_st {w : World} {b : Nat} {ao : Option Addr} {cap : Nat} {xs : List UInt8} {s : Rs} (h : RdS w b ao cap xs s) (n : Int) :
    Calls Tryd.prog 31 #[.pointer (some ⟨b, 0, none⟩), .int .i64 n] w fun e' w' => e' = .returned (.int .i64 (stFixed xs s n).1) ∧ Kept [b] w w' ∧ RdS w' b ao cap xs (stFixed xs s n).2 := by
  obtain ⟨a, ha, hr⟩ := h
  obtain ⟨at_, e, p⟩ := s
  unfold stFixed
  by_cases he : e = 0
  · subst he
    obtain rfl := ha rfl
    rw [if_pos rfl]
    by_cases h1 : n < 1 ∨ 4 < n
    · rw [if_pos h1]
      rcases h1 with h1 | h1
      · exact (rfixed_low hr n h1).mono fun e w' ⟨h1, h2, h3⟩ => ⟨h1, h2, _, fun _ => rfl, h3⟩
      · exact (rfixed_high hr n h1).mono fun e w' ⟨h1, h2, h3⟩ => ⟨h1, h2, _, fun _ => rfl, h3⟩
    · rw [if_neg h1]
      by_cases h2 : ((xs.length - a : Nat) : Int) < n
      · rw [if_pos h2]
        exact (rfixed_short hr n (by omega) (by omega) h2).mono fun e w' ⟨h1, h2, h3⟩ => ⟨h1, h2, _, fun _ => rfl, h3⟩
      · rw [if_neg h2]
        obtain ⟨m, rfl⟩ := Int.eq_ofNat_of_zero_le (show 0 ≤ n by omega)
        rw [Int.toNat_natCast]
        exact (rfixed_ok hr m (by omega) (by omega) (by omega)).mono fun e w' ⟨h1, h2, h3⟩ => ⟨h1, h2, _, fun _ => rfl, h3⟩
  · rw [if_neg he]
    exact (rfixed_bad hr.c0 (by simpa using he) n).mono fun e w' ⟨h1, h2⟩ => by
      subst h2
      exact ⟨h1, Kept.refl _ _, a, fun h => absurd h he, hr⟩

theorem take_len {xs : List UInt8} {a m : Nat} (h : m ≤ xs.length - a) : ((xs.drop a).take m).length = m := by simp; omega

theorem raw_st {w : World} {b : Nat} {ao : Option Addr} {cap : Nat} {xs : List UInt8} {s : Rs} (h : RdS w b ao cap xs s) (n : Int) :
    Calls Tryd.prog 47 #[.pointer (some ⟨b, 0, none⟩), .int .i64 n] w fun e' w' => RowEnd w w' e' (stRaw xs s n).1 ∧ Kept [b] w w' ∧ RdS w' b ao cap xs (stRaw xs s n).2 := by
  obtain ⟨a, ha, hr⟩ := h
  obtain ⟨at_, e, p⟩ := s
  unfold stRaw
  by_cases he : e = 0
  · subst he
    obtain rfl := ha rfl
    rw [if_pos rfl]
    by_cases h1 : n < 0
    · rw [if_pos h1]
      exact (raw_neg hr n h1).mono fun e w' ⟨h1, h2, h3⟩ => ⟨h1 ▸ RowEnd.nil _ _, h2, _, fun _ => rfl, h3⟩
    · rw [if_neg h1]
      by_cases h2 : ((xs.length - a : Nat) : Int) < n
      · rw [if_pos h2]
        exact (raw_short hr n (by omega) h2).mono fun e w' ⟨h1, h2, h3⟩ => ⟨h1 ▸ RowEnd.nil _ _, h2, _, fun _ => rfl, h3⟩
      · rw [if_neg h2]
        obtain ⟨m, rfl⟩ := Int.eq_ofNat_of_zero_le (show 0 ≤ n by omega)
        rw [Int.toNat_natCast]
        exact (raw_ok hr m (by omega)).mono fun e w' ⟨ao', cap', h1, h2, h3, h4⟩ => ⟨⟨ao', cap', by rw [h1]; exact ret_slice (take_len (a := a) (by omega)).symm, h2⟩, h3, _, fun _ => rfl, h4⟩
  · rw [if_neg he]
    exact (raw_bad hr.c0 (by simpa using he) n).mono fun e w' ⟨h1, h2⟩ => by
      subst h2
      exact ⟨h1 ▸ RowEnd.nil _ _, Kept.refl _ _, a, fun h => absurd h he, hr⟩

theorem text_st {w : World} {b : Nat} {ao : Option Addr} {cap : Nat} {xs : List UInt8} {s : Rs} (h : RdS w b ao cap xs s) (n : Int) :
    Calls Tryd.prog 46 #[.pointer (some ⟨b, 0, none⟩), .int .i64 n] w fun e' w' => RowEnd w w' e' (stText xs s n).1 ∧ Kept [b] w w' ∧ RdS w' b ao cap xs (stText xs s n).2 := by
  obtain ⟨a, ha, hr⟩ := h
  obtain ⟨at_, e, p⟩ := s
  unfold stText
  by_cases he : e = 0
  · subst he
    obtain rfl := ha rfl
    rw [if_pos rfl]
    by_cases h1 : n < 0
    · rw [if_pos h1]
      exact (text_neg hr n h1).mono fun e w' ⟨h1, h2, h3⟩ => ⟨h1 ▸ RowEnd.nil _ _, h2, _, fun _ => rfl, h3⟩
    · rw [if_neg h1]
      rcases hn : Pure.num (xs.drop a) with ⟨v, k, c⟩
      simp only [hn]
      by_cases hc : c = 0
      · subst hc
        rw [if_pos rfl]
        by_cases h2 : n < (v : Int)
        · rw [if_pos h2]
          exact (text_long hr n (by omega) hn h2).mono fun e w' ⟨h1, h2, h3⟩ => ⟨h1 ▸ RowEnd.nil _ _, h2, _, fun h => by simp at h, h3⟩
        · rw [if_neg h2]
          by_cases h3 : xs.length - (a + k) < v
          · rw [if_pos h3]
            exact (text_short hr n (by omega) hn (by omega) h3).mono fun e w' ⟨h1, h2, h3⟩ => ⟨h1 ▸ RowEnd.nil _ _, h2, _, fun h => by simp at h, h3⟩
          · rw [if_neg h3]
            exact (text_ok hr n (by omega) hn (by omega) (by omega)).mono fun e w' ⟨ao', cap', h1, h2, h3, h4⟩ => ⟨⟨ao', cap', by rw [h1, take_len (by omega)], h2⟩, h3, _, fun _ => rfl, h4⟩
      · rw [if_neg hc]
        exact (text_form hr n (by omega) hn hc).mono fun e w' ⟨h1, h2, h3⟩ => ⟨h1 ▸ RowEnd.nil _ _, h2, _, fun _ => rfl, h3⟩
  · rw [if_neg he]
    exact (text_bad hr.c0 (by simpa using he) n).mono fun e w' ⟨h1, h2⟩ => by
      subst h2
      exact ⟨h1 ▸ RowEnd.nil _ _, Kept.refl _ _, a, fun h => absurd h he, hr⟩

theorem left_st {w : World} {b : Nat} {ao : Option Addr} {cap : Nat} {xs : List UInt8} {s : Rs} (h : RdS w b ao cap xs s) :
    Calls Tryd.prog 35 #[.pointer (some ⟨b, 0, none⟩)] w fun e' w' => e' = .returned (.int .i64 (stLeft xs s)) ∧ ∃ n, w' = w.drewN n := by
  obtain ⟨a, ha, hr⟩ := h
  obtain ⟨at_, e, p⟩ := s
  unfold stLeft
  by_cases he : e = 0
  · subst he
    obtain rfl := ha rfl
    rw [if_pos rfl]
    exact left_ok hr
  · rw [if_neg he]
    exact (left_bad hr he).mono fun e w' ⟨h1, h2⟩ => ⟨h1, 0, h2⟩
theorem err_st {w : World} {b : Nat} {ao : Option Addr} {cap : Nat} {xs : List UInt8} {s : Rs} (h : RdS w b ao cap xs s) :
    Calls Tryd.prog 45 #[.pointer (some ⟨b, 0, none⟩)] w fun e' w' => e' = .returned (.tuple #[.int .i64 s.e, .int .i64 s.p]) ∧ ∃ n, w' = w.drewN n := by
  obtain ⟨a, ha, hr⟩ := h
  exact err_any hr

set_option maxHeartbeats 800000 in
set_option maxRecDepth 100000 in
theorem read_any (ao : Option Addr) (n cap : Nat) (xs : List UInt8) (w : World) (hxn : xs.length = n) (hm : xs.length ≤ 140737488355328) (h : Sl w ao xs) (hn : ao = none → xs = [] ∧ cap = 0) :
    Calls Tryd.prog 23 #[.slice ao n cap] w fun e w' => ∃ b ao' cap', e = .returned (.pointer (some ⟨b, 0, none⟩)) ∧ w.heap.size ≤ b ∧ (∀ a, ao' = some a → w.heap.size ≤ a.block) ∧ (∀ a, ao' = some a → a.block < b) ∧ Rd w' b 0 0 ao' cap' xs 0 ∧ Kept [] w w' := by
  have HS : Hid (Sl w ao xs) := h
  clear h
  go_enter Tryd.func23, Tryd.ntmps23
  go_wp2_with (go_at_call 36; refine (clone_any ao n cap xs _ hxn hm HS.out hn).mono ?_; rintro e w1 ⟨ao1, cap1, rfl, hfr, hk⟩)
  go_ret
  refine ⟨w1.heap.size, ao1, cap1, rfl, hk.size, fun a ha => (hfr.2.2.2 a ha).1, fun a ha => (hfr.2.2.2 a ha).2.1, ?_, hk.alloc _⟩
  subst hxn
  exact ⟨by simp, by simp, by simp, by simp, by simp, by simp, by simp, Nat.zero_le _, hfr.2.1, hm, hfr.1.kept ((Kept.refl [] w1).alloc _) (by simp), hfr.2.2.1, fun a ha => (hfr.2.2.2 a ha).2.2, fun a ha => by have := (hfr.2.2.2 a ha).2.1; omega⟩


end Go.Proofs.YtjogfpogdjhglaaDoor
