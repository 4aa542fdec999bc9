/-
  What the walks of chapter 8's laws share: answers opened, questions answered with yes.
-/
import Derived.Test.YtdeneflgldagpabT8s
import Derived.Test.YtdeneflgldagpabZv
import Derived.Test.YtdeneflgldagpabZy
namespace Go.Proofs.Ytdeneflgldagpab
open Go.RowKit Go.Sort
set_option linter.unusedVariables false
set_option linter.unusedSimpArgs false

theorem there_lt {w : World} {g n : Nat} (h : w.there g 0 n) (hn : 0 < n) : g < w.heap.size := by
  have := (h 0 hn).1
  rw [Option.isSome_iff_exists] at this
  obtain ⟨v, hv⟩ := this
  exact World.block_lt_of_cell? _ _ hv
theorem same_yes (a1 a2 : Option Addr) (n c1 c2 : Nat) (xs : List UInt8) (w : World) (hx : xs.length = n) (hm : n ≤ 4611686018427387904) (h1 : Sl w a1 xs) (h2 : Sl w a2 xs) :
    Calls Try.prog 10 #[.slice a1 n c1, .slice a2 n c2] w fun e w' => e = .returned (.bool true) ∧ Kept [] w w' := by
  refine (same_any a1 a2 n c1 n c2 xs xs w hx hx hm h1 h2).mono ?_
  rintro e w' ⟨rfl, k, rfl⟩
  exact ⟨by simp, (Kept.refl [] w).drewN k⟩
theorem like_yes (a1 a2 : Option Addr) (n c1 c2 : Nat) (L : List Res) (w : World) (hx : L.length = n) (hm : n ≤ 4611686018427387904) (h1 : Ress w a1 L) (h2 : Ress w a2 L) :
    Calls Try.prog 15 #[.slice a1 n c1, .slice a2 n c2] w fun e w' => e = .returned (.bool true) ∧ Kept [] w w' := by
  refine (like_ok a1 a2 n c1 n c2 L L w hx hx h1 h2 hm).mono ?_
  rintro e w' ⟨rfl, hk⟩
  exact ⟨by simp, hk⟩
/-- What With tells, opened. -/
theorem told_openR {w w' : World} {r : Ending} {e : Int} {L : List Res} (h : ToldR w w' r e L) : ∃ bo c m, r = .returned (.tuple #[.slice bo m c, .int .i64 e]) ∧ L.length = m ∧ Ress w' bo L ∧ (∀ a, bo = some a → w.heap.size ≤ a.block) ∧ Kept [] w w' := by
  obtain ⟨⟨v, rfl, ho⟩, hk⟩ := h
  obtain ⟨bo, c, rfl, _, hR, hao, _⟩ := ho.ress
  exact ⟨bo, c, L.length, rfl, rfl, hR, fun a ha => by obtain ⟨g, rfl, hb, _⟩ := hao a ha; exact hb, hk⟩
/-- What an Encode tells, opened. -/
theorem told_open {w w' : World} {r : Ending} {b : Bool} {xs : List UInt8} (h : Told w w' r b xs) : ∃ bo c m, r = .returned (.tuple #[.slice bo m c, .int .i64 (Tb.code b)]) ∧ xs.length = m ∧ Sl w' bo xs ∧ (∀ a, bo = some a → w.heap.size ≤ a.block) ∧ m ≤ c ∧ Kept [] w w' := by
  obtain ⟨⟨v, rfl, ho⟩, hb⟩ := h
  rcases ho.2 with ⟨rfl, h0⟩ | ⟨g, cap, cur, rfl, hb2, hg, hn, hc, hs, ht⟩
  · have : xs = [] := List.eq_nil_of_length_eq_zero h0
    subst this
    exact ⟨none, 0, 0, rfl, rfl, Sl.nil _ _, by simp, Nat.le_refl _, Kept.of_below hb⟩
  · refine ⟨_, cap, xs.length, rfl, rfl, fun i hi => ⟨g, 0, rfl, ?_⟩, fun a ha => by cases ha; exact hb2, hn, Kept.of_below hb⟩
    rw [Nat.zero_add, cell_of_row _ _ _ _ _ _ hg]
    have h1 := bys_at hi
    rw [← ht, List.getElem?_take] at h1
    split at h1
    · simpa using h1
    · cases h1
theorem Tb.encd_len (L : List Res) : (Tb.encd L).length ≤ 3000 := by
  unfold Tb.encd
  split
  · rename_i h
    have := Tb.valid_len h
    simp only [Tb.encT, List.length_cons, Tb.flat_len]; omega
  · simp
end Go.Proofs.Ytdeneflgldagpab
