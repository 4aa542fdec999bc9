/-
  Chapter 4: ground of the laws' walks. The walk: freightlaw4.PressBounded.
-/
import Derived.Test.YtcgkjdchkpnldaaWb
import Derived.Test.YtcgkjdchkpnldaaVj
import Derived.Test.YtcgkjdchkpnldaaUh
import Derived.Test.YtcgkjdchkpnldaaEa
namespace Go.Proofs.Ytcgkjdchkpnldaa
open Go.RowKit
set_option linter.unusedVariables false
set_option linter.unusedSimpArgs false

theorem Sl.later {w W : World} {ao : Option Addr} {xs : List UInt8} (h : Sl w ao xs) (hB : Below w.heap.size w W) : Sl W ao xs := by
  intro i hi
  obtain ⟨b', off', e', hc⟩ := h i hi
  exact ⟨b', off', e', by rw [hB.cell (p := ⟨b', off' + i, none⟩) (World.block_lt_of_cell? _ _ hc)]; exact hc⟩

/-- Unpack, behind whatever was done since w. -/
theorem unpack_at {w : World} {ao : Option Addr} {n cap : Nat} {xs : List UInt8} (hx : xs.length = n) (hc : n ≤ cap) (hs : Sl w ao xs) (m : Int) (W : World) (hB : Below w.heap.size w W) (r : List UInt8) (k : Nat) (hr : Prs.unpack xs m = (r, k)) :
    Calls Try.prog 15 #[.slice ao n cap, .int .i64 m] W fun e w' => ∃ bo bc, e = .returned (.tuple #[.slice bo r.length bc, .int .i64 k]) ∧ w'.ownsRow W.heap.size 5 1 (.slice bo r.length bc) r.length (bys r) ∧ Below W.heap.size W w' := by
  have := unpack_any ao n cap m xs W hx hc (hs.later hB)
  rw [hr] at this
  exact this
theorem refunpack_at {w : World} {ao : Option Addr} {n cap : Nat} {xs : List UInt8} (hx : xs.length = n) (hm : n ≤ 140737488355328) (hs : Sl w ao xs) (m : Int) (W : World) (hB : Below w.heap.size w W) (r : List UInt8) (k : Nat) (hr : Prs.unpack xs m = (r, k)) :
    Calls Try.prog 16 #[.slice ao n cap, .int .i64 m] W fun e w' => ∃ bo bc, e = .returned (.tuple #[.slice bo r.length bc, .int .i64 k]) ∧ w'.ownsRow W.heap.size 5 1 (.slice bo r.length bc) r.length (bys r) ∧ Below W.heap.size W w' := by
  have := refunpack_any ao n cap m xs W hx hm (hs.later hB)
  rw [hr] at this
  exact this
theorem pack_at {w : World} {ao : Option Addr} {n cap : Nat} {xs : List UInt8} (hx : xs.length = n) (hs : Sl w ao xs) (W : World) (hB : Below w.heap.size w W) (r : List UInt8) (k : Nat) (hr : Prs.packed xs = (r, k)) :
    Calls Try.prog 10 #[.slice ao n cap] W fun e w' => ∃ bo bc, e = .returned (.tuple #[.slice bo r.length bc, .int .i64 k]) ∧ w'.ownsRow W.heap.size 5 1 (.slice bo r.length bc) r.length (bys r) ∧ Below W.heap.size W w' := by
  have := pack_any ao n cap xs W hx (hs.later hB)
  rw [hr] at this
  exact this
theorem refpack_at {w : World} {ao : Option Addr} {n cap : Nat} {xs : List UInt8} (hx : xs.length = n) (hs : Sl w ao xs) (W : World) (hB : Below w.heap.size w W) (r : List UInt8) (k : Nat) (hr : Prs.packed xs = (r, k)) :
    Calls Try.prog 11 #[.slice ao n cap] W fun e w' => ∃ bo bc, e = .returned (.tuple #[.slice bo r.length bc, .int .i64 k]) ∧ w'.ownsRow W.heap.size 5 1 (.slice bo r.length bc) r.length (bys r) ∧ Below W.heap.size W w' := by
  have := refpack_any ao n cap xs W hx (hs.later hB)
  rw [hr] at this
  exact this

namespace Prs
theorem unpack_bounded {xs r : List UInt8} {m : Int} (h : unpack xs m = (r, 0)) : 0 ≤ m ∧ m ≤ 4096 ∧ (r.length : Int) = m ∧ r.length ≤ 33 * xs.length ∧ (unpack xs (m + 1)).2 ≠ 0 := by
  unfold unpack at h
  split at h
  · simp at h
  · next hm =>
    have h1 := unp_ok m.toNat 0 0 xs [] r h (by simp)
    simp only [List.length_nil, Nat.zero_add] at h1
    refine ⟨by omega, by omega, by omega, h1.2, ?_⟩
    unfold unpack
    split
    · simp
    · intro h2
      have h3 : unp (m + 1).toNat 0 0 xs [] = ((unp (m + 1).toNat 0 0 xs []).1, 0) := Prod.ext rfl h2
      have h4 := unp_same _ _ _ _ _ _ _ _ h h3
      have h5 := unp_ok _ _ _ _ _ _ h3 (by simp)
      rw [← h4] at h5
      omega
end Prs

set_option maxHeartbeats 2000000 in
set_option maxRecDepth 100000 in
theorem bounded_walk (ao : Option Addr) (n cap : Nat) (m : Int) (xs : List UInt8) (w : World) (hi : InB w ao n cap xs) (hw : (Lit.int .i64 m).wf = true) :
    Calls Try.prog 8 #[.slice ao n cap, .int .i64 m] w fun e w' => e = .returned (.bool true) ∧ Below w.heap.size w w' := by
  obtain ⟨r, k, hr⟩ : ∃ r k, Prs.unpack xs m = (r, k) := ⟨_, _, rfl⟩
  have HU : Hid (Calls Try.prog 15 #[.slice ao n cap, .int .i64 m] w fun e w' => ∃ bo bc, e = .returned (.tuple #[.slice bo r.length bc, .int .i64 k]) ∧ w'.ownsRow w.heap.size 5 1 (.slice bo r.length bc) r.length (bys r) ∧ Below w.heap.size w w') := unpack_at hi.len hi.le hi.sl m w (Below.refl _ _) r k hr
  have HAW : Hid (∀ W, Calls Try.prog 14 #[] W fun e w' => e = .returned (.bool true) ∧ Below W.heap.size W w') := awake_ok
  by_cases hk : k = 0
  · subst hk
    obtain ⟨b1, b2, b3, b4, b5⟩ := Prs.unpack_bounded hr
    obtain ⟨r2, k2, hr2⟩ : ∃ r2 k2, Prs.unpack xs (m + 1) = (r2, k2) := ⟨_, _, rfl⟩
    rw [hr2] at b5
    have HU2 : Hid (∀ W, Below w.heap.size w W → Calls Try.prog 15 #[.slice ao n cap, .int .i64 (m + 1)] W fun e w' => ∃ bo bc, e = .returned (.tuple #[.slice bo r2.length bc, .int .i64 k2]) ∧ w'.ownsRow W.heap.size 5 1 (.slice bo r2.length bc) r2.length (bys r2) ∧ Below W.heap.size W w') := fun W hB => unpack_at hi.len hi.le hi.sl (m + 1) W hB r2 k2 hr2
    have hq1 : ((r.length : Int) != m) = false := by simp [b3]
    have hq2 : ¬ ((33 : Int) * (n : Int) < m) := by have := hi.len; omega
    have hq3 : ((k2 : Int) != 0) = true := by simp at b5 ⊢; omega
    have hnm : n ≤ 140737488351232 := by have := hi.le; have := hi.max; omega
    clear hi hr hr2 b3 b4 b5
    go_enter Try.func8, Try.ntmps8
    go_wp2_with (first
      | (go_at_call_of 15 (Value.int IntKind.i64 m); refine HU.out.mono ?_; rintro e w1 ⟨bo, bc, rfl, _, hb1⟩; have HB1 := hide hb1; clear hb1 HU)
      | (go_at_call 15; refine (HU2.out _ HB1.out).mono ?_; rintro e w2 ⟨bo2, bc2, rfl, _, hb2⟩; have HB2 := hide (HB1.out.trans (Below.less hb2 HB1.out.size)); clear hb2 HU2 HB1)
      | (go_at_call 14; refine (HAW.out _).mono ?_; rintro e w3 ⟨rfl, hb3⟩; have HB3 := hide (HB2.out.trans (Below.less hb3 HB2.out.size)); clear hb3)
      | go_in)
    go_ret
    exact ⟨rfl, HB3.out⟩
  · have hq1 : ((k : Int) != 0) = true := by simp; omega
    have hnil : r = [] := by
      have := Prs.unpack_err xs m
      rw [hr] at this
      exact this.resolve_left hk
    subst hnil
    clear hi hr hk
    go_enter Try.func8, Try.ntmps8
    go_wp2_with (first
      | (go_at_call 15; refine HU.out.mono ?_; rintro e w1 ⟨bo, bc, rfl, _, hb1⟩; have HB1 := hide hb1; clear hb1 HU)
      | (go_at_call 14; refine (HAW.out _).mono ?_; rintro e w3 ⟨rfl, hb3⟩; have HB3 := hide (HB1.out.trans (Below.less hb3 HB1.out.size)); clear hb3)
      | go_in)
    go_ret
    exact ⟨rfl, HB3.out⟩

end Go.Proofs.Ytcgkjdchkpnldaa
