/-
  Chapter 4: ground of the laws' walks. The walk: freightlaw4.PressBounded.
-/
import Derived.Test.YtcgkjdchkpnldabWb2
import Derived.Test.YtcgkjdchkpnldabEa
namespace Go.Proofs.Ytcgkjdchkpnldab
open Go.RowKit
set_option linter.unusedVariables false
set_option linter.unusedSimpArgs false

theorem Sl.later {w W : World} {ao : Option Addr} {xs : List UInt8} (h : Sl w ao xs) (hB : Below w.heap.size w W) : Sl W ao xs := by
  intro i hi
  obtain ⟨b', off', e', hc⟩ := h i hi
  exact ⟨b', off', e', by rw [hB.cell (p := ⟨b', off' + i, none⟩) (World.block_lt_of_cell? _ _ hc)]; exact hc⟩

/-- Unpack, behind whatever was done since w. -/
theorem unpack_at {w : World} {ao : Option Addr} {n cap : Nat} {xs : List UInt8} (hx : xs.length = n) (hc : n ≤ cap) (hs : Sl w ao xs) (m : Int) (W : World) (hB : Below w.heap.size w W) (r : List UInt8) (k : Nat) (hr : Prs.unpack xs m = (r, k)) :
    Calls Try.prog 6 #[.slice ao n cap, .int .i64 m] W fun e w' => ∃ bo bc, e = .returned (.tuple #[.slice bo r.length bc, .int .i64 k]) ∧ w'.ownsRow W.heap.size 5 1 (.slice bo r.length bc) r.length (bys r) ∧ Below W.heap.size W w' := by
  have := unpack_any ao n cap m xs W hx hc (hs.later hB)
  rw [hr] at this
  exact this
theorem pack_at {w : World} {ao : Option Addr} {n cap : Nat} {xs : List UInt8} (hx : xs.length = n) (hs : Sl w ao xs) (W : World) (hB : Below w.heap.size w W) (r : List UInt8) (k : Nat) (hr : Prs.packed xs = (r, k)) :
    Calls Try.prog 5 #[.slice ao n cap] W fun e w' => ∃ bo bc, e = .returned (.tuple #[.slice bo r.length bc, .int .i64 k]) ∧ w'.ownsRow W.heap.size 5 1 (.slice bo r.length bc) r.length (bys r) ∧ Below W.heap.size W w' := by
  have := pack_any ao n cap xs W hx (hs.later hB)
  rw [hr] at this
  exact this
theorem same_yes (a1 a2 : Option Addr) (n c1 c2 : Nat) (xs : List UInt8) (w : World) (hx : xs.length = n) (hm : n ≤ 4611686018427387904) (h1 : Sl w a1 xs) (h2 : Sl w a2 xs) :
    Calls Try.prog 8 #[.slice a1 n c1, .slice a2 n c2] w fun e w' => e = .returned (.bool true) ∧ ∃ k, w' = w.drewN k := by
  refine (same_any a1 a2 n c1 n c2 xs xs w hx hx hm h1 h2).mono ?_
  rintro e w' ⟨rfl, h⟩
  exact ⟨by simp, h⟩


end Go.Proofs.Ytcgkjdchkpnldab
