/-
  Chapter 4: ground of the laws' walks. The walk: freightlaw4.PressBounded.
-/
import Derived.Test.YtdnbpklnkmgmkaaWb
import Derived.Test.YtdnbpklnkmgmkaaVj
import Derived.Test.YtdnbpklnkmgmkaaUh
import Derived.Test.YtdnbpklnkmgmkaaEa
namespace Go.Proofs.Ytdnbpklnkmgmkaa
open Go.RowKit
set_option linter.unusedVariables false
set_option linter.unusedSimpArgs false

theorem Sl.later {w W : World} {ao : Option Addr} {xs : List UInt8} (h : Sl w ao xs) (hB : Below w.heap.size w W) : Sl W ao xs := by
  intro i hi
  obtain ⟨b', off', e', hc⟩ := h i hi
  exact ⟨b', off', e', by rw [hB.cell (p := ⟨b', off' + i, none⟩) (World.block_lt_of_cell? _ _ hc)]; exact hc⟩

/-- Unpack, behind whatever was done since w. -/
theorem unpack_at {w : World} {ao : Option Addr} {n cap : Nat} {xs : List UInt8} (hx : xs.length = n) (hc : n ≤ cap) (hs : Sl w ao xs) (m : Int) (W : World) (hB : Below w.heap.size w W) (r : List UInt8) (k : Nat) (hr : Prs.unpack xs m = (r, k)) :
    Calls Try.prog 38 #[.slice ao n cap, .int .i64 m] W fun e w' => ∃ bo bc, e = .returned (.tuple #[.slice bo r.length bc, .int .i64 k]) ∧ w'.ownsRow W.heap.size 5 1 (.slice bo r.length bc) r.length (bys r) ∧ Below W.heap.size W w' := by
  have := unpack_any ao n cap m xs W hx hc (hs.later hB)
  rw [hr] at this
  exact this

theorem refunpack_at {w : World} {ao : Option Addr} {n cap : Nat} {xs : List UInt8} (hx : xs.length = n) (hm : n ≤ 140737488355328) (hs : Sl w ao xs) (m : Int) (W : World) (hB : Below w.heap.size w W) (r : List UInt8) (k : Nat) (hr : Prs.unpack xs m = (r, k)) :
    Calls Try.prog 36 #[.slice ao n cap, .int .i64 m] W fun e w' => ∃ bo bc, e = .returned (.tuple #[.slice bo r.length bc, .int .i64 k]) ∧ w'.ownsRow W.heap.size 5 1 (.slice bo r.length bc) r.length (bys r) ∧ Below W.heap.size W w' := by
  have := refunpack_any ao n cap m xs W hx hm (hs.later hB)
  rw [hr] at this
  exact this

theorem pack_at {w : World} {ao : Option Addr} {n cap : Nat} {xs : List UInt8} (hx : xs.length = n) (hs : Sl w ao xs) (W : World) (hB : Below w.heap.size w W) (r : List UInt8) (k : Nat) (hr : Prs.packed xs = (r, k)) :
    Calls Try.prog 40 #[.slice ao n cap] W fun e w' => ∃ bo bc, e = .returned (.tuple #[.slice bo r.length bc, .int .i64 k]) ∧ w'.ownsRow W.heap.size 5 1 (.slice bo r.length bc) r.length (bys r) ∧ Below W.heap.size W w' := by
  have := pack_any ao n cap xs W hx (hs.later hB)
  rw [hr] at this
  exact this

theorem refpack_at {w : World} {ao : Option Addr} {n cap : Nat} {xs : List UInt8} (hx : xs.length = n) (hs : Sl w ao xs) (W : World) (hB : Below w.heap.size w W) (r : List UInt8) (k : Nat) (hr : Prs.packed xs = (r, k)) :
    Calls Try.prog 27 #[.slice ao n cap] W fun e w' => ∃ bo bc, e = .returned (.tuple #[.slice bo r.length bc, .int .i64 k]) ∧ w'.ownsRow W.heap.size 5 1 (.slice bo r.length bc) r.length (bys r) ∧ Below W.heap.size W w' := by
  have := refpack_any ao n cap xs W hx (hs.later hB)
  rw [hr] at this
  exact this

namespace Prs

theorem unpack_bounded {xs r : List UInt8} {m : Int} (h : unpack xs m = (r, 0)) : 0 ≤ m ∧ m ≤ 4096 ∧ (r.length : Int) = m ∧ r.length ≤ 33 * xs.length ∧ (unpack xs (m + 1)).2 ≠ 0 := by
  unfold unpack at h
  split at h
  · simp at h
  · next hm =>
    have h1 := unp_ok m.toNat 0 0 xs [] r h (by simp)
    simp only [List.length_nil, Nat.zero_add] at h1
    refine ⟨by omega, by omega, by omega, h1.2, ?_⟩
    unfold unpack
    split
    · simp
    · intro h2
      have h3 : unp (m + 1).toNat 0 0 xs [] = ((unp (m + 1).toNat 0 0 xs []).1, 0) := Prod.ext rfl h2
      have h4 := unp_same _ _ _ _ _ _ _ _ h h3
      have h5 := unp_ok _ _ _ _ _ _ h3 (by simp)
      rw [← h4] at h5
      omega

end Prs

end Go.Proofs.Ytdnbpklnkmgmkaa
