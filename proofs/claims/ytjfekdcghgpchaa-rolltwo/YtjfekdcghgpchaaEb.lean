/-
  Small words for chapter 3.
-/
import Derived.Test.YtjfekdcghgpchaaProg
import Derived.Test.YtjfekdcghgpchaaMem
import Derived.Deep.MidRow
import Derived.StillTailTactics
import Derived.Deep.RegionHeld3
import Derived.Laws.CopyOwn
import Derived.Deep.QuietTactic
import Derived.BigQuiet
namespace Go.Proofs.Ytjfekdcghgpchaa
open Go.RowKit
set_option linter.unusedVariables false
set_option linter.unusedSimpArgs false

theorem ret_int {k : IntKind} {a b : Int} (h : a = b) : Ending.returned (.int k a) = .returned (.int k b) := by rw [h]
theorem Try.follows : Try.prog.follows .mixedOrders = true := by kernel_rfl
theorem Try.sizeByte : (Try.prog.info? 5).map (·.size) = some 1 := by kernel_rfl
theorem kept_setRow {l : List Nat} {a w : World} (h : Kept l a w) {g : Nat} (hg : g < a.heap.size → g ∈ l) (cs : Array Value) : Kept l a (w.setRow g cs) :=
  h.trans (l2 := [g]) ⟨rfl, rfl, rfl, by simp [World.setRow], fun k _ hn => setRow_other w g k cs (by simpa using hn)⟩ (by simpa using hg)
theorem Try.cutFrom (W : World) (ao : Option Addr) (g off L cap m : Nat) (hm : m ≤ L) :
    (Instr.slice 23 (.slice (some ⟨g, off, none⟩) L cap) (some (.int .i64 m)) none none).run Try.prog W = .ok (.slice (if cap = m then some ⟨g, off, none⟩ else some ⟨g, off + m, none⟩) (L - m) (cap - m)) W := by
  have hz : (sizeOf (Try.prog.elem 23)).run Try.prog W = .ok 1 W := by kernel_rfl
  have h := run_slice_l (P := Try.prog) W 23 (some ⟨g, off, none⟩) L cap (by kernel_rfl) .i64 m (by omega) (by omega)
  rw [h, hz]
  by_cases hc : cap = m <;> simp [sliced, Addr.add_mid, hc]
theorem Try.cutTo (W : World) (ao : Option Addr) (L cap m : Nat) (hm : m ≤ cap) :
    (Instr.slice 23 (.slice ao L cap) none (some (.int .i64 m)) none).run Try.prog W = .ok (.slice ao m cap) W := by
  have hz : (sizeOf (Try.prog.elem 23)).run Try.prog W = .ok 1 W := by kernel_rfl
  have h := run_slice_h (P := Try.prog) W 23 ao L cap (by kernel_rfl) .i64 m (by omega) (by omega)
  rw [h, hz]
  cases ao <;> simp [sliced, Addr.add]

end Go.Proofs.Ytjfekdcghgpchaa
