/-
  Numbers that come in.
-/
import Derived.Test.YtngaimahhgmciaaGreatDoorQorp
namespace Go.Proofs.YtngaimahhgmciaaGreatDoor
open Go.RowKit Go.Lib Go.Sort
set_option linter.unusedVariables false
set_option linter.unusedSimpArgs false
theorem open_ints9 {H : Type} {enc : TypeId × Value → H} {w : World} {fuel : Nat} {v : Value} {x : DataW H × List MemPlace} (h : DataW.trod enc Tryz.prog w 0 (fun _ => true) true fuel 37 [v] = some x) (hw : ∀ n ∈ x.1.weights Tryz.prog 37, n ≤ reachBytes) :
    ∃ ao n cap L, v = .slice ao n cap ∧ InT w ao n cap L := by
  obtain ⟨ao, n, cap, L, hv, hn, hb, hc, hm, h0⟩ := open_structs9 (α := Int) 37 3 1 8 Tryz.underlying37 (by kernel_rfl) (by kernel_rfl) (by omega) (fun k => [.int .i64 k]) (fun _ => rfl) (fun k => (Lit.int .i64 k).wf = true) (fun n cs x h hw => by obtain ⟨k, e, _, w2⟩ := DataW.trod_int Tryz.underlying3 h; exact ⟨k, e, w2⟩) h hw
  refine ⟨ao, n, cap, L, hv, hn, hc, by omega, fun i hi => ?_, fun x hx => ?_⟩
  · obtain ⟨b, off, e, h1, _⟩ := hb i hi
    refine ⟨b, off, e, ?_⟩
    have h2 := h1 0 _ rfl
    rw [Nat.mul_one, Nat.add_zero] at h2
    exact h2
  · obtain ⟨i, hi, rfl⟩ := List.getElem_of_mem hx
    obtain ⟨b, off, e, _, h2⟩ := hb i hi
    rw [List.getD_eq_getElem?_getD, List.getElem?_eq_getElem hi] at h2
    exact h2
end Go.Proofs.YtngaimahhgmciaaGreatDoor
