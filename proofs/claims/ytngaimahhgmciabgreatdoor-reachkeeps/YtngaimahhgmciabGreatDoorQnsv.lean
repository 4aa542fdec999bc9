/-
  The tables of unicode/utf8 and errors' own variable, as chapter 9's rows list them.
-/
import Derived.Test.YtngaimahhgmciabGreatDoorRows
import Derived.Test.YtngaimahhgmciabGreatDoorNdv
import Derived.Test.YtngaimahhgmciabGreatDoorK9xv
import Derived.Lib.LaidIn
import Derived.Lib.LaidU8
import Derived.PinnedBridge
import Derived.MakeChecks
import Derived.LaidMore
import Derived.ProofKit
import Derived.LaidHandle
import Derived.LaidLaws
namespace Go.Proofs.YtngaimahhgmciabGreatDoor
open Go.Shelf Go.RowKit
set_option linter.unusedVariables false

theorem et9 : Tryz.prog.globalNamed "errors.errorType" = some 0 := by kernel_rfl
theorem rt9 : (Tryz.prog.cutTypes.find? (·.1 == "internal/reflectlite.rtype")).map (·.2) = some 126 := by kernel_rfl
theorem oneRow9 : ((List.range 223).filter fun t => Tryz.prog.rowNamed t [101, 114, 114, 111, 114]) = [30] := by kernel_rfl
theorem size9 : Tryz.prog.types.size = 223 := by kernel_rfl
/-- A world with all three laid. -/
noncomputable def laidIn9 (w0 : World) : World :=
  { w0 with heap := ((w0.heap.modify 2 fun
      | .cells _ t frozen => .cells (Lib.firstTab.map fun z => Value.int .u8 z).toArray t frozen
      | o => o).modify 3 fun
      | .cells _ t frozen => .cells ((List.range 16).flatMap fun i => [Value.int .u8 (Lib.accLo i), Value.int .u8 (Lib.accHi i)]).toArray t frozen
      | o => o).modify 0 fun
      | .cells _ t frozen => .cells #[.iface 126 (.agg #[.pointer (some ⟨4, 30, none⟩)])] t frozen
      | o => o }
set_option maxRecDepth 100000 in
theorem parts9 {W : World} (h : laidMetH Tryz.prog [("unicode/utf8.acceptRanges", Rows.laid_unicode_utf8_acceptRanges), ("errors.errorType", Rows.laid_errors_errorType), ("unicode/utf8.first", Rows.laid_unicode_utf8_first)] W) : GlE W ∧ Tabs W := by
  have h' : laidMet Tryz.prog [("unicode/utf8.acceptRanges", Rows.laid_unicode_utf8_acceptRanges), ("unicode/utf8.first", Rows.laid_unicode_utf8_first)] W ∧ handlesMet Tryz.prog [("errors.errorType", Rows.laid_errors_errorType)] W := h
  constructor
  · obtain ⟨name, u, ty, e1, e2, e3, e4, e5⟩ := h'.2 _ (List.mem_singleton.2 rfl)
    have en : name = [101, 114, 114, 111, 114] := (Option.some.inj e1).symm
    subst en
    obtain rfl := Option.some.inj (rt9.symm.trans e2)
    have hm : ty ∈ (List.range 223).filter fun t => Tryz.prog.rowNamed t [101, 114, 114, 111, 114] := List.mem_filter.2 ⟨List.mem_range.2 (by rw [← size9]; exact e3), e4⟩
    rw [oneRow9] at hm
    obtain rfl := List.mem_singleton.1 hm
    have hh : typeHandle Tryz.prog 30 = .pointer (some ⟨4, 30, none⟩) := by kernel_rfl
    rw [hh] at e5
    simpa [GlE] using World.var?_cell et9 e5 0
  · have ha := Lib.laidMet.reads h'.1 (.head _)
    have hf := Lib.laidMet.reads h'.1 (.tail _ (.head _))
    have e1 : Rows.laid_unicode_utf8_first = Lib.firstData := Pinned.utf8First_eq
    have e2 : (Rows.laid_unicode_utf8_acceptRanges : DataW Unit) = Lib.acceptData := by kernel_rfl
    rw [e1] at hf
    rw [e2] at ha
    exact Go.Proofs.utf8Tabs_of_reads Tryz.lays260 ⟨by kernel_rfl, by kernel_rfl, by kernel_rfl, by kernel_rfl, by kernel_rfl, by kernel_rfl, by kernel_rfl⟩ hf ha
end Go.Proofs.YtngaimahhgmciabGreatDoor
