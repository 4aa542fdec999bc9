/-
  The library's contracts for slices.SortFunc, IndexFunc, ContainsFunc, Equal, Clone at results, and sort.Search, laid at this program. (Written by tools/ze.py.)
-/
import Derived.Shelf.Spec.SlicesGrow
import Derived.Test.YtmhnjhnnaciokaaProg
namespace Go.Proofs.Ytmhnjhnnaciokaa
open Go.Shelf Go.RowKit Go.Lib
set_option linter.unusedVariables false

def layGrow_ren : Go.Shelf.Ren := ⟨fun | 4 => 33 | n => n, fun | 22 => 22 | 25 => 26 | 3 => 3 | 4 => 4 | 9 => 9 | 20 => 20 | 0 => 0 | n => n, fun | n => n⟩
theorem layGrow : Go.Proofs.Lays8.n4 Try.prog layGrow_ren where
  mixed := by kernel_rfl
  f4 := ⟨ "slices.Grow[[]freight/api.Result,freight/api.Result]", by decide, Try.func33.trans (congrArg some (by kernel_rfl))⟩
  t0 := Try.underlying0
  a0 := Try.isAgg0
  z0 := Try.sizeOf0
  v0 := Try.zeroValue0
  t3 := Try.underlying3
  a3 := Try.isAgg3
  z3 := Try.sizeOf3
  v3 := Try.zeroValue3
  t4 := Try.underlying4
  a4 := Try.isAgg4
  z4 := Try.sizeOf4
  v4 := Try.zeroValue4
  t9 := Try.underlying9
  a9 := Try.isAgg9
  z9 := Try.sizeOf9
  v9 := Try.zeroValue9
  t20 := Try.underlying20
  a20 := Try.isAgg20
  z20 := Try.sizeOf20
  v20 := Try.zeroValue20
  t22 := Try.underlying22
  a22 := Try.isAgg22
  z22 := Try.sizeOf22
  v22 := Try.zeroValue22

end Go.Proofs.Ytmhnjhnnaciokaa
