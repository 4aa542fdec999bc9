/-
  Arrays of 32 bytes by value: an element of them, whether two are one.
-/
import Derived.Test.YthfbpbibpgblaaaDh4
import Derived.ChangeKeysEq
namespace Go.Proofs.Ythfbpbibpgblaaa
open Go.RowKit
set_option linter.unusedVariables false
set_option linter.unusedSimpArgs false

theorem Try.aggByte (W : World) : (isAgg 5).run Try.prog W = .ok false W := by kernel_rfl
theorem Try.sizeOfByte (W : World) : (sizeOf 5).run Try.prog W = .ok 1 W := by kernel_rfl
theorem Try.cellsByte : Try.prog.cellsOf 5 = 1 := by kernel_rfl

theorem Try.partByte (L : List UInt8) (i : Nat) (hi : i < L.length) (W : World) : (part 5 (bys L).toArray i).run Try.prog W = .ok (.int .u8 (L.getD i 0).toNat) W := by
  simp only [part, Sem.run_bind, Try.aggByte, Result.andThen_ok, Bool.false_eq_true, if_false, List.getElem?_toArray, bys_at hi, Sem.run_pure]

theorem eqItems_bytes (d : Nat) (A B : List UInt8) (hA : A.length = 32) (hB : B.length = 32) (W : World) : ∀ (is : List Nat), (∀ i ∈ is, i < 32) →
    (Op.eqItems (d + 1) 5 1 (bys A).toArray (bys B).toArray is).run Try.prog W = .ok (is.all fun i => A.getD i 0 == B.getD i 0) W
  | [], _ => by simp [Op.eqItems]
  | i :: is, h => by
    have hi := h i (by simp)
    have ih := eqItems_bytes d A B hA hB W is (fun j hj => h j (by simp [hj]))
    have e : (((A.getD i 0).toNat : Int) == ((B.getD i 0).toNat : Int)) = (A.getD i 0 == B.getD i 0) := by
      rw [Bool.eq_iff_iff]
      simp only [beq_iff_eq]
      constructor
      · intro h
        exact UInt8.toNat_inj.1 (by omega)
      · intro h
        rw [h]
    simp only [Op.eqItems, Sem.run_bind, Nat.mul_one, Try.partByte A i (by omega), Try.partByte B i (by omega), Result.andThen_ok, run_equalIn_int _ d 5 .u8 .u8 _ _ Try.underlying5, e]
    cases hab : (A.getD i 0 == B.getD i 0)
    · simp only [Bool.not_false, if_true, Sem.run_pure, List.all_cons, hab, Bool.false_and]
    · simp only [Bool.not_true, Bool.false_eq_true, if_false, List.all_cons, hab, Bool.true_and]
      exact ih

theorem all_eq {A B : List UInt8} (hA : A.length = 32) (hB : B.length = 32) : ((List.range 32).all fun i => A.getD i 0 == B.getD i 0) = decide (A = B) := by
  rw [Bool.eq_iff_iff]
  simp only [List.all_eq_true, List.mem_range, beq_iff_eq, decide_eq_true_eq]
  constructor
  · intro h
    apply List.ext_getElem (by omega)
    intro i h1 h2
    have := h i (by omega)
    simpa [List.getElem?_eq_getElem h1, List.getElem?_eq_getElem h2] using this
  · intro h i _
    rw [h]

theorem Try.equal32 (t : TypeId) (n : Nat) (ht : Try.prog.underlying t = some (.array 32 5)) (A B : List UInt8) (hA : A.length = 32) (hB : B.length = 32) (W : World) :
    (Op.equalIn 10000 t (.agg (bys A).toArray) (.agg (bys B).toArray)).run Try.prog W = .ok (decide (A = B)) W := by
  obtain ⟨i0, hi, _⟩ := info_parts Try.infoByte
  rw [run_equalIn_array (P := Try.prog) W 9999 (bys A).toArray (bys B).toArray ht hi, Try.cellsByte, eqItems_bytes 9998 A B hA hB W _ (fun i hi => List.mem_range.1 hi), all_eq hA hB]

theorem Try.eqlID (A B : List UInt8) (hA : A.length = 32) (hB : B.length = 32) (W : World) : (Op.equalIn 10000 46 (.agg (bys A).toArray) (.agg (bys B).toArray)).run Try.prog W = .ok (decide (A = B)) W :=
  Try.equal32 _ 0 Try.underlying46 A B hA hB W
theorem Try.eql32 (A B : List UInt8) (hA : A.length = 32) (hB : B.length = 32) (W : World) : (Op.equalIn 10000 39 (.agg (bys A).toArray) (.agg (bys B).toArray)).run Try.prog W = .ok (decide (A = B)) W :=
  Try.equal32 _ 0 Try.underlying39 A B hA hB W

theorem Try.indexID (L : List UInt8) (hL : L.length = 32) (i : Nat) (hi : i < 32) (W : World) : (Instr.index 46 (.agg (bys L).toArray) (.int .i64 i)).run Try.prog W = .ok (.int .u8 (L.getD i 0).toNat) W := by
  have hp := Try.partByte L i (by omega) W
  simp only [Instr.index, asIntOf, Sem.run_bind, Sem.run_pure, Result.andThen_ok, run_underlying Try.underlying46]
  rw [if_pos (by omega)]
  simp only [Sem.run_bind, Try.sizeOfByte, Result.andThen_ok, Nat.mul_one, Int.toNat_natCast]
  exact hp

end Go.Proofs.Ythfbpbibpgblaaa
