/-
  Contract: freightlaw4.awake.
-/
import Derived.Test.YtdnbpklnkmgmkaaWa
import Derived.Test.YtdnbpklnkmgmkaaVh
import Derived.Test.YtdnbpklnkmgmkaaUf
import Derived.Lib.SlBytesConst
import Derived.Laws.BytesString
import Derived.Deep.MidRow
namespace Go.Proofs.Ytdnbpklnkmgmkaa
open Go.RowKit
set_option linter.unusedVariables false
set_option linter.unusedSimpArgs false

theorem new_sl (W : World) (xs : List UInt8) (fr : Nat × Nat) : Sl (W.alloc (.cells (bys xs).toArray 5 fr)) (some ⟨W.heap.size, 0, none⟩) xs := by
  refine Sl.of fun i hi => ?_
  rw [Nat.zero_add]
  unfold World.cell?
  rw [heap_alloc_new]
  simpa using bys_at hi

theorem Sl.below {B : Nat} {w w' : World} {ao : Option Addr} {xs : List UInt8} (h : Sl w ao xs) (hb : Below B w w') (hl : ∀ a, ao = some a → a.block < B) : Sl w' ao xs := by
  intro i hi
  obtain ⟨b', off', e', hc⟩ := h i hi
  exact ⟨b', off', e', by rw [hb.cell (p := ⟨b', off' + i, none⟩) (by have h1 := hl _ e'; exact h1)]; exact hc⟩
theorem Below.less {B C : Nat} {w w' : World} (h : Below C w w') (hb : B ≤ C) : Below B w w' := ⟨h.os, h.tape, h.output, h.size, fun i hi => h.block i (by omega)⟩

def abc8 : List UInt8 := [97, 98, 99, 97, 98, 99, 97, 98]
def packed6 : List UInt8 := [8, 97, 98, 99, 0, 130]
def seven : List UInt8 := [97, 97, 97, 97, 97, 97, 97]
theorem pack_abc8 : Prs.pack abc8 = packed6 := by decide +kernel
theorem pack_seven : Prs.pack seven = [2, 97, 0, 3] := by decide +kernel
theorem unpack_seven : Prs.unp 7 0 0 [2, 97, 0, 3] [] = (seven, 0) := by
  have := Prs.unp_pack seven 7 (by decide)
  rw [pack_seven] at this
  exact this

/-- What an answer is, whose row is known. -/
theorem Ans.sl {w0 w : World} {R : List UInt8 × Nat} {e : Ending} (h : Ans w0 R e w) : ∃ bo bc, e = .returned (.tuple #[.slice bo R.1.length bc, .int .i64 R.2]) ∧ Sl w bo R.1 ∧ (∀ a, bo = some a → w0.heap.size ≤ a.block ∧ a.block < w.heap.size ∧ a.spot = none) ∧ R.1.length ≤ bc ∧ Below w0.heap.size w0 w := by
  obtain ⟨bo, bc, rfl, ho, hb⟩ := h
  obtain ⟨h1, h2, _, h4⟩ := own_slc ho
  exact ⟨bo, bc, rfl, h1, h4, h2, hb⟩

theorem fold_push (l : List UInt8) : ∀ (a : List UInt8), (l.map fun x => (x.toNat : Int)).foldl (fun r n => r.push (UInt8.ofNat n.toNat)) (ByteArray.mk a.toArray) = ByteArray.mk (a ++ l).toArray := by
  induction l with
  | nil => intro a; rw [List.append_nil]; rfl
  | cons x l ih =>
    intro a
    simp only [List.map_cons, List.foldl_cons, Int.toNat_natCast]
    have e : (ByteArray.mk a.toArray).push (UInt8.ofNat x.toNat) = ByteArray.mk (a ++ [x]).toArray := by
      have e1 : UInt8.ofNat x.toNat = x := by simp
      rw [e1]
      show ByteArray.mk (a.toArray.push x) = _
      congr 1
      simp
    rw [e, ih (a ++ [x]), List.append_assoc]
    rfl
/-- string(b). -/
theorem conv_str (W : World) (g c : Nat) (xs : List UInt8) (n : Nat) (hn : xs.length = n) (h : Sl W (some ⟨g, 0, none⟩) xs) : (convert 23 9 (.slice (some ⟨g, 0, none⟩) n c)).run Try.prog W = .ok (.string ⟨xs.toArray⟩) W := by
  rw [run_convert_bytes_string (P := Try.prog) W 23 9 5 _ _ _ Try.underlying23 Try.underlying5 Try.underlying9]
  have hl : (loadCells ⟨g, 0, none⟩ n).run Try.prog W = .ok ((xs.map fun x => (x.toNat : Int)).map (Value.int .u8)).toArray W := by
    have := run_loadCells_list (P := Try.prog) W ⟨g, 0, none⟩ (bys xs) (Sl.cells (fun i hi => by obtain ⟨b', off', e', hc⟩ := h i hi; cases e'; exact hc))
    rw [bys_length, hn] at this
    rw [this]
    simp [bys, List.map_map]
  rw [run_bytesToString (P := Try.prog) W ⟨g, 0, none⟩ n c _ hl]
  exact congrArg (fun s => Result.ok (Value.string s) W) (fold_push xs [])

end Go.Proofs.Ytdnbpklnkmgmkaa
