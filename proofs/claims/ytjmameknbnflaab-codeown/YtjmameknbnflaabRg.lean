/-
  A new desk, a new reader of the document's.
-/
import Derived.Test.YtjmameknbnflaabKn2
import Derived.Test.YtjmameknbnflaabLr
import Derived.Test.YtjmameknbnflaabDk1
namespace Go.Proofs.Ytjmameknbnflaab
open Go.RowKit
set_option linter.unusedVariables false
set_option linter.unusedSimpArgs false

theorem Try.zeroDesk0 (W : World) : (zeroValue 39).run Try.prog W = .ok (.agg #[.slice none 0 0]) W := by kernel_rfl

/-- A new Desk. -/
theorem dk_zero (w : World) : Dk (w.alloc (.cells #[.slice none 0 0] 39)) w.heap.size none [] := ⟨by simp, by simp, fun _ => rfl, by simp, by simp⟩

/-- What lies on a Desk is the row that was laid. -/
theorem dk_laidSl {w : World} {D g m : Nat} {ds : List UInt8} (h : Dk w D (some g) (laid ds m)) : Sl w (some ⟨g, 0, none⟩) ds := Sl.of fun i hi => by
  rw [Nat.zero_add, cell_of_row _ _ _ _ _ _ (h.row g rfl).2, List.getElem?_toArray, bys_at (by simp [laid]; omega)]
  simp [laid, List.getElem?_append_left hi]

/-- The document's reader at the beginning of bytes that came in. -/
theorem rf_new {w w1 : World} {ao : Option Addr} {n cap : Nat} {xs : List UInt8} (h : InB w ao n cap xs) (hb : Below w.heap.size w w1) :
    RfS (w1.alloc (.cells #[.slice ao n cap, .int .i64 0, .int .i64 0, .int .i64 0] 60)) w1.heap.size ao cap xs ⟨0, 0, 0⟩ := by
  have hl := h.len
  have hs := h.sl
  have hm := h.max
  have hc := h.le
  subst hl
  exact ⟨by simp, by simp, by simp, by simp, by simp, by simp, by simp, Nat.zero_le _, hc, by omega, (hs.kept (Kept.of_below hb) (by simp)).kept ((Kept.refl [] w1).alloc _) (by simp), fun hne a ha => by
    obtain ⟨b', off', e', hb', _⟩ := hs.open hne
    rw [e'] at ha
    cases ha
    have := hb.size
    show b' ≠ w1.heap.size
    omega⟩

end Go.Proofs.Ytjmameknbnflaab
