/-
  CodeOwn: the book grows; a row that waited is taken.
-/
import Derived.Test.YtjmameknbnflaabOm
import Derived.Test.YtjmameknbnflaabBo4
namespace Go.Proofs.Ytjmameknbnflaab
open Go.RowKit
set_option linter.unusedVariables false
set_option linter.unusedSimpArgs false

section
variable {wr w' : World} {base : Nat} {ao0 : Option Addr} {cap0 : Nat} {xs : List UInt8} {c : Cf} {q : Vr} {lo : Nat}

theorem OwS.grew (h : OwsP (fun _ => false) lo wr base ao0 cap0 xs c q) {M : Nat} (hg : GrowEnd wr w' base c.B q.rv q.ow q.es.length M) :
    ∃ es ow', OwsP (fun _ => false) lo w' base ao0 cap0 xs c { q with ow := ow', es := es } ∧ es.length = q.es.length ∧ (∀ j, j < es.length → (es.getD j en0).m ≤ M + 64) ∧ Kept (blk wr base q.ow isRow) wr w' := by
  obtain ⟨es, ow', h1, h2, h3, h4, h5⟩ := hg
  have f := (h.weaken (Q := fun i => isRow i) (fun _ _ => rfl)).frame h5 (fun g hg _ => ⟨(mem_blk.1 hg).2.2, (mem_blk.1 hg).2.1⟩) ow' h4
  have r : ∀ i, (i < 6 ∨ i = 7 ∨ i = 8 ∨ 1100 ≤ i) → isRow i = false := fun i hi => by simp [isRow]; omega
  refine ⟨es, ow', ⟨fun _ => f.given rfl, fun _ => f.r rfl, fun _ => f.s rfl, fun _ => f.rf rfl, fun _ => f.pr rfl, fun _ => ⟨h1, (h.book (fun _ _ => rfl)).2⟩, fun _ => f.left rfl, fun _ => f.want rfl, fun j a1 a2 _ => f.li j a1 a2 (r _ (by omega)), fun j a2 _ => f.wi j a2 (r _ (by omega)), f.len, f.arg, f.size⟩, h2, fun j hj => h3 j (by rw [← h2]; exact hj), h5⟩

/-- The lo-th row waits no more: it will be the book's. -/
theorem OwS.relabel (h : OwsP (fun _ => false) lo wr base ao0 cap0 xs c q) (hlo : lo < q.ls.length) (hl9 : q.ls.length ≤ 900) :
    ∃ ow', OwsP (fun _ => false) (lo + 1) wr base ao0 cap0 xs c { q with ow := ow' } ∧ (∀ g, (q.ls.getD lo (.slice none 0 0)).ownBlock = some g → ow' g = 100 + q.es.length) := by
  have e : ∀ g j, q.ow g = j → j ≠ 2000 + lo → (if q.ow g = 2000 + lo then 100 + q.es.length else q.ow g) = j := fun g j h1 h2 => by rw [h1, if_neg h2]
  have hlen := h.len
  refine ⟨fun g => if q.ow g = 2000 + lo then 100 + q.es.length else q.ow g, ⟨fun x => ?_, fun x => ?_, fun x => ?_, fun x => ?_, fun x => ?_, fun x => ?_, fun x => ?_, fun x => ?_, fun j a1 a2 a3 => ?_, fun j a2 a3 => ?_, h.len, h.arg, h.size⟩, fun g hg => ?_⟩
  · obtain ⟨a1, a2, a3⟩ := h.given x
    exact ⟨a1, e _ _ a2 (by omega), a3⟩
  · obtain ⟨a1, a2, a3, a4⟩ := h.r x
    exact ⟨a1, e _ _ a2 (by omega), a3, fun a ha => ⟨e _ _ (a4 a ha).1 (by omega), (a4 a ha).2⟩⟩
  · obtain ⟨a1, a2, a3, a4⟩ := h.s x
    exact ⟨a1, e _ _ a2 (by omega), a3, fun a ha => ⟨e _ _ (a4 a ha).1 (by omega), (a4 a ha).2⟩⟩
  · obtain ⟨a1, a2, a3⟩ := h.rf x
    exact ⟨a1, e _ _ a2 (by omega), a3⟩
  · obtain ⟨a1, a2⟩ := h.pr x
    exact ⟨a1, fun g hg => e _ _ (a2 g hg) (by omega)⟩
  · obtain ⟨a1, a2⟩ := h.book x
    have hm := a1.many
    exact ⟨⟨a1.bk, a1.en, e _ _ a1.oB (by omega), fun g hg => e _ _ (a1.oR g hg) (by omega), fun i hi g hg => e _ _ (a1.oE i hi g hg) (by have hi' : i < q.es.length := hi; omega), a1.many⟩, a2⟩
  · obtain ⟨a1, a2⟩ := h.left x
    exact ⟨a1, fun g hg => e _ _ (a2 g hg) (by omega)⟩
  · obtain ⟨a1, a2⟩ := h.want x
    exact ⟨a1, fun g hg => e _ _ (a2 g hg) (by omega)⟩
  · obtain ⟨b1, b2⟩ := h.li j (by omega) a2 a3
    exact ⟨b1, fun g hg => e _ _ (b2 g hg) (by omega)⟩
  · obtain ⟨a, c', b1, b2, b3⟩ := h.wi j a2 a3
    have hj : j < q.nw := a2
    exact ⟨a, c', b1, b2, fun a' ha => ⟨e _ _ (b3 a' ha).1 (by omega), (b3 a' ha).2⟩⟩
  · obtain ⟨b1, b2⟩ := h.li lo (Nat.le_refl _) hlo rfl
    show (if q.ow g = 2000 + lo then 100 + q.es.length else q.ow g) = _
    rw [if_pos (b2 g hg)]

end

end Go.Proofs.Ytjmameknbnflaab
