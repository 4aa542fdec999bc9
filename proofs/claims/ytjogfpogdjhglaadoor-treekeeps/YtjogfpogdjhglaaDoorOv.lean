/-
  An entry written into a list of its own. (TreeKeeps.)
-/
import Derived.Test.YtjogfpogdjhglaaDoorOk
import Derived.Deep.MidRow
namespace Go.Proofs.YtjogfpogdjhglaaDoor
open Go.RowKit
set_option linter.unusedVariables false
set_option linter.unusedSimpArgs false

def setAll : List Value → Nat → List Value → List Value
  | l, _, [] => l
  | l, o, v :: r => setAll (l.set o v) (o + 1) r
theorem setAll_eq : ∀ (vs l : List Value) (o : Nat), o + vs.length ≤ l.length → setAll l o vs = l.take o ++ vs ++ l.drop (o + vs.length)
  | [], l, o, h => by simp [setAll]
  | v :: r, l, o, h => by
    simp only [List.length_cons] at h
    have ho : o < l.length := by omega
    rw [setAll, setAll_eq r (l.set o v) (o + 1) (by simp; omega)]
    have e1 : (l.set o v).take (o + 1) = l.take o ++ [v] := by
      rw [List.take_set, List.take_succ_eq_append_getElem ho, List.set_append_right _ _ (by simp; omega)]
      simp [Nat.min_eq_left (Nat.le_of_lt ho)]
    have e2 : (l.set o v).drop (o + 1 + r.length) = l.drop (o + (r.length + 1)) := by
      rw [List.drop_set, if_pos (by omega), show o + 1 + r.length = o + (r.length + 1) by omega]
    rw [e1, e2]
    simp
theorem rows_append (A B : List Ent) : rows (A ++ B) = rows A ++ rows B := by simp [rows]
theorem rows_put {L : List Ent} (hL : ∀ e ∈ L, EntOk e) {e : Ent} (he : EntOk e) {k : Nat} (hk : k < L.length) : setAll (rows L) (k * 34) e.cells = rows (L.set k e) := by
  have hlen := rows_len hL
  have hk34 : k * 34 + 34 ≤ L.length * 34 := by omega
  rw [setAll_eq _ _ _ (by rw [he.len, hlen]; exact hk34), he.len]
  have e1 : L = L.take k ++ L[k] :: L.drop (k + 1) := by
    rw [List.getElem_cons_drop, List.take_append_drop]
  have h1 : (rows (L.take k)).length = k * 34 := by
    rw [rows_len (fun x hx => hL x (List.mem_of_mem_take hx)), List.length_take, Nat.min_eq_left (by omega)]
  have h2 : (L[k]).cells.length = 34 := (hL _ (List.getElem_mem hk)).len
  have e2 : rows L = rows (L.take k) ++ ((L[k]).cells ++ rows (L.drop (k + 1))) := by
    rw [show rows L = rows (L.take k ++ L[k] :: L.drop (k + 1)) by rw [← e1], rows_append]
    simp only [rows, List.flatMap_cons]
  have e3 : rows (L.set k e) = rows (L.take k) ++ (e.cells ++ rows (L.drop (k + 1))) := by
    rw [List.set_eq_take_append_cons_drop, if_pos hk, rows_append]
    simp [rows]
  rw [e2, e3, List.take_append_of_le_length (by omega), List.take_of_length_le (by omega), List.drop_append, List.drop_eq_nil_of_le (by omega), List.drop_append, List.drop_eq_nil_of_le (by omega)]
  simp [h1, h2]
/-- Cells of a row are written, one behind the other. -/
theorem Rw.At.sets {e : TypeId} {s B g : Nat} : ∀ (vs : List Value) (o : Nat) (w : World) (r : Rw), r.At e s B w → r.o = some ⟨g, 0, none⟩ → (Rw.mk r.o r.c r.n (setAll r.vs o vs)).At e s B (w.setCells g o vs) ∧ w.grownBy (w.setCells g o vs) (some g)
  | [], o, w, r, h, ho => ⟨h, ⟨rfl, rfl, rfl, Nat.le_refl _, fun _ _ _ => rfl⟩⟩
  | v :: t, o, w, r, h, ho => by
    obtain ⟨h1, h2⟩ := h.set (k := o) ho v
    have hb : r.blk = some g := by unfold Rw.blk Rw.val; rw [ho]; rfl
    rw [hb] at h2
    obtain ⟨h3, h4⟩ := Rw.At.sets t (o + 1) (w.setCell ⟨g, o, none⟩ v) _ h1 ho
    rw [World.setCells, setAll]
    refine ⟨h3, ⟨h4.os.trans h2.os, h4.tape.trans h2.tape, h4.output.trans h2.output, Nat.le_trans h2.size h4.size, fun k hk hne => ?_⟩⟩
    rw [h4.block k (Nat.lt_of_lt_of_le hk h2.size) hne, h2.block k hk hne]
end Go.Proofs.YtjogfpogdjhglaaDoor
