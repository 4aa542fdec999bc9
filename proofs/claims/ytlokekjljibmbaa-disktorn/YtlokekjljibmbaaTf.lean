/-
  DiskTorn: small words for its end.
-/
import Derived.Test.YtlokekjljibmbaaTd
namespace Go.Proofs.Ytlokekjljibmbaa
open Go.RowKit Dsk
set_option linter.unusedVariables false
set_option linter.unusedSimpArgs false

theorem fresh_bytes2 (v : World) (ty : TypeId) (ao : Option Addr) (n c : Nat) (d : By) (hl : d.length = n) (hs : Sl v ao d) (h0 : ao = none → n = 0 ∧ c = 0) (hb : n ≤ 140737488355328) :
    ∃ g c' w', (Builtin.append_ #[22, 22] ty #[.slice (some ⟨v.heap.size, 0, none⟩) 0 0, .slice ao n c]).run Try.prog (v.alloc (.cells #[] 5)) = .ok (.slice (some ⟨g, 0, none⟩) n c') w' ∧ Sl w' (some ⟨g, 0, none⟩) d ∧ Kept [] v w' ∧ v.heap.size ≤ g ∧ n ≤ c' ∧ g < w'.heap.size := by
  obtain ⟨g, c', w', h1, h2, h3, h4⟩ := run_fresh v 22 ty 5 Try.underlying22 Try.infoByte rfl ao n c (bys d) (by rw [bys_length]; exact hl) (fun j u hu => by
    obtain ⟨hj, rfl⟩ := bys_get hu
    exact hs j hj) h0 (bys_oneCell d) (by unfold maxLen; omega) (by omega)
  refine ⟨g, c', w', h1, (OwnB.of h2).sl, h3, h4, ?_, (World.ownsRow.lt h2 g rfl).2⟩
  obtain ⟨bo, bc, e, hle⟩ := own_shape h2
  cases e
  exact hle
theorem ch_units (s : Wm) {w : World} (h : WmIn w s) : s.x.ch.units = if s.x.cut then 1 else s.dn := by
  unfold Wt.ch
  split
  · rfl
  · exact h.inb.len
theorem ch_place (s : Wm) : s.x.ch.place = s.x.at_.toNat := by
  unfold Wt.ch
  split <;> rfl
theorem two_row (w : World) (pick : Int) : Kept [] w (w.alloc (.cells #[.int .i64 0, .int .i64 pick] 3)) ∧ Ints (w.alloc (.cells #[.int .i64 0, .int .i64 pick] 3)) (some ⟨w.heap.size, 0, none⟩) [0, pick] := by
  refine ⟨(Kept.refl [] w).alloc _, fun i hi => ?_⟩
  have hb := (MapKept.heap_alloc w (.cells #[.int .i64 0, .int .i64 pick] 3)).1
  have hi2 : i < 2 := hi
  refine ⟨w.heap.size, 0, rfl, ?_⟩
  rw [Nat.zero_add, cell_of_row _ _ i _ _ _ hb]
  match i, hi2 with
  | 0, _ => rfl
  | 1, _ => rfl
theorem Fls.one {w : World} {B : Nat} {v : Value} {nm d : By} {vs : List Value} (h : Fls w B v [(nm, d)] vs) : ∃ g c o dc, v = .slice (some ⟨g, 0, none⟩) 1 c ∧ w.cell? ⟨g, 0, none⟩ = some (.string ⟨nm.toArray⟩) ∧ w.cell? ⟨g, 1, none⟩ = some (.slice o d.length dc) ∧ Sl w o d := by
  obtain ⟨u, rfl⟩ : ∃ u, vs = [u] := by
    have := h.len
    match vs, this with
    | [u], _ => exact ⟨u, rfl⟩
  have hu := h.own 0 (nm, d) u rfl rfl
  obtain ⟨o, dc, e⟩ : ∃ o dc, u = .slice o d.length dc := by
    rcases hu.2 with ⟨e, e2⟩ | ⟨g, cap, cur, fr, e, _⟩
    · have e3 : d.length = 0 := e2
      exact ⟨none, 0, by rw [e, e3]⟩
    · exact ⟨_, _, e⟩
  subst e
  have hsl := hu.sl
  rcases h.row.2 with ⟨_, e2⟩ | ⟨g, cap, cur, e, _⟩
  · simp at e2
  · subst e
    have a1 := h.row.cells (g := g) rfl 0 (.string ⟨nm.toArray⟩) rfl
    have a2 := h.row.cells (g := g) rfl 1 (.slice o d.length dc) rfl
    rw [add0] at a1 a2
    exact ⟨g, cap, o, dc, rfl, a1, a2, hsl⟩
theorem dn_le {L : List Wm} {s : Wm} (h : s ∈ L) : s.dn + 1 ≤ (L.map (fun s => s.dn + 1)).sum := by
  induction L with
  | nil => simp at h
  | cons x r ih =>
    rw [List.map_cons, List.sum_cons]
    rcases List.mem_cons.1 h with rfl | h
    · omega
    · have := ih h
      omega
theorem wrs_mem {w : World} {bo : Option Addr} {L : List Wm} (h : Wrs w bo L) {s : Wm} (hs : s ∈ L) : WmIn w s := by
  obtain ⟨i, hi, e⟩ := List.mem_iff_getElem.1 hs
  obtain ⟨b, off, _, _, hin⟩ := h i hi
  rw [List.getD_eq_getElem?_getD, List.getElem?_eq_getElem hi] at hin
  rw [← e]
  exact hin
end Go.Proofs.Ytlokekjljibmbaa
