/-
  DiskTorn: the disk and the row of writes that were done; torn, step by step.
-/
import Derived.Test.YtlokekjljibmbaaTc
import Derived.Test.YtlokekjljibmbaaJa
namespace Go.Proofs.Ytlokekjljibmbaa
open Go.RowKit Dsk
set_option linter.unusedVariables false
set_option linter.unusedSimpArgs false
theorem Try.infoWrite : (Try.prog.info? 25).map (fun i => (i.zero, i.size, i.bytes)) = some (some (.agg #[.bool false, .int .i64 0, .slice none 0 0]), 3, 40) := by kernel_rfl
theorem Ax.free {X : Nat → Prop} {wa w w' : World} {p : Nat} {S : Ds} {N : Nat} (h : Ax X wa w p S N) {Y F : Nat → Prop} (hk : Keep F w w') (hF : ∀ b, b < w.heap.size → F b → X b) (hY : ∀ b, Y b → (X b ∨ w.heap.size ≤ b) ∧ b < w'.heap.size) : Ax Y w' w' p S N := by
  obtain ⟨A, o, h1, h2, h3, h4⟩ := h
  refine ⟨A, o, h1.keep hk (fun b hb hf => hb (h2 b (hF b (h1.lim hb) hf)).1), fun b hb => ?_, Keep.refl _ _, h4⟩
  obtain ⟨h7, h8⟩ := hY b hb
  rcases h7 with h7 | h7
  · exact ⟨(h2 b h7).1, h8⟩
  · exact ⟨Classical.byContradiction fun hn => by have := h1.lim hn; omega, h8⟩
structure Tos (w0 w : World) (p : Nat) (S : Ds) (N : Nat) (dv : Value) (D : List Wm) : Prop where
  ax : Ax (fun b => b < w0.heap.size ∨ dv.ownBlock = some b) w w p S N
  row : w.ownsRow 0 25 3 dv D.length (D.flatMap Wm.cells)
  old : Kept [] w0 w
  new : ∀ g, dv.ownBlock = some g → w0.heap.size ≤ g
section
variable {w0 w : World} {p : Nat} {S : Ds} {N : Nat} {dv : Value} {D : List Wm}
theorem Tos.next (h : Tos w0 w p S N dv D) {w' : World} {S' : Ds} {N' : Nat} (hx : Ax (fun b => b < w0.heap.size ∨ dv.ownBlock = some b) w w' p S' N') : Tos w0 w' p S' N' dv D := by
  have hk := hx.old
  exact ⟨hx.here, own_keeps h.row hk (fun g hg hn => hn (.inr hg)), ⟨hk.os.trans h.old.os, hk.tape.trans h.old.tape, hk.output.trans h.old.output, Nat.le_trans h.old.size hk.size, fun i hi _ => (hk.block i (Nat.lt_of_lt_of_le hi h.old.size) (fun hn => hn (.inl hi))).trans (h.old.block i hi (by simp))⟩, h.new⟩
theorem Tos.kept (h : Tos w0 w p S N dv D) {w' : World} (hk : Kept [] w w') : Tos w0 w' p S N dv D := h.next (h.ax.kept hk)
theorem Tos.mono {M : Nat} (h : Tos w0 w p S N dv D) (hm : N ≤ M) : Tos w0 w p S M dv D := ⟨h.ax.mono hm, h.row, h.old, h.new⟩
theorem Tos.begin (h : At w0 w p S N) : Tos w0 w p S N (.slice none 0 0) [] := by
  refine ⟨(h.ax.free (Keep.refl (fun _ => False) w) (fun _ _ h => h.elim) (fun b hb => ?_)), World.ownsRow_nil _ _ _ _, h.old, by simp [Value.ownBlock]⟩
  rcases hb with hb | hb
  · exact ⟨.inl hb, by have := h.old.size; omega⟩
  · simp [Value.ownBlock] at hb
theorem wm_one (s : Wm) : ∀ u ∈ s.cells, u.oneCell' = true := by
  intro u hu
  simp only [Wm.cells, List.mem_cons, List.not_mem_nil, or_false] at hu
  rcases hu with rfl | rfl | rfl <;> rfl
theorem Tos.push {vo : Option Addr} {n vk : Nat} (h : Tos w0 w p S N (.slice vo n vk) D) (hn : D.length = n) (hb : n ≤ 1000) (s : Wm) : ∃ g c w', (Builtin.append_ #[23, 23] 23 #[.slice vo n vk, .slice (some ⟨w.heap.size, 0, none⟩) 1 1]).run Try.prog (w.alloc (.cells #[.bool s.x.cut, .int .i64 s.x.at_, .slice s.da s.dn s.dc] 25)) = .ok (.slice (some ⟨g, 0, none⟩) (n + 1) c) w' ∧ Tos w0 w' p S N (.slice (some ⟨g, 0, none⟩) (n + 1) c) (D ++ [s]) ∧ Kept [] w0 w' ∧ (∀ F : Nat → Prop, (∀ k, (Value.slice vo n vk).ownBlock = some k → F k) → Keep F w w') := by
  have hr := h.row
  rw [hn] at hr
  obtain ⟨g, c, w', e1, e2, e3, e4, e5⟩ := run_app (P := Try.prog) w 23 23 25 Try.underlying23 Try.infoWrite rfl (by decide) _ n _ hr s.cells rfl (wm_one s) (by unfold maxLen; omega) (by omega)
  have hK := e3 (fun k => (Value.slice vo n vk).ownBlock = some k) (fun _ e => e)
  have hold : Kept [] w0 w' := ⟨hK.os.trans h.old.os, hK.tape.trans h.old.tape, hK.output.trans h.old.output, Nat.le_trans h.old.size hK.size, fun i hi _ => (hK.block i (Nat.lt_of_lt_of_le hi h.old.size) (fun hm => by have := h.new i hm; omega)).trans (h.old.block i hi (by simp))⟩
  refine ⟨g, c, w', e1, ⟨h.ax.free hK (fun b _ hb => .inr hb) (fun b hb => ?_), by simpa [hn] using e2, hold, fun g' hg' => ?_⟩, hold, e3⟩
  · rcases hb with hb | hb
    · exact ⟨.inl (.inl hb), by have := h.old.size; have := hK.size; omega⟩
    · simp only [Value.ownBlock, Option.some.injEq] at hb
      subst hb
      refine ⟨?_, e5⟩
      rcases e4 with e | e
      · exact .inl (.inr e.symm)
      · exact .inr e
  · simp only [Value.ownBlock, Option.some.injEq] at hg'
    subst hg'
    rcases e4 with e | e
    · exact h.new _ e.symm
    · exact Nat.le_trans h.old.size e
theorem wm_get (D : List Wm) (i : Nat) (s : Wm) (h : D[i]? = some s) : (D.flatMap Wm.cells)[i * 3]? = some (.bool s.x.cut) ∧ (D.flatMap Wm.cells)[i * 3 + 1]? = some (.int .i64 s.x.at_) ∧ (D.flatMap Wm.cells)[i * 3 + 2]? = some (.slice s.da s.dn s.dc) := by
  induction D generalizing i with
  | nil => simp at h
  | cons x r ih =>
    cases i with
    | zero =>
      simp only [List.getElem?_cons_zero, Option.some.injEq] at h
      subst h
      exact ⟨rfl, rfl, rfl⟩
    | succ i =>
      have := ih i (by simpa using h)
      rw [show (i + 1) * 3 = i * 3 + 3 by omega]
      exact this
theorem Tos.at {vo : Option Addr} {n vk : Nat} (h : Tos w0 w p S N (.slice vo n vk) D) {i : Nat} {s : Wm} (hi : D[i]? = some s) : ∃ g, vo = some ⟨g, 0, none⟩ ∧ w.cell? ⟨g, i * 3, none⟩ = some (.bool s.x.cut) ∧ w.cell? ⟨g, i * 3 + 1, none⟩ = some (.int .i64 s.x.at_) ∧ w.cell? ⟨g, i * 3 + 2, none⟩ = some (.slice s.da s.dn s.dc) := by
  have hlt := (List.getElem?_eq_some_iff.1 hi).1
  obtain ⟨q1, q2, q3⟩ := wm_get D i s hi
  rcases h.row.2 with ⟨e, e2⟩ | ⟨g, cap, cur, e, _⟩
  · omega
  · injection e with e _ _
    subst e
    have a1 := h.row.cells (g := g) rfl _ _ q1
    have a2 := h.row.cells (g := g) rfl _ _ q2
    have a3 := h.row.cells (g := g) rfl _ _ q3
    rw [add0] at a1 a2 a3
    exact ⟨g, rfl, a1, a2, a3⟩
end
theorem unitsOf_take (R : List Ch) (i : Nat) {c : Ch} (hc : R[i]? = some c) : unitsOf (R.drop i) = c.units + unitsOf (R.drop (i + 1)) := by
  have hlt := (List.getElem?_eq_some_iff.1 hc).1
  rw [List.drop_eq_getElem_cons hlt]
  have : R[i] = c := by rw [List.getElem?_eq_getElem hlt] at hc; injection hc
  rw [this]
  rfl
structure Wan2 (base : By) (R : List Ch) (K : Nat) (i k : Nat) (want : By) : Prop where
  eq : torn want (R.drop i) k = torn base R K
  fit : k = 0 ∨ fits want (R.drop i)
  len : want.length + (if k = 0 then 0 else unitsOf (R.drop i)) ≤ base.length + unitsOf R
theorem Wan2.start {base : By} {R : List Ch} {K : Nat} (hf : fits base R) : Wan2 base R K 0 K base := ⟨rfl, .inr hf, by split <;> simp⟩
theorem Wan2.step {base : By} {R : List Ch} {K i k : Nat} {want : By} (h : Wan2 base R K i k want) (hk : 0 < k) {c : Ch} (hc : R[i]? = some c) : c.place ≤ want.length ∧ Wan2 base R K (i + 1) (k - min k c.units) (c.apply want (min k c.units)) := by
  have hlt := (List.getElem?_eq_some_iff.1 hc).1
  have hdc : R.drop i = c :: R.drop (i + 1) := by
    rw [List.drop_eq_getElem_cons hlt]
    congr 1
    rw [List.getElem?_eq_getElem hlt] at hc
    injection hc
  have hf : fits want (R.drop i) := h.fit.resolve_left (by omega)
  rw [hdc] at hf
  have heq := h.eq
  rw [hdc] at heq
  simp only [torn] at heq
  rw [if_neg (by omega)] at heq
  have hl := h.len
  rw [if_neg (by omega), unitsOf_take R i hc] at hl
  have hal := c.apply_len want (min k c.units) hf.1
  refine ⟨hf.1, heq, ?_, ?_⟩
  · by_cases hle : c.units ≤ k
    · right
      rw [Nat.min_eq_right hle]
      exact hf.2
    · left
      omega
  · split <;> omega
theorem Wan2.end {base : By} {R : List Ch} {K i k : Nat} {want : By} (h : Wan2 base R K i k want) (hk : k = 0 ∨ R.length ≤ i) : want = torn base R K := by
  rw [← h.eq]
  rcases hk with hk | hk
  · rw [hk, torn_zero]
  · rw [List.drop_of_length_le hk]
    rfl
end Go.Proofs.Ytlokekjljibmbaa
