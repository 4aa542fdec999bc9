/-
  DigestHash's argument: steps, of bulk at most 1048576.
-/
import Derived.Test.YthfbpbibpgblaaaRows
import Derived.Test.YthfbpbibpgblaaaPh2b
namespace Go.Proofs.Ythfbpbibpgblaaa
open Go.ChangeShapes Go.WideShapes Go.ChangeAt Go.RowKit Go.Deep Go.Joins
set_option linter.unusedVariables false
set_option linter.unusedSimpArgs false

/-- A row of numbers has the bulk of its length. -/
theorem lits_bulk {H : Type} (k : IntKind) : ∀ l : List Int, Rows.uptoBulkAll (lits (H := H) k l) = l.length
  | [] => by simp [lits, Rows.uptoBulkAll]
  | x :: l => by
    have h := lits_bulk (H := H) k l
    simp only [lits, List.map_cons, Rows.uptoBulkAll, Rows.uptoBulk, List.length_cons] at h ⊢
    omega

/-- Each of a list's, and sums below them. -/
theorem bulk_at {H : Type} (D : Nat → DataW H) : ∀ (l : List Nat) (i : Nat), i ∈ l → Rows.uptoBulk (D i) ≤ Rows.uptoBulkAll (l.map D)
  | [], i, h => by simp at h
  | x :: l, i, h => by
    simp only [List.map_cons, Rows.uptoBulkAll]
    rcases List.mem_cons.1 h with rfl | h
    · omega
    · have := bulk_at D l i h
      omega
theorem bulk_sum {H : Type} (a : Nat → Nat) (D : Nat → DataW H) : ∀ l : List Nat, (∀ i ∈ l, a i ≤ Rows.uptoBulk (D i)) → (l.map a).sum ≤ Rows.uptoBulkAll (l.map D)
  | [], _ => by simp [Rows.uptoBulkAll]
  | x :: l, h => by
    have h1 := h x (by simp)
    have h2 := bulk_sum a D l (fun i hi => h i (by simp [hi]))
    simp only [List.map_cons, List.sum_cons, Rows.uptoBulkAll]
    omega

section
variable {H : Type} {enc : TypeId × Value → H} {w : World}

theorem open_bytes2 {fuel : Nat} {v : Value} {x : DataW H × List MemPlace} (h : DataW.trod enc Try.prog w 0 (fun _ => true) true fuel 31 [v] = some x) (hb : Rows.uptoBulk x.1 ≤ 1048576) :
    ∃ ao n cap xs, v = .slice ao n cap ∧ InB w ao n cap xs ∧ n ≤ Rows.uptoBulk x.1 := by
  rcases open_ints Try.underlying31 Try.underlying5 (by kernel_rfl) h with ⟨hcs, _⟩ | ⟨a, l, c, zs, hcs, _, hl, hm, hz, hx, hcell, hwz⟩
  · cases hcs
    exact ⟨none, 0, 0, [], rfl, ⟨rfl, Nat.le_refl _, by omega, Sl.nil _ _, fun _ => ⟨rfl, rfl⟩, by simp⟩, by omega⟩
  · cases hcs
    have hz' : zs.length = c := by simpa using hz
    have hbk : c + 1 ≤ Rows.uptoBulk x.1 := by
      rw [hx]
      simp only [Rows.uptoBulk]
      have h1 := lits_bulk (H := H) .u8 (zs.take l)
      have h2 := lits_bulk (H := H) .u8 (zs.drop l)
      rw [h1, h2, List.length_take, List.length_drop]
      omega
    obtain ⟨xs, hin⟩ := inb_of_ints hl (by omega) hz' hcell hwz
    exact ⟨some a, l, c, xs, rfl, hin, by omega⟩

theorem open_step {n : Nat} {cs : List Value} {x : DataW H × List MemPlace} (h : DataW.trod enc Try.prog w 0 (fun _ => true) true n 34 cs = some x) (hb : Rows.uptoBulk x.1 ≤ 1048576) :
    ∃ k v wd ao m cap xs, cs = [.int .i64 k, .int .i64 v, .int .i64 wd, .slice ao m cap] ∧ InB w ao m cap xs ∧ (Lit.int .i64 k).wf = true ∧ (Lit.int .i64 v).wf = true ∧ (Lit.int .i64 wd).wf = true ∧ m ≤ Rows.uptoBulk x.1 := by
  obtain ⟨y0, y1, y2, y3, m, hx, hl, h0, h1, h2, h3⟩ := trod_struct4 Try.underlying34 h
  have hcl : Try.prog.cellsOf 34 = 4 := by kernel_rfl
  have hci : Try.prog.cellsOf 3 = 1 := by kernel_rfl
  have hcb : Try.prog.cellsOf 31 = 1 := by kernel_rfl
  rw [hcl] at hl
  have hbl : Rows.uptoBulk y3.1 ≤ Rows.uptoBulk x.1 := by
    rw [hx]
    simp only [Rows.uptoBulk, Rows.uptoBulkAll]
    omega
  match cs, hl with
  | [a, b, c, d], _ =>
    simp only [hci, hcb, List.drop_zero, List.drop_succ_cons, List.take_succ_cons, List.take_zero] at h0 h1 h2 h3
    obtain ⟨k, e0, _, w0⟩ := DataW.trod_int Try.underlying3 h0
    obtain ⟨v, e1, _, w1⟩ := DataW.trod_int Try.underlying3 h1
    obtain ⟨wd, e2, _, w2⟩ := DataW.trod_int Try.underlying3 h2
    obtain ⟨ao, mm, cap, xs, e3, hin, hmm⟩ := open_bytes2 h3 (by omega)
    cases e0; cases e1; cases e2; cases e3
    exact ⟨k, v, wd, ao, mm, cap, xs, rfl, hin, w0, w1, w2, by omega⟩

theorem open_steps {fuel : Nat} {v : Value} {x : DataW H × List MemPlace} (h : DataW.trod enc Try.prog w 0 (fun _ => true) true fuel 22 [v] = some x) (hb : Rows.uptoBulk x.1 ≤ 1048576) :
    ∃ ao n cap L, v = .slice ao n cap ∧ L.length = n ∧ Scr w ao L ∧ n ≤ 9223372036854775807 ∧ tot L L.length ≤ 1048576 := by
  rcases open_slice Try.underlying22 h with ⟨hcs, _⟩ | ⟨a, len, cap, m, n, D, Pl, hcs, _, hl, hm, hmm, hxx, hx⟩
  · cases hcs
    exact ⟨none, 0, 0, [], rfl, rfl, fun i hi => by simp at hi, by omega, by simp [tot]⟩
  · cases hcs
    have hcl : Try.prog.cellsOf 34 = 4 := by kernel_rfl
    simp only [if_true] at hmm
    subst hmm
    rw [hcl] at hx
    unfold maxLen at hm
    obtain ⟨b, off, spot⟩ := a
    have hall : Rows.uptoBulkAll ((List.range len).map D) ≤ 1048576 := by
      rw [hxx] at hb
      simp only [Rows.uptoBulk] at hb
      omega
    have hbD : ∀ i, i < len → Rows.uptoBulk (D i) ≤ 1048576 := fun i hi => Nat.le_trans (bulk_at D (List.range len) i (List.mem_range.2 hi)) hall
    have hel : ∀ i, i < len → ∃ c : Cl, spot = none ∧ ClAt w b (off + 4 * i) c ∧ c.dn ≤ Rows.uptoBulk (D i) := by
      intro i hi
      obtain ⟨cs', h1, h2⟩ := hx i (by omega)
      obtain ⟨k, vv, wd, ao, mm, cp, xs, rfl, hin, w0, w1, w2, hmm⟩ := open_step h2 (hbD i hi)
      obtain ⟨_, _, h3⟩ := World.cells?_some h1
      have hsp : spot = none := by
        obtain ⟨cs0, g1, g2⟩ := hx 0 (by omega)
        obtain ⟨_, _, _, _, _, _, _, rfl, _⟩ := open_step g2 (hbD 0 (by omega))
        obtain ⟨_, _, g3⟩ := World.cells?_some g1
        have h5 := g3 0 (by omega)
        rw [show (((⟨b, off, spot⟩ : Addr).add (0 * 4)).add 0) = ⟨b, off, spot⟩ by simp [Addr.add]] at h5
        exact World.cell?_spot (a := ⟨b, off, spot⟩) h5
      subst hsp
      refine ⟨⟨k, vv, wd, ao, mm, cp, xs⟩, rfl, ?_, hmm⟩
      have g0 := h3 0 (by omega)
      have g1 := h3 1 (by omega)
      have g2 := h3 2 (by omega)
      have g3 := h3 3 (by omega)
      rw [Addr.add_mid, Addr.add_mid, Nat.mul_comm] at g0 g1 g2 g3
      exact ⟨by simpa using g0, by simpa using g1, by simpa using g2, by simpa using g3, hin, w0, w1, w2⟩
    obtain ⟨f, hf⟩ := choose_lt (α := Cl) hel
    refine ⟨_, len, _, (List.range len).map f, rfl, by simp, fun i hi => ?_, by omega, ?_⟩
    · have hi' : i < len := by simpa using hi
      obtain ⟨hsp, hc, _⟩ := hf i hi'
      subst hsp
      refine ⟨b, off, rfl, ?_⟩
      have e : ((List.range len).map f).getD i cl0 = f i := by simp [hi']
      rw [e]
      exact hc
    · refine Nat.le_trans ?_ hall
      unfold tot
      rw [List.take_length, List.map_map]
      exact bulk_sum _ D (List.range len) (fun i hi => (hf i (List.mem_range.1 hi)).2.2)
end

end Go.Proofs.Ythfbpbibpgblaaa
