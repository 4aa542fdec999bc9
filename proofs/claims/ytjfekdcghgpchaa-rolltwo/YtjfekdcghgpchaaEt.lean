/-
  A row that goes along: append(a[1:], y).
-/
import Derived.Test.YtjfekdcghgpchaaEs
import Derived.ArgAppend
namespace Go.Proofs.Ytjfekdcghgpchaa
open Go.RowKit
set_option linter.unusedVariables false
set_option linter.unusedSimpArgs false

/-- A row of bytes of the call's own, somewhere in its block, with room behind it. -/
structure Ra (w : World) (q off k cap : Nat) (xs : List UInt8) : Prop where
  sl : Sl w (some ⟨q, off, none⟩) xs
  len : xs.length = k
  le : k ≤ cap
  sp : ∀ j, j < cap → (w.cell? ⟨q, off + j, none⟩).isSome = true ∧ w.frozen? ⟨q, off + j, none⟩ = false
  lt : q < w.heap.size

theorem Ra.kept {l : List Nat} {w w' : World} {q off k cap : Nat} {xs : List UInt8} (h : Ra w q off k cap xs) (hk : Kept l w w') (hn : q ∉ l) : Ra w' q off k cap xs := by
  refine ⟨h.sl.kept hk (fun _ a ha => by cases ha; exact hn), h.len, h.le, fun j hj => ?_, Nat.lt_of_lt_of_le h.lt hk.size⟩
  rw [hk.cell (p := ⟨q, off + j, none⟩) h.lt hn, hk.frozen (p := ⟨q, off + j, none⟩) h.lt hn]
  exact h.sp j hj

theorem own_ra {w : World} {base g k cap : Nat} {xs : List UInt8} (h : w.ownsRow base 5 1 (.slice (some ⟨g, 0, none⟩) k cap) k (bys xs)) : base ≤ g ∧ Ra w g 0 k cap xs := by
  obtain ⟨h1, h2, h3, h4⟩ := own_sl' h
  refine ⟨h1, h4, by have := h.1; rw [bys_length] at this; omega, h3, fun j hj => ?_, h2⟩
  rcases h.2 with ⟨hv, _⟩ | ⟨g', c', cur, hv, _, hg, _, _, hs, _⟩
  · cases hv
  · cases hv
    rw [Nat.zero_add, cell_of_row _ _ _ _ _ _ hg, frozen_of_row _ _ _ _ _ hg]
    refine ⟨?_, rfl⟩
    rw [Array.getElem?_eq_getElem (by omega)]
    rfl

/-- a[1:]. -/
theorem Ra.cut1 {w : World} {q off k cap : Nat} {x : UInt8} {rest : List UInt8} (h : Ra w q off k cap (x :: rest)) :
    ∃ o, (∀ W, (Instr.slice 23 (.slice (some ⟨q, off, none⟩) k cap) (some (.int .i64 1)) none none).run Try.prog W = .ok (.slice (some ⟨q, o, none⟩) (k - 1) (cap - 1)) W) ∧ Sl w (some ⟨q, o, none⟩) rest ∧ (2 ≤ cap → o = off + 1) := by
  have hl := h.len
  have hle := h.le
  simp only [List.length_cons] at hl
  by_cases hc : cap = 1
  · have hr : rest = [] := List.eq_nil_of_length_eq_zero (by omega)
    subst hr
    refine ⟨off, fun W => ?_, Sl.nil _ _, fun h => by omega⟩
    have := Try.cutFrom W none q off k cap 1 (by omega)
    rw [if_pos hc] at this
    exact this
  · refine ⟨off + 1, fun W => ?_, ?_, fun _ => rfl⟩
    · have := Try.cutFrom W none q off k cap 1 (by omega)
      rw [if_neg hc] at this
      exact this
    · have := h.sl.drop 1 cap (by simp) (by simp; omega)
      rw [if_neg hc] at this
      exact this

/-- append(a[1:], y). -/
theorem run_append_ring (w : World) (q off k cap oo : Nat) (x0 : UInt8) (xs : List UInt8) (y : UInt8)
    (hR : Ra w q off k cap (x0 :: xs)) (hsl : Sl w (some ⟨q, oo, none⟩) xs) (hoo : 2 ≤ cap → oo = off + 1) (yb : Nat) (hy : w.cell? ⟨yb, 0, none⟩ = some (.int .u8 y.toNat)) (hk : k ≤ 200000) :
    ∃ q' o' c' w', (Builtin.append_ #[23, 23] 23 #[.slice (some ⟨q, oo, none⟩) (k - 1) (cap - 1), .slice (some ⟨yb, 0, none⟩) 1 1]).run Try.prog w = .ok (.slice (some ⟨q', o', none⟩) k c') w' ∧ Ra w' q' o' k c' (xs ++ [y]) ∧ Kept [q] w w' ∧ (q' = q ∨ w.heap.size ≤ q') := by
  obtain ⟨i0, hi, hz0, hz1, hz2⟩ := info_parts Try.infoByte
  have hl := hR.len
  have hle := hR.le
  simp only [List.length_cons] at hl
  have hk1 : k - 1 + 1 = k := by omega
  have hnews : ∀ j u, [Value.int .u8 (y.toNat : Nat)][j]? = some u → w.cell? ((⟨yb, 0, none⟩ : Addr).add j) = some u := fun j u hu => by
    match j, hu with
    | 0, hu =>
      simp at hu
      subst hu
      simpa [Addr.add] using hy
  have holds : ∀ j u, (bys xs)[j]? = some u → w.cell? ⟨q, oo + j, none⟩ = some u := fun j u hu => by
    obtain ⟨hj, rfl⟩ := bys_get hu
    obtain ⟨b', off', e', hc⟩ := hsl j hj
    cases e'
    exact hc
  by_cases hroom : k - 1 + 1 ≤ cap - 1
  · have e := hoo (by omega)
    have hsp := hR.sp k (by omega)
    have hrun := run_append_room_cells (P := Try.prog) w 23 23 5 i0 Try.underlying23 hi q oo (k - 1) (cap - 1) ⟨yb, 0, none⟩ 1 1 [.int .u8 y.toNat] (by rw [hz1]; rfl) hnews (by intro u hu; simp at hu; subst hu; rfl) hroom (fun j hj => by
      have h0 : j = 0 := by simpa using hj
      rw [h0, hz1, e, show off + 1 + (k - 1) * 1 + 0 = off + k by omega]
      exact hsp.1) (fun j hj => by
      have h0 : j = 0 := by simpa using hj
      rw [h0, hz1, e, show off + 1 + (k - 1) * 1 + 0 = off + k by omega]
      exact hsp.2)
    have hset : w.setCells q (oo + (k - 1) * i0.size) [.int .u8 y.toNat] = w.setCell ⟨q, off + k, none⟩ (.int .u8 y.toNat) := by
      rw [hz1, e, show off + 1 + (k - 1) * 1 = off + k by omega]
      rfl
    rw [hset, hk1] at hrun
    have hk4 : Kept [q] w (w.setCell ⟨q, off + k, none⟩ (.int .u8 y.toNat)) := (Kept.refl _ _).setCell (by simp) _
    refine ⟨q, oo, cap - 1, _, hrun, ⟨?_, by simp; omega, by omega, fun j hj => ?_, Nat.lt_of_lt_of_le hR.lt hk4.size⟩, hk4, .inl rfl⟩
    · refine Sl.of fun i hi' => ?_
      simp only [List.length_append, List.length_singleton] at hi'
      by_cases hlast : i = xs.length
      · subst hlast
        obtain ⟨u, hu⟩ := Option.isSome_iff_exists.1 hsp.1
        rw [e, show off + 1 + xs.length = off + k by omega, World.cell?_setCell_same _ _ _ hu]
        simp
      · rw [World.cell?_setCell_other _ _ _ _ (by intro e2; injection e2 with _ e3; omega)]
        obtain ⟨b', off', e', hc⟩ := hsl i (by omega)
        cases e'
        rw [hc]
        simp [List.getElem?_append_left (show i < xs.length by omega)]
    · have := hR.sp (j + 1) (by omega)
      rw [World.frozen?_setCell]
      refine ⟨?_, by rw [e, show off + 1 + j = off + (j + 1) by omega]; exact this.2⟩
      rw [e, show off + 1 + j = off + (j + 1) by omega]
      obtain ⟨u, hu⟩ := Option.isSome_iff_exists.1 this.1
      by_cases hjk : j + 1 = k
      · rw [← hjk, World.cell?_setCell_same _ _ _ hu]; rfl
      · rw [World.cell?_setCell_other _ _ _ _ (by intro e2; injection e2 with _ e3; omega), hu]; rfl
  · obtain ⟨v', w', hrun, hown, hg⟩ := run_append_arg_grows (P := Try.prog) w 23 23 5 i0 (.int .u8 0) 1 1 Try.underlying23 hi hz0 hz1 hz2 rfl (by decide) ⟨q, oo, none⟩ (k - 1) (cap - 1) (bys xs) (by rw [bys_length]; omega) (fun j u hj => by rw [Addr.add_lit]; exact holds j u hj) ⟨yb, 0, none⟩ 1 1 [.int .u8 y.toNat] rfl hnews (by omega) (by unfold maxLen; omega) (by omega)
    rw [hk1, show [Value.int .u8 (y.toNat : Nat)] = bys [y] from rfl, ← bys_append] at hown
    obtain ⟨g', c', hv, _⟩ := own_sl hown (fun e => by subst e; rcases hown.2 with ⟨_, h0⟩ | ⟨_, _, _, h0, _⟩; omega; cases h0)
    subst hv
    obtain ⟨h1, h2⟩ := own_ra hown
    exact ⟨g', 0, c', w', hrun, h2, (Kept.refl _ _).grown hg (by simp), .inr h1⟩

/-- append, its run known. -/
theorem wp_append_run {P : Program} {o : Oper} {a : Act} {w : World} {K : Act → World → Prop} {Q : Exit → Act → World → Prop} (s x : Operand) (t : TypeId) (ho : o.op = .call { callee := .builtin .append, args := #[s, x], argTypes := #[t, t] }) (vs vx : Value) (hs : a.eval s = vs) (hx : a.eval x = vx) (v' : Value) (w' : World)
    (hrun : (Builtin.append_ #[t, t] o.type #[vs, vx]).run P w = .ok v' w') (hK : K (a.put o.dst v') w') : o.wp P a w K Q := by
  unfold Oper.wp execOp
  simp only [ho, resolve, invoke, builtin, Sem.run_bind, Sem.run_pure, Result.andThen_ok, List.map_toArray, List.map_cons, List.map_nil, hs, hx, hrun]
  exact hK

end Go.Proofs.Ytjfekdcghgpchaa
