import Derived.Test.YtllfkfncgalpaaaIgp
import Derived.Test.YtllfkfncgalpaaaIf0p
import Derived.Test.YtllfkfncgalpaaaJcp
import Derived.Test.YtllfkfncgalpaaaId3p
import Derived.Deep.CutRange
namespace Go.Proofs.Ytllfkfncgalpaaa
section
open Go.RowKit Dsk
set_option linter.unusedVariables false
set_option linter.unusedSimpArgs false

set_option maxHeartbeats 1600000 in
set_option maxRecDepth 100000 in
theorem strokeL_ok (K : Int) (a b c d e f g h i : Value) (w : World) : Calls Try.prog 12 #[.agg #[.int .i64 K, a, b, c, d, e, f, g, h, i]] w fun z w' => z = .returned (.bool (decide (1 ≤ K) && decide (K ≤ 8))) ∧ Kept [] w w' := by
  obtain ⟨w1, hw1⟩ : ∃ w1, w1 = w.alloc (.cells #[.int .i64 K, a, b, c, d, e, f, g, h, i] 37) := ⟨_, rfl⟩
  have hk1 : Kept [] w w1 := by rw [hw1]; exact (Kept.refl [] w).alloc _
  have hb1 : w1.heap[w.heap.size]? = some (.cells #[.int .i64 K, a, b, c, d, e, f, g, h, i] 37 (0, 0)) := by rw [hw1]; exact (MapKept.heap_alloc w _).1
  have i0 : w1.cell? ⟨w.heap.size, 0, none⟩ = some (.int .i64 K) := by rw [cell_of_row w1 _ 0 _ _ _ hb1]; rfl
  by_cases h1 : 1 ≤ K
  · have HR : Hid ((decide (1 ≤ K) && decide (K ≤ 8)) = decide (K ≤ 8)) := hide (by simp [h1])
    go_enter Try.func12, Try.ntmps12
    go_upto_region 1 with (fail)
    rw [← hw1]
    clear hw1 hb1
    go_wp2
    go_ret
    exact ⟨by rw [HR.out]; rfl, hk1⟩
  · have HR : Hid ((decide (1 ≤ K) && decide (K ≤ 8)) = false) := hide (by simp [h1])
    go_enter Try.func12, Try.ntmps12
    go_upto_region 1 with (fail)
    rw [← hw1]
    clear hw1 hb1
    go_wp2
    go_ret
    exact ⟨by rw [HR.out]; rfl, hk1⟩
theorem files_small {S : Ds} {N : Nat} (hb : S.Bd N) (hw : S.Wf) : S.files.length ≤ N ∧ ∀ f ∈ S.files, f.2.length ≤ N := by
  refine ⟨by simpa [Ds.files] using hb.shown hw, fun f hf => ?_⟩
  obtain ⟨x, hx, rfl⟩ := List.mem_map.1 hf
  exact hb.len hw (hw.slt (n := x.1) hx)
theorem safe_small {S : Ds} {N : Nat} (hb : S.Bd N) (hw : S.Wf) : S.safeFiles.length ≤ N ∧ ∀ f ∈ S.safeFiles, f.2.length ≤ N := by
  refine ⟨by have := hb.nm; simp only [Ds.safeFiles, List.length_map]; omega, fun f hf => ?_⟩
  obtain ⟨x, hx, rfl⟩ := List.mem_map.1 hf
  have := hb.th x.2 (hw.lt _ (List.mem_append_left _ (List.mem_map.2 ⟨x, hx, rfl⟩)))
  show (S.th x.2).safe.length ≤ N
  omega
theorem Ax.at {X : Nat → Prop} {w0 wa w : World} {p : Nat} {S : Ds} {N : Nat} (h : Ax X wa w p S N) (hX : ∀ b, b < w0.heap.size → X b) (hk : Kept [] w0 wa) : At w0 w p S N := by
  obtain ⟨A, o, h1, h2, h3, h4⟩ := h
  refine ⟨A, o, h1, fun b hb => ?_, ⟨h3.os.trans hk.os, h3.tape.trans hk.tape, h3.output.trans hk.output, Nat.le_trans hk.size h3.size, fun i hi _ => (h3.block i (Nat.lt_of_lt_of_le hi hk.size) (fun hn => hn (hX i hi))).trans (hk.block i hi (by simp))⟩, h4⟩
  apply Classical.byContradiction
  intro hn
  exact hb (h2 b (hX b (by omega))).1
end

section
open Go.RowKit Dsk
set_option linter.unusedVariables false
set_option linter.unusedSimpArgs false

theorem Ax.less {X Y : Nat → Prop} {wa w : World} {p : Nat} {S : Ds} {N : Nat} (h : Ax X wa w p S N) (hy : ∀ b, Y b → X b) : Ax Y wa w p S N := by
  obtain ⟨A, o, h1, h2, h3, h4⟩ := h
  exact ⟨A, o, h1, fun b hb => h2 b (hy b hb), h3.mono (fun b hb _ hY => hb (hy b hY)), h4⟩
abbrev sct (s : Stp) : Array Value := #[.int .i64 s.kind, encStr s.name, encStr s.to, .int .i64 s.at_, .int .i64 s.n, .slice s.da s.dn s.dc, .int .i64 s.po, .int .i64 s.pf, .int .i64 s.pt, .slice s.pa s.pn s.pc]
/-- The files of both times, and the step. -/
structure MidP (lo wo : Option Addr) (LT LS : List (By × By)) (gx : Nat) (s : Stp) (u : World) : Prop where
  l : Fis u lo LT
  was : Fis u wo LS
  x : u.heap[gx]? = some (.cells (sct s) 37 (0, 0))
theorem MidP.cells {lo wo : Option Addr} {LT LS : List (By × By)} {gx : Nat} {s : Stp} {u : World} (h : MidP lo wo LT LS gx s u) : u.cell? ⟨gx, 0, none⟩ = some (.int .i64 s.kind) ∧ u.cell? ⟨gx, 1, none⟩ = some (encStr s.name) ∧ u.cell? ⟨gx, 2, none⟩ = some (encStr s.to) ∧ u.cell? ⟨gx, 3, none⟩ = some (.int .i64 s.at_) ∧ u.cell? ⟨gx, 4, none⟩ = some (.int .i64 s.n) ∧ u.cell? ⟨gx, 5, none⟩ = some (.slice s.da s.dn s.dc) ∧ u.cell? ⟨gx, 6, none⟩ = some (.int .i64 s.po) ∧ u.cell? ⟨gx, 7, none⟩ = some (.int .i64 s.pf) ∧ u.cell? ⟨gx, 8, none⟩ = some (.int .i64 s.pt) ∧ u.cell? ⟨gx, 9, none⟩ = some (.slice s.pa s.pn s.pc) := by
  have hx := h.x
  refine ⟨?_, ?_, ?_, ?_, ?_, ?_, ?_, ?_, ?_, ?_⟩ <;> (rw [cell_of_row _ _ _ _ _ _ hx]; rfl)
structure Car (Y : Nat → Prop) (w0 w : World) (p : Nat) (S : Ds) (N : Nat) (q : Nat) (v : Value) (H : Nm) (t : Nat) (lo wo : Option Addr) (LT LS : List (By × By)) (gx : Nat) (s : Stp) : Prop where
  st : Wst w0 w p S N q v H t
  mid : Stay Y w (MidP lo wo LT LS gx s)
  nq : ¬ Y q
  nv : ∀ g, v.ownBlock = some g → ¬ Y g
  lt : ∀ b, Y b → b < w.heap.size
section
variable {Y : Nat → Prop} {w0 w w' : World} {p : Nat} {S : Ds} {N : Nat} {q : Nat} {v : Value} {H : Nm} {t : Nat} {lo wo : Option Addr} {LT LS : List (By × By)} {gx : Nat} {s : Stp}
theorem Car.kept (h : Car Y w0 w p S N q v H t lo wo LT LS gx s) (hk : Kept [] w w') : Car Y w0 w' p S N q v H t lo wo LT LS gx s := ⟨h.st.kept hk, h.mid.kept hk, h.nq, h.nv, fun b hb => Nat.lt_of_lt_of_le (h.lt b hb) hk.size⟩
theorem Car.turn (h : Car Y w0 w p S N q v H t lo wo LT LS gx s) {v' : Value} {H' : Nm} {t' : Nat} (hr : Rws w' q v' H' t') (hT : RwsTo w w' q v v') : Car Y w0 w' p S N q v' H' t' lo wo LT LS gx s := by
  refine ⟨h.st.turn hr hT, h.mid.keep (hT.keep.mono (fun b hb _ hy => ?_)), h.nq, fun g hg hy => ?_, fun b hb => Nat.lt_of_lt_of_le (h.lt b hb) hT.keep.size⟩
  · rcases hb with rfl | hb
    · exact h.nq hy
    · exact h.nv b hb hy
  · rcases hT.new g hg with h1 | h1
    · exact h.nv g h1 hy
    · have := h.lt g hy; omega
theorem Car.crashed (h : Car Y w0 w p S N q v H t lo wo LT LS gx s) : Car Y w0 (w.alloc (.cells #[.slice none 0 0, .int .i64 0] 31)) p S N w.heap.size (.slice none 0 0) [] 0 lo wo LT LS gx s :=
  ⟨h.st.crashed, h.mid.kept ((Kept.refl [] w).alloc _), fun hy => by have := h.lt _ hy; omega, fun g hg => by simp [Value.ownBlock] at hg, fun b hb => Nat.lt_of_lt_of_le (h.lt b hb) ((Kept.refl [] w).alloc _).size⟩
theorem Car.push (h : Car Y w0 w p S N q v H t lo wo LT LS gx s) (hl : H.length ≤ 1000000) (nm : By) {v0 : World} (hk : Kept [] w v0) : ∃ g c w2, (Builtin.append_ #[29, 29] 29 #[v, .slice (some ⟨v0.heap.size, 0, none⟩) 1 1]).run Try.prog (v0.alloc (.cells #[encStr nm, .int .i64 0] 45)) = .ok (.slice (some ⟨g, 0, none⟩) (H.length + 1) c) w2 ∧ w2.heap[q]? = some (.cells #[v, .int .i64 t] 31 (0, 0)) ∧ Car Y w0 (w2.setCell ⟨q, 0, none⟩ (.slice (some ⟨g, 0, none⟩) (H.length + 1) c)) p S N q (.slice (some ⟨g, 0, none⟩) (H.length + 1) c) (H ++ [(nm, 0)]) t lo wo LT LS gx s := by
  obtain ⟨g, c, w2, e1, e2, e3, e4⟩ := h.st.rws.push hl (nm, 0) hk
  exact ⟨g, c, w2, e1, e2, h.turn e3 e4⟩
end
/-- How much there is of the names. -/
structure Sml (H : Nm) (t d : Nat) : Prop where
  nd : (H.map (·.1)).Nodup
  len : H.length ≤ 1000000
  t : t ≤ 1000000
  u : ∀ x ∈ H, x.2 + d ≤ 1000000000
theorem whl_sml {S : Ds} {H : Nm} {t N d : Nat} (h : Whl S H t) (hw : S.Wf) (hb : S.Bd N) (hN : N ≤ 1000000) (hd : d ≤ 900000000) : Sml H t d := by
  refine ⟨h.nodup, by rw [h.len hw]; have := hb.shown hw; omega, by rw [h.turns]; have := hb.nm; omega, fun x hx => ?_⟩
  obtain ⟨k, hk, e⟩ := (h.mem x.1 x.2).1 hx
  have := hb.th k (hw.slt hk)
  omega
/-- What is left of a step, once the statement has looked at whether the power has gone off. -/
def Left (T : Ds) (s : Stp) (f : Int) (H : Nm) (t : Nat) : Prop := (f = 0 ∧ 1 ≤ s.kind ∧ s.kind ≤ 8 ∧ Sml H t s.dn ∧ Whl T (madeH s H t).1 (madeH s H t).2) ∨ (¬ (f = 0 ∧ 1 ≤ s.kind ∧ s.kind ≤ 8) ∧ Whl T H t)
/-- The picks that the statement makes are all of them. -/
theorem picks_all {T : Ds} {H : Nm} {t N : Nat} (h : Whl T H t) (hw : T.Wf) (hb : T.Bd N) (hN : N ≤ 1000000) (m : Int) : ∃ U : List Nat, U.length = T.files.length ∧ (∀ (j : Nat) (f : By × By), T.files[j]? = some f → ∃ (i : Nat) (x : By × Nat), H[i]? = some x ∧ x.1 = f.1 ∧ U[j]? = some x.2 ∧ x.2 ≤ 1000000000) ∧ pick m t :: U.map (pick m) = picksOf T m := by
  refine ⟨T.shown.map (fun p => unitsOf (T.th p.2).row), by simp [Ds.files], fun j f hf => ?_, ?_⟩
  · simp only [Ds.files, List.getElem?_map, Option.map_eq_some_iff] at hf
    obtain ⟨p, hp, rfl⟩ := hf
    have hm := List.mem_of_getElem? hp
    obtain ⟨i, hi⟩ := List.mem_iff_getElem?.1 ((h.mem p.1 (unitsOf (T.th p.2).row)).2 ⟨p.2, hm, rfl⟩)
    refine ⟨i, _, hi, rfl, by simp [hp], ?_⟩
    have := hb.th p.2 (hw.slt (n := p.1) hm)
    show unitsOf (T.th p.2).row ≤ _
    omega
  · unfold picksOf
    rw [h.turns, List.map_map]
    rfl
theorem pick_wf (m : Int) (hm : -1000 ≤ m ∧ m ≤ 1000) (n : Nat) (hn : n ≤ 1000000000) : (Lit.int .i64 (pick m n)).wf = true := by
  unfold pick
  have h1 : (-1000) * ((n : Int) + 1) ≤ m * ((n : Int) + 1) := Int.mul_le_mul_of_nonneg_right hm.1 (by omega)
  have h2 : m * ((n : Int) + 1) ≤ 1000 * ((n : Int) + 1) := Int.mul_le_mul_of_nonneg_right hm.2 (by omega)
  generalize m * ((n : Int) + 1) = z at *
  simp [Lit.wf, IntKind.min, IntKind.max, IntKind.bits, IntKind.signed]
  omega
theorem picks_wf {T : Ds} {N : Nat} (hw : T.Wf) (hb : T.Bd N) (hN : N ≤ 1000000) (m : Int) (hm : -1000 ≤ m ∧ m ≤ 1000) (i : Nat) : (Lit.int .i64 ((picksOf T m).getD i 0)).wf = true := by
  unfold picksOf
  cases i with
  | zero => exact pick_wf m hm _ (by have := hb.nm; omega)
  | succ i =>
    rw [List.getD_cons_succ, List.getD_eq_getElem?_getD, List.getElem?_map]
    rcases hp : T.shown[i]? with _ | p
    · show (Lit.int .i64 0).wf = true
      decide
    · have h1 := hb.th p.2 (hw.slt (n := p.1) (List.mem_of_getElem? hp))
      show (Lit.int .i64 (pick m (unitsOf (T.th p.2).row))).wf = true
      exact pick_wf m hm _ (by omega)
end

end Go.Proofs.Ytllfkfncgalpaaa
