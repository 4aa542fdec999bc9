/-
  freightlaw8.roomy. (Written by tools/t9t.py.)
-/
import Derived.Test.YtmhnjhnnaciokaaZk
import Derived.Test.YtmhnjhnnaciokaaZr
namespace Go.Proofs.Ytmhnjhnnaciokaa
open Go.RowKit Go.Sort
set_option linter.unusedVariables false
set_option linter.unusedSimpArgs false

theorem take_res (L : List Res) (k : Nat) (h : k < L.length) : L.take (k + 1) = L.take k ++ [L.getD k res0] := by
  rw [List.take_succ_eq_append_getElem h]
  simp [List.getElem?_eq_getElem h]

def mark : Res := ⟨List.replicate 32 0, List.replicate 32 0, -77, rfl, rfl, rfl⟩
def marks : List Res := [mark, mark, mark]
def Res.coded (e : Res) (c : Int) (h : (Lit.int .i64 c).wf = true) : Res := ⟨e.action, e.root, c, e.ha, e.hr, h⟩
theorem cells_set (e : Res) (c : Int) (h : (Lit.int .i64 c).wf = true) : e.cells.set 64 (.int .i64 c) = (e.coded c h).cells := by
  unfold Res.cells Res.coded
  have h1 : (bys e.action).length = 32 := by rw [bys_length, e.ha]
  have h2 : (bys e.root).length = 32 := by rw [bys_length, e.hr]
  rw [List.set_append_right _ _ (by omega), h1, List.set_append_right _ _ (by omega), h2]
  rfl
/-- A result's Code written. -/
theorem Ress.code {w : World} {g : Nat} {L : List Res} (h : Ress w (some ⟨g, 0, none⟩) L) {k : Nat} (hk : k < L.length) (ht : w.there g (k * 65) 65) (c : Int) (hc : (Lit.int .i64 c).wf = true) : Ress (w.setCell ⟨g, k * 65 + 64, none⟩ (.int .i64 c)) (some ⟨g, 0, none⟩) (L.set k ((L.getD k res0).coded c hc)) := by
  intro i hi
  obtain ⟨b', o', e', hr⟩ := h i (by simpa using hi)
  cases e'
  refine ⟨g, 0, rfl, fun j v hv => ?_⟩
  by_cases hik : i = k
  · subst hik
    have e1 : (L.set i ((L.getD i res0).coded c hc)).getD i res0 = (L.getD i res0).coded c hc := by simp [List.getD, hk]
    rw [e1, ← cells_set, List.getElem?_set] at hv
    by_cases hj : j = 64
    · subst hj
      rw [if_pos rfl, if_pos (by rw [Res.len]; omega)] at hv
      rw [show 0 + i * 65 + 64 = i * 65 + 64 by omega]
      rw [← hv]
      have := World.cell?_setCells_in g [.int .i64 c] (i * 65 + 64) w (by intro j hj; simp at hj; subst hj; exact (ht 64 (by omega)).1) 0 (by simp)
      simpa [World.setCells] using this
    · rw [if_neg (fun e => hj e.symm)] at hv
      have hj2 : j < 65 := by have := (List.getElem?_eq_some_iff.1 hv).1; rwa [Res.len] at this
      have := World.cell?_setCells_out g [.int .i64 c] (i * 65 + 64) w ⟨g, 0 + i * 65 + j, none⟩ (fun _ _ => by simp; omega)
      simp only [World.setCells] at this
      rw [this]
      exact hr j v hv
  · have e1 : (L.set k ((L.getD k res0).coded c hc)).getD i res0 = L.getD i res0 := by simp [List.getD, List.getElem?_set, Ne.symm hik]
    rw [e1] at hv
    have hj2 : j < 65 := by have := (List.getElem?_eq_some_iff.1 hv).1; rwa [Res.len] at this
    have h3 : i < k ∨ k < i := by omega
    have := World.cell?_setCells_out g [.int .i64 c] (k * 65 + 64) w ⟨g, 0 + i * 65 + j, none⟩ (fun _ _ => by simp; omega)
    simp only [World.setCells] at this
    rw [this]
    exact hr j v hv
theorem there_cell {w : World} {g o n : Nat} (h : w.there g o n) (b off : Nat) (v : Value) : (w.setCell ⟨b, off, none⟩ v).there g o n := by
  have := World.there_setCells h b off [v]
  simpa [World.setCells] using this
theorem mark_of : res0.coded (-77) rfl = mark := rfl
/-- How far a roomy list is made. -/
def made3 (L : List Res) (k : Nat) : List Res := (L ++ marks).take k ++ List.replicate (L.length + 3 - k) res0
theorem made3_len (L : List Res) (k : Nat) (hk : k ≤ L.length + 3) : (made3 L k).length = L.length + 3 := by
  simp only [made3, List.length_append, List.length_take, List.length_replicate, marks, List.length_cons, List.length_nil]; omega
theorem made3_at (L : List Res) (k : Nat) (hk : k < L.length + 3) : (made3 L k).getD k res0 = res0 := by
  have hl : ((L ++ marks).take k).length = k := by simp only [List.length_take, List.length_append, marks, List.length_cons, List.length_nil]; omega
  simp only [made3, List.getD]
  rw [List.getElem?_append_right (by omega), hl, Nat.sub_self]
  have : L.length + 3 - k ≠ 0 := by omega
  obtain ⟨m, hm⟩ : ∃ m, L.length + 3 - k = m + 1 := ⟨L.length + 3 - k - 1, by omega⟩
  rw [hm]
  rfl
theorem made3_next (L : List Res) (k : Nat) (hk : k < L.length + 3) : (made3 L k).set k ((L ++ marks).getD k res0) = made3 L (k + 1) := by
  have hL : k < (L ++ marks).length := by simp only [List.length_append, marks, List.length_cons, List.length_nil]; omega
  have hl : ((L ++ marks).take k).length = k := by rw [List.length_take]; omega
  obtain ⟨m, hm⟩ : ∃ m, L.length + 3 - k = m + 1 := ⟨L.length + 3 - k - 1, by omega⟩
  unfold made3
  rw [hm, show L.length + 3 - (k + 1) = m by omega, List.set_append_right _ _ (by omega), hl, Nat.sub_self, take_res _ k hL]
  simp [List.replicate_succ]
theorem zero_row {w : World} {g N : Nat} (h : w.heap[g]? = some (.cells (madeCells zeroR (N * 65)) 26 (0, 0))) : Ress w (some ⟨g, 0, none⟩) (List.replicate N res0) := by
  intro i hi
  have hi' : i < N := by simpa using hi
  refine ⟨g, 0, rfl, fun j v hv => ?_⟩
  have e1 : (List.replicate N res0).getD i res0 = res0 := by simp [List.getD, hi']
  rw [e1] at hv
  have hj : j < 65 := by have := (List.getElem?_eq_some_iff.1 hv).1; rwa [Res.len] at this
  have hlt : i * 65 + j < N * 65 := by
    have : (i + 1) * 65 ≤ N * 65 := Nat.mul_le_mul_right _ hi'
    omega
  rw [cell_of_row _ _ _ _ _ _ h, show 0 + i * 65 + j = i * 65 + j by omega]
  unfold madeCells
  rw [Array.getElem?_map, Array.getElem?_range, if_pos hlt]
  show some (zeroR[(i * 65 + j) % 65]!) = some v
  rw [show (i * 65 + j) % 65 = j by omega, getElem!_pos zeroR j (by show j < 65; exact hj)]
  have : zeroR[j]? = some v := by unfold zeroR; rw [List.getElem?_toArray]; exact hv
  rw [← this, Array.getElem?_eq_getElem (by show j < 65; exact hj)]

set_option maxHeartbeats 3200000 in
set_option maxRecDepth 100000 in
theorem roomy_ok (ao : Option Addr) (n cap : Nat) (L : List Res) (w : World) (hn : L.length = n) (hL : Ress w ao L) (hm : n * 72 ≤ 140737488351232) :
    Calls Try.prog 4 #[.slice ao n cap] w fun r w' => ∃ g, r = .returned (.tuple #[.slice (some ⟨g, 0, none⟩) n (n + 3), .slice (some ⟨g, 0, none⟩) (n + 3) (n + 3)]) ∧ w.heap.size ≤ g ∧ Ress w' (some ⟨g, 0, none⟩) (L ++ marks) ∧ w'.there g 0 ((n + 3) * 65) ∧ Kept [] w w' := by
  obtain ⟨i0, hi, hz0, hz1, hz2⟩ := info_parts Try.infoRes
  have hmk := run_make (P := Try.prog) w 22 26 i0 (.agg zeroR) Try.underlying22 hi hz0 .i64 .i64 ((n + 3 : Nat) : Int) ((n + 3 : Nat) : Int) (by omega) (by omega) (by rw [hz2]; omega) (by omega)
  rw [hz1] at hmk
  simp only [Int.toNat_natCast] at hmk
  have hrow := heap_new w (.cells (madeCells zeroR ((n + 3) * 65)) 26)
  have hk1 : Kept [] w (w.alloc (.cells (madeCells zeroR ((n + 3) * 65)) 26)) := (Kept.refl [] w).alloc _
  change _ = Result.ok _ (w.alloc (.cells (madeCells zeroR ((n + 3) * 65)) 26)) at hmk
  generalize w.alloc (.cells (madeCells zeroR ((n + 3) * 65)) 26) = w1 at hmk hrow hk1
  obtain ⟨g, hg⟩ : ∃ g, w.heap.size = g := ⟨_, rfl⟩
  rw [hg] at hmk hrow
  have hR1 := zero_row hrow
  have hT1 : w1.there g 0 ((n + 3) * 65) := there_row hrow 0 _ (by rw [size_madeCells]; omega)
  rw [show ((n + 3 : Nat) : Int) = (n : Int) + 3 by omega] at hmk
  have H1 : Hid (Ress w1 (some ⟨g, 0, none⟩) (made3 L 0) ∧ w1.there g 0 ((n + 3) * 65) ∧ Kept [] w w1) := ⟨by rw [show made3 L 0 = List.replicate (n + 3) res0 by simp [made3, hn]]; exact hR1, hT1, hk1⟩
  have HN := hide hn
  have HL := hide hL
  have HG : Hid (w.heap.size = g) := hg
  clear hi hz0 hz1 hz2 hrow hk1 hR1 hT1 hn hL hg
  go_enter Try.func4, Try.ntmps4
  go_wp2
  clear hmk
  go_loopw [5] (fun x wr => ∃ k : Nat, k ≤ n + 3 ∧ x = .int .i64 k ∧ Hid (Ress wr (some ⟨g, 0, none⟩) (made3 L k) ∧ wr.there g 0 ((n + 3) * 65) ∧ Kept [] w wr)) (fun x wr => n + 3 - (intOf x).toNat)
  case atStart => exact ⟨0, Nat.zero_le _, rfl, H1.out⟩
  case round =>
    clear H1
    obtain ⟨k, hk, rfl, HI⟩ := hrel
    by_cases hlt : k < n + 3
    · have hkl : k < L.length + 3 := by rw [HN.out]; exact hlt
      have hml := made3_len L k (by omega)
      have hat := made3_at L k hkl
      have hnx := hide (made3_next L k hkl)
      obtain ⟨_, _, e, hr⟩ := HI.out.1 k (by rw [hml]; exact hkl)
      cases e
      rw [hat] at hr
      have c0 : wr.cell? ⟨g, k * 65 + 64, none⟩ = some (.int .i64 0) := by
        have := hr 64 _ res0.cod
        rwa [show 0 + k * 65 + 64 = k * 65 + 64 by omega] at this
      have tk : wr.there g (k * 65) 65 := there_mid HI.out.2.1 k 1 (by omega)
      have f0 := (tk 64 (by omega)).2
      have HR1 := hide (Ress.code HI.out.1 (by rw [hml]; exact hkl) tk (-77) rfl)
      rw [hat, mark_of] at HR1
      have HT1 := hide (there_cell HI.out.2.1 g (k * 65 + 64) (.int .i64 (-77)))
      have HK1 : Hid (Kept [] w (wr.setCell ⟨g, k * 65 + 64, none⟩ (.int .i64 (-77)))) := HI.out.2.2.setCell (fun h => by have := HG.out; simp at h; omega) _
      have HML := hide hml
      clear hat hr tk hml
      by_cases hkn : k < n
      · have hknz : (k : Int) < (n : Int) := by omega
        obtain ⟨b, off, rfl, hrl⟩ := HL.out k (by rw [HN.out]; exact hkn)
        have hge : (L ++ marks).getD k res0 = L.getD k res0 := by simp only [List.getD]; rw [List.getElem?_append_left (by rw [HN.out]; exact hkn)]
        rw [hge] at hnx
        clear hge
        generalize L.getD k res0 = x at hrl hnx
        have i1 : (Try.prog.info? 26).map (·.size) = some x.cells.length := by rw [x.len]; exact Try.infoResS
        have ia : (Try.prog.info? 26).map (·.size) = some x.cells.toArray.size := by rw [res_size]; exact Try.infoResS
        have hrw : (wr.setCell ⟨g, k * 65 + 64, none⟩ (.int .i64 (-77))).rangeAt b (off + k * 65) x.cells := fun j v hv => HK1.out.cellOf (hrl j v hv) (by simp)
        have tt : (wr.setCell ⟨g, k * 65 + 64, none⟩ (.int .i64 (-77))).there g (k * 65) x.cells.toArray.size := by rw [res_size]; exact there_mid HT1.out k 1 (by omega)
        have HR2 : Hid (Ress ((wr.setCell ⟨g, k * 65 + 64, none⟩ (.int .i64 (-77))).setCells g (k * 65) x.cells) (some ⟨g, 0, none⟩) (made3 L (k + 1))) := by
          have := Ress.put HR1.out (k := k) (by rw [List.length_set, HML.out]; exact hkl) (e := x) (there_mid HT1.out k 1 (by omega))
          rw [List.set_set, hnx.out] at this
          exact this
        have HT2 := hide (World.there_setCells HT1.out g (k * 65) x.cells)
        have HK2 : Hid (Kept [] w ((wr.setCell ⟨g, k * 65 + 64, none⟩ (.int .i64 (-77))).setCells g (k * 65) x.cells)) := kept_setCells (fun h => by have := HG.out; omega) _ _ _ HK1.out
        clear HR1 HT1 HK1 hrl
        go_wp2_with (first
          | refine wpList_load_mid rfl 26 (.tmp 28) rfl b (off + k * 65) rfl x.cells _ hrw Try.underlying26 rfl i1 ?_
          | refine wpList_store_mid rfl 26 (.tmp 30) (.tmp 29) rfl g (k * 65) x.cells.toArray rfl rfl tt ia (res_all x) ?_)
        go_roundw
        case rel => exact ⟨k + 1, by omega, by go_num, ⟨HR2.out, HT2.out, HK2.out⟩⟩
        case measure => simp [intOf]; omega
      · have hknz : ¬ (k : Int) < (n : Int) := by omega
        have hge : (L ++ marks).getD k res0 = mark := by
          simp only [List.getD]
          rw [List.getElem?_append_right (by rw [HN.out]; omega), HN.out]
          have : k - n = 0 ∨ k - n = 1 ∨ k - n = 2 := by omega
          rcases this with h | h | h <;> rw [h] <;> rfl
        rw [hge] at hnx
        rw [hnx.out] at HR1
        go_wp2
        go_roundw
        case rel => exact ⟨k + 1, by omega, by go_num, ⟨HR1.out, HT1.out, HK1.out⟩⟩
        case measure => simp [intOf]; omega
    · obtain rfl : k = n + 3 := by omega
      have hfin : made3 L (n + 3) = L ++ marks := by
        unfold made3
        rw [List.take_of_length_le (by simp only [List.length_append, marks, List.length_cons, List.length_nil, HN.out]; omega), HN.out, Nat.sub_self]
        simp
      have hcut := fun W => Try.cutHi W (some ⟨g, 0, none⟩) (n + 3) (n + 3) n (by omega)
      have HF := HI
      rw [hfin] at HF
      clear hfin HI
      go_wp2
      go_ret2
      exact ⟨g, rfl, by have := HG.out; omega, HF.out.1, HF.out.2.1, HF.out.2.2⟩

theorem wpList_buildRun {ops : Array Oper} {rest : List Oper} {o : Oper} {a : Act} {w : World} {Q : Exit → Act → World → Prop} (hgd : o.guard = none) (t : TypeId) (parts : Array (Nat × Operand)) (ho : o.op = .build t parts) (vals : Array (Nat × Value)) (hv : (parts.map fun (i, x) => (i, a.eval x)) = vals) (v : Value) (hrun : (Instr.build t vals).run Try.prog w = .ok v w)
    (h : wpList Try.prog ops Q rest (a.put o.dst v) w) : wpList Try.prog ops Q (o :: rest) a w :=
  wpList_plain hgd fun _ hK => by
    unfold Oper.wp execOp
    simp only [ho, hv, Sem.run_bind, hrun, Result.andThen_ok]
    exact hK _ _ h