import Derived.Test.YtngaimahhgmciaaGreatDoorQshs
import Derived.Test.YtngaimahhgmciaaGreatDoorQ9os
import Derived.Test.YtngaimahhgmciaaGreatDoorQ9qs
import Derived.Laws.StructEq
namespace Go.Proofs.YtngaimahhgmciaaGreatDoor
section
open Go.RowKit Go.Lib Go.Sort
set_option linter.unusedVariables false
set_option linter.unusedSimpArgs false
structure Rm9 (w : World) (g c : Nat) (L : List Rz) : Prop where
 row : ∃ cur : Array Value, w.heap[g]? = some (.cells cur 30 (0, 0)) ∧ cur.size = c * 65 ∧ cur.toList.take (L.length * 65) = rzrows L
 le : L.length ≤ c
theorem Rm9.kept {w w' : World} {g c : Nat} {L : List Rz} {l : List Nat} (h : Rm9 w g c L) (hk : Kept l w w') (hn : g ∉ l) : Rm9 w' g c L := by
 obtain ⟨⟨cur, h1, h2⟩, h3⟩ := h
 exact ⟨⟨cur, by rw [hk.block g (Array.getElem?_eq_some_iff.1 h1).1 hn]; exact h1, h2⟩, h3⟩
theorem Rm9.rss {w : World} {g c : Nat} {L : List Rz} (h : Rm9 w g c L) : Rss w (some ⟨g, 0, none⟩) L := fun k hk => by
 obtain ⟨⟨cur, h1, _, h3⟩, _⟩ := h
 refine ⟨g, 0, rfl, fun j v hv => ?_⟩
 have hj : j < 65 := by have := (List.getElem?_eq_some_iff.1 hv).1; rw [Rz.len] at this; exact this
 rw [cell_of_row _ _ _ _ _ _ h1, Nat.zero_add]
 rw [← rzrows_at hk hj, ← h3, List.getElem?_take, if_pos (by omega)] at hv
 simpa using hv
set_option maxRecDepth 100000 in
theorem run_makeZ9 (w : World) (c : Nat) (h : c * 72 ≤ 281474976710656) : (Instr.makeSlice 23 (.int .i64 0) (.int .i64 ((c : Nat) : Int))).run Tryz.prog w = .ok (.slice (some ⟨w.heap.size, 0, none⟩) 0 c) (w.alloc (.cells (madeCells zeroRz (c * 65)) 30)) := by
 obtain ⟨i, hi, hx⟩ := Option.map_eq_some_iff.1 Tryz.infoRz9
 injection hx with e1 hx
 injection hx with e2 e3
 have hmk := run_make (P := Tryz.prog) w 23 30 i (.agg zeroRz) Tryz.underlying23 hi e3 .i64 .i64 0 c (by omega) (by omega) (by rw [e2]; omega) (by omega)
 rw [e1] at hmk
 simp only [Int.toNat_natCast] at hmk
 exact hmk
theorem rm_made (w : World) (c : Nat) : Rm9 (w.alloc (.cells (madeCells zeroRz (c * 65)) 30)) w.heap.size c [] :=
 ⟨⟨_, new_atK _ _, size_madeCells _ _, by simp [rzrows]⟩, Nat.zero_le _⟩
set_option maxRecDepth 100000 in
theorem Rm9.app {w : World} {g c : Nat} {L : List Rz} (h : Rm9 w g c L) (ao : Option Addr) (n cap : Nat) (R : List Rz) (hl : R.length = n) (hR : Rss w ao R) (h0 : ao = none → n = 0 ∧ cap = 0) (hc : L.length + n ≤ c) :
  ∃ w', (Builtin.append_ #[23, 23] 23 #[.slice (some ⟨g, 0, none⟩) L.length c, .slice ao n cap]).run Tryz.prog w = .ok (.slice (some ⟨g, 0, none⟩) (L.length + n) c) w' ∧ Rm9 w' g c (L ++ R) ∧ Kept [g] w w' := by
 obtain ⟨i, hi, hx⟩ := Option.map_eq_some_iff.1 Tryz.infoRz9
 injection hx with e1 hx
 injection hx with e2 e3
 have hrow := h.row
 obtain ⟨cur, h1, h2, h3⟩ := hrow
 cases ao with
 | none =>
  obtain ⟨rfl, rfl⟩ := h0 rfl
  have hR0 : R = [] := List.eq_nil_of_length_eq_zero hl
  subst hR0
  refine ⟨w, ?_, by simpa using h, Kept.refl _ _⟩
  simp [Builtin.append_, run_underlying (P := Tryz.prog) Tryz.underlying23, sizeOf, typeInfo, hi, Builtin.lenOf, Builtin.firstCells, loadCells, loadCellsFrom, h.le, storeCells]
 | some a =>
  have hnews : ∀ j u, (rzrows R)[j]? = some u → w.cell? (a.add j) = some u := fun j u hj => by
   have hj2 := (List.getElem?_eq_some_iff.1 hj).1
   rw [rzrows_len] at hj2
   have hk : j / 65 < R.length := by omega
   obtain ⟨b, off, e, hr⟩ := hR (j / 65) hk
   injection e with e
   subst e
   have hm : j % 65 < 65 := Nat.mod_lt _ (by omega)
   have e4 := rzrows_at hk hm
   rw [show j / 65 * 65 + j % 65 = j by omega] at e4
   rw [e4] at hj
   have := hr _ _ hj
   rw [Addr.add_mid]
   rw [show off + j = off + j / 65 * 65 + j % 65 by omega]
   exact this
  have hfit : L.length * i.size + (rzrows R).length ≤ cur.size := by rw [e1, rzrows_len, hl, h2, ← Nat.add_mul]; exact Nat.mul_le_mul_right _ hc
  have hone : ∀ u ∈ rzrows R, u.oneCell' = true := fun u hu => by
   obtain ⟨z, _, hz⟩ := List.mem_flatMap.1 hu
   exact rz_one z u hz
  have hr := run_append_room (P := Tryz.prog) w 23 23 30 i Tryz.underlying23 hi g L.length c cur h1 a n cap (rzrows R) (by rw [rzrows_len, e1, hl]) hnews hone hc hfit
  rw [e1, rzrows_len, hl] at hr
  rw [rzrows_len, hl, e1] at hfit
  refine ⟨_, hr, ⟨⟨_, setRow_heap w g cur _ _ _ h1, ?_, ?_⟩, by rw [List.length_append, hl]; exact hc⟩, kept_rowK (Kept.refl [g] w) (fun _ => by simp) _⟩
  ·simp only [List.size_toArray, List.length_append, List.length_take, List.length_drop, Array.length_toList, rzrows_len, hl]
   omega
  ·have e5 : rzrows (L ++ R) = rzrows L ++ rzrows R := by simp [rzrows]
   rw [e5, h3]
   have hlen : (rzrows L ++ rzrows R).length = (L ++ R).length * 65 := by rw [List.length_append, rzrows_len, rzrows_len, List.length_append, Nat.add_mul]
   rw [← hlen]
   exact List.take_left
end

section
open Go.RowKit Go.Lib Go.Sort
set_option linter.unusedVariables false
set_option linter.unusedSimpArgs false
theorem wpList_makeSl9b {P : Program} {ops : Array Oper} {rest : List Oper} {o : Oper} {a : Act} {w : World} {Q : Exit → Act → World → Prop} (hg : o.guard = none) (t : TypeId) (x y : Operand) (ho : o.op = .makeSlice t x y) (vx vy : Value) (hx : a.eval x = vx) (hy : a.eval y = vy) (v' : Value) (w' : World) (hrun : (Instr.makeSlice t vx vy).run P w = .ok v' w') (hK : wpList P ops Q rest (a.put o.dst v') w') : wpList P ops Q (o :: rest) a w := by
 refine wpList_plain hg fun K' hK' => ?_
 unfold Oper.wp
 simp [execOp, ho, hx, hy, hrun, Result.andThen]
 exact hK' _ _ hK
def mrk (k : Nat) : Rz := ⟨List.replicate 32 0, UInt8.ofNat k :: List.replicate 31 0, -7, rfl, rfl⟩
def marks (k : Nat) : List Rz := (List.range k).map mrk
theorem marks_succ (k : Nat) : marks (k + 1) = marks k ++ [mrk k] := by simp [marks, List.range_succ]
theorem marks_len (k : Nat) : (marks k).length = k := by simp [marks]
set_option maxRecDepth 100000 in
theorem Tryz.buildId9 (x : UInt8) (W : World) : (Instr.build 25 #[(0, .int .u8 x.toNat)]).run Tryz.prog W = .ok (.agg (bys (x :: List.replicate 31 0)).toArray) W := by kernel_rfl
set_option maxRecDepth 100000 in
theorem Tryz.buildM9 (g : Nat → UInt8) (W : World) : (Instr.build 30 #[(1, .agg (bys ((List.range 32).map g)).toArray), (2, .int .i64 (-7))]).run Tryz.prog W = .ok (.agg (bys (List.replicate 32 0) ++ (bys ((List.range 32).map g) ++ [Value.int .i64 (-7)])).toArray) W := by kernel_rfl
theorem build_mrk (k : Nat) (W : World) : (Instr.build 30 #[(1, .agg (bys (mrk k).root).toArray), (2, .int .i64 (-7))]).run Tryz.prog W = .ok (.agg (mrk k).cells.toArray) W := by
 have h := Tryz.buildM9 (fun j => (mrk k).root.getD j 0) W
 rw [range32i (mrk k).hr] at h
 exact h
set_option maxHeartbeats 3200000 in
set_option maxRecDepth 100000 in
theorem copied9_ok (ao : Option Addr) (n cap : Nat) (R : List Rz) (w : World) (hl : R.length = n) (hR : Rss w ao R) (h0 : ao = none → n = 0 ∧ cap = 0) (hm : (n + 40) * 72 ≤ 281474976710656) :
  Calls Tryz.prog 9 #[.slice ao n cap] w fun e w' => ∃ g, e = .returned (.slice (some ⟨g, 0, none⟩) n (n + 40)) ∧ w.heap.size ≤ g ∧ Rm9 w' g (n + 40) (R ++ marks 40) ∧ Kept [] w w' := by
 have hk1 : Kept [] w (w.alloc (.cells (madeCells zeroRz ((n + 40) * 65)) 30)) := (Kept.refl [] w).alloc _
 have hmk := run_makeZ9 w (n + 40) hm
 obtain ⟨w2, hrun, hrm, hk2⟩ := (rm_made w (n + 40)).app ao n cap R hl (hR.kept hk1 (fun _ _ _ => by simp)) h0 (by simp)
 simp only [List.length_nil, Nat.zero_add, List.nil_append] at hrun hrm
 have hw40 : IntKind.i64.wrap ((n : Int) + 40) = ((n + 40 : Nat) : Int) := by simp [IntKind.wrap, IntKind.bits, IntKind.signed]; omega
 have HK2 : Hid (Kept [] w w2) := hide (hk1.trans hk2 (fun j hj hlt => by simp at hj; omega))
 have HRM := hide hrm
 have HL := hide hl
 clear hk1 hk2 hrm hR h0 hl
 go_enter Tryz.func9, Tryz.ntmps9
 go_upto_region 2 with (first
  | refine wpList_makeSl9b rfl 23 (.const (.int .i64 0)) (.tmp 7) rfl (.int .i64 0) (.int .i64 ((n + 40 : Nat) : Int)) rfl rfl _ _ hmk ?_
  | refine wpList_appendRun9 rfl (.tmp 8) (.tmp 9) 23 rfl (.slice (some ⟨w.heap.size, 0, none⟩) 0 (n + 40)) (.slice ao n cap) rfl rfl hrun ?_)
 clear hmk hrun hw40
 obtain ⟨g, hg⟩ : ∃ g, w.heap.size = g := ⟨_, rfl⟩
 have HG := hide hg
 rw [hg] at HRM ⊢
 clear hg
 go_wp2
 go_loopw [3, 4] (fun x y wr => ∃ k : Nat, k ≤ 40 ∧ x = .slice (some ⟨g, 0, none⟩) (n + k) (n + 40) ∧ y = .int .i64 k ∧ Hid (Rm9 wr g (n + 40) (R ++ marks k) ∧ Kept [] w wr)) (fun x y wr => 40 - (intOf y).toNat)
 case atStart => exact ⟨0, by omega, rfl, rfl, hide ⟨by simpa [marks] using HRM.out, HK2.out⟩⟩
 case round =>
  clear HRM HK2
  obtain ⟨k, hk, rfl, rfl, HI⟩ := hrel
  by_cases hlt : k < 40
  ·have g1 : (k : Int) < 40 := by omega
   have hu : ((UInt8.ofNat k).toNat) = k := by
    rw [UInt8.toNat_ofNat']
    omega
   have hcv : IntKind.u8.wrap (k : Int) = (k : Int) := by simp [IntKind.wrap, IntKind.bits, IntKind.signed]; omega
   have hb1 := fun W => Tryz.buildId9 (UInt8.ofNat k) W
   rw [hu] at hb1
   have hb2 := fun W => build_mrk k W
   have hkA : Kept [] wr (wr.alloc (.cells (mrk k).cells.toArray 30)) := (Kept.refl [] wr).alloc _
   obtain ⟨w3, hrun, hrm, hk3⟩ := (HI.out.1.kept hkA (by simp)).app (some ⟨wr.heap.size, 0, none⟩) 1 1 [mrk k] rfl (fun j hj => by
    have : j = 0 := by simpa using hj
    subst this
    exact ⟨wr.heap.size, 0, rfl, row_rangeK (cs := (mrk k).cells) (new_atK _ _)⟩) (fun e => by cases e) (by rw [List.length_append, marks_len, HL.out]; omega)
   rw [List.length_append, marks_len, HL.out] at hrun
   rw [List.append_assoc, ← marks_succ] at hrm
   have HF : Hid (Rm9 w3 g (n + 40) (R ++ marks (k + 1)) ∧ Kept [] w w3) := hide ⟨hrm, (HI.out.2.trans hkA (by simp)).trans hk3 (fun j hj hlt => by simp only [List.mem_singleton] at hj; have := HG.out; omega)⟩
   clear hrm hk3 hkA hu HI
   go_wp2_with (first
    | refine wpList_buildRun9 rfl 25 #[(0, .tmp 17)] rfl #[(0, .int .u8 k)] (by simp [Act.eval]) _ (hb1 _) ?_
    | refine wpList_buildRun9 rfl 30 #[(1, .tmp 18), (2, .const (.int .i64 (-7)))] rfl #[(1, .agg (bys (mrk k).root).toArray), (2, .int .i64 (-7))] (by first | rfl | simp [Act.eval, Act.put, mrk]) _ (hb2 _) ?_
    | refine wpList_buildZ rfl (.tmp 19) rfl (mrk k) rfl ?_
    | refine wpList_appendRun9 rfl (.tmp 15) (.tmp 20) 23 rfl (.slice (some ⟨g, 0, none⟩) (n + k) (n + 40)) (.slice (some ⟨wr.heap.size, 0, none⟩) 1 1) rfl rfl hrun ?_)
   go_roundw
   case rel => exact ⟨k + 1, by omega, by rw [Nat.add_assoc], by go_num, HF⟩
   case measure => simp [intOf]; omega
  ·obtain rfl : k = 40 := by omega
   have g1 : ¬ ((40 : Nat) : Int) < 40 := by omega
   have HF := hide HI.out
   clear HI
   go_wp2
   go_ret
   exact ⟨g, rfl, by rw [HG.out]; exact Nat.le_refl _, HF.out.1, HF.out.2⟩
end

section
open Go.RowKit Go.Lib Go.Sort
set_option linter.unusedVariables false
set_option linter.unusedSimpArgs false
theorem Tryz.aggIntZ (W : World) : (isAgg 3).run Tryz.prog W = .ok false W := by kernel_rfl
theorem Tryz.aggIDZ (W : World) : (isAgg 25).run Tryz.prog W = .ok true W := by kernel_rfl
theorem Tryz.sizeIDZ (W : World) : (sizeOf 25).run Tryz.prog W = .ok 32 W := by kernel_rfl
theorem rz_parts (e : Rz) : e.cells.toArray.extract 0 32 = (bys e.act).toArray ∧ e.cells.toArray.extract 32 (32 + 32) = (bys e.root).toArray := by
 constructor
 ·apply Array.ext'
  simp [Rz.cells, bys_length, e.ha]
 ·apply Array.ext'
  simp only [Rz.cells, Array.toList_extract, List.extract_eq_drop_take']
  rw [← List.append_assoc, List.take_append_of_le_length (by simp [bys_length, e.ha, e.hr]), List.take_of_length_le (by simp [bys_length, e.ha, e.hr]), List.drop_append_of_le_length (by simp [bys_length, e.ha]), List.drop_of_length_le (by simp [bys_length, e.ha])]
  simp
theorem rz_cod (e : Rz) : e.cells[64]? = some (.int .i64 e.code) := by
 unfold Rz.cells
 rw [← List.append_assoc, List.getElem?_append_right (by simp [bys_length, e.ha, e.hr])]
 simp [bys_length, e.ha, e.hr]
theorem Tryz.partActZ (e : Rz) (W : World) : (part 25 e.cells.toArray 0).run Tryz.prog W = .ok (.agg (bys e.act).toArray) W := by
 have hx := (rz_parts e).1
 simp only [part, Sem.run_bind, Tryz.aggIDZ, Result.andThen_ok, if_true, Tryz.sizeIDZ, Sem.run_pure]
 first | rw [hx] | (simp [e.len, hx])
theorem Tryz.partRootZ (e : Rz) (W : World) : (part 25 e.cells.toArray 32).run Tryz.prog W = .ok (.agg (bys e.root).toArray) W := by
 have hx := (rz_parts e).2
 simp only [part, Sem.run_bind, Tryz.aggIDZ, Result.andThen_ok, if_true, Tryz.sizeIDZ, Sem.run_pure]
 first | rw [hx] | (simp [e.len, hx])
theorem Tryz.partCodeZ (e : Rz) (W : World) : (part 3 e.cells.toArray 64).run Tryz.prog W = .ok (.int .i64 e.code) W := by
 simp only [part, Sem.run_bind, Tryz.aggIntZ, Result.andThen_ok, Bool.false_eq_true, if_false, List.getElem?_toArray, rz_cod e, Sem.run_pure]
theorem Tryz.underRz : Tryz.prog.underlying 30 = some (.struct (Tryz.prog.fieldsOf 30)) := by kernel_rfl
theorem Tryz.eqlRz (A : Rz) (W : World) : (Op.equalIn 10000 30 (.agg A.cells.toArray) (.agg A.cells.toArray)).run Tryz.prog W = .ok true W := by
 rw [run_equalIn_struct (P := Tryz.prog) W 9999 30 _ _ Tryz.underRz (by kernel_rfl)]
 simp (config := { decide := true }) only [Program.fieldsOf, Tryz.underlying30, Op.eqFields, Sem.run_bind, Sem.run_ite, ne_eq, not_false_eq_true, if_true, Tryz.partActZ, Tryz.partRootZ, Tryz.partCodeZ, Result.andThen_ok, run_equalIn_int W 9998 3 .i64 .i64 _ _ Tryz.underlying3, Tryz.equalID 9997 A.act A.act A.ha A.ha W, Tryz.equalID 9997 A.root A.root A.hr A.hr W]
 simp
end

end Go.Proofs.YtngaimahhgmciaaGreatDoor
