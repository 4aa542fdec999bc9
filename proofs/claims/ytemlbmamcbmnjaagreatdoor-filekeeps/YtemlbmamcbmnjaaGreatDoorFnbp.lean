/-
  A Fault in memory: file.fault, errors.Is, api.Code, says. (Written by tools/fnb.py.)
-/
import Derived.Test.YtemlbmamcbmnjaaGreatDoorEatp
import Derived.Test.YtemlbmamcbmnjaaGreatDoorGmp
import Derived.Test.YtemlbmamcbmnjaaGreatDoorOlp
import Derived.Deep.MidRow
import Derived.BigFrame
namespace Go.Proofs.YtemlbmamcbmnjaaGreatDoor
open Go.RowKit Go.Extern.Stop Go.Stop Go.Extern Dsk
set_option linter.unusedVariables false
set_option linter.unusedSimpArgs false

def z32 : List Value := List.replicate 32 (.int .u8 0)
def fc (op name : By) (n : Int) : List Value := [encStr op, encStr name] ++ z32 ++ [.iface 50 (.int .i64 n)]
def FaultAt (w : World) (eb : Nat) (op name : By) (n : Int) : Prop := w.heap[eb]? = some (.cells (fc op name n).toArray 128 (0, 0))
def ErrV (w : World) (v : Value) (op name : By) (n : Int) : Prop := (n = 0 ∧ v = .nilIface) ∨ (n ≠ 0 ∧ ∃ eb, v = .iface 123 (.pointer (some ⟨eb, 0, none⟩)) ∧ FaultAt w eb op name n)
/-- What errors.As reads: the handle of the type error. -/
def Gl (w : World) : Prop := w.cell? ⟨0, 0, none⟩ = some (.iface 210 (.agg #[.pointer (some ⟨2, 44, none⟩)]))
theorem Gl.kept {l : List Nat} {w w' : World} (h : Gl w) (hk : Kept l w w') (hn : 0 ∉ l) : Gl w' := hk.cellOf h hn
theorem FaultAt.kept {w w' : World} {eb : Nat} {op name : By} {n : Int} (h : FaultAt w eb op name n) (hk : Kept [] w w') : FaultAt w' eb op name n := by
  unfold FaultAt at *
  rw [hk.block eb (Array.getElem?_eq_some_iff.1 h).1 (by simp)]
  exact h
theorem ErrV.kept {w w' : World} {v : Value} {op name : By} {n : Int} (h : ErrV w v op name n) (hk : Kept [] w w') : ErrV w' v op name n := by
  rcases h with h | ⟨h1, eb, h2, h3⟩
  · exact .inl h
  · exact .inr ⟨h1, eb, h2, h3.kept hk⟩

set_option maxRecDepth 100000 in
theorem fault_ok (op name : By) (n : Int) (w : World) : Calls Tryz.prog 63 #[encStr op, encStr name, .int .i64 n] w fun e w' => ∃ v, e = .returned v ∧ ErrV w' v op name n ∧ Kept [] w w' := by
  by_cases h0 : n = 0
  · subst h0
    go_enter Tryz.func63, Tryz.ntmps63
    go_wp2
    go_ret
    exact ⟨_, rfl, .inl ⟨rfl, rfl⟩, Kept.refl [] w⟩
  · have hb : (n == 0) = false := by simpa using h0
    have H0 := hide h0
    clear h0
    go_enter Tryz.func63, Tryz.ntmps63
    go_wp2
    go_ret
    exact ⟨_, rfl, .inr ⟨H0.out, w.heap.size, rfl, (MapKept.heap_alloc w _).1⟩, (Kept.refl [] w).alloc _⟩
theorem FaultAt.err {w : World} {eb : Nat} {op name : By} {n : Int} (h : FaultAt w eb op name n) : w.cell? ⟨eb, 34, none⟩ = some (.iface 50 (.int .i64 n)) := by rw [cell_of_row _ _ _ _ _ _ h]; rfl
theorem FaultAt.op {w : World} {eb : Nat} {op name : By} {n : Int} (h : FaultAt w eb op name n) : w.cell? ⟨eb, 0, none⟩ = some (encStr op) := by rw [cell_of_row _ _ _ _ _ _ h]; rfl
theorem FaultAt.name {w : World} {eb : Nat} {op name : By} {n : Int} (h : FaultAt w eb op name n) : w.cell? ⟨eb, 1, none⟩ = some (encStr name) := by rw [cell_of_row _ _ _ _ _ _ h]; rfl
theorem FaultAt.id {w : World} {eb : Nat} {op name : By} {n : Int} (h : FaultAt w eb op name n) : w.rangeAt eb 2 z32 := fun j v hv => by
  rw [cell_of_row _ _ _ _ _ _ h, List.getElem?_toArray]
  unfold fc
  rw [List.append_assoc, List.getElem?_append_right (by simp), List.getElem?_append_left (by simp; exact (List.getElem?_eq_some_iff.1 hv).1)]
  simpa using hv
theorem Tryz.eqFE (v u : Value) (w : World) : (binOp .eql 44 (.iface 123 v) (.iface 50 u)).run Tryz.prog w = .ok (.bool false) w := run_eql_iface_types (P := Tryz.prog) 123 50 v u Tryz.underlying44 (by decide) w
theorem Tryz.eqEE (n m : Int) (w : World) : (binOp .eql 44 (.iface 50 (.int .i64 n)) (.iface 50 (.int .i64 m))).run Tryz.prog w = .ok (.bool (n == m)) w := by kernel_rfl

def cmpImpl : Array Value → Sem Value := Extern.ReflectliteType.method fun t => do Extern.Rtype.noPackHeld "Comparable" t; pure (.bool (← typeInfo t).comparable)
theorem Tryz.cmpI (w : World) : (cmpImpl #[.agg #[.pointer (some ⟨2, 50, none⟩)]]).run Tryz.prog w = .ok (.bool true) w := by kernel_rfl

set_option maxHeartbeats 4000000 in
theorem is_fault (eb : Nat) (op name : By) (n m : Int) (w : World) (h : FaultAt w eb op name n) :
    Calls Tryz.prog 76 #[.iface 123 (.pointer (some ⟨eb, 0, none⟩)), .iface 50 (.int .i64 m)] w fun e w' => e = .returned (.bool (n == m)) ∧ w' = w := by
  have x7 := @run_callFunc_extern Tryz.prog 118 _ (Extern.ReflectliteType.typeOf) Tryz.func118 (by kernel_rfl) (by kernel_rfl) (by kernel_rfl) (by kernel_rfl)
  have x11 := @run_callFunc_extern Tryz.prog 188 _ (cmpImpl) Tryz.func188 (by kernel_rfl) (by kernel_rfl) (by kernel_rfl) (by kernel_rfl)
  have z0 := Tryz.mComp
  have z1 := Tryz.tOE
  have z2 := Tryz.cmpI
  have z3 := Tryz.eqFE
  have z4 := Tryz.noIsF
  have z5 := Tryz.unF
  have z6 := Tryz.mUn
  have z7 := Tryz.eqEE
  have z8 := Tryz.noIsE
  have z9 := Tryz.noUnE
  have z10 := Tryz.noUsE
  have hun := unwrap_ok eb _ _ h.err
  clear h
  cases hnm : (n == m) with
  | true =>
    have z7' : (binOp .eql 44 (.iface 50 (.int .i64 n)) (.iface 50 (.int .i64 m))).run Tryz.prog w = .ok (.bool true) w := by rw [Tryz.eqEE, hnm]
    clear z7 hnm
    go_enter Tryz.func76, Tryz.ntmps76
    go_wp2
    refine wp_loop_rounds 2 ?_
    rw [rounds_succ]
    go_wp2_with (go_at_call 175; refine hun.mono ?_; rintro e w' ⟨rfl, hww⟩; obtain rfl := hww.symm)
    rw [rounds_succ]
    go_wp2
    go_ret
    exact ⟨rfl, rfl⟩
  | false =>
    have z7' : (binOp .eql 44 (.iface 50 (.int .i64 n)) (.iface 50 (.int .i64 m))).run Tryz.prog w = .ok (.bool false) w := by rw [Tryz.eqEE, hnm]
    clear z7 hnm
    go_enter Tryz.func76, Tryz.ntmps76
    go_wp2
    refine wp_loop_rounds 2 ?_
    rw [rounds_succ]
    go_wp2_with (go_at_call 175; refine hun.mono ?_; rintro e w' ⟨rfl, hww⟩; obtain rfl := hww.symm)
    rw [rounds_succ]
    go_wp2
    go_ret
    exact ⟨rfl, rfl⟩
theorem Tryz.eqNE (u : Value) (w : World) : (binOp .eql 44 .nilIface (.iface 50 u)).run Tryz.prog w = .ok (.bool false) w := run_eql_iface_nil_left (P := Tryz.prog) w 50 u Tryz.underlying44
theorem is_none (m : Int) (w : World) : Calls Tryz.prog 76 #[.nilIface, .iface 50 (.int .i64 m)] w fun e w' => e = .returned (.bool false) ∧ w' = w := by
  have z0 := Tryz.eqNE
  go_enter Tryz.func76, Tryz.ntmps76
  go_wp2
  go_ret
  exact ⟨rfl, rfl⟩

set_option maxHeartbeats 4000000 in
theorem code_fault (eb : Nat) (op name : By) (n : Int) (w : World) (hg : Gl w) (h : FaultAt w eb op name n) :
    Calls Tryz.prog 21 #[.iface 123 (.pointer (some ⟨eb, 0, none⟩))] w fun e w' => e = .returned (.int .i64 n) ∧ Kept [] w w' := by
  have hk1 : Kept [] w (w.alloc (.cells #[.int .i64 0] 50)) := (Kept.refl [] w).alloc _
  have hb1 : (w.alloc (.cells #[.int .i64 0] 50)).heap[w.heap.size]? = some (.cells #[.int .i64 0] 50 (0, 0)) := (MapKept.heap_alloc w _).1
  have has := as_errno0 eb ⟨w.heap.size, 0, none⟩ n (.int .i64 0) (w.alloc (.cells #[.int .i64 0] 50)) (hg.kept hk1 (by simp)) (by rw [cell_of_row _ _ _ _ _ _ hb1]; rfl) (frozen_of_row _ _ _ _ _ hb1) (h.kept hk1).err
  have has2 : Calls Tryz.prog 71 #[.iface 123 (.pointer (some ⟨eb, 0, none⟩)), .iface 113 (.pointer (some ⟨w.heap.size, 0, none⟩))] (w.alloc (.cells #[.int .i64 0] 50)) fun ev w' => ev = .returned (.bool true) ∧ w'.cell? ⟨w.heap.size, 0, none⟩ = some (.int .i64 n) ∧ Kept [] w w' := has.mono (by
    rintro ev w' ⟨rfl, rfl⟩
    refine ⟨rfl, ?_, ?_⟩
    · refine World.cell?_setCell_same _ _ _ (u := .int .i64 0) ?_
      rw [World.cell?_alloc_lt _ _ _ (by simp; omega), World.cell?_alloc_lt _ _ _ (by simp; omega), World.cell?_alloc_lt _ _ _ (by simp; omega), World.cell?_alloc_lt _ _ _ (by simp), cell_of_row _ _ _ _ _ _ hb1]
      rfl
    · exact ((((hk1.alloc _).alloc _).alloc _).alloc _).setCell (fun hlt => by simp at hlt) _)
  clear has hb1 hk1 hg h
  go_enter Tryz.func21, Tryz.ntmps21
  go_wp2_with (go_at_call 71; refine has2.mono ?_; rintro e w' ⟨rfl, hc, hk⟩; have HK := hide hk; clear has2 hk)
  go_ret
  exact ⟨rfl, HK.out⟩
theorem wpList_load_midw {P : Program} {ops : Array Oper} {rest : List Oper} {o : Oper} {a : Act} {w : World} {Q : Exit → Act → World → Prop} (ty : TypeId) (x : Operand) (ho : o.op = .load ty x) (b off : Nat) (hx : a.eval x = .pointer (some ⟨b, off, none⟩)) (cs : List Value) (d : TypeDesc) (hc : w.rangeAt b off cs) (hu : P.underlying ty = some d) (hd : d.isRow = true) (hi : (P.info? ty).map (·.size) = some cs.length)
    (hw : Region.wanted o (yielded ops a.tmps) = true) (h : wpList P ops Q rest (a.put o.dst (.agg cs.toArray)) w) : wpList P ops Q (o :: rest) a w :=
  BigFrame.wpList_want hw fun _ hK => wp_load_mid ty x ho b off hx cs d hc hu hd hi (hK _ _ h)
theorem Tryz.infoID6 : (Tryz.prog.info? 126).map (·.size) = some z32.length := by kernel_rfl
theorem Tryz.eqlZ (w : World) : (Op.equalIn 10000 126 (.agg z32.toArray) (.agg #[.int .u8 0, .int .u8 0, .int .u8 0, .int .u8 0, .int .u8 0, .int .u8 0, .int .u8 0, .int .u8 0, .int .u8 0, .int .u8 0, .int .u8 0, .int .u8 0, .int .u8 0, .int .u8 0, .int .u8 0, .int .u8 0, .int .u8 0, .int .u8 0, .int .u8 0, .int .u8 0, .int .u8 0, .int .u8 0, .int .u8 0, .int .u8 0, .int .u8 0, .int .u8 0, .int .u8 0, .int .u8 0, .int .u8 0, .int .u8 0, .int .u8 0, .int .u8 0])).run Tryz.prog w = .ok true w := by kernel_rfl

set_option maxHeartbeats 4000000 in
set_option maxRecDepth 100000 in
/-- says: the Fault of that call, of that name, with that number. -/
theorem says_yes (v : Value) (op name : By) (n : Int) (w : World) (hg : Gl w) (hop : op.length ≤ 1000) (h : ErrV w v ([102, 105, 108, 101, 46] ++ op) name n) :
    Calls Tryz.prog 32 #[v, encStr op, encStr name, .int .i64 n] w fun e w' => e = .returned (.bool true) ∧ Kept [] w w' := by
  rcases h with ⟨rfl, rfl⟩ | ⟨h0, eb, rfl, hF⟩
  · go_enter Tryz.func32, Tryz.ntmps32
    go_wp2
    go_ret
    exact ⟨rfl, Kept.refl [] w⟩
  · have hb0 : (n == 0) = false := by simpa using h0
    have hk1 : Kept [] w (w.alloc (.cells #[.pointer none] 123)) := (Kept.refl [] w).alloc _
    have hb1 : (w.alloc (.cells #[.pointer none] 123)).heap[w.heap.size]? = some (.cells #[.pointer none] 123 (0, 0)) := (MapKept.heap_alloc w _).1
    have has := as_fault0 ⟨eb, 0, none⟩ ⟨w.heap.size, 0, none⟩ (.pointer none) (w.alloc (.cells #[.pointer none] 123)) (hg.kept hk1 (by simp)) (by rw [cell_of_row _ _ _ _ _ _ hb1]; rfl) (frozen_of_row _ _ _ _ _ hb1)
    have has2 : Calls Tryz.prog 71 #[.iface 123 (.pointer (some ⟨eb, 0, none⟩)), .iface 124 (.pointer (some ⟨w.heap.size, 0, none⟩))] (w.alloc (.cells #[.pointer none] 123)) fun ev w' => ev = .returned (.bool true) ∧ w'.cell? ⟨w.heap.size, 0, none⟩ = some (.pointer (some ⟨eb, 0, none⟩)) ∧ Kept [] w w' := has.mono (by
      rintro ev w' ⟨rfl, rfl⟩
      refine ⟨rfl, ?_, ?_⟩
      · refine World.cell?_setCell_same _ _ _ (u := .pointer none) ?_
        rw [World.cell?_alloc_lt _ _ _ (by simp; omega), World.cell?_alloc_lt _ _ _ (by simp; omega), World.cell?_alloc_lt _ _ _ (by simp; omega), World.cell?_alloc_lt _ _ _ (by simp), cell_of_row _ _ _ _ _ _ hb1]
        rfl
      · exact ((((hk1.alloc _).alloc _).alloc _).alloc _).setCell (fun hlt => by simp at hlt) _)
    have HF := hide hF
    have HG := hide hg
    have hcat : ¬ (9223372036854775807 < 5 + op.length) := by omega
    have hcat2 : ¬ ((9223372036854775807 : Int) < 5 + (op.length : Int)) := by omega
    have heqz := Tryz.eqlZ
    have hcc : (ByteArray.mk #[102, 105, 108, 101, 46] ++ ByteArray.mk op.toArray) = ByteArray.mk (102 :: 105 :: 108 :: 101 :: 46 :: op).toArray := by apply ByteArray.ext; simp [ByteArray.data_append]
    clear has hb1 hk1 hg hF h0
    go_enter Tryz.func32, Tryz.ntmps32
    go_wp2_with (first
      | (go_at_call 71; refine has2.mono ?_; rintro e w2 ⟨rfl, hc, hk⟩; have hF2 := HF.out.kept hk; have o1 := hF2.op; have o2 := hF2.name; have hid := hF2.id; have his := is_fault eb _ _ n n w2 hF2; have hcd := code_fault eb _ _ n w2 (HG.out.kept hk (by simp)) hF2; have HK := hide hk; rw [show (n == n) = true by simp] at his; clear has2 hk hF2)
      | refine wpList_load_midw 126 (.tmp 45) rfl eb 2 rfl z32 _ hid Tryz.underlying126 rfl Tryz.infoID6 (by kernel_rfl) ?_
      | (go_at_call 76; refine his.mono ?_; rintro e w' ⟨rfl, hww⟩; obtain rfl := hww.symm; clear his)
      | (go_at_call 21; refine hcd.mono ?_; rintro e w3 ⟨rfl, hk3⟩; have HK3 := hide hk3; clear hcd hk3))
    go_ret
    exact ⟨rfl, HK.out.trans HK3.out (by simp)⟩
end Go.Proofs.YtemlbmamcbmnjaaGreatDoor
