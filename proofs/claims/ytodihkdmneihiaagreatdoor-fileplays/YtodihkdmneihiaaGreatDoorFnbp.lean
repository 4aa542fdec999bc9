import Derived.Test.YtodihkdmneihiaaGreatDoorEasp
import Derived.Test.YtodihkdmneihiaaGreatDoorGmp
import Derived.Deep.MidRow
import Derived.BigFrame
import Derived.Test.YtodihkdmneihiaaGreatDoorGnp
import Derived.Test.YtodihkdmneihiaaGreatDoorIep
namespace Go.Proofs.YtodihkdmneihiaaGreatDoor
section
open Go.RowKit Go.Extern.Stop Go.Stop Go.Extern Dsk
set_option linter.unusedVariables false
set_option linter.unusedSimpArgs false
def z32 : List Value := List.replicate 32 (.int .u8 0)
def fc (op name : By) (n : Int) : List Value := [encStr op, encStr name] ++ z32 ++ [.iface 37 (.int .i64 n)]
def FaultAt (w : World) (eb : Nat) (op name : By) (n : Int) : Prop := w.heap[eb]? = some (.cells (fc op name n).toArray 104 (0, 0))
def ErrV (w : World) (v : Value) (op name : By) (n : Int) : Prop := (n = 0 ∧ v = .nilIface) ∨ (n ≠ 0 ∧ ∃ eb, v = .iface 98 (.pointer (some ⟨eb, 0, none⟩)) ∧ FaultAt w eb op name n)
def Gl (w : World) : Prop := w.cell? ⟨0, 0, none⟩ = some (.iface 198 (.agg #[.pointer (some ⟨2, 46, none⟩)]))
theorem Gl.kept {l : List Nat} {w w' : World} (h : Gl w) (hk : Kept l w w') (hn : 0 ∉ l) : Gl w' := hk.cellOf h hn
theorem FaultAt.kept {w w' : World} {eb : Nat} {op name : By} {n : Int} (h : FaultAt w eb op name n) (hk : Kept [] w w') : FaultAt w' eb op name n := by
 unfold FaultAt at *
 rw [hk.block eb (Array.getElem?_eq_some_iff.1 h).1 (by simp)]
 exact h
theorem ErrV.kept {w w' : World} {v : Value} {op name : By} {n : Int} (h : ErrV w v op name n) (hk : Kept [] w w') : ErrV w' v op name n := by
 rcases h with h | ⟨h1, eb, h2, h3⟩
 ·exact .inl h
 ·exact .inr ⟨h1, eb, h2, h3.kept hk⟩
set_option maxRecDepth 100000 in
theorem fault_ok (op name : By) (n : Int) (w : World) : Calls Tryz.prog 51 #[encStr op, encStr name, .int .i64 n] w fun e w' => ∃ v, e = .returned v ∧ ErrV w' v op name n ∧ Kept [] w w' := by
 by_cases h0 : n = 0
 ·subst h0
  go_enter Tryz.func51, Tryz.ntmps51
  go_wp2
  go_ret
  exact ⟨_, rfl, .inl ⟨rfl, rfl⟩, Kept.refl [] w⟩
 ·have hb : (n == 0) = false := by simpa using h0
  have H0 := hide h0
  clear h0
  go_enter Tryz.func51, Tryz.ntmps51
  go_wp2
  go_ret
  exact ⟨_, rfl, .inr ⟨H0.out, w.heap.size, rfl, (MapKept.heap_alloc w _).1⟩, (Kept.refl [] w).alloc _⟩
theorem FaultAt.err {w : World} {eb : Nat} {op name : By} {n : Int} (h : FaultAt w eb op name n) : w.cell? ⟨eb, 34, none⟩ = some (.iface 37 (.int .i64 n)) := by rw [cell_of_row _ _ _ _ _ _ h]; rfl
theorem FaultAt.op {w : World} {eb : Nat} {op name : By} {n : Int} (h : FaultAt w eb op name n) : w.cell? ⟨eb, 0, none⟩ = some (encStr op) := by rw [cell_of_row _ _ _ _ _ _ h]; rfl
theorem FaultAt.name {w : World} {eb : Nat} {op name : By} {n : Int} (h : FaultAt w eb op name n) : w.cell? ⟨eb, 1, none⟩ = some (encStr name) := by rw [cell_of_row _ _ _ _ _ _ h]; rfl
theorem FaultAt.id {w : World} {eb : Nat} {op name : By} {n : Int} (h : FaultAt w eb op name n) : w.rangeAt eb 2 z32 := fun j v hv => by
 rw [cell_of_row _ _ _ _ _ _ h, List.getElem?_toArray]
 unfold fc
 rw [List.append_assoc, List.getElem?_append_right (by simp), List.getElem?_append_left (by simp; exact (List.getElem?_eq_some_iff.1 hv).1)]
 simpa using hv
theorem Tryz.eqFE (v u : Value) (w : World) : (binOp .eql 46 (.iface 98 v) (.iface 37 u)).run Tryz.prog w = .ok (.bool false) w := run_eql_iface_types (P := Tryz.prog) 98 37 v u Tryz.underlying46 (by decide) w
theorem Tryz.eqEE (n m : Int) (w : World) : (binOp .eql 46 (.iface 37 (.int .i64 n)) (.iface 37 (.int .i64 m))).run Tryz.prog w = .ok (.bool (n == m)) w := by kernel_rfl
def cmpImpl : Array Value → Sem Value := Extern.ReflectliteType.method fun t => do Extern.Rtype.noPackHeld "Comparable" t; pure (.bool (← typeInfo t).comparable)
theorem Tryz.cmpI (w : World) : (cmpImpl #[.agg #[.pointer (some ⟨2, 37, none⟩)]]).run Tryz.prog w = .ok (.bool true) w := by kernel_rfl
set_option maxHeartbeats 4000000 in
theorem is_fault (eb : Nat) (op name : By) (n m : Int) (w : World) (h : FaultAt w eb op name n) :
  Calls Tryz.prog 57 #[.iface 98 (.pointer (some ⟨eb, 0, none⟩)), .iface 37 (.int .i64 m)] w fun e w' => e = .returned (.bool (n == m)) ∧ w' = w := by
 have x7 := @run_callFunc_extern Tryz.prog 104 _ (Extern.ReflectliteType.typeOf) Tryz.func104 (by kernel_rfl) (by kernel_rfl) (by kernel_rfl) (by kernel_rfl)
 have x11 := @run_callFunc_extern Tryz.prog 179 _ (cmpImpl) Tryz.func179 (by kernel_rfl) (by kernel_rfl) (by kernel_rfl) (by kernel_rfl)
 have z0 := Tryz.mComp
 have z1 := Tryz.tOE
 have z2 := Tryz.cmpI
 have z3 := Tryz.eqFE
 have z4 := Tryz.noIsF
 have z5 := Tryz.unF
 have z6 := Tryz.mUn
 have z7 := Tryz.eqEE
 have z8 := Tryz.noIsE
 have z9 := Tryz.noUnE
 have z10 := Tryz.noUsE
 have hun := unwrap_ok eb _ _ h.err
 clear h
 cases hnm : (n == m) with
 | true =>
  have z7' : (binOp .eql 46 (.iface 37 (.int .i64 n)) (.iface 37 (.int .i64 m))).run Tryz.prog w = .ok (.bool true) w := by rw [Tryz.eqEE, hnm]
  clear z7 hnm
  go_enter Tryz.func57, Tryz.ntmps57
  go_wp2
  refine wp_loop_rounds 2 ?_
  rw [rounds_succ]
  go_wp2_with (go_at_call 166; refine hun.mono ?_; rintro e w' ⟨rfl, hww⟩; obtain rfl := hww.symm)
  rw [rounds_succ]
  go_wp2
  go_ret
  exact ⟨rfl, rfl⟩
 | false =>
  have z7' : (binOp .eql 46 (.iface 37 (.int .i64 n)) (.iface 37 (.int .i64 m))).run Tryz.prog w = .ok (.bool false) w := by rw [Tryz.eqEE, hnm]
  clear z7 hnm
  go_enter Tryz.func57, Tryz.ntmps57
  go_wp2
  refine wp_loop_rounds 2 ?_
  rw [rounds_succ]
  go_wp2_with (go_at_call 166; refine hun.mono ?_; rintro e w' ⟨rfl, hww⟩; obtain rfl := hww.symm)
  rw [rounds_succ]
  go_wp2
  go_ret
  exact ⟨rfl, rfl⟩
theorem Tryz.eqNE (u : Value) (w : World) : (binOp .eql 46 .nilIface (.iface 37 u)).run Tryz.prog w = .ok (.bool false) w := run_eql_iface_nil_left (P := Tryz.prog) w 37 u Tryz.underlying46
theorem is_none (m : Int) (w : World) : Calls Tryz.prog 57 #[.nilIface, .iface 37 (.int .i64 m)] w fun e w' => e = .returned (.bool false) ∧ w' = w := by
 have z0 := Tryz.eqNE
 go_enter Tryz.func57, Tryz.ntmps57
 go_wp2
 go_ret
 exact ⟨rfl, rfl⟩
set_option maxHeartbeats 4000000 in
theorem code_fault (eb : Nat) (op name : By) (n : Int) (w : World) (hg : Gl w) (h : FaultAt w eb op name n) :
  Calls Tryz.prog 58 #[.iface 98 (.pointer (some ⟨eb, 0, none⟩))] w fun e w' => e = .returned (.int .i64 n) ∧ Kept [] w w' := by
 have hk1 : Kept [] w (w.alloc (.cells #[.int .i64 0] 37)) := (Kept.refl [] w).alloc _
 have hb1 : (w.alloc (.cells #[.int .i64 0] 37)).heap[w.heap.size]? = some (.cells #[.int .i64 0] 37 (0, 0)) := (MapKept.heap_alloc w _).1
 have has := as_errno0 eb ⟨w.heap.size, 0, none⟩ n (.int .i64 0) (w.alloc (.cells #[.int .i64 0] 37)) (hg.kept hk1 (by simp)) (by rw [cell_of_row _ _ _ _ _ _ hb1]; rfl) (frozen_of_row _ _ _ _ _ hb1) (h.kept hk1).err
 have has2 : Calls Tryz.prog 56 #[.iface 98 (.pointer (some ⟨eb, 0, none⟩)), .iface 179 (.pointer (some ⟨w.heap.size, 0, none⟩))] (w.alloc (.cells #[.int .i64 0] 37)) fun ev w' => ev = .returned (.bool true) ∧ w'.cell? ⟨w.heap.size, 0, none⟩ = some (.int .i64 n) ∧ Kept [] w w' := has.mono (by
  rintro ev w' ⟨rfl, rfl⟩
  refine ⟨rfl, ?_, ?_⟩
  ·refine World.cell?_setCell_same _ _ _ (u := .int .i64 0) ?_
   rw [World.cell?_alloc_lt _ _ _ (by simp; omega), World.cell?_alloc_lt _ _ _ (by simp; omega), World.cell?_alloc_lt _ _ _ (by simp; omega), World.cell?_alloc_lt _ _ _ (by simp), cell_of_row _ _ _ _ _ _ hb1]
   rfl
  ·exact ((((hk1.alloc _).alloc _).alloc _).alloc _).setCell (fun hlt => by simp at hlt) _)
 clear has hb1 hk1 hg h
 go_enter Tryz.func58, Tryz.ntmps58
 go_wp2_with (go_at_call 56; refine has2.mono ?_; rintro e w' ⟨rfl, hc, hk⟩; have HK := hide hk; clear has2 hk)
 go_ret
 exact ⟨rfl, HK.out⟩
theorem wpList_load_midw {P : Program} {ops : Array Oper} {rest : List Oper} {o : Oper} {a : Act} {w : World} {Q : Exit → Act → World → Prop} (ty : TypeId) (x : Operand) (ho : o.op = .load ty x) (b off : Nat) (hx : a.eval x = .pointer (some ⟨b, off, none⟩)) (cs : List Value) (d : TypeDesc) (hc : w.rangeAt b off cs) (hu : P.underlying ty = some d) (hd : d.isRow = true) (hi : (P.info? ty).map (·.size) = some cs.length)
  (hw : Region.wanted o (yielded ops a.tmps) = true) (h : wpList P ops Q rest (a.put o.dst (.agg cs.toArray)) w) : wpList P ops Q (o :: rest) a w :=
 BigFrame.wpList_want hw fun _ hK => wp_load_mid ty x ho b off hx cs d hc hu hd hi (hK _ _ h)
theorem Tryz.infoID6 : (Tryz.prog.info? 102).map (·.size) = some z32.length := by kernel_rfl
theorem Tryz.eqlZ (w : World) : (Op.equalIn 10000 102 (.agg z32.toArray) (.agg #[.int .u8 0, .int .u8 0, .int .u8 0, .int .u8 0, .int .u8 0, .int .u8 0, .int .u8 0, .int .u8 0, .int .u8 0, .int .u8 0, .int .u8 0, .int .u8 0, .int .u8 0, .int .u8 0, .int .u8 0, .int .u8 0, .int .u8 0, .int .u8 0, .int .u8 0, .int .u8 0, .int .u8 0, .int .u8 0, .int .u8 0, .int .u8 0, .int .u8 0, .int .u8 0, .int .u8 0, .int .u8 0, .int .u8 0, .int .u8 0, .int .u8 0, .int .u8 0])).run Tryz.prog w = .ok true w := by kernel_rfl
set_option maxHeartbeats 4000000 in
set_option maxRecDepth 100000 in
theorem says_yes (v : Value) (op name : By) (n : Int) (w : World) (hg : Gl w) (hop : op.length ≤ 1000) (h : ErrV w v ([102, 105, 108, 101, 46] ++ op) name n) :
  Calls Tryz.prog 15 #[v, encStr op, encStr name, .int .i64 n] w fun e w' => e = .returned (.bool true) ∧ Kept [] w w' := by
 rcases h with ⟨rfl, rfl⟩ | ⟨h0, eb, rfl, hF⟩
 ·go_enter Tryz.func15, Tryz.ntmps15
  go_wp2
  go_ret
  exact ⟨rfl, Kept.refl [] w⟩
 ·have hb0 : (n == 0) = false := by simpa using h0
  have hk1 : Kept [] w (w.alloc (.cells #[.pointer none] 98)) := (Kept.refl [] w).alloc _
  have hb1 : (w.alloc (.cells #[.pointer none] 98)).heap[w.heap.size]? = some (.cells #[.pointer none] 98 (0, 0)) := (MapKept.heap_alloc w _).1
  have has := as_fault0 ⟨eb, 0, none⟩ ⟨w.heap.size, 0, none⟩ (.pointer none) (w.alloc (.cells #[.pointer none] 98)) (hg.kept hk1 (by simp)) (by rw [cell_of_row _ _ _ _ _ _ hb1]; rfl) (frozen_of_row _ _ _ _ _ hb1)
  have has2 : Calls Tryz.prog 56 #[.iface 98 (.pointer (some ⟨eb, 0, none⟩)), .iface 100 (.pointer (some ⟨w.heap.size, 0, none⟩))] (w.alloc (.cells #[.pointer none] 98)) fun ev w' => ev = .returned (.bool true) ∧ w'.cell? ⟨w.heap.size, 0, none⟩ = some (.pointer (some ⟨eb, 0, none⟩)) ∧ Kept [] w w' := has.mono (by
   rintro ev w' ⟨rfl, rfl⟩
   refine ⟨rfl, ?_, ?_⟩
   ·refine World.cell?_setCell_same _ _ _ (u := .pointer none) ?_
    rw [World.cell?_alloc_lt _ _ _ (by simp; omega), World.cell?_alloc_lt _ _ _ (by simp; omega), World.cell?_alloc_lt _ _ _ (by simp; omega), World.cell?_alloc_lt _ _ _ (by simp), cell_of_row _ _ _ _ _ _ hb1]
    rfl
   ·exact ((((hk1.alloc _).alloc _).alloc _).alloc _).setCell (fun hlt => by simp at hlt) _)
  have HF := hide hF
  have HG := hide hg
  have hcat : ¬ (9223372036854775807 < 5 + op.length) := by omega
  have hcat2 : ¬ ((9223372036854775807 : Int) < 5 + (op.length : Int)) := by omega
  have heqz := Tryz.eqlZ
  have hcc : (ByteArray.mk #[102, 105, 108, 101, 46] ++ ByteArray.mk op.toArray) = ByteArray.mk (102 :: 105 :: 108 :: 101 :: 46 :: op).toArray := by apply ByteArray.ext; simp [ByteArray.data_append]
  clear has hb1 hk1 hg hF h0
  go_enter Tryz.func15, Tryz.ntmps15
  go_wp2_with (first
   | (go_at_call 56; refine has2.mono ?_; rintro e w2 ⟨rfl, hc, hk⟩; have hF2 := HF.out.kept hk; have o1 := hF2.op; have o2 := hF2.name; have hid := hF2.id; have his := is_fault eb _ _ n n w2 hF2; have hcd := code_fault eb _ _ n w2 (HG.out.kept hk (by simp)) hF2; have HK := hide hk; rw [show (n == n) = true by simp] at his; clear has2 hk hF2)
   | refine wpList_load_midw 102 (.tmp 45) rfl eb 2 rfl z32 _ hid Tryz.underlying102 rfl Tryz.infoID6 (by kernel_rfl) ?_
   | (go_at_call 57; refine his.mono ?_; rintro e w' ⟨rfl, hww⟩; obtain rfl := hww.symm; clear his)
   | (go_at_call 58; refine hcd.mono ?_; rintro e w3 ⟨rfl, hk3⟩; have HK3 := hide hk3; clear hcd hk3))
  go_ret
  exact ⟨rfl, HK.out.trans HK3.out (by simp)⟩
end

section
open Go.RowKit Dsk
set_option linter.unusedVariables false
set_option linter.unusedSimpArgs false
set_option maxHeartbeats 800000 in
set_option maxRecDepth 100000 in
theorem fisName_ok (t : By) (w : World) (hm : t.length ≤ 4611686018427387904) : Calls Tryz.prog 53 #[.string ⟨t.toArray⟩] w fun e w' => e = .returned (.bool (isNm t)) ∧ w' = w := by
 have hbs : (ByteArray.mk t.toArray).size = t.length := by simp [ByteArray.size]
 have hsz : t.toArray.size = t.length := by simp
 go_enter Tryz.func53, Tryz.ntmps53
 by_cases h1 : t.length < 1
 ·have hf : isNm t = false := by unfold isNm; simp only [Bool.and_eq_false_iff, decide_eq_false_iff_not]; left; left; omega
  have HF := hide hf
  clear hf
  go_wp2
  go_ret
  exact ⟨by rw [HF.out]; rfl, rfl⟩
 by_cases h2 : 112 < t.length
 ·have hf : isNm t = false := by unfold isNm; simp only [Bool.and_eq_false_iff, decide_eq_false_iff_not]; left; right; omega
  have HF := hide hf
  clear hf
  go_wp2
  go_ret
  exact ⟨by rw [HF.out]; rfl, rfl⟩
 have hall : isNm t = t.all okByte := by unfold isNm; simp [show 1 ≤ t.length by omega, show t.length ≤ 112 by omega]
 have HA := hide hall
 clear hall
 go_wp2
 go_loopw [14, 3] (fun i _ wr => ∃ k : Nat, k ≤ t.length ∧ i = .int .i64 k ∧ wr = w ∧ Hid ((t.take k).all okByte = true)) (fun i _ wr => t.length - (intOf i).toNat)
 case atStart => exact ⟨0, by omega, rfl, rfl, by show _ = _; simp⟩
 case round =>
  obtain ⟨k, hk, rfl, rfl, HR⟩ := hrel
  by_cases hlt : k < t.length
  ·have s0 := fun W => Tryz.signAt t k hlt W
   have hc := okByte_index (t.getD k 0)
   have hix : ∀ W, Calls Tryz.prog 99 #[.string ⟨#[97, 98, 99, 100, 101, 102, 103, 104, 105, 106, 107, 108, 109, 110, 111, 112, 113, 114, 115, 116, 117, 118, 119, 120, 121, 122, 48, 49, 50, 51, 52, 53, 54, 55, 56, 57, 46, 45, 95, 43]⟩, .int .u8 (t.getD k 0).toNat] W fun e w' => e = .returned (.int .i64 (Lib.indexByte nameBs (t.getD k 0))) ∧ w' = W := fun W => indexByte_ok nameBs (t.getD k 0) W
   have hx1 : -1 ≤ Lib.indexByte nameBs (t.getD k 0) := Lib.indexByte_ge _ _
   have HG : Hid (t.take (k + 1) = t.take k ++ [t.getD k 0]) := by
    show _ = _
    rw [List.take_succ_eq_append_getElem hlt]
    simp [List.getElem?_eq_getElem hlt]
   have HM : Hid (t.getD k 0 ∈ t) := by
    show _ ∈ _
    simp [List.getElem?_eq_getElem hlt]
   generalize t.getD k 0 = c at s0 hc hix hx1 HG HM
   generalize Lib.indexByte nameBs c = x at hc hix hx1
   cases hok : okByte c
   ·rw [hok] at hc
    have hxn : x < 0 := by simpa using hc
    have HO : Hid (isNm t = false) := by
     rw [HA.out]
     show _ = _
     rw [Bool.eq_iff_iff]
     simp only [List.all_eq_true]
     constructor
     ·intro h; have := h c HM.out; rw [hok] at this; cases this
     ·intro h; cases h
    clear hc hok
    go_wp2_with (go_at_call 99; refine (hix _).mono ?_; rintro e w' ⟨rfl, rfl⟩)
    go_ret
    exact ⟨by rw [HO.out]; rfl, rfl⟩
   ·rw [hok] at hc
    have hxn : ¬ x < 0 := by simpa using hc
    have HO := hide hok
    clear hc hok
    go_wp2_with (go_at_call 99; refine (hix _).mono ?_; rintro e w' ⟨rfl, rfl⟩)
    go_roundw
    case rel => exact ⟨k + 1, by omega, by go_num, trivial, hide (by rw [HG.out, List.all_append, HR.out]; simp [HO.out])⟩
    case measure => simp [intOf]; omega
  ·go_wp2
   go_ret
   refine ⟨?_, rfl⟩
   rw [HA.out]
   have := HR.out
   rw [List.take_of_length_le (by omega)] at this
   rw [this]
   rfl
theorem okByte_nat (c : UInt8) : okByte c = true ↔ ((97 ≤ c.toNat ∧ c.toNat ≤ 122) ∨ (48 ≤ c.toNat ∧ c.toNat ≤ 57) ∨ c.toNat = 46 ∨ c.toNat = 45 ∨ c.toNat = 95 ∨ c.toNat = 43) := by
 have h : ∀ n : Fin 256, okByte (UInt8.ofNat n.val) = decide ((97 ≤ n.val ∧ n.val ≤ 122) ∨ (48 ≤ n.val ∧ n.val ≤ 57) ∨ n.val = 46 ∨ n.val = 45 ∨ n.val = 95 ∨ n.val = 43) := by decide +kernel
 have h2 := h ⟨c.toNat, c.toNat_lt⟩
 simp only [UInt8.ofNat_toNat] at h2
 rw [h2, decide_eq_true_eq]
set_option maxHeartbeats 1600000 in
set_option maxRecDepth 100000 in
theorem risName_ok (t : By) (w : World) (hm : t.length ≤ 4611686018427387904) : Calls Tryz.prog 62 #[.string ⟨t.toArray⟩] w fun e w' => e = .returned (.bool (isNm t)) ∧ w' = w := by
 have hbs : (ByteArray.mk t.toArray).size = t.length := by simp [ByteArray.size]
 have hsz : t.toArray.size = t.length := by simp
 go_enter Tryz.func62, Tryz.ntmps62
 by_cases h1 : t.length < 1
 ·have hf : isNm t = false := by unfold isNm; simp only [Bool.and_eq_false_iff, decide_eq_false_iff_not]; left; left; omega
  have HF := hide hf
  clear hf
  go_wp2
  go_ret
  exact ⟨by rw [HF.out]; rfl, rfl⟩
 by_cases h2 : 112 < t.length
 ·have hf : isNm t = false := by unfold isNm; simp only [Bool.and_eq_false_iff, decide_eq_false_iff_not]; left; right; omega
  have HF := hide hf
  clear hf
  go_wp2
  go_ret
  exact ⟨by rw [HF.out]; rfl, rfl⟩
 have hall : isNm t = t.all okByte := by unfold isNm; simp [show 1 ≤ t.length by omega, show t.length ≤ 112 by omega]
 have HA := hide hall
 clear hall
 go_upto_region 4 with (fail)
 go_loopw [3] (fun i wr => ∃ k : Nat, k ≤ t.length ∧ i = .int .i64 k ∧ wr = w ∧ Hid ((t.take k).all okByte = true)) (fun i wr => t.length - (intOf i).toNat)
 case atStart => exact ⟨0, by omega, rfl, rfl, by show _ = _; simp⟩
 case round =>
  obtain ⟨k, hk, rfl, hww, HR⟩ := hrel
  obtain rfl := hww.symm
  by_cases hlt : k < t.length
  ·have s0 := fun W => Tryz.signAt t k hlt W
   have HG : Hid (t.take (k + 1) = t.take k ++ [t.getD k 0]) := by
    show _ = _
    rw [List.take_succ_eq_append_getElem hlt]
    simp [List.getElem?_eq_getElem hlt]
   have HM : Hid (t.getD k 0 ∈ t) := by
    show _ ∈ _
    simp [List.getElem?_eq_getElem hlt]
   generalize t.getD k 0 = c at s0 HG HM
   have hcb : c.toNat < 256 := c.toNat_lt
   have HOK : Hid (okByte c = true ↔ ((97 ≤ c.toNat ∧ c.toNat ≤ 122) ∨ (48 ≤ c.toNat ∧ c.toNat ≤ 57) ∨ c.toNat = 46 ∨ c.toNat = 45 ∨ c.toNat = 95 ∨ c.toNat = 43)) := hide (okByte_nat c)
   have HYes : Hid (okByte c = true → (t.take (k + 1)).all okByte = true) := hide (fun h => by rw [HG.out, List.all_append, HR.out]; simp [h])
   have HNo : Hid (okByte c = false → isNm t = false) := hide (fun h => by rw [HA.out]; exact List.all_eq_false.2 ⟨c, HM.out, by simp [h]⟩)
   generalize hx : c.toNat = x at *
   have hcs : ((97 ≤ x ∧ x ≤ 122) ∨ (122 < x) ∨ (x = 95) ∨ (57 < x ∧ x < 97 ∧ x ≠ 95) ∨ (48 ≤ x ∧ x ≤ 57) ∨ (x = 46) ∨ (x = 45) ∨ (x = 43) ∨ (x < 48 ∧ x ≠ 46 ∧ x ≠ 45 ∧ x ≠ 43)) := by omega
   have HX := hide hx
   clear HG HM HR hx
   rcases hcs with hq | hq | hq | hq | hq | hq | hq | hq | hq
   ·have a97 : decide ((97 : Int) ≤ (x : Int)) = true := by simp; omega
    have b122 : decide ((x : Int) ≤ 122) = true := by simp; omega
    have HT : Hid ((t.take (k + 1)).all okByte = true) := hide (HYes.out (HOK.out.2 (by omega)))
    clear hq HYes HNo HOK
    as_aux_lemma =>
     go_wp2
     go_roundw
     case rel => exact ⟨k + 1, by omega, by go_num, trivial, HT⟩
     case measure => simp [intOf]; omega
   ·have a97 : decide ((97 : Int) ≤ (x : Int)) = true := by simp; omega
    have b122 : decide ((x : Int) ≤ 122) = false := by simp; omega
    have a48 : decide ((48 : Int) ≤ (x : Int)) = true := by simp; omega
    have b57 : decide ((x : Int) ≤ 57) = false := by simp; omega
    have q46 : ((x : Int) == 46) = false := by simp; omega
    have q45 : ((x : Int) == 45) = false := by simp; omega
    have q95 : ((x : Int) == 95) = false := by simp; omega
    have q43 : ((x : Int) == 43) = false := by simp; omega
    have HF : Hid (isNm t = false) := hide (HNo.out (by cases h : okByte c; rfl; exact absurd (HOK.out.1 h) (by omega)))
    clear hq HYes HNo HOK
    as_aux_lemma =>
     go_wp2
     go_ret
     exact ⟨by rw [HF.out]; rfl, rfl⟩
   ·have a97 : decide ((97 : Int) ≤ (x : Int)) = false := by simp; omega
    have a48 : decide ((48 : Int) ≤ (x : Int)) = true := by simp; omega
    have b57 : decide ((x : Int) ≤ 57) = false := by simp; omega
    have q46 : ((x : Int) == 46) = false := by simp; omega
    have q45 : ((x : Int) == 45) = false := by simp; omega
    have q95 : ((x : Int) == 95) = true := by simp; omega
    have HT : Hid ((t.take (k + 1)).all okByte = true) := hide (HYes.out (HOK.out.2 (by omega)))
    clear hq HYes HNo HOK
    as_aux_lemma =>
     go_wp2
     go_roundw
     case rel => exact ⟨k + 1, by omega, by go_num, trivial, HT⟩
     case measure => simp [intOf]; omega
   ·have a97 : decide ((97 : Int) ≤ (x : Int)) = false := by simp; omega
    have a48 : decide ((48 : Int) ≤ (x : Int)) = true := by simp; omega
    have b57 : decide ((x : Int) ≤ 57) = false := by simp; omega
    have q46 : ((x : Int) == 46) = false := by simp; omega
    have q45 : ((x : Int) == 45) = false := by simp; omega
    have q95 : ((x : Int) == 95) = false := by simp; omega
    have q43 : ((x : Int) == 43) = false := by simp; omega
    have HF : Hid (isNm t = false) := hide (HNo.out (by cases h : okByte c; rfl; exact absurd (HOK.out.1 h) (by omega)))
    clear hq HYes HNo HOK
    as_aux_lemma =>
     go_wp2
     go_ret
     exact ⟨by rw [HF.out]; rfl, rfl⟩
   ·have a97 : decide ((97 : Int) ≤ (x : Int)) = false := by simp; omega
    have a48 : decide ((48 : Int) ≤ (x : Int)) = true := by simp; omega
    have b57 : decide ((x : Int) ≤ 57) = true := by simp; omega
    have HT : Hid ((t.take (k + 1)).all okByte = true) := hide (HYes.out (HOK.out.2 (by omega)))
    clear hq HYes HNo HOK
    as_aux_lemma =>
     go_wp2
     go_roundw
     case rel => exact ⟨k + 1, by omega, by go_num, trivial, HT⟩
     case measure => simp [intOf]; omega
   ·have a97 : decide ((97 : Int) ≤ (x : Int)) = false := by simp; omega
    have a48 : decide ((48 : Int) ≤ (x : Int)) = false := by simp; omega
    have q46 : ((x : Int) == 46) = true := by simp; omega
    have HT : Hid ((t.take (k + 1)).all okByte = true) := hide (HYes.out (HOK.out.2 (by omega)))
    clear hq HYes HNo HOK
    as_aux_lemma =>
     go_wp2
     go_roundw
     case rel => exact ⟨k + 1, by omega, by go_num, trivial, HT⟩
     case measure => simp [intOf]; omega
   ·have a97 : decide ((97 : Int) ≤ (x : Int)) = false := by simp; omega
    have a48 : decide ((48 : Int) ≤ (x : Int)) = false := by simp; omega
    have q46 : ((x : Int) == 46) = false := by simp; omega
    have q45 : ((x : Int) == 45) = true := by simp; omega
    have HT : Hid ((t.take (k + 1)).all okByte = true) := hide (HYes.out (HOK.out.2 (by omega)))
    clear hq HYes HNo HOK
    as_aux_lemma =>
     go_wp2
     go_roundw
     case rel => exact ⟨k + 1, by omega, by go_num, trivial, HT⟩
     case measure => simp [intOf]; omega
   ·have a97 : decide ((97 : Int) ≤ (x : Int)) = false := by simp; omega
    have a48 : decide ((48 : Int) ≤ (x : Int)) = false := by simp; omega
    have q46 : ((x : Int) == 46) = false := by simp; omega
    have q45 : ((x : Int) == 45) = false := by simp; omega
    have q95 : ((x : Int) == 95) = false := by simp; omega
    have q43 : ((x : Int) == 43) = true := by simp; omega
    have HT : Hid ((t.take (k + 1)).all okByte = true) := hide (HYes.out (HOK.out.2 (by omega)))
    clear hq HYes HNo HOK
    as_aux_lemma =>
     go_wp2
     go_roundw
     case rel => exact ⟨k + 1, by omega, by go_num, trivial, HT⟩
     case measure => simp [intOf]; omega
   ·have a97 : decide ((97 : Int) ≤ (x : Int)) = false := by simp; omega
    have a48 : decide ((48 : Int) ≤ (x : Int)) = false := by simp; omega
    have q46 : ((x : Int) == 46) = false := by simp; omega
    have q45 : ((x : Int) == 45) = false := by simp; omega
    have q95 : ((x : Int) == 95) = false := by simp; omega
    have q43 : ((x : Int) == 43) = false := by simp; omega
    have HF : Hid (isNm t = false) := hide (HNo.out (by cases h : okByte c; rfl; exact absurd (HOK.out.1 h) (by omega)))
    clear hq HYes HNo HOK
    as_aux_lemma =>
     go_wp2
     go_ret
     exact ⟨by rw [HF.out]; rfl, rfl⟩
  ·have HE : Hid (isNm t = true) := hide (by rw [HA.out]; have := HR.out; rw [List.take_of_length_le (by omega)] at this; exact this)
   go_wp2
   go_ret
   exact ⟨by rw [HE.out]; rfl, rfl⟩
def isPut (n : By) : Bool := isNm n && decide (n.length < 112) && !(n.getD 0 0 == 43)
theorem isNm_plus {n : By} (h : isNm n = true) : isNm (43 :: n) = decide (n.length < 112) := by
 unfold isNm at *
 simp only [Bool.and_eq_true, decide_eq_true_eq] at h
 have h3 : (43 :: n).all okByte = true := by simp only [List.all_cons, Bool.and_eq_true]; exact ⟨by decide, h.2⟩
 rw [h3]
 simp only [List.length_cons, Bool.and_true]
 rw [show decide (1 ≤ n.length + 1) = true by simp, Bool.true_and]
 rfl
theorem pre_plus {n : By} (h : isNm n = true) : ([43] : By).isPrefixOf n = (n.getD 0 0 == 43) := by
 cases n with
 | nil => simp [isNm] at h
 | cons x r =>
  simp only [List.isPrefixOf, List.isPrefixOf_nil_left, Bool.and_true, List.getD_cons_zero]
  rw [Bool.eq_iff_iff, beq_iff_eq, beq_iff_eq]
  exact eq_comm
set_option maxHeartbeats 800000 in
set_option maxRecDepth 100000 in
theorem isPutName_ok (t : By) (w : World) (hm : t.length ≤ 4611686018427387900) : Calls Tryz.prog 50 #[.string ⟨t.toArray⟩] w fun e w' => e = .returned (.bool (isPut t)) ∧ w' = w := by
 have c1 := fisName_ok t w (by omega)
 have c2 := fisName_ok (43 :: t) w (by simp; omega)
 have c3 := hasPrefix_ok t [43] w (by omega) (by simp)
 have hcat : ¬ (9223372036854775807 < 1 + t.length) := by omega
 cases h1 : isNm t with
 | false =>
  have HE : Hid (isPut t = false) := hide (by simp [isPut, h1])
  rw [h1] at c1
  clear h1 c2 c3
  go_enter Tryz.func50, Tryz.ntmps50
  go_wp2_with (go_at_call 53; refine c1.mono ?_; rintro e w' ⟨rfl, hww⟩; obtain rfl := hww.symm; clear c1)
  go_ret
  exact ⟨by rw [HE.out]; rfl, rfl⟩
 | true =>
  rw [h1] at c1
  rw [isNm_plus h1] at c2
  rw [pre_plus h1] at c3
  have HE : Hid (isPut t = (decide (t.length < 112) && !(t.getD 0 0 == 43))) := hide (by simp [isPut, h1])
  clear h1
  generalize (t.getD 0 0 == 43) = b3 at c3 HE
  cases h2 : decide (t.length < 112) with
  | false =>
   rw [h2] at c2
   have HE2 : Hid (isPut t = false) := hide (by rw [HE.out, h2]; rfl)
   clear h2 HE c3
   go_enter Tryz.func50, Tryz.ntmps50
   go_wp2_with (first
    | (go_at_call 53; refine c1.mono ?_; rintro e w' ⟨rfl, hww⟩; obtain rfl := hww.symm; clear c1)
    | (go_at_call 53; refine c2.mono ?_; rintro e w' ⟨rfl, hww⟩; obtain rfl := hww.symm; clear c2))
   go_ret
   exact ⟨by rw [HE2.out]; rfl, rfl⟩
  | true =>
   rw [h2] at c2
   have HE2 : Hid (isPut t = !b3) := hide (by rw [HE.out, h2]; rfl)
   clear h2 HE
   go_enter Tryz.func50, Tryz.ntmps50
   go_wp2_with (first
    | (go_at_call 53; refine c1.mono ?_; rintro e w' ⟨rfl, hww⟩; obtain rfl := hww.symm; clear c1)
    | (go_at_call 53; refine c2.mono ?_; rintro e w' ⟨rfl, hww⟩; obtain rfl := hww.symm; clear c2)
    | (go_at_call 93; refine c3.mono ?_; rintro e w' ⟨rfl, hww⟩; obtain rfl := hww.symm; clear c3))
   go_ret
   exact ⟨by rw [HE2.out]; rfl, rfl⟩
set_option maxHeartbeats 800000 in
set_option maxRecDepth 100000 in
theorem lays_ok (t : By) (w : World) (hm : t.length ≤ 4611686018427387900) : Calls Tryz.prog 59 #[.string ⟨t.toArray⟩] w fun e w' => e = .returned (.bool (isPut t)) ∧ w' = w := by
 have c1 := risName_ok t w (by omega)
 have hbs : (ByteArray.mk t.toArray).size = t.length := by simp [ByteArray.size]
 have hsz : t.toArray.size = t.length := by simp
 cases h1 : isNm t with
 | false =>
  have HE : Hid (isPut t = false) := hide (by simp [isPut, h1])
  rw [h1] at c1
  clear h1
  go_enter Tryz.func59, Tryz.ntmps59
  go_wp2_with (go_at_call 62; refine c1.mono ?_; rintro e w' ⟨rfl, hww⟩; obtain rfl := hww.symm; clear c1)
  go_ret
  exact ⟨by rw [HE.out]; rfl, rfl⟩
 | true =>
  rw [h1] at c1
  have hl : 0 < t.length := by unfold isNm at h1; simp only [Bool.and_eq_true, decide_eq_true_eq] at h1; omega
  have HE : Hid (isPut t = (decide (t.length < 112) && !(t.getD 0 0 == 43))) := hide (by simp [isPut, h1])
  clear h1
  by_cases h2 : t.length < 112
  ·obtain ⟨c, r, rfl⟩ : ∃ c r, t = c :: r := by
    cases t with
    | nil => simp at hl
    | cons c r => exact ⟨c, r, rfl⟩
   have hne : ((c.toNat : Int) != 43) = !(c == 43) := by
    rw [Bool.eq_iff_iff]
    simp only [bne_iff_ne, ne_eq, Bool.not_eq_true', beq_eq_false_iff_ne]
    constructor
    ·intro h e; rw [e] at h; exact h rfl
    ·intro h e; exact h (UInt8.toNat_inj.1 (by show c.toNat = 43; omega))
   have HNE := hide hne
   have HE2 : Hid (isPut (c :: r) = !(c == 43)) := hide (by rw [HE.out, decide_eq_true h2, Bool.true_and]; rfl)
   have h2' : ((c :: r).length : Int) < 112 := by omega
   clear HE hne
   go_enter Tryz.func59, Tryz.ntmps59
   go_wp2_with (go_at_call 62; refine c1.mono ?_; rintro e w' ⟨rfl, hww⟩; obtain rfl := hww.symm; clear c1)
   go_ret
   exact ⟨by rw [HE2.out, ← HNE.out]; rfl, rfl⟩
  ·have HE2 : Hid (isPut t = false) := hide (by rw [HE.out]; simp [h2])
   have h2' : ¬ (t.length : Int) < 112 := by omega
   clear HE
   go_enter Tryz.func59, Tryz.ntmps59
   go_wp2_with (go_at_call 62; refine c1.mono ?_; rintro e w' ⟨rfl, hww⟩; obtain rfl := hww.symm; clear c1)
   go_ret
   exact ⟨by rw [HE2.out]; rfl, rfl⟩
end

end Go.Proofs.YtodihkdmneihiaaGreatDoor
