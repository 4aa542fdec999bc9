import Derived.Test.YtngaimahhgmciaaGreatDoorK9xs
namespace Go.Proofs.YtngaimahhgmciaaGreatDoor
open Go.RowKit Go.Extern
set_option linter.unusedVariables false
set_option linter.unusedSimpArgs false
def foreV : Value := .iface 87 (.agg #[])
theorem Tryz.tOZ (v : Value) (w : World) : (ReflectliteType.typeOf #[.iface 87 v]).run Tryz.prog w = .ok (.iface 131 (.agg #[.pointer (some ⟨4, 87, none⟩)])) w := by kernel_rfl
theorem Tryz.assZE (w : World) : (ReflectliteType.relation "AssignableTo" ReflectliteType.assignableTo #[.agg #[.pointer (some ⟨4, 87, none⟩)], .iface 131 (.agg #[.pointer (some ⟨4, 57, none⟩)])]).run Tryz.prog w = .ok (.bool false) w := by kernel_rfl
theorem Tryz.noAsZ (v : Value) (xT : TypeId) (w : World) : (Instr.typeAssert (.iface 87 v) xT 142 true).run Tryz.prog w = .ok (.tuple #[.nilIface, .bool false]) w := run_typeAssert_lacksB Tryz.underlying142 (by kernel_rfl) (by kernel_rfl) v xT w
theorem Tryz.noUnZ (v : Value) (xT : TypeId) (w : World) : (Instr.typeAssert (.iface 87 v) xT 136 true).run Tryz.prog w = .ok (.tuple #[.nilIface, .bool false]) w := run_typeAssert_lacksB Tryz.underlying136 (by kernel_rfl) (by kernel_rfl) v xT w
theorem Tryz.noUsZ (v : Value) (xT : TypeId) (w : World) : (Instr.typeAssert (.iface 87 v) xT 137 true).run Tryz.prog w = .ok (.tuple #[.nilIface, .bool false]) w := run_typeAssert_lacksB Tryz.underlying137 (by kernel_rfl) (by kernel_rfl) v xT w
set_option maxHeartbeats 4000000 in
set_option maxRecDepth 100000 in
theorem asForE_ok (t a : Addr) (w : World) :
  Calls Tryz.prog 50 #[foreV, .iface 104 (.pointer (some t)), .agg #[.pointer (some ⟨4, 104, none⟩), .pointer (some a), .int .u64 150], .iface 131 (.agg #[.pointer (some ⟨4, 57, none⟩)])] w fun e w' => e = .returned (.bool false) ∧ Kept [] w w' := by
 have x1 := @run_callFunc_extern Tryz.prog 47 _ (fun args => ReflectliteValue.unpack (args.getD 0 (.tuple #[]))) Tryz.func47 (by kernel_rfl) (by kernel_rfl) (by kernel_rfl) (by kernel_rfl)
 have x7 := @run_callFunc_extern Tryz.prog 45 _ (ReflectliteType.typeOf) Tryz.func45 (by kernel_rfl) (by kernel_rfl) (by kernel_rfl) (by kernel_rfl)
 have x8 := @run_callFunc_extern Tryz.prog 139 _ (ReflectliteType.relation "AssignableTo" ReflectliteType.assignableTo) Tryz.func139 (by kernel_rfl) (by kernel_rfl) (by kernel_rfl) (by kernel_rfl)
 have x9 := @run_callFunc_extern Tryz.prog 59 _ (ReflectliteValue.method (ReflectliteValue.valueError "reflectlite.Value.Elem" 0) ReflectliteValue.elem) Tryz.func59 (by kernel_rfl) (by kernel_rfl) (by kernel_rfl) (by kernel_rfl)
 have x10 := @run_callFunc_extern Tryz.prog 60 _ (ReflectliteValue.set) Tryz.func60 (by kernel_rfl) (by kernel_rfl) (by kernel_rfl) (by kernel_rfl)
 have z3 := Tryz.mAssi
 have z12 := Tryz.tOZ
 have z13 := Tryz.assZE
 have z16 := Tryz.noAsZ
 have z17 := Tryz.noUnZ
 have z18 := Tryz.noUsZ
 have hfo : foreV = .iface 87 (.agg #[]) := rfl
 rw [hfo]
 clear hfo
 go_enter Tryz.func50, Tryz.ntmps50
 go_wp2
 obtain ⟨W0, hW0⟩ : ∃ W0, W0 = w.alloc (.cells #[.pointer (some ⟨4, 104, none⟩), .pointer (some a), .int .u64 150] 116) := ⟨_, rfl⟩
 rw [← hW0]
 have HK0 : Hid (Kept [] w W0) := hide (by rw [hW0]; exact (Kept.refl [] w).alloc _)
 clear hW0
 generalize w.heap.size = bx
 go_loopw [0] (fun x wr => x = .iface 87 (.agg #[]) ∧ wr = W0) (fun x wr => 0)
 case atStart => exact ⟨rfl, rfl⟩
 case round =>
  obtain ⟨hxu, hwr⟩ := hrel
  subst hxu
  obtain rfl := hwr.symm
  go_wp2
  go_ret
  exact ⟨rfl, HK0.out⟩
set_option maxHeartbeats 4000000 in
set_option maxRecDepth 100000 in
theorem AsFor_ok (t : Addr) (w : World) (hg : GlE w) :
  Calls Tryz.prog 36 #[foreV, .iface 104 (.pointer (some t))] w fun e w' => e = .returned (.bool false) ∧ Kept [] w w' := by
 have x1 := @run_callFunc_extern Tryz.prog 47 _ (fun args => ReflectliteValue.unpack (args.getD 0 (.tuple #[]))) Tryz.func47 (by kernel_rfl) (by kernel_rfl) (by kernel_rfl) (by kernel_rfl)
 have x2 := @run_callFunc_extern Tryz.prog 48 _ (ReflectliteValue.methodAny (ReflectliteValue.valueError "reflectlite.Value.Type" 0) (fun t _ _ _ => ReflectliteType.toType t)) Tryz.func48 (by kernel_rfl) (by kernel_rfl) (by kernel_rfl) (by kernel_rfl)
 have x3 := @run_callFunc_extern Tryz.prog 49 _ (ReflectliteValue.method (ReflectliteValue.valueError "reflectlite.Value.IsNil" 0) ReflectliteValue.isNil) Tryz.func49 (by kernel_rfl) (by kernel_rfl) (by kernel_rfl) (by kernel_rfl)
 have x4 := @run_callFunc_extern Tryz.prog 126 _ (ReflectliteType.abiMethod fun t => do pure (.int .u8 (← Rtype.kind t))) Tryz.func126 (by kernel_rfl) (by kernel_rfl) (by kernel_rfl) (by kernel_rfl)
 have x5 := @run_callFunc_extern Tryz.prog 141 _ (ReflectliteType.method ReflectliteType.elem) Tryz.func141 (by kernel_rfl) (by kernel_rfl) (by kernel_rfl) (by kernel_rfl)
 have x6 := @run_callFunc_extern Tryz.prog 142 _ (ReflectliteType.relation "Implements" ReflectliteType.implements_) Tryz.func142 (by kernel_rfl) (by kernel_rfl) (by kernel_rfl) (by kernel_rfl)
 have z0 := Tryz.mKind
 have z1 := Tryz.mElem
 have z2 := Tryz.mImpl
 have z4 := Tryz.vOfE
 have z5 := Tryz.tyE
 have z6 := Tryz.kPE
 have z7 := Tryz.elTE
 have z8 := Tryz.impE
 have z15 := Tryz.kEE
 have z9 := Tryz.isNE ⟨w.heap.size, 0, none⟩ t ((w.alloc (.cells #[.pointer (some t)] 104)).alloc (.cells #[.pointer (some ⟨4, 104, none⟩), .pointer (some ⟨w.heap.size, 0, none⟩), .int .u64 150] 116)) (by simp)
 have hk2 : Kept [] w ((w.alloc (.cells #[.pointer (some t)] 104)).alloc (.cells #[.pointer (some ⟨4, 104, none⟩), .pointer (some ⟨w.heap.size, 0, none⟩), .int .u64 150] 116)) := ((Kept.refl [] w).alloc _).alloc _
 have hg2 : ((w.alloc (.cells #[.pointer (some t)] 104)).alloc (.cells #[.pointer (some ⟨4, 104, none⟩), .pointer (some ⟨w.heap.size, 0, none⟩), .int .u64 150] 116)).cell? ⟨0, 0, none⟩ = some (.iface 131 (.agg #[.pointer (some ⟨4, 44, none⟩)])) := hk2.cellOf hg (by simp)
 have has := asForE_ok t ⟨w.heap.size, 0, none⟩ ((w.alloc (.cells #[.pointer (some t)] 104)).alloc (.cells #[.pointer (some ⟨4, 104, none⟩), .pointer (some ⟨w.heap.size, 0, none⟩), .int .u64 150] 116))
 have HK2 := hide hk2
 have hfo : foreV = .iface 87 (.agg #[]) := rfl
 rw [hfo] at has ⊢
 clear hfo hg hk2
 go_enter Tryz.func36, Tryz.ntmps36
 go_wp2_with (go_at_call 50; refine has.mono ?_; rintro e w' ⟨rfl, hk⟩; have H9 := hide (HK2.out.trans hk (by simp)); clear has hk)
 go_ret
 exact ⟨rfl, H9.out⟩
theorem tellsFor_ok (w : World) (hg : GlE w) :
  Calls Tryz.prog 69 #[foreV] w fun e w' => e = .returned (.bool false) ∧ Kept [] w w' := by
 have hk1 : Kept [] w (w.alloc (.cells #[.int .i64 0] 57)) := (Kept.refl [] w).alloc _
 have has := AsFor_ok ⟨w.heap.size, 0, none⟩ (w.alloc (.cells #[.int .i64 0] 57)) (hk1.cellOf hg (by simp))
 have HK1 := hide hk1
 have hfo : foreV = .iface 87 (.agg #[]) := rfl
 rw [hfo] at has ⊢
 clear hk1 hg hfo
 go_enter Tryz.func69, Tryz.ntmps69
 go_wp2_with (go_at_call 36; refine has.mono ?_; rintro e w' ⟨rfl, hk⟩; have HK := hide (HK1.out.trans hk (by simp)); clear has hk)
 go_ret
 exact ⟨rfl, HK.out⟩
end Go.Proofs.YtngaimahhgmciaaGreatDoor
