import Derived.Test.YtngaimahhgmciaaGreatDoorQsfs
import Derived.Test.YtngaimahhgmciaaGreatDoorEass
namespace Go.Proofs.YtngaimahhgmciaaGreatDoor
open Go.RowKit Go.Lib Go.Sort
open Go.Extern
set_option linter.unusedVariables false
set_option linter.unusedSimpArgs false
set_option maxHeartbeats 4000000 in
set_option maxRecDepth 100000 in
theorem asFF_ok (eb : Nat) (t a : Addr) (w : World) (hc : w.cell? ⟨eb, 34, none⟩ = some foreV) :
  Calls Tryz.prog 50 #[faultV eb, .iface 104 (.pointer (some t)), .agg #[.pointer (some ⟨4, 104, none⟩), .pointer (some a), .int .u64 150], .iface 131 (.agg #[.pointer (some ⟨4, 57, none⟩)])] w fun e w' => e = .returned (.bool false) ∧ Kept [] w w' := by
 have x1 := @run_callFunc_extern Tryz.prog 47 _ (fun args => ReflectliteValue.unpack (args.getD 0 (.tuple #[]))) Tryz.func47 (by kernel_rfl) (by kernel_rfl) (by kernel_rfl) (by kernel_rfl)
 have x7 := @run_callFunc_extern Tryz.prog 45 _ (ReflectliteType.typeOf) Tryz.func45 (by kernel_rfl) (by kernel_rfl) (by kernel_rfl) (by kernel_rfl)
 have x8 := @run_callFunc_extern Tryz.prog 139 _ (ReflectliteType.relation "AssignableTo" ReflectliteType.assignableTo) Tryz.func139 (by kernel_rfl) (by kernel_rfl) (by kernel_rfl) (by kernel_rfl)
 have x9 := @run_callFunc_extern Tryz.prog 59 _ (ReflectliteValue.method (ReflectliteValue.valueError "reflectlite.Value.Elem" 0) ReflectliteValue.elem) Tryz.func59 (by kernel_rfl) (by kernel_rfl) (by kernel_rfl) (by kernel_rfl)
 have x10 := @run_callFunc_extern Tryz.prog 60 _ (ReflectliteValue.set) Tryz.func60 (by kernel_rfl) (by kernel_rfl) (by kernel_rfl) (by kernel_rfl)
 have z3 := Tryz.mAssi
 have z12 := Tryz.tOZ
 have z13 := Tryz.assZE
 have y12 := Tryz.tOF
 have y13 := Tryz.assFE
 have y16 := Tryz.noAsF
 have y17 := Tryz.unF
 have y18 := Tryz.mUn
 have HC := hide hc
 clear hc
 have z16 := Tryz.noAsZ
 have z17 := Tryz.noUnZ
 have z18 := Tryz.noUsZ
 unfold faultV
 go_enter Tryz.func50, Tryz.ntmps50
 go_wp2
 obtain ⟨W0, hW0⟩ : ∃ W0, W0 = w.alloc (.cells #[.pointer (some ⟨4, 104, none⟩), .pointer (some a), .int .u64 150] 116) := ⟨_, rfl⟩
 rw [← hW0]
 have HK0 : Hid (Kept [] w W0) := hide (by rw [hW0]; exact (Kept.refl [] w).alloc _)
 clear hW0
 have hun := unwrap_ok eb foreV W0 (HK0.out.cellOf HC.out (by simp))
 have hfo : foreV = .iface 87 (.agg #[]) := rfl
 rw [hfo] at hun
 clear hfo HC
 generalize w.heap.size = bx
 go_loopw [0] (fun x wr => (x = .iface 59 (.pointer (some ⟨eb, 0, none⟩)) ∨ x = .iface 87 (.agg #[])) ∧ wr = W0) (fun x wr => match x with | .iface _ (.pointer (some a)) => if a.block = eb then 1 else 0 | _ => 0)
 case atStart => exact ⟨.inl rfl, rfl⟩
 case round =>
  obtain ⟨hx, hwr⟩ := hrel
  obtain rfl := hwr.symm
  rcases hx with rfl | rfl
  ·go_wp2_with (go_at_call 131; refine hun.mono ?_; rintro e w' ⟨rfl, hww⟩; obtain rfl := hww.symm)
   go_roundw
   case rel => exact ⟨.inr rfl, trivial⟩
   case measure => simp
  ·go_wp2
   go_ret
   exact ⟨rfl, HK0.out⟩
set_option maxHeartbeats 4000000 in
set_option maxRecDepth 100000 in
theorem AsFF_ok (eb : Nat) (t : Addr) (w : World) (hg : GlE w) (hc : w.cell? ⟨eb, 34, none⟩ = some foreV) :
  Calls Tryz.prog 36 #[faultV eb, .iface 104 (.pointer (some t))] w fun e w' => e = .returned (.bool false) ∧ Kept [] w w' := by
 have x1 := @run_callFunc_extern Tryz.prog 47 _ (fun args => ReflectliteValue.unpack (args.getD 0 (.tuple #[]))) Tryz.func47 (by kernel_rfl) (by kernel_rfl) (by kernel_rfl) (by kernel_rfl)
 have x2 := @run_callFunc_extern Tryz.prog 48 _ (ReflectliteValue.methodAny (ReflectliteValue.valueError "reflectlite.Value.Type" 0) (fun t _ _ _ => ReflectliteType.toType t)) Tryz.func48 (by kernel_rfl) (by kernel_rfl) (by kernel_rfl) (by kernel_rfl)
 have x3 := @run_callFunc_extern Tryz.prog 49 _ (ReflectliteValue.method (ReflectliteValue.valueError "reflectlite.Value.IsNil" 0) ReflectliteValue.isNil) Tryz.func49 (by kernel_rfl) (by kernel_rfl) (by kernel_rfl) (by kernel_rfl)
 have x4 := @run_callFunc_extern Tryz.prog 126 _ (ReflectliteType.abiMethod fun t => do pure (.int .u8 (← Rtype.kind t))) Tryz.func126 (by kernel_rfl) (by kernel_rfl) (by kernel_rfl) (by kernel_rfl)
 have x5 := @run_callFunc_extern Tryz.prog 141 _ (ReflectliteType.method ReflectliteType.elem) Tryz.func141 (by kernel_rfl) (by kernel_rfl) (by kernel_rfl) (by kernel_rfl)
 have x6 := @run_callFunc_extern Tryz.prog 142 _ (ReflectliteType.relation "Implements" ReflectliteType.implements_) Tryz.func142 (by kernel_rfl) (by kernel_rfl) (by kernel_rfl) (by kernel_rfl)
 have z0 := Tryz.mKind
 have z1 := Tryz.mElem
 have z2 := Tryz.mImpl
 have z4 := Tryz.vOfE
 have z5 := Tryz.tyE
 have z6 := Tryz.kPE
 have z7 := Tryz.elTE
 have z8 := Tryz.impE
 have z15 := Tryz.kEE
 have z9 := Tryz.isNE ⟨w.heap.size, 0, none⟩ t ((w.alloc (.cells #[.pointer (some t)] 104)).alloc (.cells #[.pointer (some ⟨4, 104, none⟩), .pointer (some ⟨w.heap.size, 0, none⟩), .int .u64 150] 116)) (by simp)
 have hk2 : Kept [] w ((w.alloc (.cells #[.pointer (some t)] 104)).alloc (.cells #[.pointer (some ⟨4, 104, none⟩), .pointer (some ⟨w.heap.size, 0, none⟩), .int .u64 150] 116)) := ((Kept.refl [] w).alloc _).alloc _
 have hg2 : ((w.alloc (.cells #[.pointer (some t)] 104)).alloc (.cells #[.pointer (some ⟨4, 104, none⟩), .pointer (some ⟨w.heap.size, 0, none⟩), .int .u64 150] 116)).cell? ⟨0, 0, none⟩ = some (.iface 131 (.agg #[.pointer (some ⟨4, 44, none⟩)])) := hk2.cellOf hg (by simp)
 have has := asFF_ok eb t ⟨w.heap.size, 0, none⟩ ((w.alloc (.cells #[.pointer (some t)] 104)).alloc (.cells #[.pointer (some ⟨4, 104, none⟩), .pointer (some ⟨w.heap.size, 0, none⟩), .int .u64 150] 116)) (hk2.cellOf hc (by simp))
 have HK2 := hide hk2
 unfold faultV at has ⊢
 clear hg hk2 hc
 go_enter Tryz.func36, Tryz.ntmps36
 go_wp2_with (go_at_call 50; refine has.mono ?_; rintro e w' ⟨rfl, hk⟩; have H9 := hide (HK2.out.trans hk (by simp)); clear has hk)
 go_ret
 exact ⟨rfl, H9.out⟩
theorem codeFF_ok (eb : Nat) (w : World) (hg : GlE w) (hc : w.cell? ⟨eb, 34, none⟩ = some foreV) :
  Calls Tryz.prog 25 #[faultV eb] w fun e w' => e = .returned (.int .i64 (-1)) ∧ Kept [] w w' := by
 have hk1 : Kept [] w (w.alloc (.cells #[.int .i64 0] 57)) := (Kept.refl [] w).alloc _
 have has := AsFF_ok eb ⟨w.heap.size, 0, none⟩ (w.alloc (.cells #[.int .i64 0] 57)) (hk1.cellOf hg (by simp)) (hk1.cellOf hc (by simp))
 have HK1 := hide hk1
 clear hk1 hg hc
 unfold faultV at has ⊢
 go_enter Tryz.func25, Tryz.ntmps25
 go_wp2_with (go_at_call 36; refine has.mono ?_; rintro e w' ⟨rfl, hk⟩; have HK := hide (HK1.out.trans hk (by simp)); clear has hk)
 go_ret
 exact ⟨rfl, HK.out⟩
set_option maxHeartbeats 4000000 in
set_option maxRecDepth 100000 in
theorem refusedF_ok (eb : Nat) (op i : List UInt8) (w : World) (hgl : GlE w) (h : FltAt w eb op i foreV) (hi : i.length = 32) :
  Calls Tryz.prog 18 #[.iface 59 (.pointer (some ⟨eb, 0, none⟩)), .string ⟨op.toArray⟩, .int .i64 1, .agg (bys i).toArray] w fun e w' => e = .returned (.bool true) ∧ Kept [] w w' := by
 obtain ⟨B1, hB1⟩ : ∃ r, r = w.heap.size := ⟨_, rfl⟩
 obtain ⟨B2, hB2⟩ : ∃ r, r = w.heap.size + 1 := ⟨_, rfl⟩
 have g1 := heap_alloc2_old w (.cells (bys i).toArray 25) (.cells #[.pointer none] 59)
 have g2 := heap_alloc2_new w (.cells (bys i).toArray 25) (.cells #[.pointer none] 59)
 have hk0 : Kept [] w ((w.alloc (.cells (bys i).toArray 25)).alloc (.cells #[.pointer none] 59)) := ((Kept.refl [] w).alloc _).alloc _
 rw [← hB1] at g1
 rw [← hB2] at g2
 have hlt := h.lt
 have HW := hide (And.intro hk0 (And.intro (h.kept hk0) (And.intro g1 (And.intro g2 (hk0.cellOf hgl (by simp))))))
 have HE : Hid (eb ≠ B1 ∧ eb ≠ B2 ∧ B1 ≠ B2 ∧ B2 ≠ 0) := hide (by
  have : 0 < w.heap.size := World.block_lt_of_cell? _ _ hgl
  omega)
 have HB : Hid (w.heap.size ≤ B2) := hide (by omega)
 have hil := idl i hi
 have heqx : ∀ W, (Op.equalIn 10000 25 (.agg (bys i).toArray) (.agg (bys i).toArray)).run Tryz.prog W = .ok true W := fun W => by rw [Tryz.eqlID i i hi hi W, decide_eq_true rfl]
 have heq := heqx
 clear h hk0 g1 g2 hlt heqx hgl
 go_enter Tryz.func18, Tryz.ntmps18
 go_upto_region 2 with (fail)
 rw [← hB2, ← hB1]
 clear hB2 hB1
 generalize (w.alloc _).alloc _ = w2 at HW ⊢
 have f0 := HW.out.2.1.op
 have f1 := HW.out.2.1.name
 have f2 := HW.out.2.1.id
 have hri : w2.rangeAt B1 0 (bys i) := row_rangeK HW.out.2.2.1
 have n1 : eb ≠ B1 := HE.out.1
 have n2 : eb ≠ B2 := HE.out.2.1
 have n3 : B1 ≠ B2 := HE.out.2.2.1
 have n4 : 0 ≠ B2 := fun e => HE.out.2.2.2 e.symm
 have hd2 : (World.drew w2).cell? ⟨B2, 0, none⟩ = some (.pointer none) := by
  show w2.cell? ⟨B2, 0, none⟩ = _
  rw [cell_of_row _ _ _ _ _ _ HW.out.2.2.2.1]; rfl
 have hd3 : (World.drew w2).frozen? ⟨B2, 0, none⟩ = false := by
  show w2.frozen? ⟨B2, 0, none⟩ = _
  exact frozen_of_row _ _ _ _ _ HW.out.2.2.2.1
 have hd4 : GlE (World.drew w2) := HW.out.2.2.2.2
 refine wp_region_held_drew (S := fun w' => Kept [B2] w2 w') (by kernel_rfl) ((Kept.refl [B2] w2).drew) (fun h0 => ?_)
 generalize World.drew w2 = v0 at h0 hd2 hd3 hd4 ⊢
 have hAs : Calls Tryz.prog 36 #[.iface 59 (.pointer (some ⟨eb, 0, none⟩)), .iface 61 (.pointer (some ⟨B2, 0, none⟩))] v0 fun ev w' => ev = .returned (.bool true) ∧ w'.cell? ⟨B2, 0, none⟩ = some (.pointer (some ⟨eb, 0, none⟩)) ∧ Kept [B2] v0 w' := asF9 eb B2 v0 hd4 hd2 hd3
 clear hd2 hd3
 refine wpAnyH_take (i := 0) (v := .iface 59 (.pointer (some ⟨eb, 0, none⟩))) rfl (by kernel_rfl) (by kernel_rfl) (by kernel_rfl) (fun _ _ _ h => h) (Or.inl ⟨by rfl, fun w hSw => by go_simp⟩) h0 ?_
 try simp only [zk1, zk2, zk3, zk4, zk5, zk6, zk7, zk8]
 refine wpAnyH_take (i := 1) (v := .bool false) rfl (by kernel_rfl) (by kernel_rfl) (by kernel_rfl) (fun _ _ _ h => h) (Or.inl ⟨by rfl, fun w hSw => by go_simp⟩) h0 ?_
 try simp only [zk1, zk2, zk3, zk4, zk5, zk6, zk7, zk8]
 refine wpAnyH_take (i := 2) (v := .bool false) rfl (by kernel_rfl) (by kernel_rfl) (by kernel_rfl) (fun _ _ _ h => h) (Or.inl ⟨by rfl, fun w hSw => by go_simp⟩) h0 ?_
 try simp only [zk1, zk2, zk3, zk4, zk5, zk6, zk7, zk8]
 refine wpAnyH_take (i := 3) (v := .iface 59 (.pointer (some ⟨eb, 0, none⟩))) rfl (by kernel_rfl) (by kernel_rfl) (by kernel_rfl) (fun _ _ _ h => h) (Or.inl ⟨by rfl, fun w hSw => by go_simp⟩) h0 ?_
 try simp only [zk1, zk2, zk3, zk4, zk5, zk6, zk7, zk8]
 refine wpAnyH_take (i := 4) (v := .iface 61 (.pointer (some ⟨B2, 0, none⟩))) rfl (by kernel_rfl) (by kernel_rfl) (by kernel_rfl) (fun _ _ _ h => h) (Or.inl ⟨by rfl, fun w hSw => by go_simp⟩) h0 ?_
 try simp only [zk1, zk2, zk3, zk4, zk5, zk6, zk7, zk8]
 refine wpAnyH_ready (rs := [5]) (by kernel_rfl) (by simp) (AllReadyH.cons (i := 5) rfl (fun K hK => ?_) AllReadyH.nil)
 rw [if_pos (by rfl)]
 go_simp
 refine (hAs).mono ?_
 rintro e v1 ⟨rfl, hc2, hk2⟩
 have hd5 := hk2.cellOf hd4 (by simpa using n4)
 clear hAs
 refine hK.out _ _ (h0.trans hk2 (by simp)) (fun h1 => ?_)
 clear hK K
 try simp only [zk1, zk2, zk3, zk4, zk5, zk6, zk7, zk8]
 refine wpAnyH_take (i := 6) (v := .bool false) rfl (by kernel_rfl) (by kernel_rfl) (by kernel_rfl) (fun _ _ _ h => h) (Or.inl ⟨by rfl, fun w hSw => by go_simp⟩) h1 ?_
 try simp only [zk1, zk2, zk3, zk4, zk5, zk6, zk7, zk8]
 refine wpAnyH_take (i := 7) (v := .bool false) rfl (by kernel_rfl) (by kernel_rfl) (by kernel_rfl) (fun _ _ _ h => h) (Or.inl ⟨by rfl, fun w hSw => by go_simp⟩) h1 ?_
 try simp only [zk1, zk2, zk3, zk4, zk5, zk6, zk7, zk8]
 refine wpAnyH_take (i := 8) (v := .bool false) rfl (by kernel_rfl) (by kernel_rfl) (by kernel_rfl) (fun _ _ _ h => h) (Or.inl ⟨by rfl, fun w hSw => by go_simp⟩) h1 ?_
 try simp only [zk1, zk2, zk3, zk4, zk5, zk6, zk7, zk8]
 refine wpAnyH_ready (rs := [9]) (by kernel_rfl) (by simp) (AllReadyH.cons (i := 9) rfl (fun K hK => ?_) AllReadyH.nil)
 rw [if_pos (by rfl)]
 go_simp
 refine hK.out _ _ (h1) (fun h2 => ?_)
 clear hK K
 try simp only [zk1, zk2, zk3, zk4, zk5, zk6, zk7, zk8]
 refine wpAnyH_take (i := 10) (v := .bool false) rfl (by kernel_rfl) (by kernel_rfl) (by kernel_rfl) (fun _ _ _ h => h) (Or.inl ⟨by rfl, fun w hSw => by go_simp⟩) h2 ?_
 try simp only [zk1, zk2, zk3, zk4, zk5, zk6, zk7, zk8]
 refine wpAnyH_take (i := 11) (v := .bool false) rfl (by kernel_rfl) (by kernel_rfl) (by kernel_rfl) (fun _ _ _ h => h) (Or.inl ⟨by rfl, fun w hSw => by go_simp⟩) h2 ?_
 try simp only [zk1, zk2, zk3, zk4, zk5, zk6, zk7, zk8]
 refine wpAnyH_take (i := 12) (v := .bool false) rfl (by kernel_rfl) (by kernel_rfl) (by kernel_rfl) (fun _ _ _ h => h) (Or.inl ⟨by rfl, fun w hSw => by go_simp⟩) h2 ?_
 try simp only [zk1, zk2, zk3, zk4, zk5, zk6, zk7, zk8]
 refine wpAnyH_take (i := 17) (v := .string ⟨op.toArray⟩) rfl (by kernel_rfl) (by kernel_rfl) (by kernel_rfl) (fun _ _ _ h => h) (Or.inl ⟨by rfl, fun w hSw => by go_simp⟩) h2 ?_
 try simp only [zk1, zk2, zk3, zk4, zk5, zk6, zk7, zk8]
 refine wpAnyH_ready (rs := [13]) (by kernel_rfl) (by simp) (AllReadyH.cons (i := 13) rfl (fun K hK => ?_) AllReadyH.nil)
 rw [if_pos (by rfl)]
 go_simp
 refine hK.out _ _ (h2) (fun h3 => ?_)
 clear hK K
 try simp only [zk1, zk2, zk3, zk4, zk5, zk6, zk7, zk8]
 refine wpAnyH_take (i := 14) (v := .pointer (some ⟨eb, 0, none⟩)) rfl (by kernel_rfl) (by kernel_rfl) (by kernel_rfl) (fun _ _ _ h => h) (Or.inl ⟨by rfl, fun w hSw => by go_simp⟩) h3 ?_
 try simp only [zk1, zk2, zk3, zk4, zk5, zk6, zk7, zk8]
 refine wpAnyH_take (i := 15) (v := .pointer (some ⟨eb, 0, none⟩)) rfl (by kernel_rfl) (by kernel_rfl) (by kernel_rfl) (fun _ _ _ h => h) (Or.inl ⟨by rfl, fun w hSw => by go_simp⟩) h3 ?_
 try simp only [zk1, zk2, zk3, zk4, zk5, zk6, zk7, zk8]
 refine wpAnyH_take (i := 16) (v := .string ⟨op.toArray⟩) rfl (by kernel_rfl) (by kernel_rfl) (by kernel_rfl) (fun _ _ _ h => h) (Or.inl ⟨by rfl, fun w hSw => by have c0 := Kept.cellOf hSw f0 (by simp; omega); go_simp⟩) h3 ?_
 try simp only [zk1, zk2, zk3, zk4, zk5, zk6, zk7, zk8]
 refine wpAnyH_take (i := 18) (v := .bool false) rfl (by kernel_rfl) (by kernel_rfl) (by kernel_rfl) (fun _ _ _ h => h) (Or.inl ⟨by rfl, fun w hSw => by go_simp⟩) h3 ?_
 try simp only [zk1, zk2, zk3, zk4, zk5, zk6, zk7, zk8]
 refine wpAnyH_take (i := 19) (v := .bool false) rfl (by kernel_rfl) (by kernel_rfl) (by kernel_rfl) (fun _ _ _ h => h) (Or.inl ⟨by rfl, fun w hSw => by go_simp⟩) h3 ?_
 try simp only [zk1, zk2, zk3, zk4, zk5, zk6, zk7, zk8]
 refine wpAnyH_take (i := 20) (v := .bool false) rfl (by kernel_rfl) (by kernel_rfl) (by kernel_rfl) (fun _ _ _ h => h) (Or.inl ⟨by rfl, fun w hSw => by go_simp⟩) h3 ?_
 try simp only [zk1, zk2, zk3, zk4, zk5, zk6, zk7, zk8]
 refine wpAnyH_ready (rs := [21]) (by kernel_rfl) (by simp) (AllReadyH.cons (i := 21) rfl (fun K hK => ?_) AllReadyH.nil)
 rw [if_pos (by rfl)]
 go_simp
 refine hK.out _ _ (h3) (fun h4 => ?_)
 clear hK K
 try simp only [zk1, zk2, zk3, zk4, zk5, zk6, zk7, zk8]
 refine wpAnyH_take (i := 22) (v := .pointer (some ⟨eb, 0, none⟩)) rfl (by kernel_rfl) (by kernel_rfl) (by kernel_rfl) (fun _ _ _ h => h) (Or.inl ⟨by rfl, fun w hSw => by go_simp⟩) h4 ?_
 try simp only [zk1, zk2, zk3, zk4, zk5, zk6, zk7, zk8]
 refine wpAnyH_take (i := 23) (v := .pointer (some ⟨eb, 1, none⟩)) rfl (by kernel_rfl) (by kernel_rfl) (by kernel_rfl) (fun _ _ _ h => h) (Or.inl ⟨by rfl, fun w hSw => by go_simp⟩) h4 ?_
 try simp only [zk1, zk2, zk3, zk4, zk5, zk6, zk7, zk8]
 refine wpAnyH_take (i := 24) (v := .string ⟨#[]⟩) rfl (by kernel_rfl) (by kernel_rfl) (by kernel_rfl) (fun _ _ _ h => h) (Or.inl ⟨by rfl, fun w hSw => by have c0 := Kept.cellOf hSw f1 (by simp; omega); go_simp⟩) h4 ?_
 try simp only [zk1, zk2, zk3, zk4, zk5, zk6, zk7, zk8]
 refine wpAnyH_take (i := 25) (v := .bool false) rfl (by kernel_rfl) (by kernel_rfl) (by kernel_rfl) (fun _ _ _ h => h) (Or.inl ⟨by rfl, fun w hSw => by go_simp⟩) h4 ?_
 try simp only [zk1, zk2, zk3, zk4, zk5, zk6, zk7, zk8]
 refine wpAnyH_take (i := 26) (v := .bool false) rfl (by kernel_rfl) (by kernel_rfl) (by kernel_rfl) (fun _ _ _ h => h) (Or.inl ⟨by rfl, fun w hSw => by go_simp⟩) h4 ?_
 try simp only [zk1, zk2, zk3, zk4, zk5, zk6, zk7, zk8]
 refine wpAnyH_take (i := 27) (v := .bool false) rfl (by kernel_rfl) (by kernel_rfl) (by kernel_rfl) (fun _ _ _ h => h) (Or.inl ⟨by rfl, fun w hSw => by go_simp⟩) h4 ?_
 try simp only [zk1, zk2, zk3, zk4, zk5, zk6, zk7, zk8]
 refine wpAnyH_take (i := 32) (v := .agg (bys i).toArray) rfl (by kernel_rfl) (by kernel_rfl) (by kernel_rfl) (fun _ _ _ h => h) (yieldsIf_load_mid (by rfl) _ _ rfl B1 (0) rfl (bys i) _ (fun W h => fun j u hu => Kept.cellOf h (hri j u hu) (by simp; omega)) Tryz.underlying25 rfl hil) h4 ?_
 try simp only [zk1, zk2, zk3, zk4, zk5, zk6, zk7, zk8]
 refine wpAnyH_ready (rs := [28]) (by kernel_rfl) (by simp) (AllReadyH.cons (i := 28) rfl (fun K hK => ?_) AllReadyH.nil)
 rw [if_pos (by rfl)]
 go_simp
 refine hK.out _ _ (h4) (fun h5 => ?_)
 clear hK K
 try simp only [zk1, zk2, zk3, zk4, zk5, zk6, zk7, zk8]
 refine wpAnyH_take (i := 29) (v := .pointer (some ⟨eb, 0, none⟩)) rfl (by kernel_rfl) (by kernel_rfl) (by kernel_rfl) (fun _ _ _ h => h) (Or.inl ⟨by rfl, fun w hSw => by go_simp⟩) h5 ?_
 try simp only [zk1, zk2, zk3, zk4, zk5, zk6, zk7, zk8]
 refine wpAnyH_take (i := 30) (v := .pointer (some ⟨eb, 2, none⟩)) rfl (by kernel_rfl) (by kernel_rfl) (by kernel_rfl) (fun _ _ _ h => h) (Or.inl ⟨by rfl, fun w hSw => by go_simp⟩) h5 ?_
 try simp only [zk1, zk2, zk3, zk4, zk5, zk6, zk7, zk8]
 refine wpAnyH_take (i := 31) (v := .agg (bys i).toArray) rfl (by kernel_rfl) (by kernel_rfl) (by kernel_rfl) (fun _ _ _ h => h) (yieldsIf_load_mid (by rfl) _ _ rfl eb (2) rfl (bys i) _ (fun W h => fun j u hu => Kept.cellOf h (f2 j u hu) (by simp; omega)) Tryz.underlying25 rfl hil) h5 ?_
 try simp only [zk1, zk2, zk3, zk4, zk5, zk6, zk7, zk8]
 refine wpAnyH_take (i := 33) (v := .bool false) rfl (by kernel_rfl) (by kernel_rfl) (by kernel_rfl) (fun _ _ _ h => h) (Or.inl ⟨by rfl, fun w hSw => by have c0 := heq w; go_simp⟩) h5 ?_
 try simp only [zk1, zk2, zk3, zk4, zk5, zk6, zk7, zk8]
 refine wpAnyH_take (i := 34) (v := .bool false) rfl (by kernel_rfl) (by kernel_rfl) (by kernel_rfl) (fun _ _ _ h => h) (Or.inl ⟨by rfl, fun w hSw => by go_simp⟩) h5 ?_
 try simp only [zk1, zk2, zk3, zk4, zk5, zk6, zk7, zk8]
 refine wpAnyH_done (by kernel_rfl) ?_ _
 have HKF : Hid (Kept [] w v1) := hide (HW.out.1.trans h5 (fun q hq hlt => by simp at hq; have := HB.out; omega))
 have hF1 : FltAt v1 eb op i foreV := by
  unfold FltAt
  rw [h5.block eb HW.out.2.1.lt (by simpa using n2)]
  exact HW.out.2.1
 have his := isFor_ok eb v1 (hF1.err hi)
 have hcd := codeFF_ok eb v1 hd5 (hF1.err hi)
 have hfo : foreV = .iface 87 (.agg #[]) := rfl
 rw [hfo] at his
 clear hfo
 unfold faultV at his hcd
 clear hF1 hd4 hd5 h0 h1 h2 h3 h4 h5 f0 f1 f2 hri heq hc2 hk2
 go_wp2_with (first
  | (go_at_call 32; refine his.mono ?_; rintro e w' ⟨rfl, hww⟩; obtain rfl := hww.symm; clear his)
  | (go_at_call 25; refine hcd.mono ?_; rintro e w3 ⟨rfl, hk3⟩; have HK3 := hide (HKF.out.trans hk3 (by simp)); clear hcd hk3))
 go_ret
 exact ⟨rfl, HK3.out⟩
end Go.Proofs.YtngaimahhgmciaaGreatDoor
