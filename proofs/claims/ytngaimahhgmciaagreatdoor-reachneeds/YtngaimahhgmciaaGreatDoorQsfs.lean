import Derived.Test.YtngaimahhgmciaaGreatDoorQsds
import Derived.Test.YtngaimahhgmciaaGreatDoorQ9xs
import Derived.LaidEql
namespace Go.Proofs.YtngaimahhgmciaaGreatDoor
section
open Go.RowKit Go.Lib Go.Sort
set_option linter.unusedVariables false
set_option linter.unusedSimpArgs false
set_option maxHeartbeats 4000000 in
set_option maxRecDepth 100000 in
theorem refusedC_ok (k : Nat) (u : Value) (eb : Nat) (op i : List UInt8) (cd : Int) (w : World) (hgl : GlE w) (h : FltAt w eb op i u) (hck : Chn w k u (errnoV cd)) (hi : i.length = 32) (h1 : cd ≠ 1) :
  Calls Tryz.prog 18 #[.iface 59 (.pointer (some ⟨eb, 0, none⟩)), .string ⟨op.toArray⟩, .int .i64 cd, .agg (bys i).toArray] w fun e w' => e = .returned (.bool true) ∧ Kept [] w w' := by
 obtain ⟨B1, hB1⟩ : ∃ r, r = w.heap.size := ⟨_, rfl⟩
 obtain ⟨B2, hB2⟩ : ∃ r, r = w.heap.size + 1 := ⟨_, rfl⟩
 have g1 := heap_alloc2_old w (.cells (bys i).toArray 25) (.cells #[.pointer none] 59)
 have g2 := heap_alloc2_new w (.cells (bys i).toArray 25) (.cells #[.pointer none] 59)
 have hk0 : Kept [] w ((w.alloc (.cells (bys i).toArray 25)).alloc (.cells #[.pointer none] 59)) := ((Kept.refl [] w).alloc _).alloc _
 rw [← hB1] at g1
 rw [← hB2] at g2
 have hlt := h.lt
 have HCK := hide hck
 have HW := hide (And.intro hk0 (And.intro (h.kept hk0) (And.intro g1 (And.intro g2 (hk0.cellOf hgl (by simp))))))
 have HE : Hid (eb ≠ B1 ∧ eb ≠ B2 ∧ B1 ≠ B2 ∧ B2 ≠ 0) := hide (by
  have : 0 < w.heap.size := World.block_lt_of_cell? _ _ hgl
  omega)
 have HB : Hid (w.heap.size ≤ B2) := hide (by omega)
 have hil := idl i hi
 have hcc : (cd == 1) = false := by simpa using h1
 have heqx : ∀ W, (Op.equalIn 10000 25 (.agg (bys i).toArray) (.agg (bys i).toArray)).run Tryz.prog W = .ok true W := fun W => by rw [Tryz.eqlID i i hi hi W, decide_eq_true rfl]
 have heq := heqx
 clear h hk0 g1 g2 hlt h1 heqx hgl hck
 go_enter Tryz.func18, Tryz.ntmps18
 go_upto_region 2 with (fail)
 rw [← hB2, ← hB1]
 clear hB2 hB1
 generalize (w.alloc _).alloc _ = w2 at HW ⊢
 have f0 := HW.out.2.1.op
 have f1 := HW.out.2.1.name
 have f2 := HW.out.2.1.id
 have hri : w2.rangeAt B1 0 (bys i) := row_rangeK HW.out.2.2.1
 have n1 : eb ≠ B1 := HE.out.1
 have n2 : eb ≠ B2 := HE.out.2.1
 have n3 : B1 ≠ B2 := HE.out.2.2.1
 have n4 : 0 ≠ B2 := fun e => HE.out.2.2.2 e.symm
 have hd2 : (World.drew w2).cell? ⟨B2, 0, none⟩ = some (.pointer none) := by
  show w2.cell? ⟨B2, 0, none⟩ = _
  rw [cell_of_row _ _ _ _ _ _ HW.out.2.2.2.1]; rfl
 have hd3 : (World.drew w2).frozen? ⟨B2, 0, none⟩ = false := by
  show w2.frozen? ⟨B2, 0, none⟩ = _
  exact frozen_of_row _ _ _ _ _ HW.out.2.2.2.1
 have hd4 : GlE (World.drew w2) := HW.out.2.2.2.2
 refine wp_region_held_drew (S := fun w' => Kept [B2] w2 w') (by kernel_rfl) ((Kept.refl [B2] w2).drew) (fun h0 => ?_)
 generalize World.drew w2 = v0 at h0 hd2 hd3 hd4 ⊢
 have hAs : Calls Tryz.prog 36 #[.iface 59 (.pointer (some ⟨eb, 0, none⟩)), .iface 61 (.pointer (some ⟨B2, 0, none⟩))] v0 fun ev w' => ev = .returned (.bool true) ∧ w'.cell? ⟨B2, 0, none⟩ = some (.pointer (some ⟨eb, 0, none⟩)) ∧ Kept [B2] v0 w' := asF9 eb B2 v0 hd4 hd2 hd3
 clear hd2 hd3
 refine wpAnyH_take (i := 0) (v := .iface 59 (.pointer (some ⟨eb, 0, none⟩))) rfl (by kernel_rfl) (by kernel_rfl) (by kernel_rfl) (fun _ _ _ h => h) (Or.inl ⟨by rfl, fun w hSw => by go_simp⟩) h0 ?_
 try simp only [zk1, zk2, zk3, zk4, zk5, zk6, zk7, zk8]
 refine wpAnyH_take (i := 1) (v := .bool false) rfl (by kernel_rfl) (by kernel_rfl) (by kernel_rfl) (fun _ _ _ h => h) (Or.inl ⟨by rfl, fun w hSw => by go_simp⟩) h0 ?_
 try simp only [zk1, zk2, zk3, zk4, zk5, zk6, zk7, zk8]
 refine wpAnyH_take (i := 2) (v := .bool false) rfl (by kernel_rfl) (by kernel_rfl) (by kernel_rfl) (fun _ _ _ h => h) (Or.inl ⟨by rfl, fun w hSw => by go_simp⟩) h0 ?_
 try simp only [zk1, zk2, zk3, zk4, zk5, zk6, zk7, zk8]
 refine wpAnyH_take (i := 3) (v := .iface 59 (.pointer (some ⟨eb, 0, none⟩))) rfl (by kernel_rfl) (by kernel_rfl) (by kernel_rfl) (fun _ _ _ h => h) (Or.inl ⟨by rfl, fun w hSw => by go_simp⟩) h0 ?_
 try simp only [zk1, zk2, zk3, zk4, zk5, zk6, zk7, zk8]
 refine wpAnyH_take (i := 4) (v := .iface 61 (.pointer (some ⟨B2, 0, none⟩))) rfl (by kernel_rfl) (by kernel_rfl) (by kernel_rfl) (fun _ _ _ h => h) (Or.inl ⟨by rfl, fun w hSw => by go_simp⟩) h0 ?_
 try simp only [zk1, zk2, zk3, zk4, zk5, zk6, zk7, zk8]
 refine wpAnyH_ready (rs := [5]) (by kernel_rfl) (by simp) (AllReadyH.cons (i := 5) rfl (fun K hK => ?_) AllReadyH.nil)
 rw [if_pos (by rfl)]
 go_simp
 refine (hAs).mono ?_
 rintro e v1 ⟨rfl, hc2, hk2⟩
 have hd5 := hk2.cellOf hd4 (by simpa using n4)
 clear hAs
 refine hK.out _ _ (h0.trans hk2 (by simp)) (fun h1 => ?_)
 clear hK K
 try simp only [zk1, zk2, zk3, zk4, zk5, zk6, zk7, zk8]
 refine wpAnyH_take (i := 6) (v := .bool false) rfl (by kernel_rfl) (by kernel_rfl) (by kernel_rfl) (fun _ _ _ h => h) (Or.inl ⟨by rfl, fun w hSw => by go_simp⟩) h1 ?_
 try simp only [zk1, zk2, zk3, zk4, zk5, zk6, zk7, zk8]
 refine wpAnyH_take (i := 7) (v := .bool false) rfl (by kernel_rfl) (by kernel_rfl) (by kernel_rfl) (fun _ _ _ h => h) (Or.inl ⟨by rfl, fun w hSw => by go_simp⟩) h1 ?_
 try simp only [zk1, zk2, zk3, zk4, zk5, zk6, zk7, zk8]
 refine wpAnyH_take (i := 8) (v := .bool false) rfl (by kernel_rfl) (by kernel_rfl) (by kernel_rfl) (fun _ _ _ h => h) (Or.inl ⟨by rfl, fun w hSw => by go_simp⟩) h1 ?_
 try simp only [zk1, zk2, zk3, zk4, zk5, zk6, zk7, zk8]
 refine wpAnyH_ready (rs := [9]) (by kernel_rfl) (by simp) (AllReadyH.cons (i := 9) rfl (fun K hK => ?_) AllReadyH.nil)
 rw [if_pos (by rfl)]
 go_simp
 refine hK.out _ _ (h1) (fun h2 => ?_)
 clear hK K
 try simp only [zk1, zk2, zk3, zk4, zk5, zk6, zk7, zk8]
 refine wpAnyH_take (i := 10) (v := .bool false) rfl (by kernel_rfl) (by kernel_rfl) (by kernel_rfl) (fun _ _ _ h => h) (Or.inl ⟨by rfl, fun w hSw => by go_simp⟩) h2 ?_
 try simp only [zk1, zk2, zk3, zk4, zk5, zk6, zk7, zk8]
 refine wpAnyH_take (i := 11) (v := .bool false) rfl (by kernel_rfl) (by kernel_rfl) (by kernel_rfl) (fun _ _ _ h => h) (Or.inl ⟨by rfl, fun w hSw => by go_simp⟩) h2 ?_
 try simp only [zk1, zk2, zk3, zk4, zk5, zk6, zk7, zk8]
 refine wpAnyH_take (i := 12) (v := .bool false) rfl (by kernel_rfl) (by kernel_rfl) (by kernel_rfl) (fun _ _ _ h => h) (Or.inl ⟨by rfl, fun w hSw => by go_simp⟩) h2 ?_
 try simp only [zk1, zk2, zk3, zk4, zk5, zk6, zk7, zk8]
 refine wpAnyH_take (i := 17) (v := .string ⟨op.toArray⟩) rfl (by kernel_rfl) (by kernel_rfl) (by kernel_rfl) (fun _ _ _ h => h) (Or.inl ⟨by rfl, fun w hSw => by go_simp⟩) h2 ?_
 try simp only [zk1, zk2, zk3, zk4, zk5, zk6, zk7, zk8]
 refine wpAnyH_ready (rs := [13]) (by kernel_rfl) (by simp) (AllReadyH.cons (i := 13) rfl (fun K hK => ?_) AllReadyH.nil)
 rw [if_pos (by rfl)]
 go_simp
 refine hK.out _ _ (h2) (fun h3 => ?_)
 clear hK K
 try simp only [zk1, zk2, zk3, zk4, zk5, zk6, zk7, zk8]
 refine wpAnyH_take (i := 14) (v := .pointer (some ⟨eb, 0, none⟩)) rfl (by kernel_rfl) (by kernel_rfl) (by kernel_rfl) (fun _ _ _ h => h) (Or.inl ⟨by rfl, fun w hSw => by go_simp⟩) h3 ?_
 try simp only [zk1, zk2, zk3, zk4, zk5, zk6, zk7, zk8]
 refine wpAnyH_take (i := 15) (v := .pointer (some ⟨eb, 0, none⟩)) rfl (by kernel_rfl) (by kernel_rfl) (by kernel_rfl) (fun _ _ _ h => h) (Or.inl ⟨by rfl, fun w hSw => by go_simp⟩) h3 ?_
 try simp only [zk1, zk2, zk3, zk4, zk5, zk6, zk7, zk8]
 refine wpAnyH_take (i := 16) (v := .string ⟨op.toArray⟩) rfl (by kernel_rfl) (by kernel_rfl) (by kernel_rfl) (fun _ _ _ h => h) (Or.inl ⟨by rfl, fun w hSw => by have c0 := Kept.cellOf hSw f0 (by simp; omega); go_simp⟩) h3 ?_
 try simp only [zk1, zk2, zk3, zk4, zk5, zk6, zk7, zk8]
 refine wpAnyH_take (i := 18) (v := .bool false) rfl (by kernel_rfl) (by kernel_rfl) (by kernel_rfl) (fun _ _ _ h => h) (Or.inl ⟨by rfl, fun w hSw => by go_simp⟩) h3 ?_
 try simp only [zk1, zk2, zk3, zk4, zk5, zk6, zk7, zk8]
 refine wpAnyH_take (i := 19) (v := .bool false) rfl (by kernel_rfl) (by kernel_rfl) (by kernel_rfl) (fun _ _ _ h => h) (Or.inl ⟨by rfl, fun w hSw => by go_simp⟩) h3 ?_
 try simp only [zk1, zk2, zk3, zk4, zk5, zk6, zk7, zk8]
 refine wpAnyH_take (i := 20) (v := .bool false) rfl (by kernel_rfl) (by kernel_rfl) (by kernel_rfl) (fun _ _ _ h => h) (Or.inl ⟨by rfl, fun w hSw => by go_simp⟩) h3 ?_
 try simp only [zk1, zk2, zk3, zk4, zk5, zk6, zk7, zk8]
 refine wpAnyH_ready (rs := [21]) (by kernel_rfl) (by simp) (AllReadyH.cons (i := 21) rfl (fun K hK => ?_) AllReadyH.nil)
 rw [if_pos (by rfl)]
 go_simp
 refine hK.out _ _ (h3) (fun h4 => ?_)
 clear hK K
 try simp only [zk1, zk2, zk3, zk4, zk5, zk6, zk7, zk8]
 refine wpAnyH_take (i := 22) (v := .pointer (some ⟨eb, 0, none⟩)) rfl (by kernel_rfl) (by kernel_rfl) (by kernel_rfl) (fun _ _ _ h => h) (Or.inl ⟨by rfl, fun w hSw => by go_simp⟩) h4 ?_
 try simp only [zk1, zk2, zk3, zk4, zk5, zk6, zk7, zk8]
 refine wpAnyH_take (i := 23) (v := .pointer (some ⟨eb, 1, none⟩)) rfl (by kernel_rfl) (by kernel_rfl) (by kernel_rfl) (fun _ _ _ h => h) (Or.inl ⟨by rfl, fun w hSw => by go_simp⟩) h4 ?_
 try simp only [zk1, zk2, zk3, zk4, zk5, zk6, zk7, zk8]
 refine wpAnyH_take (i := 24) (v := .string ⟨#[]⟩) rfl (by kernel_rfl) (by kernel_rfl) (by kernel_rfl) (fun _ _ _ h => h) (Or.inl ⟨by rfl, fun w hSw => by have c0 := Kept.cellOf hSw f1 (by simp; omega); go_simp⟩) h4 ?_
 try simp only [zk1, zk2, zk3, zk4, zk5, zk6, zk7, zk8]
 refine wpAnyH_take (i := 25) (v := .bool false) rfl (by kernel_rfl) (by kernel_rfl) (by kernel_rfl) (fun _ _ _ h => h) (Or.inl ⟨by rfl, fun w hSw => by go_simp⟩) h4 ?_
 try simp only [zk1, zk2, zk3, zk4, zk5, zk6, zk7, zk8]
 refine wpAnyH_take (i := 26) (v := .bool false) rfl (by kernel_rfl) (by kernel_rfl) (by kernel_rfl) (fun _ _ _ h => h) (Or.inl ⟨by rfl, fun w hSw => by go_simp⟩) h4 ?_
 try simp only [zk1, zk2, zk3, zk4, zk5, zk6, zk7, zk8]
 refine wpAnyH_take (i := 27) (v := .bool false) rfl (by kernel_rfl) (by kernel_rfl) (by kernel_rfl) (fun _ _ _ h => h) (Or.inl ⟨by rfl, fun w hSw => by go_simp⟩) h4 ?_
 try simp only [zk1, zk2, zk3, zk4, zk5, zk6, zk7, zk8]
 refine wpAnyH_take (i := 32) (v := .agg (bys i).toArray) rfl (by kernel_rfl) (by kernel_rfl) (by kernel_rfl) (fun _ _ _ h => h) (yieldsIf_load_mid (by rfl) _ _ rfl B1 (0) rfl (bys i) _ (fun W h => fun j u hu => Kept.cellOf h (hri j u hu) (by simp; omega)) Tryz.underlying25 rfl hil) h4 ?_
 try simp only [zk1, zk2, zk3, zk4, zk5, zk6, zk7, zk8]
 refine wpAnyH_ready (rs := [28]) (by kernel_rfl) (by simp) (AllReadyH.cons (i := 28) rfl (fun K hK => ?_) AllReadyH.nil)
 rw [if_pos (by rfl)]
 go_simp
 refine hK.out _ _ (h4) (fun h5 => ?_)
 clear hK K
 try simp only [zk1, zk2, zk3, zk4, zk5, zk6, zk7, zk8]
 refine wpAnyH_take (i := 29) (v := .pointer (some ⟨eb, 0, none⟩)) rfl (by kernel_rfl) (by kernel_rfl) (by kernel_rfl) (fun _ _ _ h => h) (Or.inl ⟨by rfl, fun w hSw => by go_simp⟩) h5 ?_
 try simp only [zk1, zk2, zk3, zk4, zk5, zk6, zk7, zk8]
 refine wpAnyH_take (i := 30) (v := .pointer (some ⟨eb, 2, none⟩)) rfl (by kernel_rfl) (by kernel_rfl) (by kernel_rfl) (fun _ _ _ h => h) (Or.inl ⟨by rfl, fun w hSw => by go_simp⟩) h5 ?_
 try simp only [zk1, zk2, zk3, zk4, zk5, zk6, zk7, zk8]
 refine wpAnyH_take (i := 31) (v := .agg (bys i).toArray) rfl (by kernel_rfl) (by kernel_rfl) (by kernel_rfl) (fun _ _ _ h => h) (yieldsIf_load_mid (by rfl) _ _ rfl eb (2) rfl (bys i) _ (fun W h => fun j u hu => Kept.cellOf h (f2 j u hu) (by simp; omega)) Tryz.underlying25 rfl hil) h5 ?_
 try simp only [zk1, zk2, zk3, zk4, zk5, zk6, zk7, zk8]
 refine wpAnyH_take (i := 33) (v := .bool false) rfl (by kernel_rfl) (by kernel_rfl) (by kernel_rfl) (fun _ _ _ h => h) (Or.inl ⟨by rfl, fun w hSw => by have c0 := heq w; go_simp⟩) h5 ?_
 try simp only [zk1, zk2, zk3, zk4, zk5, zk6, zk7, zk8]
 refine wpAnyH_take (i := 34) (v := .bool false) rfl (by kernel_rfl) (by kernel_rfl) (by kernel_rfl) (fun _ _ _ h => h) (Or.inl ⟨by rfl, fun w hSw => by go_simp⟩) h5 ?_
 try simp only [zk1, zk2, zk3, zk4, zk5, zk6, zk7, zk8]
 refine wpAnyH_done (by kernel_rfl) ?_ _
 have HKF : Hid (Kept [] w v1) := hide (HW.out.1.trans h5 (fun q hq hlt => by simp at hq; have := HB.out; omega))
 have hF1 : FltAt v1 eb op i u := by
  unfold FltAt
  rw [h5.block eb HW.out.2.1.lt (by simpa using n2)]
  exact HW.out.2.1
 have hch : Chn v1 (k + 1) (faultV eb) (errnoV cd) := ⟨eb, _, rfl, hF1.err hi, HCK.out.kept HKF.out (by simp)⟩
 have his := isErrno_ok (k + 1) _ cd cd v1 hch
 have hcd := codeErrno_ok (k + 1) _ cd v1 hd5 hch
 rw [show (cd == cd) = true by simp] at his
 unfold faultV at his hcd
 clear hF1 hch hd4 hd5 h0 h1 h2 h3 h4 h5 f0 f1 f2 hri heq hc2 hk2
 go_wp2_with (first
  | (go_at_call 32; refine his.mono ?_; rintro e w' ⟨rfl, hww⟩; obtain rfl := hww.symm; clear his)
  | (go_at_call 25; refine hcd.mono ?_; rintro e w3 ⟨rfl, hk3⟩; have HK3 := hide (HKF.out.trans hk3 (by simp)); clear hcd hk3))
 go_ret
 exact ⟨rfl, HK3.out⟩
end

section
open Go.RowKit Go.Lib Go.Sort
open Go.Extern
set_option linter.unusedVariables false
set_option linter.unusedSimpArgs false
theorem Tryz.eqFZ9 (v u : Value) (w : World) : (binOp .eql 44 (.iface 59 v) (.iface 87 u)).run Tryz.prog w = .ok (.bool false) w := run_eql_iface_types (P := Tryz.prog) 59 87 v u Tryz.underlying44 (by decide) w
theorem Tryz.eqZZ9 (w : World) : (binOp .eql 44 (.iface 87 (.agg #[])) (.iface 87 (.agg #[]))).run Tryz.prog w = .ok (.bool true) w := by kernel_rfl
theorem Tryz.infF9 : (Tryz.prog.info? 59).map (·.comparable) = some true := by kernel_rfl
theorem Tryz.infF9s : (Tryz.prog.info? 63).map (·.size) = some 35 := by kernel_rfl
theorem eqFF_same (a : Addr) (w : World) : (binOp .eql 44 (.iface 59 (.pointer (some a))) (.iface 59 (.pointer (some a)))).run Tryz.prog w = .ok (.bool true) w := by
 obtain ⟨i, hi, hc⟩ := Option.map_eq_some_iff.1 Tryz.infF9
 obtain ⟨j, hj, hs⟩ := Option.map_eq_some_iff.1 Tryz.infF9s
 exact run_eql_iface_ptr_same (P := Tryz.prog) w a Tryz.underlying44 Tryz.underlying59 hi hc hj
theorem eqFF_other {eb e2 : Nat} {op op2 i1 i2 : List UInt8} {u u2 : Value} (w : World) (hne : e2 ≠ eb) (h1 : FltAt w eb op i1 u) (h2 : FltAt w e2 op2 i2 u2) : (binOp .eql 44 (.iface 59 (.pointer (some ⟨eb, 0, none⟩))) (.iface 59 (.pointer (some ⟨e2, 0, none⟩)))).run Tryz.prog w = .ok (.bool false) w := by
 obtain ⟨i, hi, hc⟩ := Option.map_eq_some_iff.1 Tryz.infF9
 obtain ⟨j, hj, hs⟩ := Option.map_eq_some_iff.1 Tryz.infF9s
 exact run_eql_iface_ptr_other (P := Tryz.prog) w Tryz.underlying44 Tryz.underlying59 hi hc hj (by omega) (fun h => by injection h with h _ _; exact hne h.symm) h1 h2
theorem Tryz.cmpZ9 (w : World) : (cmpImpl9 #[.agg #[.pointer (some ⟨4, 87, none⟩)]]).run Tryz.prog w = .ok (.bool true) w := by kernel_rfl
theorem Tryz.cmpF9 (w : World) : (cmpImpl9 #[.agg #[.pointer (some ⟨4, 59, none⟩)]]).run Tryz.prog w = .ok (.bool true) w := by kernel_rfl
set_option maxHeartbeats 4000000 in
set_option maxRecDepth 100000 in
theorem isFor_ok (eb : Nat)  (w : World) (hc : w.cell? ⟨eb, 34, none⟩ = some (foreV)) :
  Calls Tryz.prog 32 #[faultV eb, foreV] w fun e w' => e = .returned (.bool true) ∧ w' = w := by
 have x7 := @run_callFunc_extern Tryz.prog 45 _ (Extern.ReflectliteType.typeOf) Tryz.func45 (by kernel_rfl) (by kernel_rfl) (by kernel_rfl) (by kernel_rfl)
 have x11 := @run_callFunc_extern Tryz.prog 140 _ (cmpImpl9) Tryz.func140 (by kernel_rfl) (by kernel_rfl) (by kernel_rfl) (by kernel_rfl)
 have z0 := Tryz.mComp
 have z4 := Tryz.noIsF
 have z5 := Tryz.unF
 have z6 := Tryz.mUn
 have z1 := Tryz.tOZ
 have z2 := Tryz.cmpZ9
 have z3 := Tryz.eqFZ9
 have z7 := Tryz.eqZZ9
 have hun := unwrap_ok eb (foreV) w hc
 have hu : foreV = .iface 87 (.agg #[]) := rfl
 rw [hu] at hun ⊢
 clear hu hc
 unfold faultV
 have hin : Calls Tryz.prog 46 #[.iface 59 (.pointer (some ⟨eb, 0, none⟩)), .iface 87 (.agg #[]), .bool true] w fun e w' => e = .returned (.bool true) ∧ w' = w := by
  go_enter Tryz.func46, Tryz.ntmps46
  go_wp2
  go_loopw [0] (fun x wr => (x = .iface 59 (.pointer (some ⟨eb, 0, none⟩)) ∨ x = .iface 87 (.agg #[])) ∧ wr = w) (fun x wr => match x with | .iface _ (.pointer (some a)) => if a.block = eb then 1 else 0 | _ => 0)
  case atStart => exact ⟨.inl rfl, rfl⟩
  case round =>
   obtain ⟨hx, hwr⟩ := hrel
   obtain rfl := hwr.symm
   rcases hx with rfl | rfl
   ·go_wp2_with (go_at_call 131; refine hun.mono ?_; rintro e w' ⟨rfl, hww⟩; obtain rfl := hww.symm)
    go_roundw
    case rel => exact ⟨.inr rfl, trivial⟩
    case measure => simp 
   ·go_wp2
    go_ret
    exact ⟨rfl, rfl⟩
 go_enter Tryz.func32, Tryz.ntmps32
 go_wp2_with (go_at_call 46; refine hin.mono ?_; rintro e w' ⟨rfl, hww⟩; obtain rfl := hww.symm; clear hin)
 go_ret
 exact ⟨rfl, rfl⟩
set_option maxHeartbeats 4000000 in
set_option maxRecDepth 100000 in
theorem isFlt_ok (eb : Nat) (e2 : Nat) {op op2 i1 i2 : List UInt8} {u u2 : Value} (hne : e2 ≠ eb) (w : World) (h1 : FltAt w eb op i1 u) (h2 : FltAt w e2 op2 i2 u2) (hc : w.cell? ⟨eb, 34, none⟩ = some (faultV e2)) :
  Calls Tryz.prog 32 #[faultV eb, faultV e2] w fun e w' => e = .returned (.bool true) ∧ w' = w := by
 have x7 := @run_callFunc_extern Tryz.prog 45 _ (Extern.ReflectliteType.typeOf) Tryz.func45 (by kernel_rfl) (by kernel_rfl) (by kernel_rfl) (by kernel_rfl)
 have x11 := @run_callFunc_extern Tryz.prog 140 _ (cmpImpl9) Tryz.func140 (by kernel_rfl) (by kernel_rfl) (by kernel_rfl) (by kernel_rfl)
 have z0 := Tryz.mComp
 have z4 := Tryz.noIsF
 have z5 := Tryz.unF
 have z6 := Tryz.mUn
 have z1 := Tryz.tOF
 have z2 := Tryz.cmpF9
 have z3 := eqFF_other w hne h1 h2
 have z7 := eqFF_same ⟨e2, 0, none⟩ w
 clear h1 h2
 have hun := unwrap_ok eb (faultV e2) w hc
 have hu : faultV e2 = .iface 59 (.pointer (some ⟨e2, 0, none⟩)) := rfl
 rw [hu] at hun ⊢
 clear hu hc
 unfold faultV
 have hin : Calls Tryz.prog 46 #[.iface 59 (.pointer (some ⟨eb, 0, none⟩)), .iface 59 (.pointer (some ⟨e2, 0, none⟩)), .bool true] w fun e w' => e = .returned (.bool true) ∧ w' = w := by
  go_enter Tryz.func46, Tryz.ntmps46
  go_wp2
  go_loopw [0] (fun x wr => (x = .iface 59 (.pointer (some ⟨eb, 0, none⟩)) ∨ x = .iface 59 (.pointer (some ⟨e2, 0, none⟩))) ∧ wr = w) (fun x wr => match x with | .iface _ (.pointer (some a)) => if a.block = eb then 1 else 0 | _ => 0)
  case atStart => exact ⟨.inl rfl, rfl⟩
  case round =>
   obtain ⟨hx, hwr⟩ := hrel
   obtain rfl := hwr.symm
   rcases hx with rfl | rfl
   ·go_wp2_with (go_at_call 131; refine hun.mono ?_; rintro e w' ⟨rfl, hww⟩; obtain rfl := hww.symm)
    go_roundw
    case rel => exact ⟨.inr rfl, trivial⟩
    case measure => simp [hne]
   ·go_wp2
    go_ret
    exact ⟨rfl, rfl⟩
 go_enter Tryz.func32, Tryz.ntmps32
 go_wp2_with (go_at_call 46; refine hin.mono ?_; rintro e w' ⟨rfl, hww⟩; obtain rfl := hww.symm; clear hin)
 go_ret
 exact ⟨rfl, rfl⟩
end

end Go.Proofs.YtngaimahhgmciaaGreatDoor
