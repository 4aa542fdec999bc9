import Derived.Test.YtngaimahhgmciaaGreatDoorQpcs
import Derived.Test.YtngaimahhgmciaaGreatDoorQtfs
import Derived.Test.YtngaimahhgmciaaGreatDoorQ9ks
import Derived.Deep.CutRange
namespace Go.Proofs.YtngaimahhgmciaaGreatDoor
open Go.RowKit Go.Lib Go.Sort
set_option linter.unusedVariables false
set_option linter.unusedSimpArgs false
def opG : List UInt8 := [115, 111, 117, 114, 99, 101, 46, 103, 101, 116]
def ErrA (w : World) (L : List It9) (i : List UInt8) (ev : Value) : Prop :=
 (i ∉ ids9 L ∧ ev = errnoV 93) ∨ (i ∈ ids9 L ∧ (((fst9 L i).code = 1 ∧ ev = foreV) ∨ ((fst9 L i).code ≠ 1 ∧ (fst9 L i).code ≠ 0 ∧
  (((fst9 L i).wrp = true ∧ ∃ eb, ev = faultV eb ∧ FltAt w eb opG i (errnoV (fst9 L i).code)) ∨ ((fst9 L i).wrp = false ∧ ev = errnoV (fst9 L i).code)))))
theorem ErrA.kept {w w' : World} {L : List It9} {i : List UInt8} {ev : Value} (h : ErrA w L i ev) (hk : Kept [] w w') : ErrA w' L i ev := by
 rcases h with h | ⟨h0, h | ⟨h1, h2, ⟨h3, eb, he, hf⟩ | h3⟩⟩
 ·exact .inl h
 ·exact .inr ⟨h0, .inl h⟩
 ·exact .inr ⟨h0, .inr ⟨h1, h2, .inl ⟨h3, eb, he, hf.kept hk⟩⟩⟩
 ·exact .inr ⟨h0, .inr ⟨h1, h2, .inr h3⟩⟩
def FndA (N : Nat) (w : World) (L : List It9) (i : List UInt8) (v ev : Value) : Prop :=
 (i ∈ ids9 L ∧ (fst9 L i).code = 0 ∧ ev = .nilIface ∧ OwnB w N v (fst9 L i).bs) ∨ (v = .slice none 0 0 ∧ ErrA w L i ev)
theorem OwnB.mono9 {w : World} {N M : Nat} {v : Value} {xs : List UInt8} (h : OwnB w N v xs) (hm : M ≤ N) : OwnB w M v xs := by
 unfold OwnB at *
 refine ⟨h.1, ?_⟩
 rcases h.2 with h2 | ⟨g, c, cur, h3, h4, h5⟩
 ·exact .inl h2
 ·exact .inr ⟨g, c, cur, h3, Nat.le_trans hm h4, h5⟩
theorem wpList_appendRun9 {ops : Array Oper} {rest : List Oper} {o : Oper} {a : Act} {w : World} {Q : Exit → Act → World → Prop} (hgd : o.guard = none) (d s : Operand) (t : TypeId)
  (ho : o.op = .call { callee := .builtin .append, args := #[d, s], argTypes := #[t, t] }) (v u : Value) (hd : a.eval d = v) (hs : a.eval s = u) {v' : Value} {w' : World}
  (hr : (Builtin.append_ #[t, t] o.type #[v, u]).run Tryz.prog w = .ok v' w') (h : wpList Tryz.prog ops Q rest (a.put o.dst v') w') : wpList Tryz.prog ops Q (o :: rest) a w :=
 wpList_plain hgd fun _ hK => wp_append_run d s t t ho v u hd hs _ _ hr (hK _ _ h)
theorem Tryz.infoItS : (Tryz.prog.info? 81).map (·.size) = some 35 := by kernel_rfl
theorem Tryz.zeroIt9 (W : World) : (zeroValue 81).run Tryz.prog W = .ok (.agg zeroIt) W := by kernel_rfl
set_option maxHeartbeats 6400000 in
set_option maxRecDepth 100000 in
theorem sfind9_ok (P : Nat) (io : Option Addr) (n cap : Nat) (va ve : Value) (L : List It9) (i : List UInt8) (w : World) (hP : w.heap[P]? = some (.cells #[.slice io n cap, va, ve] 73 (0, 0))) (hits : ItsAt w io L) (hlen : L.length = n) (hn : n ≤ 4611686018427387904) (hi : i.length = 32) :
  Calls Tryz.prog 133 #[.pointer (some ⟨P, 0, none⟩), .agg (bys i).toArray] w fun e w' => ∃ v ev, e = .returned (.tuple #[v, ev]) ∧ Kept [] w w' ∧ FndA w.heap.size w' L i v ev := by
 have HL := hide hits
 have HN := hide hlen
 have HI0 := hide hi
 have HPC : Hid (w.cell? ⟨P, 0, none⟩ = some (.slice io n cap)) := hide (by rw [cell_of_row _ _ _ _ _ _ hP]; rfl)
 obtain ⟨G, hG⟩ : ∃ r, r = w.heap.size := ⟨_, rfl⟩
 have HR : Hid ((w.alloc (.cells (bys i).toArray 25)).heap[G]? = some (.cells (bys i).toArray 25 (0, 0))) := by rw [hG]; exact new_atK _ _
 have HK : Hid (Kept [] w (w.alloc (.cells (bys i).toArray 25))) := (Kept.refl [] w).alloc _
 clear hits hlen hi hP
 go_enter Tryz.func133, Tryz.ntmps133
 go_wp2
 rw [← hG]
 clear hG
 generalize w.alloc _ = w1 at HR HK ⊢
 go_loopw [6] (fun x wr => ∃ k : Nat, k ≤ n ∧ x = .int .i64 k ∧ Hid (Kept [] w1 wr ∧ k ≤ 60 ∧ ∀ j, j < k → (L.getD j it0).id ≠ i)) (fun x wr => n - (intOf x).toNat)
 case atStart => exact ⟨0, by omega, rfl, Kept.refl _ _, by omega, fun j hj => by omega⟩
 case round =>
  obtain ⟨k, hk, rfl, HC⟩ := hrel
  have hk60 := HC.out.2.1
  have cP : wr.cell? ⟨P, 0, none⟩ = some (.slice io n cap) := HC.out.1.cellOf (HK.out.cellOf HPC.out (by simp)) (by simp)
  go_upto_region 2 with (fail)
  go_cut [18] from 8 to 18 (fun y wx => ∃ bb : Bool, y = .bool bb ∧ Hid (bb = decide (k < n ∧ k < 60)) ∧ wx = wr)
  case first =>
   by_cases h1 : k < n
   ·by_cases h2 : k < 60
    ·have g1 : (k : Int) < (n : Int) := by omega
     have g2 : (k : Int) < 60 := by omega
     go_wp2
     go_meet
     case rel => exact ⟨true, rfl, hide (by simp [h1, h2]), rfl⟩
    ·have g1 : (k : Int) < (n : Int) := by omega
     have g2 : ¬ (k : Int) < 60 := by omega
     go_wp2
     go_meet
     case rel => exact ⟨false, rfl, hide (by simp [h2]), rfl⟩
   ·have g1 : ¬ (k : Int) < (n : Int) := by omega
    go_wp2
    go_meet
    case rel => exact ⟨false, rfl, hide (by simp [h1]), rfl⟩
  case rest =>
   obtain ⟨bb, rfl, HBB, hwc⟩ := hcut
   obtain rfl := hwc.symm
   cases bb with
   | true =>
    have hc : k < n ∧ k < 60 := by simpa using HBB.out.symm
    have hkl : k < L.length := by rw [HN.out]; exact hc.1
    obtain ⟨⟨b, off, hab, hcells⟩, hin⟩ := HL.out k hkl
    subst hab
    obtain ⟨it, hit⟩ : ∃ it, L.getD k it0 = it := ⟨_, rfl⟩
    rw [hit] at hcells hin
    have HKA := hide (HK.out.trans HC.out.1 (by simp))
    have hrc : wr.rangeAt b (off + k * 35) it.cells := fun jj u hu => HKA.out.cellOf (hcells jj u hu) (by simp)
    have hil35 : (Tryz.prog.info? 81).map (·.size) = some it.cells.length := by rw [It9.len]; exact Tryz.infoItS
    have hia : (Tryz.prog.info? 81).map (·.size) = some it.cells.toArray.size := hil35
    have hsz : zeroIt.size = it.cells.toArray.size := by
     have := it.len
     simp only [List.size_toArray, this]
     rfl
    have hone : it.cells.toArray.all (·.oneCell') = true := by
     rw [Array.all_eq_true]
     intro j hj
     exact it_one it _ (by simp)
    have hz := Tryz.zeroIt9
    have hnz := new_atK wr (.cells zeroIt 81)
    have g1 : (k : Int) < (n : Int) := by omega
    have HNO := hide HC.out.2.2
    have HKC := hide HC.out.1
    clear HC HBB hcells
    go_upto_region 5 with (first
     | refine wpList_load_mid rfl 81 (.tmp 26) rfl b (off + k * 35) rfl it.cells _ hrc Tryz.underlying81 rfl hil35 ?_
     | refine wpList_store_rowTo rfl 81 (.tmp 7) (.tmp 27) rfl rfl wr.heap.size it.cells.toArray rfl rfl 81 zeroIt hnz hia hsz hone ?_)
    have HB : Hid (((wr.alloc (.cells zeroIt 81)).setRow wr.heap.size it.cells.toArray).heap[wr.heap.size]? = some (.cells it.cells.toArray 81 (0, 0))) := hide (setRow_heap _ _ _ _ _ _ hnz)
    have HK4 : Hid (Kept [] wr ((wr.alloc (.cells zeroIt 81)).setRow wr.heap.size it.cells.toArray)) := hide (kept_rowK ((Kept.refl [] wr).alloc _) (fun h => absurd h (Nat.lt_irrefl _)) _)
    have HKR0 := hide (HKA.out.trans HK4.out (by simp))
    clear hnz hia hsz hone hz hrc hil35 cP
    generalize (wr.alloc (.cells zeroIt 81)).setRow wr.heap.size it.cells.toArray = w4 at HB HK4 HKR0 ⊢
    generalize wr.heap.size = B at HB ⊢
    have hpa := it_at (w := w4) (row_rangeK (cs := it.cells) HB.out)
    rw [Nat.zero_add, Nat.zero_add, Nat.zero_add] at hpa
    obtain ⟨xa, hxa⟩ : ∃ y, it.ao = y := ⟨_, rfl⟩
    obtain ⟨xn, hxn⟩ : ∃ y, it.n = y := ⟨_, rfl⟩
    obtain ⟨xc, hxc⟩ : ∃ y, it.cap = y := ⟨_, rfl⟩
    obtain ⟨xs, hxs⟩ : ∃ y, it.bs = y := ⟨_, rfl⟩
    obtain ⟨cd, hcd⟩ : ∃ y, it.code = y := ⟨_, rfl⟩
    obtain ⟨xw, hxw⟩ : ∃ y, it.wrp = y := ⟨_, rfl⟩
    obtain ⟨x, hxd⟩ : ∃ y, it.id = y := ⟨_, rfl⟩
    have hx : x.length = 32 := by rw [← hxd]; exact it.hi
    have HIT : Hid (L.getD k it0 = it ∧ it.id = x ∧ it.bs = xs ∧ it.code = cd ∧ it.wrp = xw) := hide ⟨hit, hxd, hxs, hcd, hxw⟩
    have HKR : Hid (Kept [] w1 w4) := hide (HKC.out.trans HK4.out (by simp))
    have HKW : Hid (Kept [] w w4) := hide (HK.out.trans HKR.out (by simp))
    have HXS : Hid (xs.length = xn ∧ Sl w4 xa xs ∧ (xa = none → xs = [] ∧ xc = 0) ∧ xn ≤ 140737488355328) := hide (by
     have := hin.inb
     rw [hxa, hxn, hxc, hxs] at this
     exact ⟨this.len, (this.sl.kept HKW.out (by simp)), this.nil, by have h1 := this.le; have h2 := this.max; omega⟩)
    have hdv : it.dv = .slice xa xn xc := by unfold It9.dv; rw [hxa, hxn, hxc]
    rw [hxd, hdv, hcd, hxw] at hpa
    have hrB := hpa.1
    have c32 := hpa.2.1
    have c33 := hpa.2.2.1
    have c34 := hpa.2.2.2
    have hrG : w4.rangeAt G 0 (bys i) := fun jj u hu => HKR.out.cellOf (row_rangeK (cs := bys i) HR.out jj u hu) (by simp)
    have hxl := idl x hx
    have hil := idl i HI0.out
    have hcd60 : k < 60 := hc.2
    have hkn : k < n := hc.1
    have heqx : ∀ W, (Op.equalIn 10000 25 (.agg (bys x).toArray) (.agg (bys i).toArray)).run Tryz.prog W = .ok (decide (x = i)) W := fun W => Tryz.eqlID x i hx HI0.out W
    clear hpa hdv hxa hxn hxc hxs hcd hxw hxd hit hin HB HK4 HKR0 HKA hc hx
    by_cases hxi : x = i
    ·as_aux_lemma =>
     have heq : ∀ W, (Op.equalIn 10000 25 (.agg (bys i).toArray) (.agg (bys i).toArray)).run Tryz.prog W = .ok true W := fun W => by
      have h := heqx W
      rw [hxi, decide_eq_true rfl] at h
      exact h
     rw [hxi] at HIT hrB
     have HIN : Hid (i ∈ ids9 L ∧ fst9 L i = L.getD k it0) := hide (by
      have h1 := fst9_at hkl (fun y hy => by rw [HIT.out.1, HIT.out.2.1]; exact HNO.out y hy)
      have h2 : (L.getD k it0).id = i := by rw [HIT.out.1, HIT.out.2.1]
      rw [h2] at h1
      refine ⟨mem_canon.2 (List.mem_map.2 ⟨L.getD k it0, ?_, h2⟩), h1⟩
      have e : L.getD k it0 = L[k] := by simp [List.getElem?_eq_getElem hkl]
      rw [e]
      exact List.mem_take_iff_getElem.2 ⟨k, by omega, rfl⟩)
     rw [HIT.out.1] at HIN
     clear heqx hxi hxl
     go_upto_region 6 with (first
      | refine wpList_load_mid rfl 25 (.tmp 28) rfl B 0 rfl (bys i) _ hrB Tryz.underlying25 rfl hil ?_
      | refine wpList_load_mid rfl 25 (.tmp 3) rfl G 0 rfl (bys i) _ hrG Tryz.underlying25 rfl hil ?_)
     clear hrB heq hkl
     by_cases hc0 : cd = 0
     ·as_aux_lemma =>
      subst hc0
      obtain ⟨vv, w12, hrun, hown, hk12⟩ := run_freshB9 w4 xs xa xn xc HXS.out.1 HXS.out.2.1 HXS.out.2.2.1 HXS.out.2.2.2
      have c32' : (w4.alloc (.cells #[] 5)).cell? ⟨B, 32, none⟩ = some (.slice xa xn xc) := ((Kept.refl [] w4).alloc _).cellOf c32 (by simp)
      go_wp2_with (refine wpList_appendRun9 rfl (.tmp 36) (.tmp 38) 42 rfl (.slice (some ⟨w4.heap.size, 0, none⟩) 0 0) (.slice xa xn xc) rfl rfl hrun ?_)
      go_ret2
      exact ⟨_, _, rfl, HKW.out.trans hk12 (by simp), .inl ⟨HIN.out.1, by rw [HIN.out.2, HIT.out.2.2.2.1], rfl, by rw [HIN.out.2, HIT.out.2.2.1]; exact hown.mono9 HKW.out.size⟩⟩
     ·by_cases hc1 : cd = 1
      ·as_aux_lemma =>
       subst hc1
       go_wp2
       go_ret2
       exact ⟨_, _, rfl, HKW.out, .inr ⟨rfl, .inr ⟨HIN.out.1, .inl ⟨by rw [HIN.out.2, HIT.out.2.2.2.1], rfl⟩⟩⟩⟩
      ·cases xw with
       | true =>
        as_aux_lemma =>
        go_upto_region 11 with (fail)
        have hbl : ∀ W, (Instr.build 63 #[(0, .string ⟨opG.toArray⟩), (2, .agg (bys i).toArray), (3, .iface 57 (.int .i64 cd))]).run Tryz.prog W = .ok (.agg (fltC opG i (errnoV cd)).toArray) W := fun W => by
         have h := Tryz.builtFlt ⟨opG.toArray⟩ (fun k => i.getD k 0) 57 (.int .i64 cd) W
         rw [range32i HI0.out] at h
         exact h
        refine wp_region_held_drew (S := fun w' => Kept [] w4 w') (by kernel_rfl) ((Kept.refl [] w4).drew) (fun h0 => ?_)
        generalize World.drew w4 = v0 at h0  ⊢
        refine wpAnyH_take (i := 0) (v := .agg (bys i).toArray) rfl (by kernel_rfl) (by kernel_rfl) (by kernel_rfl) (fun _ _ _ h => h) (yieldsIf_load_mid (by rfl) _ _ rfl G (0) rfl (bys i) _ (fun W h => fun jj u hu => Kept.cellOf h (hrG jj u hu) (by simp)) Tryz.underlying25 rfl hil) h0 ?_
        try simp only [zk1, zk2, zk3, zk4, zk5, zk6, zk7, zk8]
        refine wpAnyH_take (i := 1) (v := .pointer (some ⟨B, 33, none⟩)) rfl (by kernel_rfl) (by kernel_rfl) (by kernel_rfl) (fun _ _ _ h => h) (Or.inl ⟨by rfl, fun w hSw => by go_simp⟩) h0 ?_
        try simp only [zk1, zk2, zk3, zk4, zk5, zk6, zk7, zk8]
        refine wpAnyH_take (i := 2) (v := .int .i64 cd) rfl (by kernel_rfl) (by kernel_rfl) (by kernel_rfl) (fun _ _ _ h => h) (Or.inl ⟨by rfl, fun w hSw => by have c0 := Kept.cellOf hSw c33 (by simp); go_simp⟩) h0 ?_
        try simp only [zk1, zk2, zk3, zk4, zk5, zk6, zk7, zk8]
        refine wpAnyH_take (i := 3) (v := .iface 57 (.int .i64 cd)) rfl (by kernel_rfl) (by kernel_rfl) (by kernel_rfl) (fun _ _ _ h => h) (Or.inl ⟨by rfl, fun w hSw => by go_simp⟩) h0 ?_
        try simp only [zk1, zk2, zk3, zk4, zk5, zk6, zk7, zk8]
        refine wpAnyH_take (i := 4) (v := .agg (fltC opG i (errnoV cd)).toArray) rfl (by kernel_rfl) (by kernel_rfl) (by kernel_rfl) (fun _ _ _ h => h) (yieldsIf_buildT (by rfl) 63 #[(0, .const (.string ⟨#[115, 111, 117, 114, 99, 101, 46, 103, 101, 116]⟩)), (2, .tmp 49), (3, .tmp 52)] rfl #[(0, .string ⟨opG.toArray⟩), (2, .agg (bys i).toArray), (3, .iface 57 (.int .i64 cd))] (by simp [Act.eval, opG]) _ hbl) h0 ?_
        try simp only [zk1, zk2, zk3, zk4, zk5, zk6, zk7, zk8]
        refine wpAnyH_take (i := 7) (v := .slice none 0 0) rfl (by kernel_rfl) (by kernel_rfl) (by kernel_rfl) (fun _ _ _ h => h) (Or.inl ⟨by rfl, fun w hSw => by go_simp⟩) h0 ?_
        try simp only [zk1, zk2, zk3, zk4, zk5, zk6, zk7, zk8]
        refine wpAnyH_ready (rs := [5]) (by kernel_rfl) (by simp) (AllReadyH.cons (i := 5) rfl (fun K hK => ?_) AllReadyH.nil)
        rw [if_pos (by rfl)]
        go_simp
        refine hK.out _ _ (h0.alloc _) (fun h1 => ?_)
        clear hK K
        try simp only [zk1, zk2, zk3, zk4, zk5, zk6, zk7, zk8]
        refine wpAnyH_take (i := 6) (v := .iface 59 (.pointer (some ⟨v0.heap.size, 0, none⟩))) rfl (by kernel_rfl) (by kernel_rfl) (by kernel_rfl) (fun _ _ _ h => h) (Or.inl ⟨by rfl, fun w hSw => by go_simp⟩) h1 ?_
        try simp only [zk1, zk2, zk3, zk4, zk5, zk6, zk7, zk8]
        refine wpAnyH_take (i := 8) (v := .iface 59 (.pointer (some ⟨v0.heap.size, 0, none⟩))) rfl (by kernel_rfl) (by kernel_rfl) (by kernel_rfl) (fun _ _ _ h => h) (Or.inl ⟨by rfl, fun w hSw => by go_simp⟩) h1 ?_
        try simp only [zk1, zk2, zk3, zk4, zk5, zk6, zk7, zk8]
        refine wpAnyH_done (by kernel_rfl) ?_ _
        have HF : Hid (FltAt (v0.alloc (.cells (fltC opG i (errnoV cd)).toArray 63)) v0.heap.size opG i (errnoV cd) ∧ Kept [] w (v0.alloc (.cells (fltC opG i (errnoV cd)).toArray 63))) := hide ⟨new_atK _ _, (HKW.out.trans h0 (by simp)).alloc _⟩
        clear h0 h1 hbl c33 hrG
        go_wp2
        go_ret2
        exact ⟨_, _, rfl, HF.out.2, .inr ⟨rfl, .inr ⟨HIN.out.1, .inr ⟨by rw [HIN.out.2, HIT.out.2.2.2.1]; exact hc1, by rw [HIN.out.2, HIT.out.2.2.2.1]; exact hc0, .inl ⟨by rw [HIN.out.2]; exact HIT.out.2.2.2.2, _, rfl, by rw [HIN.out.2, HIT.out.2.2.2.1]; exact HF.out.1⟩⟩⟩⟩⟩
       | false =>
        as_aux_lemma =>
        go_upto_region 12 with (fail)
        refine wp_region_held_drew (S := fun w' => Kept [] w4 w') (by kernel_rfl) ((Kept.refl [] w4).drew) (fun h0 => ?_)
        generalize World.drew w4 = v0 at h0  ⊢
        refine wpAnyH_take (i := 0) (v := .pointer (some ⟨B, 33, none⟩)) rfl (by kernel_rfl) (by kernel_rfl) (by kernel_rfl) (fun _ _ _ h => h) (Or.inl ⟨by rfl, fun w hSw => by go_simp⟩) h0 ?_
        try simp only [zk1, zk2, zk3, zk4, zk5, zk6, zk7, zk8]
        refine wpAnyH_take (i := 1) (v := .int .i64 cd) rfl (by kernel_rfl) (by kernel_rfl) (by kernel_rfl) (fun _ _ _ h => h) (Or.inl ⟨by rfl, fun w hSw => by have c0 := Kept.cellOf hSw c33 (by simp); go_simp⟩) h0 ?_
        try simp only [zk1, zk2, zk3, zk4, zk5, zk6, zk7, zk8]
        refine wpAnyH_take (i := 2) (v := .iface 57 (.int .i64 cd)) rfl (by kernel_rfl) (by kernel_rfl) (by kernel_rfl) (fun _ _ _ h => h) (Or.inl ⟨by rfl, fun w hSw => by go_simp⟩) h0 ?_
        try simp only [zk1, zk2, zk3, zk4, zk5, zk6, zk7, zk8]
        refine wpAnyH_take (i := 3) (v := .slice none 0 0) rfl (by kernel_rfl) (by kernel_rfl) (by kernel_rfl) (fun _ _ _ h => h) (Or.inl ⟨by rfl, fun w hSw => by go_simp⟩) h0 ?_
        try simp only [zk1, zk2, zk3, zk4, zk5, zk6, zk7, zk8]
        refine wpAnyH_take (i := 4) (v := .iface 57 (.int .i64 cd)) rfl (by kernel_rfl) (by kernel_rfl) (by kernel_rfl) (fun _ _ _ h => h) (Or.inl ⟨by rfl, fun w hSw => by go_simp⟩) h0 ?_
        try simp only [zk1, zk2, zk3, zk4, zk5, zk6, zk7, zk8]
        refine wpAnyH_done (by kernel_rfl) ?_ _
        have HF := hide (HKW.out.trans h0 (by simp))
        clear h0 c33 hrG
        go_wp2
        go_ret2
        exact ⟨_, _, rfl, HF.out, .inr ⟨rfl, .inr ⟨HIN.out.1, .inr ⟨by rw [HIN.out.2, HIT.out.2.2.2.1]; exact hc1, by rw [HIN.out.2, HIT.out.2.2.2.1]; exact hc0, .inr ⟨by rw [HIN.out.2]; exact HIT.out.2.2.2.2, by rw [HIN.out.2, HIT.out.2.2.2.1]; rfl⟩⟩⟩⟩⟩
    ·as_aux_lemma =>
     have heq : ∀ W, (Op.equalIn 10000 25 (.agg (bys x).toArray) (.agg (bys i).toArray)).run Tryz.prog W = .ok false W := fun W => by rw [heqx W, decide_eq_false hxi]
     have HF : Hid (Kept [] w1 w4 ∧ k + 1 ≤ 60 ∧ ∀ j, j < k + 1 → (L.getD j it0).id ≠ i) := hide ⟨HKR.out, by omega, fun y hy => by
      by_cases e : y = k
      ·rw [e, HIT.out.1, HIT.out.2.1]; exact hxi
      ·exact HNO.out y (by omega)⟩
     clear heqx
     go_wp2_with (first
      | refine wpList_load_mid rfl 25 (.tmp 28) rfl B 0 rfl (bys x) _ hrB Tryz.underlying25 rfl hxl ?_
      | refine wpList_load_mid rfl 25 (.tmp 3) rfl G 0 rfl (bys i) _ hrG Tryz.underlying25 rfl hil ?_)
     go_roundw
     case rel => exact ⟨k + 1, by omega, by go_num, HF⟩
     case measure => simp [intOf]; omega
   | false =>
    have hc : ¬ (k < n ∧ k < 60) := by simpa using HBB.out.symm
    have HNI : Hid (i ∉ ids9 L) := hide (fun hm => by
     obtain ⟨y, hy, e⟩ := List.mem_map.1 (mem_canon.1 hm)
     obtain ⟨z, hz, e2⟩ := List.mem_take_iff_getElem.1 hy
     have hz2 : z < L.length := by omega
     refine HC.out.2.2 z (by have := HN.out; omega) ?_
     rw [← e, ← e2]
     simp [List.getElem?_eq_getElem hz2])
    have HKF := hide (HK.out.trans HC.out.1 (by simp))
    clear HC HBB hc
    go_wp2
    go_ret2
    exact ⟨_, _, rfl, HKF.out, .inr ⟨rfl, .inl ⟨HNI.out, rfl⟩⟩⟩
end Go.Proofs.YtngaimahhgmciaaGreatDoor
