import Derived.Test.YtmklodligplbaaaGreatD8sm
import Derived.RangeFuncNested
import Derived.RangeFuncBound
import Derived.RangeFuncCalls
import Derived.RangeFuncLeaves
import Derived.RangeFuncFrom
import Derived.Shelf.Abstract
import Derived.OwnWalkIn
import Derived.TacticsInMore
import Derived.LoopNIn
import Derived.LoopIn
open Go.RowKit
set_option linter.unusedVariables false
set_option linter.unusedSimpArgs false
set_option maxRecDepth 100000
set_option maxHeartbeats 51200000
namespace Go.Proofs.YtmklodligplbaaaGreat
section
open Dlt
theorem cut_from8 (ao : Option Addr) (L cap m : Nat) (hm : m <= L) (hc : L <= cap) : ∃ ao' : Option Addr, (∀ W, (Instr.slice 22 (.slice ao L cap) (some (.int .i64 m)) none none).run Tryz.prog W = .ok (.slice ao' (L - m) (cap - m)) W) ∧ ∀ (w : World) (xs : List UInt8), xs.length = L -> Sl w ao xs -> Sl w ao' (xs.drop m) := by
 have hz : ∀ W, (sizeOf (Tryz.prog.elem 22)).run Tryz.prog W = .ok 1 W := fun W => by kernel_rfl
 have h := fun W => run_slice_l (P := Tryz.prog) W 22 ao L cap (by kernel_rfl) .i64 m (by omega) (by omega)
 cases ao with
 | none =>
  refine ⟨none, fun W => ?_, fun w xs hx hs => ?_⟩
  ·rw [h W, hz]
   simp [sliced]
  ·have : xs = [] := by
    by_cases h0 : xs = []
    ·exact h0
    ·obtain ⟨_, _, e, _⟩ := hs.open h0
     cases e
   subst this
   simpa using Sl.nil w none
 | some a =>
  refine ⟨if cap = m then some a else some (a.add m), fun W => ?_, fun w xs hx hs => ?_⟩
  ·rw [h W, hz]
   by_cases hcm : cap = m <;> simp [sliced, hcm]
  ·by_cases h0 : xs.drop m = []
   ·rw [h0]; exact Sl.nil _ _
   ·have hx0 : xs ≠ [] := by rintro rfl; simp at h0
    obtain ⟨g, off, e, _, _⟩ := hs.open hx0
    cases e
    have := hs.drop m cap (by omega) (by omega)
    rw [Addr.add_mid]
    exact this
theorem cut_weak (ao : Option Addr) (L cap m : Nat) (hm : m <= L) (hc : L <= cap) : ∃ ao' : Option Addr, (∀ W, (Instr.slice 27 (.slice ao L cap) (some (.int .i64 m)) none none).run Tryz.prog W = .ok (.slice ao' (L - m) (cap - m)) W) ∧ ∀ (w : World) (xs : List Wk), xs.length = L -> Wks w ao xs -> Wks w ao' (xs.drop m) := by
 have hz : ∀ W, (sizeOf (Tryz.prog.elem 27)).run Tryz.prog W = .ok 33 W := fun W => by kernel_rfl
 have h := fun W => run_slice_l (P := Tryz.prog) W 27 ao L cap (by kernel_rfl) .i64 m (by omega) (by omega)
 cases ao with
 | none =>
  refine ⟨none, fun W => ?_, fun w xs hx hs => ?_⟩
  ·rw [h W, hz]
   simp [sliced]
  ·have : xs = [] := by
    by_cases h0 : xs = []
    ·exact h0
    ·obtain ⟨_, _, e, _⟩ := hs.open h0
     cases e
   subst this
   simpa using Wks.nil w none
 | some a =>
  refine ⟨if cap = m then some a else some (a.add (m * 33)), fun W => ?_, fun w xs hx hs => ?_⟩
  ·rw [h W, hz]
   by_cases hcm : cap = m <;> simp [sliced, hcm]
  ·by_cases h0 : xs.drop m = []
   ·rw [h0]; exact Wks.nil _ _
   ·have hml : m < xs.length := by
     apply Classical.byContradiction
     intro hh
     exact h0 (List.drop_of_length_le (by omega))
    have hx0 : xs ≠ [] := by rintro rfl; simp at h0
    obtain ⟨g, off, e, _, _⟩ := hs.open hx0
    cases e
    have := hs.drop m
    rw [if_neg (by omega), Addr.add_mid]
    exact this
namespace Dlt
def cntW (w : Int) (z : Nat) : List Wk -> List UInt8 -> Nat
 | [], _ => 0
 | b :: L, ys => if ys.length < z then 0 else if wkEq (weak w (ys.take z)) b then cntW w z L (ys.drop z) + 1 else 0
theorem cntW_le (w : Int) (z : Nat) : ∀ (L : List Wk) (ys : List UInt8), cntW w z L ys <= L.length ∧ cntW w z L ys * z <= ys.length
 | [], ys => by simp [cntW]
 | b :: L, ys => by
  unfold cntW
  split
  ·simp
  ·split
   ·have := cntW_le w z L (ys.drop z)
    rw [List.length_drop] at this
    rw [List.length_cons, Nat.add_mul, Nat.one_mul]
    omega
   ·simp
end Dlt
theorem count_ok (wd : Int) (Z : Nat) (ao : Option Addr) (n cap M : Nat) (L : List Wk) (ro : Option Addr) (rn rc : Nat) (ys : List UInt8) (f : Nat) (w : World) (hL : L.length = n) (hn : n <= 1000000) (hcap : n <= cap) (hW : Wks w ao L) (hyl : ys.length = rn) (hyc : rn <= rc) (hys : Sl w ro ys) (hym : rn <= 1000000) (hf : f <= n) (hZ1 : 1 <= Z) (hZ2 : Z <= 4096) :
  Calls Tryz.prog 65 #[.agg (fdC wd Z ao n cap (some M)).toArray, .slice ro rn rc, .int .i64 f] w fun e w' => e = .returned (.int .i64 (cntW wd Z (L.drop f) ys : Nat)) ∧ Kept [] w w' := by
 have hF := FdAt.new w wd Z ao n cap M
 have k1 := ka w (.cells (fdC wd Z ao n cap (some M)).toArray 105)
 obtain ⟨co, hcut, hcw⟩ := cut_weak ao n cap f hf hcap
 have HWD := hide (hcw _ L hL hW)
 have c2 := hF.c (j := 2) (u := .slice ao n cap) rfl
 have hzk := Tryz.zeroWeak
 have HF := hide hF
 have HK1 := hide k1
 have HYS := hide (ai hyl (ai hyc hys))
 obtain ⟨m, hm⟩ := nm (n - f)
 rw [hm] at hcut
 have HDL : Hid ((L.drop f).length = m) := by show _ = _; rw [List.length_drop, hL, hm]
 have hmn : m <= 1000000 := by omega
 generalize L.drop f = D at HWD HDL
 clear hF hcw hW hL hyl hyc hys k1 hm
 obtain ⟨G, hG⟩ := nm (w.heap.size)
 rw [hG] at c2 HF
 go_enter Tryz.func65, Tryz.ntmps65
 go_upto_region 1 with (fail)
 have HG := hide hG
 clear hG
 generalize w.alloc (.cells (fdC wd Z ao n cap (some M)).toArray 105) = w1 at *
 go_wp2
 go_loopw [1, 7, 15] (fun x y z wr => ∃ (k : Nat) (po : Option Addr) (pn pc : Nat) (zs : List UInt8), k <= m ∧ x = .slice po pn pc ∧ y = .int .i64 k ∧ z = .int .i64 k ∧ pn <= 1000000 ∧ Hid (zs.length = pn ∧ pn <= pc ∧ Sl wr po zs ∧ cntW wd Z D ys = k + cntW wd Z (D.drop k) zs ∧ Kept [] w1 wr)) (fun x y z wr => m - (intOf z).toNat)
 case atStart => exact ⟨0, ro, rn, rc, ys, Nat.zero_le _, rfl, rfl, rfl, hym, HYS.out.1, HYS.out.2.1, HYS.out.2.2.kept HK1.out (by simp), by simp, Kept.refl _ _⟩
 case round =>
  obtain ⟨k, po, pn, pc, zs, hk, rfl, rfl, rfl, hpn, HP⟩ := hrel
  by_cases hlt : k < m
  ·have hkl : k < D.length := by rw [HDL.out]; exact hlt
   obtain ⟨b, off, hco, hrg⟩ := (HWD.out.kept (HK1.out.tr HP.out.2.2.2.2) (by simp)) k hkl
   subst hco
   have HDD : Hid (D.drop k = D.getD k wk0 :: D.drop (k + 1)) := by
    show _ = _
    rw [List.drop_eq_getElem_cons hkl]
    congr 1
    simp [List.getElem?_eq_getElem hkl]
   generalize D.getD k wk0 = e at hrg HDD
   have hnz := heap_new wr (.cells zeroK 45)
   have hil := Tryz.infoWk e
   have hia := Tryz.infoWkA e
   have hzs := zeroK_size e
   have hal := wk_all e
   have hkv := withWk_kept wr e
   have hrw := row_rangeK (withWk_row wr e)
   go_upto_region 5 with (first | refine wpList_load_mid rfl 45 (.tmp 17) rfl b (off + k * 33) rfl e.cells _ hrg Tryz.underlying45 rfl hil ?_ | refine wpList_store_rowTo rfl 45 (.tmp 9) (.tmp 18) rfl rfl wr.heap.size e.cells.toArray rfl rfl 45 zeroK hnz hia hzs hal ?_)
   have hW : (wr.alloc (.cells zeroK 45)).setRow wr.heap.size e.cells.toArray = withWk wr e := rfl
   rw [hW]
   obtain ⟨V5, hV5⟩ := nm (wr.heap.size)
   rw [hV5] at hrw ⊢
   have HK5 := hide (HP.out.2.2.2.2.tr hkv)
   have HS5 := hide (HP.out.2.2.1.kept hkv (by simp))
   have hF5 := HF.out.kept HK5.out (by simp)
   have c0 := hF5.c (j := 0) (u := .int .i64 wd) rfl
   have c1 := hF5.c (j := 1) (u := .int .i64 Z) rfl
   clear hrg hia hzs hal hnz hW hkv hV5 hF5
   generalize withWk wr e = w5 at *
   by_cases hsh : pn < Z
   ·have hshz : (pn : Int) < (Z : Int) := by omega
    have HR : Hid (cntW wd Z D ys = k) := by
     show _ = _
     rw [HP.out.2.2.2.1, HDD.out]
     unfold cntW
     rw [HP.out.1, if_pos hsh, Nat.add_zero]
    clear HP
    refine th w5 fun h0 => ?_
    generalize World.drew w5 = v0 at h0  ⊢
    refine t1 0 (.slice po pn pc) h0 ?_
    try simp only [zz]
    refine t1 1 (.int .i64 pn) h0 ?_
    try simp only [zz]
    refine t1 2 (.pointer (some ⟨G, 1, none⟩)) h0 ?_
    try simp only [zz]
    refine t2 3 (.int .i64 Z) rfl h0 ?_ (fun w hSw => by have c0 := Kept.cellOf hSw c1 (by simp); go_simp)
    try simp only [zz]
    refine t1 4 (.bool true) h0 ?_
    try simp only [zz]
    refine t1 5 (.bool true) h0 ?_
    try simp only [zz]
    refine t3 6 h0 ?_
    try simp only [zz]
    refine t3 7 h0 ?_
    try simp only [zz]
    refine t3 8 h0 ?_
    try simp only [zz]
    refine t3 9 h0 ?_
    try simp only [zz]
    refine t3 10 h0 ?_
    try simp only [zz]
    refine t3 11 h0 ?_
    try simp only [zz]
    refine t3 12 h0 ?_
    try simp only [zz]
    refine t3 13 h0 ?_
    try simp only [zz]
    refine t3 14 h0 ?_
    try simp only [zz]
    refine t1 15 (.bool true) h0 ?_
    try simp only [zz]
    refine dn ?_
    have HKF := hide (HK5.out.tr h0)
    clear h0 c0 c1 hrw
    go_wp2
    go_ret
    exact ⟨by rw [HR.out]; rfl, HK1.out.tr HKF.out⟩
   ·have hshz : ¬ (pn : Int) < (Z : Int) := by omega
    have hcut2 := fun W => Tryz.cutTo W po pn pc Z (by have := HP.out.2.1; omega)
    have hwo := fun W (h : Kept [] w5 W) => weakOf_ok wd po Z pc (zs.take Z) W (by rw [List.length_take, HP.out.1]; omega) (by have := HP.out.2.1; omega) ((HS5.out.kept h (by simp)).take Z) (by omega)
    have HRN : Hid (cntW wd Z D ys = k + (if wkEq (weak wd (zs.take Z)) e then cntW wd Z (D.drop (k + 1)) (zs.drop Z) + 1 else 0)) := by
     show _ = _
     rw [HP.out.2.2.2.1, HDD.out]
     conv => lhs; unfold cntW
     rw [HP.out.1, if_neg hsh]
    generalize weak wd (zs.take Z) = q at hwo HRN
    have heq := fun W => Tryz.eqlWk q e W
    have HWO := hide hwo
    clear hwo
    generalize wkEq q e = ok at heq HRN
    obtain ⟨po', hcf, hsd⟩ := cut_from8 po pn pc Z (by omega) HP.out.2.1
    have HSD := hide (fun W (h : Kept [] w5 W) => hsd W zs HP.out.1 (HS5.out.kept h (by simp)))
    clear hsd
    refine th w5 fun h0 => ?_
    generalize World.drew w5 = v0 at h0  ⊢
    refine t1 0 (.slice po pn pc) h0 ?_
    try simp only [zz]
    refine t1 1 (.int .i64 pn) h0 ?_
    try simp only [zz]
    refine t1 2 (.pointer (some ⟨G, 1, none⟩)) h0 ?_
    try simp only [zz]
    refine t2 3 (.int .i64 Z) rfl h0 ?_ (fun w hSw => by have c0 := Kept.cellOf hSw c1 (by simp); go_simp)
    try simp only [zz]
    refine t1 4 (.bool false) h0 ?_
    try simp only [zz]
    refine t1 5 (.bool false) h0 ?_
    try simp only [zz]
    refine t1 6 (.pointer (some ⟨G, 0, none⟩)) h0 ?_
    try simp only [zz]
    refine t2 7 (.int .i64 wd) rfl h0 ?_ (fun w hSw => by have c0 := Kept.cellOf hSw c0 (by simp); go_simp)
    try simp only [zz]
    refine t1 8 (.slice po pn pc) h0 ?_
    try simp only [zz]
    refine t1 9 (.pointer (some ⟨G, 1, none⟩)) h0 ?_
    try simp only [zz]
    refine t2 10 (.int .i64 Z) rfl h0 ?_ (fun w hSw => by have c0 := Kept.cellOf hSw c1 (by simp); go_simp)
    try simp only [zz]
    refine t2 11 (.slice po Z pc) rfl h0 ?_ (fun w hSw => by have c0 := hcut2 w; go_simp)
    try simp only [zz]
    refine t4 13 (.agg e.cells.toArray) rfl (yieldsIf_load_mid (by rfl) _ _ rfl V5 0 rfl e.cells _ (fun W h j u hu => Kept.cellOf h (hrw j u hu) (by simp)) Tryz.underlying45 rfl hil) h0 ?_
    try simp only [zz]
    refine rd 12 fun K hK => ?_
    go_simp
    refine (HWO.out v0 h0).mono ?_
    rintro e v1 ⟨rfl, hq⟩
    refine hK.out _ _ (h0.tr hq) (fun h1 => ?_)
    clear hK K
    try simp only [zz]
    clear hq h0
    refine t1 14 (.bool (!ok)) h1 ?_
    try simp only [zz]
    refine t1 15 (.bool (!ok)) h1 ?_
    try simp only [zz]
    refine dn ?_
    have HKF := hide (HK5.out.tr h1)
    have c1' := Kept.cellOf h1 c1 (by simp)
    have HSF := hide (HSD.out v1 h1)
    clear h1 c0 c1 hrw heq hcut2 HWO
    cases ok with
    | true =>
     have HR2 : Hid (cntW wd Z D ys = (k + 1) + cntW wd Z (D.drop (k + 1)) (zs.drop Z)) := by show _ = _; rw [HRN.out, if_pos rfl]; omega
     have HLN : Hid ((zs.drop Z).length = pn - Z ∧ pn - Z <= pc - Z) := ⟨by rw [List.length_drop, HP.out.1], by have := HP.out.2.1; omega⟩
     clear HRN HP
     go_wp2
     go_roundw
     case rel => exact ⟨k + 1, po', pn - Z, pc - Z, zs.drop Z, by omega, rfl, by go_num, by go_num, by omega, HLN.out.1, HLN.out.2, HSF.out, HR2.out, HKF.out⟩
     case measure => simp [intOf]; omega
    | false =>
     have HR2 : Hid (cntW wd Z D ys = k) := by show _ = _; rw [HRN.out, if_neg (by simp)]; omega
     clear HRN HP
     go_wp2
     go_ret
     exact ⟨by rw [HR2.out]; rfl, HK1.out.tr HKF.out⟩
  ·obtain rfl : k = m := by omega
   have HR : Hid (cntW wd Z D ys = k) := by
    show _ = _
    rw [HP.out.2.2.2.1, List.drop_of_length_le (by rw [HDL.out]; exact Nat.le_refl _)]
    rfl
   have HKF := hide HP.out.2.2.2.2
   clear HP
   go_wp2
   go_ret
   exact ⟨by rw [HR.out]; rfl, HK1.out.tr HKF.out⟩
end

section
theorem opIn_round {P : Program} {l n : Nat} {o : Oper} {a : Act} {w : World} {K : Act -> World -> Prop} {Q : Exit -> Act -> World -> Prop} (hd : ∀ c, o.op ≠ .defer c) (h : o.wp P a w K Q) : o.wpIn (Fence.wide.inRound l) n P a w K Q := by
 unfold Oper.wp at h
 refine ⟨fun _ _ => trivial, ?_⟩
 rw [Oper.semAt_plain _ _ _ hd]
 generalize (execOp a.eval o).run P w = r at h
 cases r with
 | ok x w' =>
  cases x <;> simp only [Oper.upon, Oper.uponIn] at h ⊢ <;>
   first
    | exact h
    | exact h.elim
    | exact ⟨(fun e => by cases e), CallsIn.inRound l (callsIn_wide.2 h)⟩
    | exact ⟨(fun e => by cases e), (fun c cs _ => (h c cs).elim fun v hh => hh.elim fun w' hh => ⟨v, w', hh.1, stepsIn_wide.2 hh.2⟩)⟩
 | halt x w' => cases x <;> simp only [Oper.upon, Oper.uponIn] at h ⊢ <;> first | exact h | exact h.elim
theorem regionIn_round {P : Program} {l n id : Nat} {ops : Array Oper} {a : Act} {w : World} {Q : Exit -> Act -> World -> Prop} (hm : P.follows .mixedOrders = true) (hQ : ∀ a w, ¬ Q .outgrown a w) (hd : ∀ (i : Nat) (o : Oper) (c : Call), ops[i]? = some o -> o.op ≠ .defer c)
  (h : wpAny P .any ops Q ops.size (Array.replicate ops.size false) a w.drew) : (Code.region id ops true).wpIn (Fence.wide.inRound l) n P Q a w := by
 have go : ∀ (fuel : Nat) (listed : Array Bool) (a : Act) (w : World), wpAny P .any ops Q fuel listed a w -> wpAnyIn (Fence.wide.inRound l) n P .any ops Q fuel listed a w := by
  intro fuel
  induction fuel with
  | zero => intro listed a w h; exact h
  | succ fuel ih =>
   intro listed a w h
   refine ⟨h.1, fun i hi => ?_⟩
   have h1 := h.2 i hi
   unfold wpOp at h1
   unfold wpOpIn
   cases ho : ops[i]? with
   | none => rw [ho] at h1; exact ih _ _ _ h1
   | some o =>
    rw [ho] at h1
    simp only at h1 ⊢
    by_cases hw : Region.wanted o (yielded ops a.tmps) = true
    ·rw [if_pos hw] at h1 ⊢
     rcases h1 with h1 | ⟨_, a0, w0, h1⟩
     ·exact Oper.wpIn_mono (fun a w h => ih _ _ _ h) (opIn_round (fun c => hd i o c ho) h1)
     ·exact absurd h1 (hQ a0 w0)
    ·rw [if_neg hw] at h1 ⊢
     exact ⟨fun _ _ => trivial, ih _ _ _ h1⟩
 exact wpIn_region_any hm (go _ _ _ _ h)
def Oth (A C : World) : Prop := ∀ (i : Nat) (o : Obj), A.heap[i]? = some o -> o.isCells = false -> C.heap[i]? = some o
def Cel (A C : World) : Prop := A.heap.size <= C.heap.size ∧ ∀ (i : Nat) (o : Obj), A.heap[i]? = some o -> o.isCells = true -> C.heap[i]? = some o
theorem Cel.trans {A B C : World} (h : Cel A B) (k : Cel B C) : Cel A C := ⟨Nat.le_trans h.1 k.1, fun i o ho hc => k.2 i o (h.2 i o ho hc) hc⟩
theorem Cel.put {W : World} {l : Nat} {o : Obj} (o' : Obj) (h : W.heap[l]? = some o) (ho : o.isCells = false) : Cel W (W.putObj l o') := by
 refine ⟨by simp, fun i p hp hc => ?_⟩
 have hi : i ≠ l := by rintro rfl; rw [h] at hp; cases hp; rw [ho] at hc; cases hc
 rw [World.putObj_heap_other (by omega)]
 exact hp
theorem Kept.cel {A C : World} (h : Kept [] A C) : Cel A C := ⟨h.size, fun i o ho _ => (h.block i (gs ho).1 (by simp)).trans ho⟩
theorem Kept.oth {A C : World} (h : Kept [] A C) : Oth A C := fun i o ho _ => (h.block i (gs ho).1 (by simp)).trans ho
theorem below_put {B : Nat} {W : World} {l : Nat} (o : Obj) (h : B <= l) : Below B W (W.putObj l o) := ⟨rfl, rfl, rfl, by simp, fun k hk => World.putObj_heap_other (by omega)⟩
def post8 {α : Type} (I Ix : List α -> World -> Prop) (xs : List α) (W : World) : Exit -> Act -> World -> Prop
 | .normal, _, W' => Kept [] W W' ∧ I xs W'
 | .ret, _, W' => Oth W W' ∧ Ix xs W'
 | _, _, _ => False
def Seq8 {α : Type} (n : Nat) (P : Program) (gf : Nat) (lb : Array Value) (encs : α -> Array Value) (S : List α -> Prop) (Nx : List α -> α -> Prop) (w : World) : Prop :=
 ∀ (l : Nat) (J Jx : List α -> World -> Prop) (W : World), Below w.heap.size w W -> (∀ s A C, J s A -> Below W.heap.size A C -> J s C) →
  (∀ pre x W1, J pre W1 -> Nx pre x -> YieldAt Fence.wide (n - 1) P l (encs x) W1 fun e W' => (e = .returned (.bool true) ∧ J (pre ++ [x]) W' ∧ Cel W1 W') ∨ (e = .returned (.bool false) ∧ Jx (pre ++ [x]) W')) →
  J [] W -> CallsIn Fence.wide n P gf (#[.func (.yield l) #[] #[]] ++ lb) W fun e W' => (∃ v, e = .returned v) ∧ ((∃ xs, S xs ∧ J xs W') ∨ ∃ pre, Jx pre W')
theorem range8 {α : Type} {n : Nat} {P : Program} {g : Operand} {ps : Array Tmp} {assign body : Code} {Q : Exit -> Act -> World -> Prop} {a : Act} {w : World}
  {gf : Nat} {lb : Array Value} (hg : a.eval g = .func (.func gf) #[] lb) (eg : ∀ args w, (callFunc gf args).run P w = .ok (.enter gf args) w)
  {encs : α -> Array Value} {S : List α -> Prop} {Nx : List α -> α -> Prop} (hseq : Seq8 (n - 1) P gf lb encs S Nx w) (hps : ∀ x, (encs x).size = ps.size)
  (I Ix : List α -> World -> Prop) (hI : ∀ s A C, I s A -> Below w.heap.size A C -> I s C) (hIx : ∀ s A C, Ix s A -> Below w.heap.size A C -> Ix s C) (h0 : I [] w) (a₁ : α -> Act)
  (hassign : ∀ (l : Nat) (x : α) (W : World) (K : Act -> World -> Prop), K (a₁ x) W →
   assign.wpIn (Fence.wide.inRound l) (n - 1 - 1) P (Exit.then K (fun _ _ _ => False)) { tmps := (ps.zip (encs x)).foldl (fun t (p, v) => t.setIfInBounds p v) a.tmps, defers := [] } W)
  (hbody : ∀ (l : Nat) (pre : List α) (x : α) (W : World), I pre W -> Nx pre x -> body.wpIn (Fence.wide.inRound l) (n - 1 - 1) P (post8 I Ix (pre ++ [x]) W) (a₁ x) W)
  (hdone : ∀ (xs : List α) (W : World), S xs -> I xs W -> W.heap[w.heap.size]? = some (.deferred (some [])) -> Q .normal { a with defers := { target := .collected w.heap.size, args := #[] } :: a.defers } W)
  (hstop : ∀ (pre : List α) (W : World), Ix pre W -> W.heap[w.heap.size]? = some (.deferred (some [])) -> Code.ret.wpIn Fence.wide n P Q { a with defers := { target := .collected w.heap.size, args := #[] } :: a.defers } W) :
  (Code.rangeFunc g ps assign body).wpIn Fence.wide n P Q a w := by
 obtain ⟨b, hb⟩ := nm (w.heap.size)
 refine wpIn_rangeFunc fun fn hfn => ?_
 -- the record of the loop, in each of its states
 let rc : LoopState -> Option Code -> Obj := fun st pe => .loop { state := st, pending := pe, fn, tmps := a.tmps, params := ps, assign, body, defers := w.heap.size }
 obtain ⟨W1, hW1⟩ := nm ((w.alloc (.deferred (some []))).alloc (rc .ready none))
 have z1 : W1.heap.size = b + 2 := by rw [<-hW1, <-hb]; simp
 have kw : Below w.heap.size w W1 := by rw [<-hW1]; exact ((Below.refl _ w).alloc (Nat.le_refl _) _).alloc (by simp) _
 have r1 : W1.heap[b + 1]? = some (rc .ready none) := by
  rw [<-hW1, <-hb]
  have := World.alloc_heap_new (w.alloc (.deferred (some []))) (rc .ready none)
  rwa [World.size_alloc] at this
 have d1 : W1.heap[b]? = some (.deferred (some [])) := by
  rw [<-hW1, <-hb]
  exact (Below.heap_alloc _ _ _ (by simp)).trans (World.alloc_heap_new w _)
 refine ⟨b + 1, [{ target := .collected b, args := #[] }], W1, { target := .fn (.func gf) lb, args := #[.func (.yield (b + 1)) #[] #[]] }, W1, gf, #[.func (.yield (b + 1)) #[] #[]] ++ lb, W1, ?_, ?_, fun _ _ => trivial, ?_, fun e => (by cases e), ?_⟩
 ·rw [<-hW1, <-hb]
  exact run_enterLoop_outer _ _ _ _ _
 ·simp only [resolve, hg]
  simp [go_sem]
 ·simp [invoke, go_sem, eg]
 -- while it runs: the caller's word, the record, the block for deferred calls
 refine (hseq (b + 1) (fun pre W => I pre W ∧ W.heap[b + 1]? = some (rc .ready none) ∧ W.heap[b]? = some (.deferred (some []))) (fun pre W => Ix pre W ∧ W.heap[b + 1]? = some (rc .done (some .ret)) ∧ W.heap[b]? = some (.deferred (some []))) W1 kw ?_ ?_ ⟨hI _ _ _ h0 kw, r1, d1⟩).mono ?_
 ·rintro s A C ⟨h1, h2, h3⟩ hk
  have hlt : b + 1 < W1.heap.size := by omega
  exact ⟨hI _ _ _ h1 (hk.mono (by omega)), (hk.block _ hlt).trans h2, (hk.block _ (by omega)).trans h3⟩
 ·rintro pre x W ⟨hi, hl, hk⟩ hlen
  have hy := run_yield (P := P) (args := encs x) hl (hps x)
  refine ⟨fn, _, assign, body, hy, roundIn_of_wpIn hfn (hassign _ x W _ ⟨_, run_beginRound hl rfl, ?_⟩)⟩
  obtain ⟨W2, hW2⟩ := nm (W.putObj (b + 1) (rc .busy none))
  have hll : b + 1 < W.heap.size := (gs hl).1
  have r2 : W2.heap[b + 1]? = some (rc .busy none) := by rw [<-hW2]; exact World.putObj_heap_same hll
  have d2 : W2.heap[b]? = some (.deferred (some [])) := by rw [<-hW2]; exact (World.putObj_heap_other (by omega)).trans hk
  have i2 : I pre W2 := hI _ _ _ hi (by rw [<-hW2]; exact below_put _ (by omega))
  have c2 : Cel W W2 := by rw [<-hW2]; exact Cel.put _ hl rfl
  show body.wpIn (Fence.wide.inRound (b + 1)) (n - 1 - 1) P _ (a₁ x) (W.putObj (b + 1) (rc .busy none))
  rw [hW2]
  refine wpIn_mono (hbody _ pre x W2 i2 hlen) ?_
  intro e a3 W3 hp
  cases e with
  | normal =>
   obtain ⟨hk3, hi3⟩ := hp
   have r3 := hk3.oth _ _ r2 rfl
   have d3 := hk3.oth _ _ d2 rfl
   have hr := run_endRound (P := P) none r3
   exact ⟨_, _, hr, .inl ⟨rfl, ⟨hI _ _ _ hi3 (below_put _ (by omega)), World.putObj_heap_same (gs r3).1, (World.putObj_heap_other (by omega)).trans d3⟩, (c2.trans hk3.cel).trans (Cel.put _ r3 rfl)⟩⟩
  | ret =>
   obtain ⟨ho3, hi3⟩ := hp
   have r3 := ho3 _ _ r2 rfl
   have d3 := ho3 _ _ d2 rfl
   have hr := run_endRound (P := P) (some .ret) r3
   exact ⟨_, _, hr, .inr ⟨rfl, hIx _ _ _ hi3 (below_put _ (by omega)), World.putObj_heap_same (gs r3).1, (World.putObj_heap_other (by omega)).trans d3⟩⟩
  | exit id => exact hp.elim
  | goto t => exact hp.elim
  | panic ch => exact hp.elim
  | outgrown => exact hp.elim
 ·rintro e W2 ⟨⟨v, rfl⟩, (⟨xs, hS, hi, hl, hk⟩ | ⟨pre, hi, hl, hk⟩)⟩
  ·refine ⟨none, _, run_endLoop (P := P) hl (by simp), ?_⟩
   have hd := hdone xs (W2.putObj (b + 1) (rc .exhausted none)) hS (hI _ _ _ hi (below_put _ (by omega))) (by rw [hb]; exact (World.putObj_heap_other (by omega)).trans hk)
   rw [hb] at hd
   exact hd
  ·refine ⟨some .ret, _, run_endLoop (P := P) hl (by simp), ?_⟩
   have hd := hstop pre (W2.putObj (b + 1) (rc .exhausted (some .ret))) (hIx _ _ _ hi (below_put _ (by omega))) (by rw [hb]; exact (World.putObj_heap_other (by omega)).trans hk)
   rw [hb] at hd
   exact hd
end

end Go.Proofs.YtmklodligplbaaaGreat
