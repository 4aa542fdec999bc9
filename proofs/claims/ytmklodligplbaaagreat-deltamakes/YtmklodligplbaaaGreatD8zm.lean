import Derived.Test.YtmklodligplbaaaGreatD8wm
open Go.RowKit
set_option linter.unusedVariables false
set_option linter.unusedSimpArgs false
set_option maxRecDepth 100000
set_option maxHeartbeats 51200000
namespace Go.Proofs.YtmklodligplbaaaGreat
section
open Dlt
namespace Dlt
theorem nextI_cases (wd : Int) (Z : Nat) (L : List Wk) (ys : List UInt8) : (nextI wd Z L ys = (ys.length, 0) ∧ ∀ k, k < ys.length + 1 - Z -> fitI wd Z L ys k = none) ∨ ∃ k i, nextI wd Z L ys = (k, i) ∧ k < ys.length + 1 - Z ∧ fitI wd Z L ys k = some i ∧ ∀ j, j < k -> fitI wd Z L ys j = none := by
 cases h : (List.range (ys.length + 1 - Z)).find? (fun k => (fitI wd Z L ys k).isSome) with
 | none =>
  left
  rw [List.find?_eq_none] at h
  have hn : ∀ k, k < ys.length + 1 - Z -> fitI wd Z L ys k = none := fun k hk => by
   have := h k (by simpa using hk)
   simpa using this
  exact ⟨nextI_none hn, hn⟩
 | some k =>
  right
  have hm := List.mem_of_find?_eq_some h
  have hp := List.find?_some h
  simp only [List.mem_range] at hm
  obtain ⟨i, hi⟩ := Option.isSome_iff_exists.1 hp
  refine ⟨k, i, ?_, hm, hi, ?_⟩
  ·unfold nextI
   rw [h]
   simp [hi]
  ·intro j hj
   have h2 := h
   rw [List.find?_range_eq_some] at h2
   have := h2.2.2 j hj
   simpa using this
theorem leastI_some {L : List Wk} {x : Int} {id : List UInt8} {i : Nat} (h : leastI L x id = some i) : i < L.length ∧ (L.getD i wk0).sum = x ∧ (L.getD i wk0).id = id := by
 have hm := List.mem_of_find?_eq_some h
 have hp := List.find?_some h
 simp only [Bool.and_eq_true, beq_iff_eq] at hp
 exact ⟨by simpa using hm, hp.1, hp.2⟩
theorem next_cnt {wd : Int} {Z : Nat} {L : List Wk} {ys : List UInt8} (hZ : 1 <= Z) (h : (nextI wd Z L ys).1 < ys.length) : (nextI wd Z L ys).2 < L.length ∧ 1 <= cntW wd Z (L.drop (nextI wd Z L ys).2) (ys.drop (nextI wd Z L ys).1) := by
 rcases nextI_cases wd Z L ys with ⟨e, _⟩ | ⟨k, i, e, hk, hi, _⟩
 ·rw [e] at h
  exact absurd h (Nat.lt_irrefl _)
 ·rw [e]
  obtain ⟨h1, h2, h3⟩ := leastI_some hi
  refine ⟨h1, ?_⟩
  have hd : L.drop i = L.getD i wk0 :: L.drop (i + 1) := by
   rw [List.drop_eq_getElem_cons h1]
   congr 1
   simp [List.getElem?_eq_getElem h1]
  show 1 <= cntW wd Z (L.drop i) (ys.drop k)
  rw [hd]
  unfold cntW
  rw [if_neg (by rw [List.length_drop]; omega), if_pos ?_]
  ·omega
  ·rw [wkEq_iff]
   exact Wk.ext' h2.symm h3.symm
def accL (acc : List Stp) (ys : List UInt8) (a : Nat) : List Stp := if 0 < a then acc ++ [.lit (ys.take a)] else acc
def insF (wd : Int) (Z : Nat) (L : List Wk) : Nat -> List Stp -> List UInt8 -> List Stp
 | 0, acc, _ => acc
 | k + 1, acc, ys =>
  if ys = [] ∨ 2048 < acc.length then acc
  else if ys.drop (nextI wd Z L ys).1 = [] then accL acc ys (nextI wd Z L ys).1
  else insF wd Z L k (accL acc ys (nextI wd Z L ys).1 ++ [.copy (nextI wd Z L ys).2 (cntW wd Z (L.drop (nextI wd Z L ys).2) (ys.drop (nextI wd Z L ys).1))]) ((ys.drop (nextI wd Z L ys).1).drop (cntW wd Z (L.drop (nextI wd Z L ys).2) (ys.drop (nextI wd Z L ys).1) * Z))
theorem ins_short {wd : Int} {Z : Nat} {L : List Wk} {ys : List UInt8} (hZ : 1 <= Z) (h : ys.drop (nextI wd Z L ys).1 ≠ []) : ((ys.drop (nextI wd Z L ys).1).drop (cntW wd Z (L.drop (nextI wd Z L ys).2) (ys.drop (nextI wd Z L ys).1) * Z)).length < ys.length := by
 have hlt : (nextI wd Z L ys).1 < ys.length := by
  apply Classical.byContradiction; intro hh
  exact h (List.drop_of_length_le (by omega))
 have hc := (next_cnt hZ hlt).2
 have : 1 * 1 <= cntW wd Z (L.drop (nextI wd Z L ys).2) (ys.drop (nextI wd Z L ys).1) * Z := Nat.mul_le_mul hc hZ
 rw [List.length_drop, List.length_drop]
 omega
theorem insF_fuel {wd : Int} {Z : Nat} {L : List Wk} (hZ : 1 <= Z) : ∀ (k k' : Nat) (acc : List Stp) (ys : List UInt8), ys.length <= k -> ys.length <= k' -> insF wd Z L k acc ys = insF wd Z L k' acc ys
 | 0, k', acc, ys, h, _ => by
  have : ys = [] := List.length_eq_zero_iff.1 (by omega)
  subst this
  cases k' with
  | zero => rfl
  | succ k' => simp [insF]
 | k + 1, 0, acc, ys, _, h => by
  have : ys = [] := List.length_eq_zero_iff.1 (by omega)
  subst this
  simp [insF]
 | k + 1, k' + 1, acc, ys, h1, h2 => by
  unfold insF
  split
  ·rfl
  ·split
   ·rfl
   ·next h =>
    have := ins_short (L := L) (wd := wd) hZ h
    exact insF_fuel hZ k k' _ _ (by omega) (by omega)
def ins (wd : Int) (Z : Nat) (L : List Wk) (acc : List Stp) (ys : List UInt8) : List Stp := insF wd Z L ys.length acc ys
theorem ins_stop {wd : Int} {Z : Nat} {L : List Wk} {acc : List Stp} {ys : List UInt8} (h : ys = [] ∨ 2048 < acc.length) : ins wd Z L acc ys = acc := by
 unfold ins
 cases hk : ys.length with
 | zero => rfl
 | succ k => unfold insF; rw [if_pos h]
theorem ins_end {wd : Int} {Z : Nat} {L : List Wk} {acc : List Stp} {ys : List UInt8} (h : ys ≠ []) (h2 : acc.length <= 2048) (h3 : ys.drop (nextI wd Z L ys).1 = []) : ins wd Z L acc ys = accL acc ys (nextI wd Z L ys).1 := by
 unfold ins
 cases hk : ys.length with
 | zero => exact absurd (List.length_eq_zero_iff.1 hk) h
 | succ k => unfold insF; rw [if_neg (by simp [h]; omega), if_pos h3]
theorem ins_go {wd : Int} {Z : Nat} {L : List Wk} {acc : List Stp} {ys : List UInt8} (hZ : 1 <= Z) (h : ys ≠ []) (h2 : acc.length <= 2048) (h3 : ys.drop (nextI wd Z L ys).1 ≠ []) :
  ins wd Z L acc ys = ins wd Z L (accL acc ys (nextI wd Z L ys).1 ++ [.copy (nextI wd Z L ys).2 (cntW wd Z (L.drop (nextI wd Z L ys).2) (ys.drop (nextI wd Z L ys).1))]) ((ys.drop (nextI wd Z L ys).1).drop (cntW wd Z (L.drop (nextI wd Z L ys).2) (ys.drop (nextI wd Z L ys).1) * Z)) := by
 have hs := ins_short (L := L) (wd := wd) hZ h3
 conv => lhs; unfold ins
 cases hk : ys.length with
 | zero => exact absurd (List.length_eq_zero_iff.1 hk) h
 | succ k =>
  conv => lhs; unfold insF
  rw [if_neg (by simp [h]; omega), if_neg h3]
  exact insF_fuel hZ _ _ _ _ (by omega) (Nat.le_refl _)
end Dlt
def StpV (w : World) : Stp -> Value -> Prop
 | .copy f c, v => v = .iface 112 (.agg #[.int .i64 (f : Nat), .int .i64 (c : Nat)])
 | .lit bs, v => ∃ ao n cap, v = .iface 109 (.slice ao n cap) ∧ bs.length = n ∧ n <= cap ∧ Sl w ao bs
theorem StpV.kept {w w' : World} {s : Stp} {v : Value} (h : StpV w s v) (hk : Kept [] w w') : StpV w' s v := by
 cases s with
 | copy f c => exact h
 | lit bs =>
  obtain ⟨ao, n, cap, e, h1, h2, h3⟩ := h
  exact ⟨ao, n, cap, e, h1, h2, h3.kept hk (by simp)⟩
theorem StpV.one {w : World} {s : Stp} {v : Value} (h : StpV w s v) : v.oneCell' = true := by
 cases s with
 | copy f c => rw [show v = _ from h]; rfl
 | lit bs => obtain ⟨ao, n, cap, e, _⟩ := h; rw [e]; rfl
structure InsAt (w0 w : World) (v : Value) (L : List Stp) : Prop where
 out : ∃ vals, w.ownsRow w0.heap.size 123 1 v L.length vals ∧ vals.length = L.length ∧ ∀ (i : Nat) s u, L[i]? = some s -> vals[i]? = some u -> StpV w0 s u
theorem InsAt.nil (w0 w : World) : InsAt w0 w (.slice none 0 0) [] := ⟨[], World.ownsRow_nil _ _ _ _, rfl, by simp⟩
theorem InsAt.kept {w0 w w' : World} {v : Value} {L : List Stp} (h : InsAt w0 w v L) (hk : Kept [] w w') : InsAt w0 w' v L := by
 obtain ⟨vals, h1, h2⟩ := h.out
 exact ⟨vals, own_same h1 (fun g hg => hk.block g (own_blk h1 hg).2.1 (by simp)), h2⟩
theorem InsAt.shape {w0 w : World} {v : Value} {L : List Stp} (h : InsAt w0 w v L) : ∃ ao cap, v = .slice ao L.length cap ∧ L.length <= cap := by
 obtain ⟨vals, h1, _⟩ := h.out
 obtain ⟨ao, cap, e, h3⟩ := own_shape h1
 exact ⟨ao, cap, e, h3⟩
theorem Tryz.infoIns8 : (Tryz.prog.info? 123).map (fun i => (i.zero, i.size, i.bytes)) = some (some .nilIface, 1, 16) := by kernel_rfl
theorem InsAt.add {w0 w : World} {v : Value} {L : List Stp} (h : InsAt w0 w v L) (hL : L.length <= 4096) (h0 : Kept [] w0 w) (W : World) (hW : Kept [] w W) (N : Nat) (s : Stp) (u : Value) (hu : StpV w0 s u) (hN : W.cell? ⟨N, 0, none⟩ = some u) :
  ∃ v' W2, (Builtin.append_ #[64, 64] 64 #[v, .slice (some ⟨N, 0, none⟩) 1 1]).run Tryz.prog W = .ok v' W2 ∧ InsAt w0 W2 v' (L ++ [s]) ∧ Kept v.ownBlock.toList W W2 ∧ Kept [] w0 W2 := by
 obtain ⟨vals, h1, h2, h3⟩ := (h.kept hW).out
 obtain ⟨i0, hi, hz0, hz1, hz2⟩ := info_parts Tryz.infoIns8
 obtain ⟨v', W2, hrun, h4, h5, _, h7⟩ := run_append_own_at (P := Tryz.prog) W w0.heap.size 64 64 123 i0 .nilIface 1 16 Tryz.underlying64 hi hz0 hz1 hz2 rfl (by decide) v _ _ h1 ⟨N, 0, none⟩ 1 1 [u] rfl (by
  intro j x hx
  cases j with
  | zero => simp only [List.getElem?_cons_zero, Option.some.injEq] at hx; subst hx; rw [Addr.add_mid]; exact hN
  | succ j => simp at hx) (by simp [hu.one]) (by unfold maxLen; omega) (by omega) (Nat.le_trans h0.size hW.size)
 have hk2 : Kept v.ownBlock.toList W W2 := (Kept.refl _ W).grown h5 (fun g hg _ => by rw [hg]; simp)
 refine ⟨v', W2, hrun, ⟨vals ++ [u], by rw [List.length_append]; exact h4, by simp [h2], ?_⟩, hk2, (h0.tr hW).trans hk2 (fun i hi hlt => ?_)⟩
 ·intro i s' u' hs' hu'
  by_cases hil : i < L.length
  ·rw [List.getElem?_append_left hil] at hs'
   rw [List.getElem?_append_left (by omega)] at hu'
   exact h3 i s' u' hs' hu'
  ·have hl := (List.getElem?_eq_some_iff.1 hs').1
   rw [List.length_append, List.length_singleton] at hl
   have e : i = L.length := by omega
   subst e
   rw [List.getElem?_append_right (Nat.le_refl _), Nat.sub_self] at hs'
   rw [List.getElem?_append_right (by omega), h2, Nat.sub_self] at hu'
   cases hs'
   cases hu'
   exact hu
 ·have hg : v.ownBlock = some i := by simpa using hi
  have := (own_blk h1 hg).1
  omega
end

section
open Dlt
theorem wpList_appendRun8 {ops : Array Oper} {rest : List Oper} {o : Oper} {a : Act} {w : World} {Q : Exit -> Act -> World -> Prop} (hgd : o.guard = none) (d s : Operand) (t : TypeId)
  (ho : o.op = .call { callee := .builtin .append, args := #[d, s], argTypes := #[t, t] }) (v u : Value) (hd : a.eval d = v) (hs : a.eval s = u) {v' : Value} {w' : World}
  (hr : (Builtin.append_ #[t, t] o.type #[v, u]).run Tryz.prog w = .ok v' w') (h : wpList Tryz.prog ops Q rest (a.put o.dst v') w') : wpList Tryz.prog ops Q (o :: rest) a w :=
 wpList_plain hgd fun _ hK => wp_append_run8 w d s t ho v u hd hs hr (hK _ _ h)
theorem Tryz.infoRun : (Tryz.prog.info? 112).map (·.size) = some 2 := by kernel_rfl
theorem Tryz.zeroRun (W : World) : (zeroValue 112).run Tryz.prog W = .ok (.agg #[.int .i64 0, .int .i64 0]) W := by kernel_rfl
theorem runLength_ok (f c z : Nat) (w : World) (h : c * z <= 4611686018427387904) :
  Calls Tryz.prog 66 #[.agg #[.int .i64 f, .int .i64 c], .int .i64 z] w fun e w' => e = .returned (.int .i64 (c * z : Nat)) ∧ Kept [] w w' := by
 have HK := hide ((Kept.refl [] w).alloc (.cells #[.int .i64 f, .int .i64 c] 112))
 have c1 : (w.alloc (.cells #[.int .i64 f, .int .i64 c] 112)).cell? ⟨w.heap.size, 1, none⟩ = some (.int .i64 c) := by rw [cell_of_row _ _ _ _ _ _ (heap_new w _)]; rfl
 have hmul : IntKind.i64.wrap ((c : Int) * (z : Int)) = ((c * z : Nat) : Int) := by
  have e : ((c : Int) * (z : Int)) = ((c * z : Nat) : Int) := by simp
  rw [e]
  generalize c * z = m at h
  simp [IntKind.wrap, IntKind.bits, IntKind.signed]; omega
 clear h
 go_enter Tryz.func66, Tryz.ntmps66
 go_wp2
 go_ret
 exact ⟨rfl, HK.out⟩
theorem InsAt.blk {w0 w : World} {v : Value} {L : List Stp} (h : InsAt w0 w v L) {g : Nat} (hg : v.ownBlock = some g) : g < w.heap.size := by
 obtain ⟨vals, h1, _⟩ := h.out
 exact (own_blk h1 hg).2.1
theorem instructions_ok (s : Sig) (Z : Nat) (ao : Option Addr) (n cap : Nat) (to : Option Addr) (tn tc : Nat) (ys : List UInt8) (w : World) (hI : SigIn w s ao n cap) (hn : n <= 1000000) (hz : s.size = (Z : Nat)) (hZ1 : 1 <= Z) (hZ2 : Z <= 4096) (hyl : ys.length = tn) (hyc : tn <= tc) (hys : Sl w to ys) (hym : tn <= 1000000) :
  Calls Tryz.prog 34 #[.agg (s.cells (.slice ao n cap)).toArray, .slice to tn tc] w fun e w' => ∃ v w0, e = .returned v ∧ InsAt w0 w' v (ins s.width Z s.blocks [] ys) ∧ Kept [] w w0 ∧ Kept [] w0 w' := by
 have hzf := Tryz.zeroFd
 have hA := SigAt.new w s (.slice ao n cap)
 have k1 := ka w (.cells (s.cells (.slice ao n cap)).toArray 29)
 have hrg := hA.range
 have hil := Tryz.infoSig s (.slice ao n cap)
 have hfo := finderOf_ok s ao n cap _ (hI.kept k1) hn
 rw [hz] at hfo
 have HIN := hide (ai hI (ai hyl (ai hyc (ai hys k1))))
 clear hA k1 hI hyl hyc hys
 go_enter Tryz.func34, Tryz.ntmps34
 go_upto_region 2 with (first
  | refine wpList_load_mid rfl 29 (.tmp 2) rfl w.heap.size 0 rfl (s.cells (.slice ao n cap)) _ hrg Tryz.underlying29 rfl hil ?_
  | (go_at_call 63; refine hfo.mono ?_; clear hfo; rintro e w2 ⟨M, rfl, ⟨KI, VI, hFm⟩, hk2⟩; have HFM := hide (ai hFm hk2); have hnf := heap_new w2 (.cells (fdC 0 0 none 0 0 none).toArray 105); clear hFm hk2 hrg hil)
  | refine wpList_store_rowTo rfl 105 (.tmp 5) (.tmp 12) rfl rfl w2.heap.size (fdC s.width Z ao n cap (some M)).toArray rfl rfl 105 (fdC 0 0 none 0 0 none).toArray hnf (Tryz.infoFdA _ _ _ _ _ _) rfl (fd_all _ _ _ _ _ _) ?_)
 have k4 : Kept [] w2 ((w2.alloc (.cells (fdC 0 0 none 0 0 none).toArray 105)).setRow w2.heap.size (fdC s.width Z ao n cap (some M)).toArray) := ((Kept.refl [] _).alloc _).tr (kept_row _ _ _)
 have hF0 : FdAt ((w2.alloc (.cells (fdC 0 0 none 0 0 none).toArray 105)).setRow w2.heap.size (fdC s.width Z ao n cap (some M)).toArray) w2.heap.size s.width Z ao n cap M := ⟨setRow_heap _ _ _ _ _ _ hnf⟩
 have HS : Hid (Kept [] w ((w2.alloc (.cells (fdC 0 0 none 0 0 none).toArray 105)).setRow w2.heap.size (fdC s.width Z ao n cap (some M)).toArray) ∧ Fm ((w2.alloc (.cells (fdC 0 0 none 0 0 none).toArray 105)).setRow w2.heap.size (fdC s.width Z ao n cap (some M)).toArray) (w.alloc (.cells (s.cells (.slice ao n cap)).toArray 29)).heap.size M s.blocks n KI VI ∧ FdAt ((w2.alloc (.cells (fdC 0 0 none 0 0 none).toArray 105)).setRow w2.heap.size (fdC s.width Z ao n cap (some M)).toArray) w2.heap.size s.width Z ao n cap M) := ⟨((HIN.out.2.2.2.2.tr HFM.out.2).tr k4), HFM.out.1.kept k4, hF0⟩
 clear k4 hF0 hnf HFM
 generalize (w2.alloc (.cells (fdC 0 0 none 0 0 none).toArray 105)).setRow w2.heap.size (fdC s.width Z ao n cap (some M)).toArray = w3 at HS ⊢
 generalize w2.heap.size = Fb at HS ⊢
 generalize w.heap.size = G
 clear w2 hzf
 go_wp2
 go_loopw [6, 7] (fun x y wr => ∃ (lo : Option Addr) (ln lc : Nat) (acc : List Stp) (po : Option Addr) (pn pc : Nat) (zs : List UInt8), x = .slice lo ln lc ∧ y = .slice po pn pc ∧ ln <= 2050 ∧ pn <= 1000000 ∧ Hid (acc.length = ln ∧ InsAt w3 wr (.slice lo ln lc) acc ∧ Kept [] w3 wr ∧ zs.length = pn ∧ pn <= pc ∧ Sl w3 po zs ∧ ins s.width Z s.blocks [] ys = ins s.width Z s.blocks acc zs)) (fun x y wr => (match y with | .slice _ n _ => n | _ => 0))
 case atStart => exact ⟨none, 0, 0, [], to, tn, tc, ys, rfl, rfl, by omega, hym, rfl, InsAt.nil _ _, Kept.refl _ _, HIN.out.2.1, HIN.out.2.2.1, HIN.out.2.2.2.1.kept HS.out.1 (by simp), rfl⟩
 case round =>
  obtain ⟨lo, ln, lc, acc, po, pn, pc, zs, rfl, rfl, hln, hpn, HP⟩ := hrel
  by_cases hp0 : pn = 0
  ·subst hp0
   have HR : Hid (ins s.width Z s.blocks [] ys = acc) := by
    show _ = _
    rw [HP.out.2.2.2.2.2.2]
    exact ins_stop (.inl (List.length_eq_zero_iff.1 HP.out.2.2.2.1))
   go_wp2
   go_ret
   exact ⟨_, w3, rfl, by rw [HR.out]; exact HP.out.2.1, HS.out.1, HP.out.2.2.1⟩
  ·have hp1 : 0 < pn := by omega
   by_cases hl : 2048 < ln
   ·have HR : Hid (ins s.width Z s.blocks [] ys = acc) := by
     show _ = _
     rw [HP.out.2.2.2.2.2.2]
     exact ins_stop (.inr (by rw [HP.out.1]; exact hl))
    go_wp2
    go_ret
    exact ⟨_, w3, rfl, by rw [HR.out]; exact HP.out.2.1, HS.out.1, HP.out.2.2.1⟩
   ·have hl2 : ln <= 2048 := by omega
    have hFr := HS.out.2.2.kept HP.out.2.2.1 (by simp)
    have hrg := hFr.range
    have hnx := next_ok s.width Z ao n cap M s.blocks po pn pc zs wr _ KI VI HIN.out.1.len hn HIN.out.1.le (HIN.out.1.at_.kept (HS.out.1.tr HP.out.2.2.1) (by simp)) (HS.out.2.1.kept HP.out.2.2.1) HP.out.2.2.2.1 HP.out.2.2.2.2.1 (HP.out.2.2.2.2.2.1.kept HP.out.2.2.1 (by simp)) hpn hZ1 hZ2
    have HNL := hide (nextI_le s.width Z s.blocks zs)
    have HGO := hide (fun h : zs.drop (nextI s.width Z s.blocks zs).1 ≠ [] => ins_go (acc := acc) (wd := s.width) (L := s.blocks) hZ1 (by rintro rfl; simp at h) (by rw [HP.out.1]; exact hl2) h)
    have HNC := hide (fun h : (nextI s.width Z s.blocks zs).1 < zs.length => next_cnt (wd := s.width) (L := s.blocks) hZ1 h)
    have HEN := hide (fun h : zs.drop (nextI s.width Z s.blocks zs).1 = [] => ins_end (acc := acc) (wd := s.width) (Z := Z) (L := s.blocks) (by rintro rfl; have := HP.out.2.2.2.1; simp at this; omega) (by rw [HP.out.1]; exact hl2) h)
    have HF4 := hide hFr
    clear hFr
    obtain ⟨a, f, haf⟩ : ∃ a f, nextI s.width Z s.blocks zs = (a, f) := ⟨_, _, rfl⟩
    rw [haf] at hnx HNL HGO HNC HEN
    simp only at hnx HNL HGO HNC HEN
    have han : a <= pn := by have := HNL.out; rw [HP.out.2.2.2.1] at this; exact this
    clear haf HNL
    have hilF := Tryz.infoFd
    go_upto_region 6 with (first
     | refine wpList_load_mid rfl 105 (.tmp 5) rfl Fb 0 rfl (fdC s.width Z ao n cap (some M)) _ hrg Tryz.underlying105 rfl hilF ?_
     | (go_at_call 64; refine hnx.mono ?_; clear hnx; rintro e w4 ⟨rfl, hk4⟩; have HK4 := hide hk4; clear hk4 hrg))
    by_cases ha : a = 0
    ·have HT : Hid (InsAt w3 w4 (.slice lo ln lc) acc ∧ Kept [] w3 w4 ∧ acc.length = ln ∧ accL acc zs a = acc) := ⟨HP.out.2.1.kept HK4.out, HP.out.2.2.1.tr HK4.out, HP.out.1, by unfold accL; rw [if_neg (by omega)]⟩
     have hl3 : ln <= 2049 := by omega
     subst ha
     simp only [List.drop_zero] at HGO HNC HEN
     go_upto_region 8 with (fail)
     have HSD := hide HP.out.2.2.2.2.2.1
     have HDL : Hid (zs.length = pn ∧ pn <= pc) := ⟨HP.out.2.2.2.1, HP.out.2.2.2.2.1⟩
     have hlt : 0 < zs.length := by rw [HP.out.2.2.2.1]; omega
     have hne : zs ≠ [] := fun h => by have := congrArg List.length h; rw [HP.out.2.2.2.1] at this; simp at this; omega
     obtain ⟨hf, hc1⟩ := HNC.out hlt
     have hcl := cntW_le s.width Z (s.blocks.drop f) zs
     have hfn : f <= n := by have := HIN.out.1.len; omega
     have hct := count_ok s.width Z ao n cap M s.blocks po pn pc zs f w4 HIN.out.1.len hn HIN.out.1.le (HIN.out.1.at_.kept (HS.out.1.tr HT.out.2.1) (by simp)) HDL.out.1 HDL.out.2 (HSD.out.kept HT.out.2.1 (by simp)) (by omega) hfn hZ1 hZ2
     have HG2 : Hid (ins s.width Z s.blocks [] ys = ins s.width Z s.blocks (acc ++ [.copy f (cntW s.width Z (s.blocks.drop f) zs)]) (zs.drop (cntW s.width Z (s.blocks.drop f) zs * Z))) := by
      show _ = _
      rw [HP.out.2.2.2.2.2.2, HGO.out hne, HT.out.2.2.2]
     rw [HDL.out.1] at hcl
     generalize cntW s.width Z (s.blocks.drop f) zs = c at hct HG2 hc1 hcl
     have hF5 := HS.out.2.2.kept HT.out.2.1 (by simp)
     have hrg := hF5.range
     obtain ⟨hcl1, hcl2⟩ := hcl
     clear hcl1 hf hF5 HGO HEN HNC hne
     have HLT : Hid (pn <= pn) := by show _ <= _; omega
     have hp9 : 0 < pn := by omega
     have HDD := hide hpn
     have HC1 := hide hc1
     clear hc1
     have hzr := Tryz.zeroRun
     go_upto_region 11 with (first
      | refine wpList_load_mid rfl 105 (.tmp 5) rfl Fb 0 rfl (fdC s.width Z ao n cap (some M)) _ hrg Tryz.underlying105 rfl hilF ?_
      | (go_at_call 65; refine hct.mono ?_; clear hct; rintro e w6 ⟨rfl, hk6⟩; have HK6 := hide hk6; have hnr := heap_new w6 (.cells #[.int .i64 0, .int .i64 0] 112); clear hk6 hrg)
      | refine wpList_store_rowTo rfl 112 (.tmp 10) (.tmp 48) rfl rfl w6.heap.size #[.int .i64 f, .int .i64 c] rfl rfl 112 #[.int .i64 0, .int .i64 0] hnr Tryz.infoRun rfl rfl ?_)
     have HK7 := hide (HK6.out.alloc (.cells #[.int .i64 f, .int .i64 c] 112))
     have hrow := heap_new w6 (.cells #[.int .i64 f, .int .i64 c] 112)
     have HIN7 := hide (HT.out.1.kept HK7.out)
     have HIB := hide (fun g hg => (HT.out.1.kept HK6.out).blk (g := g) hg)
     clear hnr hzr
     obtain ⟨w7, hw7⟩ := nm (w6.alloc (.cells #[.int .i64 f, .int .i64 c] 112))
     rw [hw7] at HK7 hrow HIN7 ⊢
     obtain ⟨R, hR⟩ := nm (w6.heap.size)
     rw [hR] at hrow HIB ⊢
     clear hw7 hR
     have r0 : w7.cell? ⟨R, 0, none⟩ = some (.int .i64 f) := by rw [cell_of_row _ _ _ _ _ _ hrow]; rfl
     have r1 : w7.cell? ⟨R, 1, none⟩ = some (.int .i64 c) := by rw [cell_of_row _ _ _ _ _ _ hrow]; rfl
     obtain ⟨v2, w8, hap2, hin2, hk8, hk8'⟩ := HIN7.out.add (by rw [HT.out.2.2.1]; omega) (HT.out.2.1.tr HK7.out) (w7.alloc (.cells #[.iface 112 (.agg #[.int .i64 f, .int .i64 c])] 123)) ((Kept.refl [] w7).alloc _) w7.heap.size (.copy f c) (.iface 112 (.agg #[.int .i64 f, .int .i64 c])) rfl (by rw [cell_of_row _ _ _ _ _ _ (heap_new w7 _)]; rfl)
     have hrow8 : w8.heap[R]? = some (.cells #[.int .i64 f, .int .i64 c] 112 (0, 0)) := by
      have hRl := (gs hrow).1
      rw [hk8.block R (by rw [World.size_alloc]; omega) (fun hm => by have := HIB.out R (by simpa using hm); omega)]
      exact (((Kept.refl [] w7).alloc _).block R hRl (by simp)).trans hrow
     obtain ⟨lo2, lc2, rfl, _⟩ := hin2.shape
     rw [List.length_append, List.length_singleton, HT.out.2.2.1] at hap2 hin2
     have HT8 := hide (ai hin2 hk8')
     have c1 := (HS.out.2.2.kept hk8' (by simp)).c (j := 1) (u := .int .i64 Z) rfl
     clear hin2 hk8 hk8' HIN7 hrow
     go_upto_region 12 with (refine wpList_appendRun8 rfl _ _ 64 rfl _ _ rfl rfl hap2 ?_)
     clear hap2 r0 r1
     have q0 : w8.cell? ⟨R, 0, none⟩ = some (.int .i64 f) := by rw [cell_of_row _ _ _ _ _ _ hrow8]; rfl
     have q1 : w8.cell? ⟨R, 1, none⟩ = some (.int .i64 c) := by rw [cell_of_row _ _ _ _ _ _ hrow8]; rfl
     have hrl := runLength_ok f c Z w8 (by have := HLT.out; omega)
     have HM1 : Hid (1 <= c * Z) := by have : 1 * 1 <= c * Z := Nat.mul_le_mul HC1.out hZ1; show 1 <= _; omega
     generalize c * Z = m at hrl hcl2 HM1 HG2
     obtain ⟨so, hcg, hse⟩ := cut_from8 po pn pc m hcl2 HDL.out.2
     have HSE := hide (hse w3 zs HDL.out.1 HSD.out)
     clear hse hrow8
     go_wp2_with (go_at_call 66; refine hrl.mono ?_; clear hrl; rintro e w9 ⟨rfl, hk9⟩; have HK9 := hide hk9; clear hk9)
     go_roundw
     case rel => exact ⟨lo2, ln + 1, lc2, acc ++ [.copy f c], so, pn - m, pc - m, zs.drop m, rfl, rfl, by omega, by have := HLT.out; omega, by rw [List.length_append, List.length_singleton, HT.out.2.2.1], HT8.out.1.kept HK9.out, HT8.out.2.tr HK9.out, by rw [List.length_drop, HDL.out.1], by have := HDL.out.2; omega, HSE.out, HG2.out⟩
     case measure =>
      have h1 := HM1.out
      have h2 := HLT.out
      simp
      omega
    ·have ha0 : (0 : Int) < (a : Int) := by omega
     have HA : Hid (0 < a) := Nat.pos_of_ne_zero ha
     clear ha
     obtain ⟨qo, hcf, hsd⟩ := cut_from8 po pn pc a han HP.out.2.2.2.2.1
     have HSD := hide (hsd w3 zs HP.out.2.2.2.1 HP.out.2.2.2.2.2.1)
     have HDL : Hid ((zs.drop a).length = pn - a ∧ pn - a <= pc - a) := ⟨by rw [List.length_drop, HP.out.2.2.2.1], by have := HP.out.2.2.2.2.1; omega⟩
     clear hsd
     have hct := fun W => Tryz.cutTo W po pn pc a (by have := HP.out.2.2.2.2.1; omega)
     obtain ⟨v1, w5, hap, hin, hk5, hk5'⟩ := (HP.out.2.1.kept HK4.out).add (by rw [HP.out.1]; omega) (HP.out.2.2.1.tr HK4.out) (w4.alloc (.cells #[.iface 109 (.slice po a pc)] 123)) ((Kept.refl [] w4).alloc _) w4.heap.size (.lit (zs.take a)) (.iface 109 (.slice po a pc)) ⟨po, a, pc, rfl, by rw [List.length_take, HP.out.2.2.2.1]; omega, by have := HP.out.2.2.2.2.1; omega, HP.out.2.2.2.2.2.1.take a⟩ (by rw [cell_of_row _ _ _ _ _ _ (heap_new w4 _)]; rfl)
     obtain ⟨lo1, lc1, rfl, _⟩ := hin.shape
     rw [List.length_append, List.length_singleton, HP.out.1] at hap hin
     have HT : Hid (InsAt w3 w5 (.slice lo1 (ln + 1) lc1) (acc ++ [.lit (zs.take a)]) ∧ Kept [] w3 w5 ∧ (acc ++ [Stp.lit (zs.take a)]).length = ln + 1 ∧ accL acc zs a = acc ++ [.lit (zs.take a)]) := ⟨hin, hk5', by rw [List.length_append, List.length_singleton, HP.out.1], by unfold accL; rw [if_pos HA.out]⟩
     clear hin hk5 hk5'
     go_upto_region 8 with (refine wpList_appendRun8 rfl _ _ 64 rfl _ _ rfl rfl hap ?_)
     clear hap hct
     have hl3 : ln + 1 <= 2049 := by omega
     by_cases he : a = pn
     ·have HR : Hid (ins s.width Z s.blocks [] ys = (acc ++ [Stp.lit (zs.take a)])) := by
       show _ = _
       rw [HP.out.2.2.2.2.2.2, HEN.out (List.drop_of_length_le (by rw [HP.out.2.2.2.1]; omega)), HT.out.2.2.2]
      obtain ⟨rn, hrn⟩ := nm (pn - a)
      rw [hrn] at hcf
      have hr0 : rn = 0 := by omega
      clear hrn he
      subst hr0
      go_wp2
      go_ret
      exact ⟨_, w3, rfl, by rw [HR.out]; exact HT.out.1, HS.out.1, HT.out.2.1⟩
     ·have hlt : a < zs.length := by rw [HP.out.2.2.2.1]; omega
      have hne : (zs.drop a) ≠ [] := fun h => by have := congrArg List.length h; rw [List.length_drop] at this; simp at this; omega
      obtain ⟨hf, hc1⟩ := HNC.out hlt
      have hcl := cntW_le s.width Z (s.blocks.drop f) (zs.drop a)
      have hfn : f <= n := by have := HIN.out.1.len; omega
      have hct := count_ok s.width Z ao n cap M s.blocks qo (pn - a) (pc - a) (zs.drop a) f w5 HIN.out.1.len hn HIN.out.1.le (HIN.out.1.at_.kept (HS.out.1.tr HT.out.2.1) (by simp)) HDL.out.1 HDL.out.2 (HSD.out.kept HT.out.2.1 (by simp)) (by omega) hfn hZ1 hZ2
      have HG2 : Hid (ins s.width Z s.blocks [] ys = ins s.width Z s.blocks ((acc ++ [Stp.lit (zs.take a)]) ++ [.copy f (cntW s.width Z (s.blocks.drop f) (zs.drop a))]) ((zs.drop a).drop (cntW s.width Z (s.blocks.drop f) (zs.drop a) * Z))) := by
       show _ = _
       rw [HP.out.2.2.2.2.2.2, HGO.out hne, HT.out.2.2.2]
      rw [HDL.out.1] at hcl
      generalize cntW s.width Z (s.blocks.drop f) (zs.drop a) = c at hct HG2 hc1 hcl
      have hF5 := HS.out.2.2.kept HT.out.2.1 (by simp)
      have hrg := hF5.range
      obtain ⟨hcl1, hcl2⟩ := hcl
      clear hcl1 hf hF5 HGO HEN HNC hne
      have HLT : Hid ((pn - a) <= pn) := by show _ <= _; omega
      have hp9 : 0 < (pn - a) := by omega
      obtain ⟨rn, hrn⟩ := nm (pn - a)
      obtain ⟨rc, hrc⟩ := nm (pc - a)
      rw [hrn] at hcf hct hcl2 hp9 HDL HLT
      rw [hrc] at hcf hct HDL
      clear hrn hrc he
      have HC1 := hide hc1
      clear hc1
      have hzr := Tryz.zeroRun
      go_upto_region 11 with (first
       | refine wpList_load_mid rfl 105 (.tmp 5) rfl Fb 0 rfl (fdC s.width Z ao n cap (some M)) _ hrg Tryz.underlying105 rfl hilF ?_
       | (go_at_call 65; refine hct.mono ?_; clear hct; rintro e w6 ⟨rfl, hk6⟩; have HK6 := hide hk6; have hnr := heap_new w6 (.cells #[.int .i64 0, .int .i64 0] 112); clear hk6 hrg)
       | refine wpList_store_rowTo rfl 112 (.tmp 10) (.tmp 48) rfl rfl w6.heap.size #[.int .i64 f, .int .i64 c] rfl rfl 112 #[.int .i64 0, .int .i64 0] hnr Tryz.infoRun rfl rfl ?_)
      have HK7 := hide (HK6.out.alloc (.cells #[.int .i64 f, .int .i64 c] 112))
      have hrow := heap_new w6 (.cells #[.int .i64 f, .int .i64 c] 112)
      have HIN7 := hide (HT.out.1.kept HK7.out)
      have HIB := hide (fun g hg => (HT.out.1.kept HK6.out).blk (g := g) hg)
      clear hnr hzr
      obtain ⟨w7, hw7⟩ := nm (w6.alloc (.cells #[.int .i64 f, .int .i64 c] 112))
      rw [hw7] at HK7 hrow HIN7 ⊢
      obtain ⟨R, hR⟩ := nm (w6.heap.size)
      rw [hR] at hrow HIB ⊢
      clear hw7 hR
      have r0 : w7.cell? ⟨R, 0, none⟩ = some (.int .i64 f) := by rw [cell_of_row _ _ _ _ _ _ hrow]; rfl
      have r1 : w7.cell? ⟨R, 1, none⟩ = some (.int .i64 c) := by rw [cell_of_row _ _ _ _ _ _ hrow]; rfl
      obtain ⟨v2, w8, hap2, hin2, hk8, hk8'⟩ := HIN7.out.add (by rw [HT.out.2.2.1]; omega) (HT.out.2.1.tr HK7.out) (w7.alloc (.cells #[.iface 112 (.agg #[.int .i64 f, .int .i64 c])] 123)) ((Kept.refl [] w7).alloc _) w7.heap.size (.copy f c) (.iface 112 (.agg #[.int .i64 f, .int .i64 c])) rfl (by rw [cell_of_row _ _ _ _ _ _ (heap_new w7 _)]; rfl)
      have hrow8 : w8.heap[R]? = some (.cells #[.int .i64 f, .int .i64 c] 112 (0, 0)) := by
       have hRl := (gs hrow).1
       rw [hk8.block R (by rw [World.size_alloc]; omega) (fun hm => by have := HIB.out R (by simpa using hm); omega)]
       exact (((Kept.refl [] w7).alloc _).block R hRl (by simp)).trans hrow
      obtain ⟨lo2, lc2, rfl, _⟩ := hin2.shape
      rw [List.length_append, List.length_singleton, HT.out.2.2.1] at hap2 hin2
      have HT8 := hide (ai hin2 hk8')
      have c1 := (HS.out.2.2.kept hk8' (by simp)).c (j := 1) (u := .int .i64 Z) rfl
      clear hin2 hk8 hk8' HIN7 hrow
      go_upto_region 12 with (refine wpList_appendRun8 rfl _ _ 64 rfl _ _ rfl rfl hap2 ?_)
      clear hap2 r0 r1
      have q0 : w8.cell? ⟨R, 0, none⟩ = some (.int .i64 f) := by rw [cell_of_row _ _ _ _ _ _ hrow8]; rfl
      have q1 : w8.cell? ⟨R, 1, none⟩ = some (.int .i64 c) := by rw [cell_of_row _ _ _ _ _ _ hrow8]; rfl
      have hrl := runLength_ok f c Z w8 (by have := HLT.out; omega)
      have HM1 : Hid (1 <= c * Z) := by have : 1 * 1 <= c * Z := Nat.mul_le_mul HC1.out hZ1; show 1 <= _; omega
      generalize c * Z = m at hrl hcl2 HM1 HG2
      obtain ⟨so, hcg, hse⟩ := cut_from8 qo rn rc m hcl2 HDL.out.2
      have HSE := hide (hse w3 (zs.drop a) HDL.out.1 HSD.out)
      clear hse hrow8
      go_wp2_with (go_at_call 66; refine hrl.mono ?_; clear hrl; rintro e w9 ⟨rfl, hk9⟩; have HK9 := hide hk9; clear hk9)
      go_roundw
      case rel => exact ⟨lo2, (ln + 1) + 1, lc2, (acc ++ [Stp.lit (zs.take a)]) ++ [.copy f c], so, rn - m, rc - m, (zs.drop a).drop m, rfl, rfl, by omega, by have := HLT.out; omega, by rw [List.length_append, List.length_singleton, HT.out.2.2.1], HT8.out.1.kept HK9.out, HT8.out.2.tr HK9.out, by rw [List.length_drop, HDL.out.1], by have := HDL.out.2; omega, HSE.out, HG2.out⟩
      case measure =>
       have h1 := HM1.out
       have h2 := HLT.out
       simp
       omega
end

section
open Dlt
theorem Tryz.zeroSeal (W : World) : (zeroValue 68).run Tryz.prog W = .ok (.agg zeroK) W := by kernel_rfl
theorem Tryz.infoSealS : (Tryz.prog.info? 68).map (·.size) = some 33 := by kernel_rfl
theorem Tryz.builtSeal0 (f : Nat -> UInt8) (x : Int) (W : World) : (Instr.build 68 #[(0, .int .i64 x), (1, .agg (bys ((List.range 32).map f)).toArray)]).run Tryz.prog W = .ok (.agg (.int .i64 x :: bys ((List.range 32).map f)).toArray) W := by kernel_rfl
theorem Tryz.builtSeal (k : Wk) (W : World) : (Instr.build 68 #[(0, .int .i64 k.sum), (1, .agg (bys k.id).toArray)]).run Tryz.prog W = .ok (.agg k.cells.toArray) W := by
 have h := Tryz.builtSeal0 (fun i => k.id.getD i 0) k.sum W
 rw [range32 k.hid] at h
 exact h
theorem sealOf_ok (width : Int) (ao : Option Addr) (n cap : Nat) (xs : List UInt8) (w : World) (k : Wk) (hsum : k.sum = (n : Int)) (hid : k.id = Sha.ident width xs) (hn : xs.length = n) (hc : n <= cap) (hs : Sl w ao xs) (hm : n <= 4611686018427387904) :
  Calls Tryz.prog 36 #[.int .i64 width, .slice ao n cap] w fun e w' => e = .returned (.agg k.cells.toArray) ∧ Kept [] w w' := by
 have hz := Tryz.zeroSeal
 have hnz : (w.alloc (.cells zeroK 68)).heap[w.heap.size]? = some (.cells zeroK 68 (0, 0)) := heap_new w _
 have hK0 := ka w (.cells zeroK 68)
 have hs0 := hs.kept hK0 (by simp)
 have hof := of_one width ao n cap xs (w.alloc (.cells zeroK 68)) hn hc hs0 hm
 obtain ⟨R, hR⟩ := nm (w.heap.size)
 have hRl : R < (w.alloc (.cells zeroK 68)).heap.size := by rw [<-hR]; simp
 rw [hR] at hnz
 have HB := Tryz.builtSeal k
 have hial : (Tryz.prog.info? 68).map (·.size) = some k.cells.toArray.size := by rw [wk_size]; exact Tryz.infoSealS
 have hzs : zeroK.size = k.cells.toArray.size := by rw [wk_size]; rfl
 have hall := wk_all k
 simp only [hsum, hid] at HB
 clear hsum hid hn hc hs hs0 hm
 go_enter Tryz.func36, Tryz.ntmps36
 go_upto_region 1 with (fail)
 have HR := hide hR
 clear hR
 generalize w.alloc (.cells zeroK 68) = w0 at *
 go_wp2_with (first
  | (go_at_call 46; refine hof.mono ?_; rintro r w2 ⟨rfl, hk2⟩; have H2 := hide hk2; have hn2 : w2.heap[R]? = some (.cells zeroK 68 (0, 0)) := (hk2.block _ hRl (by simp)).trans hnz; clear hof hk2)
  | refine wpList_buildRun8 rfl 68 #[(0, .tmp 6), (1, .tmp 10)] rfl #[(0, .int .i64 n), (1, .agg (bys (Sha.ident width xs)).toArray)] (by simp [Act.eval]) _ (HB _) ?_
  | refine wpList_store_rowTo rfl 68 (.tmp 4) (.tmp 11) rfl rfl R k.cells.toArray rfl rfl 68 zeroK hn2 hial hzs hall ?_)
 have hKF : Kept [] w (w2.setRow R k.cells.toArray) := (hK0.tr H2.out).trans (kept_row w2 R _) (by have := HR.out; simp; omega)
 exact ret_row rfl rfl R 68 k.cells.toArray (0, 0) _ rfl (setRow_heap _ _ _ _ _ _ hn2) Tryz.underlying68 rfl hial ⟨rfl, hKF⟩
theorem Tryz.isRun (v : Value) (w : World) : (Instr.typeAssert (.iface 112 v) 123 112 true).run Tryz.prog w = .ok (.tuple #[v, .bool true]) w := by kernel_rfl
theorem Tryz.isLit (v : Value) (w : World) : (Instr.typeAssert (.iface 109 v) 123 109 true).run Tryz.prog w = .ok (.tuple #[v, .bool true]) w := by kernel_rfl
theorem Tryz.notRun (v : Value) (w : World) : (Instr.typeAssert (.iface 109 v) 123 112 true).run Tryz.prog w = .ok (.tuple #[.agg #[.int .i64 0, .int .i64 0], .bool false]) w := by kernel_rfl
def okW : Stp -> Prop
 | .copy f c => f <= 1000000 ∧ c <= 1000000
 | .lit bs => bs ≠ [] ∧ bs.length <= 1000000
theorem writeInstruction_ok {w0 w : World} {B : Nat} {ys : List UInt8} (h : Wq w0 w B ys) (s : Stp) (v : Value) (hv : StpV w0 s v) (hl : ys.length <= 10000000) (hb : okW s) :
  Calls Tryz.prog 70 #[.pointer (some ⟨B, 0, none⟩), v] w fun e w' => e = .returned (.tuple #[]) ∧ Wq w0 w' B (ys ++ encI s) ∧ Kept [B] w w' := by
 cases s with
 | copy f c =>
  obtain rfl : v = .iface 112 (.agg #[.int .i64 (f : Nat), .int .i64 (c : Nat)]) := hv
  obtain ⟨hf, hc⟩ := hb
  have hta := Tryz.isRun (.agg #[.int .i64 (f : Nat), .int .i64 (c : Nat)])
  have hzr := Tryz.zeroRun
  have hk1 := ka w (.cells #[.int .i64 f, .int .i64 c] 112)
  have hq1 := h.later hk1
  have hrow := heap_new w (.cells #[.int .i64 f, .int .i64 c] 112)
  have hfx := fixed_q hq1 1 1 (by omega) (by omega) (by omega) (by omega)
  have hRB : w.heap.size ≠ B := by have := h.lt; omega
  obtain ⟨R, hR⟩ := nm (w.heap.size)
  rw [hR] at hrow hRB
  have HK1 := hide hk1
  clear hk1 hq1 h
  go_enter Tryz.func70, Tryz.ntmps70
  go_upto_region 3 with (fail)
  clear hR
  generalize w.alloc (.cells #[.int .i64 f, .int .i64 c] 112) = w1 at *
  have HRW := hide hrow
  clear hrow hta hzr
  go_upto_region 4 with (go_at_call 67; refine hfx.mono ?_; rintro r w2 ⟨rfl, hq2, hk2⟩; clear hfx)
  have hr2 := (hk2.block R (gs HRW.out).1 (by simpa using hRB)).trans HRW.out
  have hn1 := number_q hq2 f (by omega) (by rw [List.length_append, Pure.fix_len]; omega)
  have c0 : w2.cell? ⟨R, 0, none⟩ = some (.int .i64 f) := by rw [cell_of_row _ _ _ _ _ _ hr2]; rfl
  have HR2 := hide hr2
  have HK2 := hide hk2
  clear hr2 hk2 hq2
  go_upto_region 5 with (go_at_call 68; refine hn1.mono ?_; rintro r w3 ⟨rfl, hq3, hk3⟩; clear hn1)
  have hr3 := (hk3.block R (gs HR2.out).1 (by simpa using hRB)).trans HR2.out
  have e1 := Pure.enc_len5 (v := f) (by omega)
  have hn2 := number_q hq3 c (by omega) (by rw [List.length_append, List.length_append, Pure.fix_len]; omega)
  have c1 : w3.cell? ⟨R, 1, none⟩ = some (.int .i64 c) := by rw [cell_of_row _ _ _ _ _ _ hr3]; rfl
  have HK3 := hide hk3
  clear hr3 hk3 hq3 c0 e1
  go_wp2_with (go_at_call 68; refine hn2.mono ?_; rintro r w4 ⟨rfl, hq4, hk4⟩; have H4 := hide (ai hq4 hk4); clear hn2 hq4 hk4)
  refine bodyPost_end (results_none rfl _ _ _) rfl ⟨rfl, ?_, (((HK1.out.mono (by simp)).tr HK2.out).tr HK3.out).tr H4.out.2⟩
  have := H4.out.1
  simp only [List.append_assoc] at this
  simpa only [encI] using this
 | lit bs =>
  obtain ⟨ao, n, cap, rfl, hn, hc, hs⟩ := hv
  obtain ⟨hb0, hb'⟩ : bs ≠ [] ∧ bs.length <= 1000000 := hb
  have hta := Tryz.notRun (.slice ao n cap)
  have htb := Tryz.isLit (.slice ao n cap)
  have hfx := fixed_q h 2 1 (by omega) (by omega) (by omega) (by omega)
  have hfar : ∀ a, ao = some a -> a.block ≠ B := by
   intro a ha
   obtain ⟨b, off, e, hcell⟩ := hs 0 (List.length_pos_iff.2 hb0)
   rw [ha] at e
   cases e
   have h1 : b < w0.heap.size := World.block_lt_of_cell? _ _ hcell
   have h2 := h.ge
   show b ≠ B
   omega
  have HIN := hide (ai hn (ai hc (ai hs (ai hfar hb'))))
  clear hn hc hs h hfar hb' hb0
  go_enter Tryz.func70, Tryz.ntmps70
  go_upto_region 9 with (go_at_call 67; refine hfx.mono ?_; rintro r w2 ⟨rfl, hq2, hk2⟩; clear hfx)
  have htx := text_q hq2 ao n cap bs HIN.out.1 (HIN.out.2.2.1.kept hq2.kp (by simp)) HIN.out.2.2.2.1 HIN.out.2.1 (by rw [List.length_append, Pure.fix_len]; omega) (by have := HIN.out.1; have := HIN.out.2.2.2.2; omega)
  have HK2 := hide hk2
  clear hk2 hq2 hta htb
  go_wp2_with (go_at_call 98; refine htx.mono ?_; rintro r w4 ⟨rfl, hq4, hk4⟩; have H4 := hide (ai hq4 hk4); clear htx hq4 hk4)
  refine bodyPost_end (results_none rfl _ _ _) rfl ⟨rfl, ?_, HK2.out.tr H4.out.2⟩
  have := H4.out.1
  simp only [List.append_assoc] at this
  simpa only [encI] using this
end

end Go.Proofs.YtmklodligplbaaaGreat
