import Derived.Test.YtmklodligplbaaaGreatD9fm
import Derived.Laws.StructEq
import Derived.ChangeKeysEq
open Go.RowKit
set_option linter.unusedVariables false
set_option linter.unusedSimpArgs false
set_option maxRecDepth 100000
set_option maxHeartbeats 51200000
namespace Go.Proofs.YtmklodligplbaaaGreat
section
open Dlt
def StpN (base : Nat) (w : World) : Stp -> Value -> Prop
 | .copy f c, v => v = .iface 112 (.agg #[.int .i64 (f : Nat), .int .i64 (c : Nat)])
 | .lit bs, v => ∃ ao n cap, v = .iface 109 (.slice ao n cap) ∧ bs.length = n ∧ n <= cap ∧ Sl w ao bs ∧ ∀ a, ao = some a -> base <= a.block
theorem giveUp_k (w : World) : Calls Tryz.prog 86 #[] w fun e w' => e = gaveUp8 ∧ Kept [] w w' := (giveUp_ok w).mono fun e w' h => ⟨h.1, by rw [h.2]; exact Kept.refl [] w⟩
theorem ins_no1 {w : World} {b : Nat} {ao : Option Addr} {cap : Nat} {xs : List UInt8} {s : Rs} (h : RdS w b ao cap xs s) (n : Nat) (hn : n <= 1000000) (h1 : (stFixed xs s 1).1 = 1) (hw : Dlt.within (stNumber xs (stFixed xs s 1).2).1 0 n = false) :
  Calls Tryz.prog 82 #[stV b, .int .i64 n] w fun e w' => e = gaveUp8 ∧ Kept [b] w w' := by
 have hK := ka w (.cells (stC b).toArray 88)
 have hX := Sx.new w b
 have hfx := rfixed_st (h.later hK) 1
 have cb := hX.cell
 have HX := hide hX
 have hbl := h.lt
 obtain ⟨G, hG⟩ := nm (w.heap.size)
 rw [hG] at HX hbl cb
 have HGB : Hid (G ∉ [b]) := by show G ∉ [b]; simp; omega
 have HG := hide hG
 obtain ⟨fx, hfe⟩ := nm ((stFixed xs s 1).1)
 rw [hfe] at hfx h1
 clear h hX hbl hfe
 go_enter Tryz.func82, Tryz.ntmps82
 go_upto_region 1 with (fail)
 clear hG
 generalize w.alloc (.cells (stC b).toArray 88) = w1 at *
 go_upto_region 4 with (go_at_call 54; refine hfx.mono ?_; rintro r w2 ⟨rfl, hk2, hr2⟩; have H2 := hide (ai hk2 hr2); clear hfx hk2 hr2 cb)
 have hrg := (HX.out.kept H2.out.1 HGB.out).range
 subst h1
 have hc := run_no1 H2.out.2 n hw
 go_wp2_with (first
  | refine wpList_load_mid rfl 88 (.tmp 2) rfl G 0 rfl (stC b) _ hrg Tryz.underlying88 rfl Tryz.infoStrict ?_
  | (go_at_call 106; refine hc.mono ?_; rintro r w3 ⟨rfl, hk3⟩; have H3 := hide hk3; clear hc hk3 hrg))
 exact ⟨rfl, rfl, ((hK.mono (by simp)).tr H2.out.1).tr H3.out⟩
theorem ins_no2 {w : World} {b : Nat} {ao : Option Addr} {cap : Nat} {xs : List UInt8} {s : Rs} (h : RdS w b ao cap xs s) (n : Nat) (hn : n <= 1000000) (h1 : (stFixed xs s 1).1 = 1) (hw : Dlt.within (stNumber xs (stFixed xs s 1).2).1 0 n = true) (hw2 : Dlt.within (stNumber xs (stNumber xs (stFixed xs s 1).2).2).1 1 ((n : Int) - (stNumber xs (stFixed xs s 1).2).1) = false) :
  Calls Tryz.prog 82 #[stV b, .int .i64 n] w fun e w' => e = gaveUp8 ∧ Kept [b] w w' := by
 have hK := ka w (.cells (stC b).toArray 88)
 have hX := Sx.new w b
 have hfx := rfixed_st (h.later hK) 1
 have cb := hX.cell
 have HX := hide hX
 have hbl := h.lt
 obtain ⟨G, hG⟩ := nm (w.heap.size)
 rw [hG] at HX hbl cb
 have HGB : Hid (G ∉ [b]) := by show G ∉ [b]; simp; omega
 have HG := hide hG
 obtain ⟨fx, hfe⟩ := nm ((stFixed xs s 1).1)
 rw [hfe] at hfx h1
 clear h hX hbl hfe
 go_enter Tryz.func82, Tryz.ntmps82
 go_upto_region 1 with (fail)
 clear hG
 generalize w.alloc (.cells (stC b).toArray 88) = w1 at *
 go_upto_region 4 with (go_at_call 54; refine hfx.mono ?_; rintro r w2 ⟨rfl, hk2, hr2⟩; have H2 := hide (ai hk2 hr2); clear hfx hk2 hr2 cb)
 have hrg := (HX.out.kept H2.out.1 HGB.out).range
 subst h1
 have hc := run_no2 H2.out.2 n hn hw hw2
 go_wp2_with (first
  | refine wpList_load_mid rfl 88 (.tmp 2) rfl G 0 rfl (stC b) _ hrg Tryz.underlying88 rfl Tryz.infoStrict ?_
  | (go_at_call 106; refine hc.mono ?_; rintro r w3 ⟨rfl, hk3⟩; have H3 := hide hk3; clear hc hk3 hrg))
 exact ⟨rfl, rfl, ((hK.mono (by simp)).tr H2.out.1).tr H3.out⟩
theorem ins_no3 {w : World} {b : Nat} {ao : Option Addr} {cap : Nat} {xs : List UInt8} {s : Rs} (h : RdS w b ao cap xs s) (n : Nat) (hn : n <= 1000000) (h1 : (stFixed xs s 1).1 = 2) (hw : (stText xs (stFixed xs s 1).2 131072).1 = []) :
  Calls Tryz.prog 82 #[stV b, .int .i64 n] w fun e w' => e = gaveUp8 ∧ Kept [b] w w' := by
 have hK := ka w (.cells (stC b).toArray 88)
 have hX := Sx.new w b
 have hfx := rfixed_st (h.later hK) 1
 have cb := hX.cell
 have HX := hide hX
 have hbl := h.lt
 obtain ⟨G, hG⟩ := nm (w.heap.size)
 rw [hG] at HX hbl cb
 have HGB : Hid (G ∉ [b]) := by show G ∉ [b]; simp; omega
 have HG := hide hG
 obtain ⟨fx, hfe⟩ := nm ((stFixed xs s 1).1)
 rw [hfe] at hfx h1
 clear h hX hbl hfe
 go_enter Tryz.func82, Tryz.ntmps82
 go_upto_region 1 with (fail)
 clear hG
 generalize w.alloc (.cells (stC b).toArray 88) = w1 at *
 go_upto_region 4 with (go_at_call 54; refine hfx.mono ?_; rintro r w2 ⟨rfl, hk2, hr2⟩; have H2 := hide (ai hk2 hr2); clear hfx hk2 hr2 cb)
 have hrg := (HX.out.kept H2.out.1 HGB.out).range
 subst h1
 have hc := literal_no H2.out.2 hw
 go_wp2_with (first
  | refine wpList_load_mid rfl 88 (.tmp 2) rfl G 0 rfl (stC b) _ hrg Tryz.underlying88 rfl Tryz.infoStrict ?_
  | (go_at_call 107; refine hc.mono ?_; rintro r w3 ⟨rfl, hk3⟩; have H3 := hide hk3; clear hc hk3 hrg))
 exact ⟨rfl, rfl, ((hK.mono (by simp)).tr H2.out.1).tr H3.out⟩
theorem ins_no4 {w : World} {b : Nat} {ao : Option Addr} {cap : Nat} {xs : List UInt8} {s : Rs} (h : RdS w b ao cap xs s) (n : Nat) (hn : n <= 1000000) (h1 : (stFixed xs s 1).1 ≠ 1) (h2 : (stFixed xs s 1).1 ≠ 2) :
  Calls Tryz.prog 82 #[stV b, .int .i64 n] w fun e w' => e = gaveUp8 ∧ Kept [b] w w' := by
 have hK := ka w (.cells (stC b).toArray 88)
 have hX := Sx.new w b
 have hfx := rfixed_st (h.later hK) 1
 have cb := hX.cell
 have HX := hide hX
 have hbl := h.lt
 obtain ⟨G, hG⟩ := nm (w.heap.size)
 rw [hG] at HX hbl cb
 have HGB : Hid (G ∉ [b]) := by show G ∉ [b]; simp; omega
 have HG := hide hG
 obtain ⟨fx, hfe⟩ := nm ((stFixed xs s 1).1)
 rw [hfe] at hfx h1 h2
 clear h hX hbl hfe
 go_enter Tryz.func82, Tryz.ntmps82
 go_upto_region 1 with (fail)
 clear hG
 generalize w.alloc (.cells (stC b).toArray 88) = w1 at *
 go_upto_region 4 with (go_at_call 54; refine hfx.mono ?_; rintro r w2 ⟨rfl, hk2, hr2⟩; have H2 := hide (ai hk2 hr2); clear hfx hk2 hr2 cb)
 have hrg := (HX.out.kept H2.out.1 HGB.out).range
 have g1 : (fx == 1) = false := by simpa using h1
 have g2 : (fx == 2) = false := by simpa using h2
 have hc := giveUp_k w2
 go_wp2_with (first
  | refine wpList_load_mid rfl 88 (.tmp 2) rfl G 0 rfl (stC b) _ hrg Tryz.underlying88 rfl Tryz.infoStrict ?_
  | (go_at_call 86; refine hc.mono ?_; rintro r w3 ⟨rfl, hk3⟩; have H3 := hide hk3; clear hc hk3 hrg))
 exact ⟨rfl, rfl, ((hK.mono (by simp)).tr H2.out.1).tr H3.out⟩
theorem ins_yes1 {w : World} {b : Nat} {ao : Option Addr} {cap : Nat} {xs : List UInt8} {s : Rs} (h : RdS w b ao cap xs s) (n : Nat) (hn : n <= 1000000) (h1 : (stFixed xs s 1).1 = 1) (hw : Dlt.within (stNumber xs (stFixed xs s 1).2).1 0 n = true) (hw2 : Dlt.within (stNumber xs (stNumber xs (stFixed xs s 1).2).2).1 1 ((n : Int) - (stNumber xs (stFixed xs s 1).2).1) = true) :
  Calls Tryz.prog 82 #[stV b, .int .i64 n] w fun e w' => (∃ u, e = .returned u ∧ StpN w.heap.size w' (.copy (stNumber xs (stFixed xs s 1).2).1.toNat (stNumber xs (stNumber xs (stFixed xs s 1).2).2).1.toNat) u) ∧ RdS w' b ao cap xs (stNumber xs (stNumber xs (stFixed xs s 1).2).2).2 ∧ Kept [b] w w' := by
 have hK := ka w (.cells (stC b).toArray 88)
 have hX := Sx.new w b
 have hfx := rfixed_st (h.later hK) 1
 have cb := hX.cell
 have HX := hide hX
 have hbl := h.lt
 obtain ⟨G, hG⟩ := nm (w.heap.size)
 rw [hG] at HX hbl cb
 have HGB : Hid (G ∉ [b]) := by show G ∉ [b]; simp; omega
 have HG := hide hG
 obtain ⟨fx, hfe⟩ := nm ((stFixed xs s 1).1)
 rw [hfe] at hfx h1
 clear h hX hbl hfe
 go_enter Tryz.func82, Tryz.ntmps82
 go_upto_region 1 with (fail)
 clear hG
 generalize w.alloc (.cells (stC b).toArray 88) = w1 at *
 go_upto_region 4 with (go_at_call 54; refine hfx.mono ?_; rintro r w2 ⟨rfl, hk2, hr2⟩; have H2 := hide (ai hk2 hr2); clear hfx hk2 hr2 cb)
 have hrg := (HX.out.kept H2.out.1 HGB.out).range
 subst h1
 have hc := run_yes H2.out.2 n hn hw hw2
 obtain ⟨p1, p2⟩ := Dlt.within_iff.1 hw
 obtain ⟨p3, p4⟩ := Dlt.within_iff.1 hw2
 obtain ⟨F, hF⟩ := Int.eq_ofNat_of_zero_le p1
 obtain ⟨C, hC⟩ := Int.eq_ofNat_of_zero_le (show 0 <= (stNumber xs (stNumber xs (stFixed xs s 1).2).2).1 by omega)
 rw [hF, hC] at hc
 have HFC := hide (ai hF hC)
 clear hw hw2 p1 p2 p3 p4 hF hC
 go_wp2_with (first
  | refine wpList_load_mid rfl 88 (.tmp 2) rfl G 0 rfl (stC b) _ hrg Tryz.underlying88 rfl Tryz.infoStrict ?_
  | (go_at_call 106; refine hc.mono ?_; rintro r w3 ⟨rfl, hr3, hk3⟩; have H3 := hide (ai hr3 hk3); clear hc hr3 hk3 hrg))
 go_ret
 rw [HFC.out.1, HFC.out.2]
 exact ⟨⟨_, rfl, rfl⟩, H3.out.1, ((hK.mono (by simp)).tr H2.out.1).tr H3.out.2⟩
theorem ins_yes2 {w : World} {b : Nat} {ao : Option Addr} {cap : Nat} {xs : List UInt8} {s : Rs} (h : RdS w b ao cap xs s) (n : Nat) (hn : n <= 1000000) (h1 : (stFixed xs s 1).1 = 2) (hw : (stText xs (stFixed xs s 1).2 131072).1 ≠ []) :
  Calls Tryz.prog 82 #[stV b, .int .i64 n] w fun e w' => (∃ u, e = .returned u ∧ StpN w.heap.size w' (.lit (stText xs (stFixed xs s 1).2 131072).1) u) ∧ RdS w' b ao cap xs (stText xs (stFixed xs s 1).2 131072).2 ∧ Kept [b] w w' := by
 have hK := ka w (.cells (stC b).toArray 88)
 have hX := Sx.new w b
 have hfx := rfixed_st (h.later hK) 1
 have cb := hX.cell
 have HX := hide hX
 have hbl := h.lt
 obtain ⟨G, hG⟩ := nm (w.heap.size)
 rw [hG] at HX hbl cb
 have HGB : Hid (G ∉ [b]) := by show G ∉ [b]; simp; omega
 have HG := hide hG
 obtain ⟨fx, hfe⟩ := nm ((stFixed xs s 1).1)
 rw [hfe] at hfx h1
 clear h hX hbl hfe
 go_enter Tryz.func82, Tryz.ntmps82
 go_upto_region 1 with (fail)
 clear hG
 generalize w.alloc (.cells (stC b).toArray 88) = w1 at *
 go_upto_region 4 with (go_at_call 54; refine hfx.mono ?_; rintro r w2 ⟨rfl, hk2, hr2⟩; have H2 := hide (ai hk2 hr2); clear hfx hk2 hr2 cb)
 have hrg := (HX.out.kept H2.out.1 HGB.out).range
 subst h1
 have hc := literal_yes H2.out.2 hw
 obtain ⟨tt, htt⟩ := nm (stText xs (stFixed xs s 1).2 131072)
 rw [htt] at hc
 have HTT := hide htt
 obtain ⟨m, hm⟩ := nm (tt.1.length)
 rw [hm] at hc
 have HM := hide hm
 clear hw htt hm
 go_wp2_with (first
  | refine wpList_load_mid rfl 88 (.tmp 2) rfl G 0 rfl (stC b) _ hrg Tryz.underlying88 rfl Tryz.infoStrict ?_
  | (go_at_call 107; refine hc.mono ?_; rintro r w3 ⟨⟨lo, lc, rfl, hl1, hl2, hl3⟩, hr3, hk3⟩; have H3 := hide (ai hr3 (ai hk3 (ai hl1 (ai hl2 hl3)))); clear hc hr3 hk3 hrg hl1 hl2 hl3))
 go_ret
 rw [HTT.out]
 have hsz := ((hK.mono (l2 := [b]) (by simp)).tr H2.out.1).size
 exact ⟨⟨_, rfl, lo, m, lc, rfl, HM.out, H3.out.2.2.1, H3.out.2.2.2.1, fun a ha => Nat.le_trans hsz (H3.out.2.2.2.2 a ha)⟩, H3.out.1, ((hK.mono (by simp)).tr H2.out.1).tr H3.out.2.1⟩
end

section
open Dlt
theorem instr_none {w : World} {b : Nat} {ao : Option Addr} {cap : Nat} {xs : List UInt8} {s : Rs} (h : RdS w b ao cap xs s) (n : Nat) (hn : n <= 1000000) (hd : rdI xs n s = none) :
  Calls Tryz.prog 82 #[stV b, .int .i64 n] w fun e w' => e = gaveUp8 ∧ Kept [b] w w' := by
 unfold rdI at hd
 split at hd
 ·next h1 =>
  split at hd
  ·next h2 => exact ins_no1 h n hn h1 h2
  ·next h2 =>
   split at hd
   ·next h3 => exact ins_no2 h n hn h1 (by simpa using h2) h3
   ·cases hd
 ·next h1 =>
  split at hd
  ·next h2 =>
   split at hd
   ·next h3 => exact ins_no3 h n hn h2 h3
   ·cases hd
  ·next h2 => exact ins_no4 h n hn h1 h2
theorem instr_some {w : World} {b : Nat} {ao : Option Addr} {cap : Nat} {xs : List UInt8} {s : Rs} (h : RdS w b ao cap xs s) (n : Nat) (hn : n <= 1000000) (p : Stp × Rs) (hd : rdI xs n s = some p) :
  Calls Tryz.prog 82 #[stV b, .int .i64 n] w fun e w' => (∃ u, e = .returned u ∧ StpN w.heap.size w' p.1 u) ∧ RdS w' b ao cap xs p.2 ∧ Kept [b] w w' := by
 unfold rdI at hd
 split at hd
 ·next h1 =>
  split at hd
  ·cases hd
  ·next h2 =>
   split at hd
   ·cases hd
   ·next h3 =>
    injection hd with hd
    subst hd
    exact ins_yes1 h n hn h1 (by simpa using h2) (by simpa using h3)
 ·next h1 =>
  split at hd
  ·next h2 =>
   split at hd
   ·cases hd
   ·next h3 =>
    injection hd with hd
    subst hd
    exact ins_yes2 h n hn h2 h3
  ·cases hd
theorem litLength_ok (lo : Option Addr) (n lc : Nat) (z : Int) (w : World) :
  Calls Tryz.prog 145 #[.slice lo n lc, .int .i64 z] w fun e w' => e = .returned (.int .i64 n) ∧ w' = w := by
 go_enter Tryz.func145, Tryz.ntmps145
 go_wp2
 go_ret
 exact ⟨rfl, rfl⟩
end

section
open Dlt
theorem Tryz.infoByte9 : (Tryz.prog.info? 5).map (fun i => (i.zero, i.size, i.bytes)) = some (some (.int .u8 0), 1, 1) := by kernel_rfl
theorem Tryz.appLit (vo : Option Addr) (n c : Nat) (u : Value) (W : World) : (Builtin.append_ #[22, 109] 22 #[.slice vo n c, u]).run Tryz.prog W = (Builtin.append_ #[22, 22] 22 #[.slice vo n c, u]).run Tryz.prog W := by
 have h1 : ∀ W, (underlying 109).run Tryz.prog W = .ok (.slice 5) W := fun W => by kernel_rfl
 have h2 : ∀ W, (underlying 22).run Tryz.prog W = .ok (.slice 5) W := fun W => by kernel_rfl
 have h3 : ∀ W, (sizeOf 5).run Tryz.prog W = .ok 1 W := fun W => by kernel_rfl
 unfold Builtin.append_
 simp only [List.getElem?_toArray, List.getElem?_cons_zero, List.getElem?_cons_succ, Sem.run_bind, Sem.run_pure, h1, h2, h3, Result.andThen_ok]
theorem app9 {w : World} {base : Nat} {v : Value} {n : Nat} {xs : List UInt8} (h : w.ownsRow base 5 1 v n (bys xs)) (hb : base <= w.heap.size) (so : Option Addr) (m c : Nat) (ys : List UInt8) (hm : ys.length = m) (hne : ys ≠ []) (hs : Sl w so ys) (hl : n + m <= 1000000) :
  ∃ v' w', (Builtin.append_ #[22, 22] 22 #[v, .slice so m c]).run Tryz.prog w = .ok v' w' ∧ w'.ownsRow base 5 1 v' (n + m) (bys (xs ++ ys)) ∧ Kept v.ownBlock.toList w w' := by
 obtain ⟨i0, hi, hz0, hz1, hz2⟩ := info_parts Tryz.infoByte9
 obtain ⟨g, off, rfl, hg, hc⟩ := hs.open hne
 obtain ⟨v', w', hrun, h4, h5, _, _⟩ := run_append_own_at (P := Tryz.prog) w base 22 22 5 i0 (.int .u8 0) 1 1 Tryz.underlying22 hi hz0 hz1 hz2 rfl (by decide) v _ _ h ⟨g, off, none⟩ m c (bys ys) (by rw [bys_length, hm, Nat.mul_one]) (fun j u hv => by
   obtain ⟨hj, rfl⟩ := bys_get hv
   rw [Addr.add_mid]; exact hc j hj) (bys_oneCell ys) (by unfold maxLen; omega) (by omega) hb
 exact ⟨v', w', hrun, by rw [bys_append]; exact h4, (Kept.refl _ w).grown h5 (fun g hg _ => by rw [hg]; simp)⟩
theorem run_makeB9 (w : World) (c : Nat) (h : c <= 1000000) : (Instr.makeSlice 22 (.int .i64 0) (.int .i64 c)).run Tryz.prog w = .ok (.slice (some ⟨w.heap.size, 0, none⟩) 0 c) (w.alloc (.cells (madeCells (Value.int .u8 0).cells (c * 1)) 5)) := by
 obtain ⟨i0, hi, hz0, hz1, hz2⟩ := info_parts Tryz.infoByte9
 have hmk := run_make (P := Tryz.prog) w 22 5 i0 (.int .u8 0) Tryz.underlying22 hi hz0 .i64 .i64 0 c (by omega) (by omega) (by rw [hz2]; omega) (by omega)
 rw [hz1] at hmk
 simpa using hmk
end

section
open Dlt
theorem wpList_appendRunL {ops : Array Oper} {rest : List Oper} {o : Oper} {a : Act} {w : World} {Q : Exit -> Act -> World -> Prop} (hgd : o.guard = none) (d s : Operand) (t t' : TypeId)
  (ho : o.op = .call { callee := .builtin .append, args := #[d, s], argTypes := #[t, t'] }) (v u : Value) (hd : a.eval d = v) (hs : a.eval s = u) {v' : Value} {w' : World}
  (hr : (Builtin.append_ #[t, t'] o.type #[v, u]).run Tryz.prog w = .ok v' w') (h : wpList Tryz.prog ops Q rest (a.put o.dst v') w') : wpList Tryz.prog ops Q (o :: rest) a w :=
 wpList_plain hgd fun _ hK => by
  unfold Oper.wp execOp
  simp only [ho, resolve, invoke, builtin, Sem.run_bind, Sem.run_pure, Result.andThen_ok, List.map_toArray, List.map_cons, List.map_nil, hd, hs, hr]
  exact hK _ _ h
theorem total_take (z : Nat) (L : List Stp) (k : Nat) : total z (L.take k) <= total z L := by
 conv => rhs; rw [<-List.take_append_drop k L]
 simp only [total, List.map_append, List.sum_append]
 omega
theorem take_snoc9 {L : List Stp} {k : Nat} {s : Stp} (h : L[k]? = some s) : L.take (k + 1) = L.take k ++ [s] := by
 obtain ⟨hk, rfl⟩ := List.getElem?_eq_some_iff.1 h
 exact List.take_succ_eq_append_getElem hk
theorem do_ok (W : Int) (Z T : Nat) (bk tk : Wk) (lo : Option Addr) (n lc : Nat) (L : List Stp) (bo : Option Addr) (bn bc : Nat) (bs : List UInt8) (w : World) (hL : L.length = n) (hn : n <= 1000000) (hT : tk.sum = (T : Int)) (hT2 : T <= 1000000) (hZ1 : 1 <= Z)
  (hel : ∀ i, i < n -> ∃ g off u s, lo = some ⟨g, off, none⟩ ∧ w.cell? ⟨g, off + i, none⟩ = some u ∧ L[i]? = some s ∧ StpV w s u) (hok : ∀ s, s ∈ L -> okI (bn / Z) s) (htot : total Z L <= 1000000) (hbl : bs.length = bn) (hbc : bn <= bc) (hbm : bn <= 1000000) (hbs : Sl w bo bs) :
  Calls Tryz.prog 42 #[.agg (ordC W Z bk tk (.slice lo n lc)).toArray, .slice bo bn bc] w fun e w' => (∃ ao' cap', e = .returned (.slice ao' (total Z L) cap') ∧ w'.ownsRow w.heap.size 5 1 (.slice ao' (total Z L) cap') (total Z L) (bys (doIs Z bs L))) ∧ Kept [] w w' := by
 have hA := OrdAt.new w W Z bk tk (.slice lo n lc)
 have hK := ka w (.cells (ordC W Z bk tk (.slice lo n lc)).toArray 71)
 have cT := hA.c (ordC_t (j := 0) tk.su)
 have cV := hA.c (ordC_v W Z bk tk (.slice lo n lc))
 rw [hT] at cT
 have hG1 : (w.alloc (.cells (ordC W Z bk tk (.slice lo n lc)).toArray 71)).heap.size = w.heap.size + 1 := by simp
 have HIN := hide (ai hL (ai hel (ai hok (ai htot (ai hbl (ai hbc hbs))))))
 have HA := hide hA
 clear hL hel hok htot hbl hbc hbs hA
 obtain ⟨G, hG⟩ := nm (w.heap.size)
 rw [hG] at cT cV HA hG1
 have HG := hide hG
 go_enter Tryz.func42, Tryz.ntmps42
 go_upto_region 1 with (fail)
 clear hG
 generalize w.alloc (.cells (ordC W Z bk tk (.slice lo n lc)).toArray 71) = w1 at *
 have hmk := run_makeB9 w1 T hT2
 rw [hG1] at hmk
 go_upto_region 2 with (fail)
 have hk2 := ka w1 (.cells (madeCells #[.int .u8 0] T) 5)
 have HOW : Hid ((w1.alloc (.cells (madeCells #[.int .u8 0] T) 5)).ownsRow w1.heap.size 5 1 (.slice (some ⟨G + 1, 0, none⟩) 0 T) 0 (bys [])) := by
  refine ⟨rfl, .inr ⟨G + 1, T, madeCells #[.int .u8 0] T, rfl, by omega, by rw [<-hG1]; exact heap_new w1 _, by omega, by unfold maxLen; omega, by simp [size_madeCells], by simp [bys]⟩⟩
 have cV2 := hk2.cellOf cV (by simp)
 have HA2 := hide (HA.out.kept hk2 (by simp))
 have HK2 := hide hk2
 clear hmk cT cV hk2
 generalize w1.alloc (.cells (madeCells #[.int .u8 0] T) 5) = w2 at *
 have HB1 : Hid (w1.heap.size = G + 1) := hG1
 clear hG1
 go_wp2
 go_loopw [5, 18] (fun x y wr => ∃ (k : Nat) (mo : Option Addr) (m mc : Nat), k <= n ∧ x = .slice mo m mc ∧ y = .int .i64 k ∧ m <= 1000000 ∧ Hid (wr.ownsRow w1.heap.size 5 1 (.slice mo m mc) m (bys (doIs Z bs (L.take k))) ∧ m = total Z (L.take k) ∧ Kept [] w1 wr)) (fun x y wr => n - (intOf y).toNat)
 case atStart => exact ⟨0, some ⟨G + 1, 0, none⟩, 0, T, Nat.zero_le _, rfl, rfl, by omega, HOW.out, rfl, HK2.out⟩
 case round =>
  clear HOW HA2 HK2 cV2
  obtain ⟨k, mo, m, mc, hk, rfl, rfl, hm, HS⟩ := hrel
  by_cases hlt : k < n
  ·obtain ⟨g, off, u, st, rfl, hcell, hsi, hsv⟩ := HIN.out.2.1 k hlt
   have hcr := (hK.tr HS.out.2.2).cellOf hcell (by simp)
   have hoki := HIN.out.2.2.1 st (List.mem_of_getElem? hsi)
   have HTS := hide (take_snoc9 hsi)
   have HSV := hide (hsv.kept (hK.tr HS.out.2.2))
   have htt := total_take Z L (k + 1)
   rw [HTS.out, total_snoc, <-HS.out.2.1] at htt
   have HT3 := hide (Nat.le_trans htt HIN.out.2.2.2.1)
   have hcZ := (HA.out.kept HS.out.2.2 (by simp)).c (j := 1) (u := .int .i64 Z) rfl
   clear hcell hsi hsv htt
   cases st with
   | copy f c =>
    obtain rfl : u = .iface 112 (.agg #[.int .i64 (f : Nat), .int .i64 (c : Nat)]) := HSV.out
    obtain ⟨hc1, hfc⟩ := hoki
    have hmx : (f + c) * Z <= bn := Nat.le_trans (Nat.mul_le_mul_right Z hfc) (Nat.div_mul_le_self _ _)
    rw [Nat.add_mul] at hmx
    have hM1 : 1 <= c * Z := by have : 1 * 1 <= c * Z := Nat.mul_le_mul hc1 hZ1; omega
    have hrl := fun X => runLength_ok f c Z X (by omega)
    have hlen : Stp.len Z (.copy f c) = c * Z := rfl
    have hdo : doI Z bs (.copy f c) = (bs.drop (f * Z)).take (c * Z) := rfl
    have hT3 := HT3.out
    rw [hlen] at hT3
    have hta := Tryz.isRun (.agg #[.int .i64 (f : Nat), .int .i64 (c : Nat)])
    have hzr := Tryz.zeroRun
    have HDO := hide (ai hdo hlen)
    have hmul0 : IntKind.i64.wrap ((f : Int) * (Z : Int)) = ((f * Z : Nat) : Int) := by
     have e : ((f : Int) * (Z : Int)) = ((f * Z : Nat) : Int) := by simp
     rw [e]
     generalize f * Z = A at hmx
     simp [IntKind.wrap, IntKind.bits, IntKind.signed]; omega
    clear hdo hlen
    obtain ⟨A, hA⟩ := nm (f * Z)
    obtain ⟨M, hM⟩ := nm (c * Z)
    rw [hA] at hmx hmul0 HDO
    rw [hM] at hmx hM1 hrl hT3 HDO
    clear hA hM hc1 hfc
    have hadd : IntKind.i64.wrap ((A : Int) + (M : Int)) = ((A + M : Nat) : Int) := by simp [IntKind.wrap, IntKind.bits, IntKind.signed]; omega
    obtain ⟨b, o, rfl, _⟩ := HIN.out.2.2.2.2.2.2 0 (by rw [HIN.out.2.2.2.2.1]; omega)
    have hcut := fun X => cut2 X b o bn bc A (A + M) M (by omega) (by omega) HIN.out.2.2.2.2.2.1 rfl (by have := HIN.out.2.2.2.2.2.1; omega)
    have HRL := hide hrl
    have hwat : ((bs.drop A).take M) = wat bs M A := rfl
    have HRK := hide (fun X (h : Kept [] wr X) => app9 (own_same HS.out.1 (fun g hg => h.block g (own_blk HS.out.1 hg).2.1 (by simp))) (Nat.le_trans HS.out.2.2.size h.size) (some ⟨b, o + A, none⟩) M (bc - A) (wat bs M A) (wat_length8 _ _ _ (by rw [HIN.out.2.2.2.2.1]; omega)) (fun e => by have := wat_length8 bs M A (by rw [HIN.out.2.2.2.2.1]; omega); rw [e] at this; simp at this; omega) ((HIN.out.2.2.2.2.2.2.kept ((hK.tr HS.out.2.2).tr h) (by simp)).wat8 M A (by rw [HIN.out.2.2.2.2.1]; omega)) hT3)
    obtain ⟨S, hS⟩ := nm (A + M)
    rw [hS] at hadd hcut
    clear hS hrl
    have hkr := ka wr (.cells #[.int .i64 f, .int .i64 c] 112)
    have HKR := hide hkr
    have hcZ3 := hkr.cellOf hcZ (by simp)
    clear hkr
    go_upto_region 9 with (fail)
    go_wp2_with (first
     | (go_at_call 66; refine (HRL.out _).mono ?_; rintro e w5 ⟨rfl, hk5⟩; obtain ⟨v', w6, hap, hown, hk6⟩ := HRK.out w5 (HKR.out.tr hk5); obtain ⟨ao4, cap4, rfl, _⟩ := own_shape hown; have H6 := hide (ai hown (ai hk6 hk5)); clear hown hk6 hk5)
     | refine wpList_appendRunL rfl _ _ 22 22 rfl _ _ rfl rfl hap ?_)
    have HN : Hid (w6.ownsRow w1.heap.size 5 1 (.slice ao4 (m + M) cap4) (m + M) (bys (doIs Z bs (L.take (k + 1)))) ∧ m + M = total Z (L.take (k + 1)) ∧ Kept [] w1 w6) := by
     refine ⟨?_, ?_, ((HS.out.2.2.tr HKR.out).tr H6.out.2.2).trans H6.out.2.1 (fun i hi hl => ?_)⟩
     ·rw [HTS.out, doIs_snoc, HDO.out.1, hwat]; exact H6.out.1
     ·rw [HTS.out, total_snoc, <-HS.out.2.1, HDO.out.2]
     ·have := (own_blk HS.out.1 (g := i) (by simpa using hi)).1
      omega
    clear hap
    go_roundw
    case rel => exact ⟨k + 1, ao4, m + M, cap4, by omega, rfl, by go_num, hT3, HN.out⟩
    case measure => simp [intOf]; omega
   | lit ys =>
    obtain ⟨so, sn, sc, rfl, hsn, hsc, hsl⟩ := HSV.out
    obtain ⟨v', w4, hap, hown, hk4⟩ := app9 HS.out.1 HS.out.2.2.size so sn sc ys hsn hoki.1 hsl (by have h1 := HT3.out; have h2 : Stp.len Z (.lit ys) = ys.length := rfl; omega)
    obtain ⟨ao4, cap4, rfl, _⟩ := own_shape hown
    have hta := Tryz.notRun (.slice so sn sc)
    have htb := Tryz.isLit (.slice so sn sc)
    rw [<-Tryz.appLit] at hap
    have HN : Hid (w4.ownsRow w1.heap.size 5 1 (.slice ao4 (m + sn) cap4) (m + sn) (bys (doIs Z bs (L.take (k + 1)))) ∧ m + sn = total Z (L.take (k + 1)) ∧ Kept [] w1 w4) := by
     refine ⟨?_, ?_, HS.out.2.2.trans hk4 (fun i hi hl => ?_)⟩
     ·rw [HTS.out, doIs_snoc]; exact hown
     ·rw [HTS.out, total_snoc, <-HS.out.2.1, <-hsn]; rfl
     ·have := (own_blk HS.out.1 (g := i) (by simpa using hi)).1
      omega
    have hm4 : m + sn <= 1000000 := by have h1 := HT3.out; have h2 : Stp.len Z (.lit ys) = ys.length := rfl; omega
    clear hown hk4 hsl
    go_wp2_with (refine wpList_appendRunL rfl _ _ 22 109 rfl _ _ rfl rfl hap ?_)
    go_roundw
    case rel => exact ⟨k + 1, ao4, m + sn, cap4, by omega, rfl, by go_num, hm4, HN.out⟩
    case measure => simp [intOf]; omega
  ·obtain rfl : k = n := by omega
   have hS := HS.out
   rw [List.take_of_length_le (by rw [HIN.out.1]; exact Nat.le_refl _)] at hS
   obtain ⟨h1, rfl, h3⟩ := hS
   have HF := hide (ai h1 h3)
   clear h1 h3 HS
   go_wp2
   go_ret
   exact ⟨⟨mo, mc, rfl, own_base HF.out.1 hK.size⟩, hK.tr HF.out.2⟩
end

section
open Dlt
namespace Dlt
end Dlt
end

section
open Dlt
theorem Tryz.zeroOrd (W : World) : (zeroValue 71).run Tryz.prog W = .ok (.agg (ordC 0 0 wk0 wk0 (.slice none 0 0)).toArray) W := by kernel_rfl
theorem Tryz.infoOrdS : (Tryz.prog.info? 71).map (·.size) = some 69 := by kernel_rfl
theorem ordC_size (W Z : Int) (bk tk : Wk) (v : Value) : (ordC W Z bk tk v).toArray.size = 69 := by rw [List.size_toArray, ordC_len]
theorem OrdAt.fr {w : World} {G : Nat} {W Z : Int} {bk tk : Wk} {v : Value} (h : OrdAt w G W Z bk tk v) (i : Nat) : w.frozen? ⟨G, i, none⟩ = false := frozen_of_row _ _ _ _ _ h.row
theorem OrdAt.lt {w : World} {G : Nat} {W Z : Int} {bk tk : Wk} {v : Value} (h : OrdAt w G W Z bk tk v) : G < w.heap.size := (gs h.row).1
theorem OrdAt.setW {w : World} {G : Nat} {W Z : Int} {bk tk : Wk} {v : Value} (h : OrdAt w G W Z bk tk v) (x : Int) : OrdAt (w.setCell ⟨G, 0, none⟩ (.int .i64 x)) G x Z bk tk v := ⟨by rw [heap_setCell_same w _ 0 _ _ _ h.row]; rfl⟩
theorem OrdAt.setZ {w : World} {G : Nat} {W Z : Int} {bk tk : Wk} {v : Value} (h : OrdAt w G W Z bk tk v) (x : Int) : OrdAt (w.setCell ⟨G, 1, none⟩ (.int .i64 x)) G W x bk tk v := ⟨by rw [heap_setCell_same w _ 1 _ _ _ h.row]; rfl⟩
theorem OrdAt.setV {w : World} {G : Nat} {W Z : Int} {bk tk : Wk} {v : Value} (h : OrdAt w G W Z bk tk v) (u : Value) : OrdAt (w.setCell ⟨G, 68, none⟩ u) G W Z bk tk u := by
 refine ⟨?_⟩
 rw [heap_setCell_same w _ 68 _ _ _ h.row]
 congr 2
 apply Array.ext'
 simp only [Array.toList_setIfInBounds, List.toList_toArray]
 unfold ordC
 rw [List.set_cons_succ, List.set_cons_succ, List.set_append_right _ _ (by rw [bk.len]; omega), bk.len, List.set_append_right _ _ (by rw [tk.len]; omega), tk.len]
 rfl
theorem OrdAt.there_b {w : World} {G : Nat} {W Z : Int} {bk tk : Wk} {v : Value} (h : OrdAt w G W Z bk tk v) : w.there G 2 33 := there_row h.row _ _ (by rw [ordC_size]; omega)
theorem OrdAt.there_t {w : World} {G : Nat} {W Z : Int} {bk tk : Wk} {v : Value} (h : OrdAt w G W Z bk tk v) : w.there G 35 33 := there_row h.row _ _ (by rw [ordC_size]; omega)
theorem OrdAt.setB {w : World} {G : Nat} {W Z : Int} {bk tk : Wk} {v : Value} (h : OrdAt w G W Z bk tk v) (e : Wk) : OrdAt (w.setCells G 2 e.cells) G W Z e tk v := by
 refine ⟨?_⟩
 rw [setCells_row _ _ _ _ _ _ h.row (by rw [e.len, ordC_len]; omega), setRow_heap _ _ _ _ _ _ h.row, e.len]
 congr 3
 unfold ordC
 show [.int .i64 W, .int .i64 Z] ++ (e.cells ++ (bk.cells ++ (tk.cells ++ [v])).drop 33) = _
 rw [List.drop_append, List.drop_of_length_le (by rw [bk.len]; exact Nat.le_refl _), bk.len]
 rfl
theorem OrdAt.setT {w : World} {G : Nat} {W Z : Int} {bk tk : Wk} {v : Value} (h : OrdAt w G W Z bk tk v) (e : Wk) : OrdAt (w.setCells G 35 e.cells) G W Z bk e v := by
 refine ⟨?_⟩
 rw [setCells_row _ _ _ _ _ _ h.row (by rw [e.len, ordC_len]; omega), setRow_heap _ _ _ _ _ _ h.row, e.len]
 congr 3
 have l1 : ([Value.int .i64 W, Value.int .i64 Z] ++ bk.cells).length = 35 := by rw [List.length_append, bk.len]; rfl
 have e1 : ordC W Z bk tk v = ([.int .i64 W, .int .i64 Z] ++ bk.cells) ++ (tk.cells ++ [v]) := by simp [ordC]
 have e2 : ordC W Z bk e v = ([.int .i64 W, .int .i64 Z] ++ bk.cells) ++ (e.cells ++ [v]) := by simp [ordC]
 rw [e1, e2, List.take_append_of_le_length (by omega), List.take_of_length_le (by omega), List.drop_append, List.drop_of_length_le (by omega), List.nil_append, l1, show 35 + 33 - 35 = 33 by omega, List.drop_append, List.drop_of_length_le (by rw [tk.len]; omega), List.nil_append, tk.len]
 simp
structure Lst (wr : World) (gL c : Nat) (vals : List Value) : Prop where
 row : wr.heap[gL]? = some (.cells (vals ++ List.replicate (c - vals.length) Value.nilIface).toArray 123 (0, 0))
 le : vals.length <= c
theorem Lst.kept {l : List Nat} {w1 w2 : World} {gL c : Nat} {vals : List Value} (h : Lst w1 gL c vals) (hk : Kept l w1 w2) (hn : gL ∉ l) : Lst w2 gL c vals := ⟨(hk.block gL (gs h.row).1 hn).trans h.row, h.le⟩
theorem Lst.cell {w : World} {gL c : Nat} {vals : List Value} (h : Lst w gL c vals) {i : Nat} {u : Value} (hu : vals[i]? = some u) : w.cell? ⟨gL, i, none⟩ = some u := by
 rw [cell_of_row _ _ _ _ _ _ h.row, List.getElem?_toArray, List.getElem?_append_left (List.getElem?_eq_some_iff.1 hu).1]
 exact hu
theorem Lst.next {w : World} {gL c : Nat} {vals : List Value} (h : Lst w gL c vals) (hl : vals.length < c) : w.cell? ⟨gL, vals.length, none⟩ = some .nilIface ∧ w.frozen? ⟨gL, vals.length, none⟩ = false := by
 refine ⟨?_, frozen_of_row _ _ _ _ _ h.row⟩
 rw [cell_of_row _ _ _ _ _ _ h.row, List.getElem?_toArray, List.getElem?_append_right (Nat.le_refl _), Nat.sub_self, List.getElem?_replicate, if_pos (by omega)]
theorem Lst.put {w : World} {gL c : Nat} {vals : List Value} (h : Lst w gL c vals) (hl : vals.length < c) (u : Value) : Lst (w.setCell ⟨gL, vals.length, none⟩ u) gL c (vals ++ [u]) := by
 refine ⟨?_, by rw [List.length_append, List.length_singleton]; omega⟩
 rw [heap_setCell_same w _ _ _ _ _ h.row]
 congr 2
 apply Array.ext'
 simp only [Array.toList_setIfInBounds, List.toList_toArray]
 rw [List.set_append_right _ _ (Nat.le_refl _), Nat.sub_self, List.length_append, List.length_singleton, show c - vals.length = (c - (vals.length + 1)) + 1 by omega, List.replicate_succ, List.set_cons_zero]
 simp
theorem run_makeI9 (w : World) (c : Nat) (h : c <= 1000000) : (Instr.makeSlice 64 (.int .i64 c) (.int .i64 c)).run Tryz.prog w = .ok (.slice (some ⟨w.heap.size, 0, none⟩) c c) (w.alloc (.cells (List.replicate c Value.nilIface).toArray 123)) := by
 obtain ⟨i0, hi, hz0, hz1, hz2⟩ := info_parts Tryz.infoIns8
 have hmk := run_make (P := Tryz.prog) w 64 123 i0 .nilIface Tryz.underlying64 hi hz0 .i64 .i64 c c (by omega) (by omega) (by rw [hz2]; omega) (by omega)
 rw [hz1] at hmk
 have e : madeCells (Value.nilIface).cells (c * 1) = (List.replicate c Value.nilIface).toArray := by
  apply Array.ext
  ·simp [size_madeCells]
  ·intro i h1 h2
   simp [madeCells, Value.cells, Nat.mod_one]
 simp only [Int.toNat_natCast, e] at hmk
 exact hmk
theorem Lst.new (w : World) (c : Nat) : Lst (w.alloc (.cells (List.replicate c Value.nilIface).toArray 123)) w.heap.size c [] := ⟨heap_new w _, Nat.zero_le _⟩
end

section
open Dlt
theorem Tryz.underSeal : Tryz.prog.underlying 68 = some (.struct (Tryz.prog.fieldsOf 68)) := by kernel_rfl
theorem Tryz.eqlSeal (A B : Wk) (W : World) : (Op.equalIn 10000 68 (.agg A.cells.toArray) (.agg B.cells.toArray)).run Tryz.prog W = .ok (wkEq A B) W := by
 rw [run_equalIn_struct (P := Tryz.prog) W 9999 68 _ _ Tryz.underSeal (by kernel_rfl)]
 simp (config := { decide := true }) only [Program.fieldsOf, Tryz.underlying68, Op.eqFields, Sem.run_bind, Sem.run_ite, ne_eq, not_false_eq_true, if_true, Tryz.partSum, Tryz.partWid, Result.andThen_ok, run_equalIn_int W 9998 3 .i64 .i64 _ _ Tryz.underlying3, Tryz.equalID 9997 A.id B.id A.hid B.hid]
 have e2 : (A.sum == B.sum) = decide (A.sum = B.sum) := by rw [Bool.eq_iff_iff]; simp
 rw [e2]
 unfold wkEq
 cases decide (A.sum = B.sum) <;> cases decide (A.id = B.id) <;> simp
end

end Go.Proofs.YtmklodligplbaaaGreat
