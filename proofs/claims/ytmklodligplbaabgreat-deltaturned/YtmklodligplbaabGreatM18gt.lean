import Derived.Test.YtmklodligplbaabGreatL18yt
open Go.RowKit
set_option linter.unusedVariables false
set_option linter.unusedSimpArgs false
set_option maxRecDepth 100000
set_option maxHeartbeats 0
namespace Go.Proofs.YtmklodligplbaabGreat
section
open Dlt
theorem flip_ok {w W : World} {B g n c B2 h m e i : Nat} {D E : List UInt8} (y : UInt8) (hO : OwnB W B (.slice (some ⟨g, 0, none⟩) n c) D) (hE : OwnB W B2 (.slice (some ⟨h, 0, none⟩) m e) E) (hk : Kept [] w W) (hi : i < D.length) (hgh : g ≠ h) (hg : w.heap.size <= g) :
  ∃ xv zv : Nat, xv < 256 ∧ zv < 256 ∧ W.cell? ⟨g, i, none⟩ = some (.int .u8 xv) ∧ W.frozen? ⟨g, i, none⟩ = false ∧ bits .xor .u8 (xv : Int) (y.toNat : Int) = (zv : Int) ∧
   OwnB (W.setCell ⟨g, i, none⟩ (.int .u8 zv)) B (.slice (some ⟨g, 0, none⟩) n c) (D.set i (D.getD i 0 ^^^ y)) ∧ OwnB (W.setCell ⟨g, i, none⟩ (.int .u8 zv)) B2 (.slice (some ⟨h, 0, none⟩) m e) E ∧ Kept [] w (W.setCell ⟨g, i, none⟩ (.int .u8 zv)) := by
 obtain ⟨c1, f1, s1⟩ := own_set9 hO (k := i) hi (D.getD i 0 ^^^ y)
 have kh : Kept [g] W (W.setCell ⟨g, i, none⟩ (.int .u8 (D.getD i 0 ^^^ y).toNat)) := (Kept.refl [g] W).setCell (by simp) _
 exact ⟨(D.getD i 0).toNat, (D.getD i 0 ^^^ y).toNat, UInt8.toNat_lt _, UInt8.toNat_lt _, c1, f1, u8_xor_at _ _, s1 _ rfl, hE.kept kh (fun q hq => by cases hq; simpa using fun h => hgh h.symm), hk.trans kh (fun j hj hl => by simp only [List.mem_singleton] at hj; omega)⟩
theorem turned18_no (width : Int) (ao : Option Addr) (n cap : Nat) (size : Int) (bo : Option Addr) (m bc : Nat) (at_ : Int) (bv : Value) (xs : List UInt8) (w : World) (h1 : InB w ao n cap xs) (hc : signE width n size ≠ 0) :
  Calls Tryz.prog 4 #[.int .i64 width, .slice ao n cap, .int .i64 size, .slice bo m bc, .int .i64 at_, bv] w fun e w' => e = .returned (.bool true) ∧ Below w.heap.size w w' := by
 have hz := Tryz.zeroSig
 have hkn := known18_ok w
 have H1 := hide h1
 clear h1
 have hS := fun W (hW : Kept [] w W) => sign_ok width ao n cap size xs W H1.out.len H1.out.le (H1.out.sl.kept hW (by simp)) (by have := H1.out.in8.max; omega)
 obtain ⟨c, hcc⟩ := nm (signE width n size)
 obtain ⟨sg, hsg⟩ := nm (signS width xs size)
 obtain ⟨sn, hsn⟩ := nm (sg.blocks.length)
 have HQS := hide hsn
 rw [hcc] at hc hS
 rw [hsg] at hS
 have hc0 : (c == 0) = false := by simpa using hc
 clear hcc hsg hsn hc
 go_enter Tryz.func4, Tryz.ntmps4
 go_upto_region 3 with (go_at_call 7; refine hkn.mono ?_; rintro r w1 ⟨rfl, hk1⟩; have HK1 := hide hk1; have hS1 := hS w1 hk1; clear hkn hk1 hS)
 go_upto_region 4 with (first
  | (go_at_call 13; refine hS1.mono ?_; rintro r wa ⟨hta, hka⟩; obtain ⟨so, sc, rfl, hsi, hsb⟩ := TellS.open hta; rw [HQS.out] at hsi ⊢; have Ha := hide (ai hka hsi); have hoza := heap_new wa (.cells zeroS 26); have hia := Tryz.infoSigA sg (.slice so sn sc); have hzs : zeroS.size = (sg.cells (.slice so sn sc)).toArray.size := (by rw [sig_size]; exact sig_size _ _); have hal := sig_one sg (.slice so sn sc) rfl; clear hS1 hta hka hsi hsb)
  | refine wpList_store_rowTo rfl 26 (.tmp 13) (.tmp 31) rfl rfl wa.heap.size (sg.cells (.slice so sn sc)).toArray rfl rfl 26 zeroS hoza hia hzs hal ?_)
 have kb : Kept [] wa ((wa.alloc (.cells zeroS 26)).setRow wa.heap.size (sg.cells (.slice so sn sc)).toArray) := ((Kept.refl [] wa).alloc _).trans (kept_row _ wa.heap.size _) (fun i hi hl => by simp only [List.mem_singleton] at hi; omega)
 have hA : SigAt ((wa.alloc (.cells zeroS 26)).setRow wa.heap.size (sg.cells (.slice so sn sc)).toArray) wa.heap.size sg (.slice so sn sc) := ⟨setRow_heap _ _ _ _ _ _ hoza⟩
 obtain ⟨O, hO⟩ := nm (wa.heap.size)
 rw [hO] at kb hA ⊢
 have HKb := hide ((HK1.out.tr Ha.out.1).tr kb)
 have HIb := hide (Ha.out.2.kept kb)
 clear hO hoza hia hzs hal kb Ha HK1
 generalize (wa.alloc (.cells zeroS 26)).setRow O (sg.cells (.slice so sn sc)).toArray = wb at hA HKb HIb ⊢
 have HKF := hide HKb.out
 clear hA HKb HIb
 go_wp2
 go_ret
 exact ⟨rfl, HKF.out.below0⟩
theorem turned18_bad (width : Int) (ao : Option Addr) (n cap Z : Nat) (bo : Option Addr) (m bc : Nat) (at_ : Int) (bv : Value) (xs ys : List UInt8) (w : World) (h1 : InB w ao n cap xs) (h2 : InB w bo m bc ys) (hc : signE width n (Z : Int) = 0) (hm : makeE (sign width xs Z) ys ≠ 0) :
  Calls Tryz.prog 4 #[.int .i64 width, .slice ao n cap, .int .i64 Z, .slice bo m bc, .int .i64 at_, bv] w fun e w' => e = .returned (.bool true) ∧ Below w.heap.size w w' := by
 have hz := Tryz.zeroSig
 have hkn := known18_ok w
 have H1 := hide h1
 have H2 := hide h2
 clear h1 h2
 have hS := fun W (hW : Kept [] w W) => sign_ok width ao n cap (Z : Int) xs W H1.out.len H1.out.le (H1.out.sl.kept hW (by simp)) (by have := H1.out.in8.max; omega)
 have e2 : signS width xs (Z : Int) = sign width xs Z := by unfold signS; rw [H1.out.len, hc, if_pos rfl, Int.toNat_natCast]
 rw [hc, e2] at hS
 clear e2
 have hMay := sign_may (show signE width xs.length (Z : Int) = 0 by rw [H1.out.len]; exact hc)
 have HN : Hid (n <= 131072) := by
  have a3 := hMay.l2
  have e2 : (sign width xs Z).length = (xs.length : Nat) := rfl
  have e3 := H1.out.len
  show n <= 131072
  omega
 obtain ⟨sg, hsg⟩ := nm (sign width xs Z)
 obtain ⟨sn, hsn⟩ := nm (sg.blocks.length)
 have HQS := hide hsn
 rw [hsg] at hS hMay hm
 clear hsg hsn hc
 have he1 : okE (may sg) = 0 := by rw [may_iff.2 hMay]; rfl
 have he2 : encodeS sg = encS sg := by unfold encodeS; rw [may_iff.2 hMay, if_pos rfl]
 obtain ⟨eb, heb⟩ := nm (encS sg)
 obtain ⟨en, hen⟩ := nm (eb.length)
 have HEB : Hid ((∃ us, eb = sealed us) ∧ 4 <= en ∧ en <= 131072) := by
  have h5 := encS_len hMay
  rw [heb, hen] at h5
  refine ⟨⟨bodyS sg, heb.symm⟩, ?_, by omega⟩
  rw [<-hen, <-heb]
  show 4 <= (sealed (bodyS sg)).length
  rw [sealed_len]
  omega
 have HEN := hide hen
 clear hen hMay
 go_enter Tryz.func4, Tryz.ntmps4
 go_upto_region 3 with (go_at_call 7; refine hkn.mono ?_; rintro r w1 ⟨rfl, hk1⟩; have HK1 := hide hk1; have hS1 := hS w1 hk1; clear hkn hk1 hS)
 go_upto_region 4 with (first
  | (go_at_call 13; refine hS1.mono ?_; rintro r wa ⟨hta, hka⟩; obtain ⟨so, sc, rfl, hsi, hsb⟩ := TellS.open hta; rw [HQS.out] at hsi ⊢; have Ha := hide (ai hka hsi); have hoza := heap_new wa (.cells zeroS 26); have hia := Tryz.infoSigA sg (.slice so sn sc); have hzs : zeroS.size = (sg.cells (.slice so sn sc)).toArray.size := (by rw [sig_size]; exact sig_size _ _); have hal := sig_one sg (.slice so sn sc) rfl; clear hS1 hta hka hsi hsb)
  | refine wpList_store_rowTo rfl 26 (.tmp 13) (.tmp 31) rfl rfl wa.heap.size (sg.cells (.slice so sn sc)).toArray rfl rfl 26 zeroS hoza hia hzs hal ?_)
 have kb : Kept [] wa ((wa.alloc (.cells zeroS 26)).setRow wa.heap.size (sg.cells (.slice so sn sc)).toArray) := ((Kept.refl [] wa).alloc _).trans (kept_row _ wa.heap.size _) (fun i hi hl => by simp only [List.mem_singleton] at hi; omega)
 have hA : SigAt ((wa.alloc (.cells zeroS 26)).setRow wa.heap.size (sg.cells (.slice so sn sc)).toArray) wa.heap.size sg (.slice so sn sc) := ⟨setRow_heap _ _ _ _ _ _ hoza⟩
 obtain ⟨O, hO⟩ := nm (wa.heap.size)
 rw [hO] at kb hA ⊢
 have HKb := hide ((HK1.out.tr Ha.out.1).tr kb)
 have HIb := hide (Ha.out.2.kept kb)
 clear hO hoza hia hzs hal kb Ha HK1
 generalize (wa.alloc (.cells zeroS 26)).setRow O (sg.cells (.slice so sn sc)).toArray = wb at hA HKb HIb ⊢
 have hM := make_ok sg so sn sc bo m bc ys wb HIb.out H2.out.len H2.out.le (H2.out.sl.kept HKb.out (by simp)) (by have := H2.out.in8.max; have := H2.out.le; have := H2.out.max; omega)
 have hE := fun W (hW : Kept [] wb W) => encode_ok sg so sn sc W (HIb.out.kept hW)
 rw [he1, he2, heb] at hE
 have HE := hide hE
 obtain ⟨mb, hmb⟩ := nm (makeB sg ys)
 obtain ⟨dn, hdn⟩ := nm (mb.length)
 rw [hmb] at hM
 obtain ⟨c2, hc2⟩ := nm (makeE sg ys)
 rw [hc2] at hM hm
 have hc20 : (c2 == 0) = false := by simpa using hm
 have hc21 : (c2 != 0) = true := by simpa using hm
 have hc22 : ¬ c2 = 0 := hm
 clear hc2 hm hmb
 have HDN := hide hdn
 have hrz := hA.range
 have HA := hide hA
 have hil := Tryz.infoSig sg (.slice so sn sc)
 clear hA hdn hE he1 he2 heb
 go_upto_region 7 with (first
  | refine wpList_load_mid rfl 26 (.tmp 13) rfl O 0 rfl (sg.cells (.slice so sn sc)) _ hrz Tryz.underlying26 rfl hil ?_
  | (go_at_call 8; refine hM.mono ?_; rintro r wc ⟨⟨dO, dc, rfl, hod⟩, hkc⟩; rw [HDN.out] at hod ⊢; have Hc := hide (ai hod hkc); clear hM hod hkc))
 clear hrz
 have hrz := (HA.out.kept Hc.out.2 (by simp)).range
 have hE := HE.out wc Hc.out.2
 clear HE HA
 go_upto_region 8 with (first
  | refine wpList_load_mid rfl 26 (.tmp 13) rfl O 0 rfl (sg.cells (.slice so sn sc)) _ hrz Tryz.underlying26 rfl hil ?_
  | (go_at_call 14; refine hE.mono ?_; rintro r wd ⟨⟨eO, ec, rfl, hoe⟩, hkd⟩; rw [HEN.out] at hoe ⊢; have Hd := hide (ai hoe hkd); clear hE hoe hkd))
 clear hrz hil HIb
 have HKF := hide ((HKb.out.tr Hc.out.2).tr Hd.out.2)
 clear Hc Hd HKb
 go_wp2
 go_ret
 exact ⟨rfl, HKF.out.below0⟩
end

section
open Dlt
theorem run_appSl2 (w : World) (base : Nat) (v : Value) (xs ys : List UInt8) (h : OwnB w base v xs) (ao : Option Addr) (n c : Nat) (hn : ys.length = n) (hs : Sl w ao ys) (h0 : ao = none -> ys = [] ∧ c = 0) (hl : xs.length + n <= 140737488355328) (hb : base <= w.heap.size) :
  ∃ v' w', (Builtin.append_ #[27, 27] 27 #[v, .slice ao n c]).run Tryz.prog w = .ok v' w' ∧ OwnB w' base v' (xs ++ ys) ∧ Kept v.ownBlock.toList w w' ∧ (v'.ownBlock = v.ownBlock ∨ v'.ownBlock = some w.heap.size) := by
 subst hn
 obtain ⟨i0, hi, hz0, hz1, hz2⟩ := info_parts Tryz.infoByte9
 cases ao with
 | none =>
  obtain ⟨rfl, rfl⟩ := h0 rfl
  refine ⟨v, w, run_append_owned_none (P := Tryz.prog) (w := w) base 27 27 5 i0 1 Tryz.underlying27 hi v xs.length (bys xs) h, by rw [List.append_nil]; exact h, Kept.refl _ _, .inl rfl⟩
 | some ad =>
  obtain ⟨v', w', hrun, h1', h2, h3, h4⟩ := run_append_own_at (P := Tryz.prog) w base 27 27 5 i0 (.int .u8 0) 1 1 Tryz.underlying27 hi hz0 hz1 hz2 rfl (by omega) v xs.length (bys xs) h ad ys.length c (bys ys) (by rw [bys_length]; omega)
   (fun j u hj => by
    obtain ⟨hj', rfl⟩ := bys_get hj
    obtain ⟨b', off', e', hc⟩ := hs j hj'
    cases e'
    rw [Addr.add_mid]; exact hc) (bys_oneCell ys) (by unfold maxLen; omega) (by omega) hb
  refine ⟨v', w', hrun, ?_, (Kept.refl _ w).grown h2 (fun k hk _ => by simp [hk]), h4⟩
  unfold OwnB
  rw [List.length_append, bys_append]
  exact h1'
structure Quad (v0 w : World) (r : Nat -> Option (Value × List UInt8)) : Prop where
 kept : Kept [] v0 w
 own : ∀ i v xs, r i = some (v, xs) -> OwnB w v0.heap.size v xs
 off : ∀ i j v xs u ys g, i ≠ j -> r i = some (v, xs) -> r j = some (u, ys) -> v.ownBlock = some g -> u.ownBlock = some g -> False
def upd4 (r : Nat -> Option (Value × List UInt8)) (i : Nat) (x : Option (Value × List UInt8)) : Nat -> Option (Value × List UInt8) := fun j => if j = i then x else r j
theorem Quad.make {v0 w : World} {r : Nat -> Option (Value × List UInt8)} (h : Quad v0 w r) (i : Nat) (ys : List UInt8) (hl : ys.length <= 1) :
  Quad v0 (w.alloc (.cells (bys ys).toArray 5)) (upd4 r i (some (.slice (some ⟨w.heap.size, 0, none⟩) ys.length ys.length, ys))) := by
 have hk := ka w (.cells (bys ys).toArray 5)
 refine ⟨h.kept.tr hk, fun j v xs hj => ?_, fun j k v xs u zs g hne hj hk2 hv hu => ?_⟩
 ·unfold upd4 at hj
  split at hj
  ·injection hj with hj
   injection hj with e1 e2
   subst e1 e2
   exact ⟨by rw [bys_length]; omega, .inr ⟨w.heap.size, ys.length, (bys ys).toArray, rfl, h.kept.size, heap_alloc_new w _, Nat.le_refl _, by unfold maxLen; omega, by simp [bys_length], by rw [Nat.mul_one, <-bys_length ys]; simp⟩⟩
  ·exact (h.own j v xs hj).kept hk (by simp)
 ·unfold upd4 at hj hk2
  split at hj
  ·split at hk2
   ·omega
   ·injection hj with hj
    injection hj with e1 e2
    subst e1
    have := ((h.own k u zs hk2).far g hu).2
    simp [Value.ownBlock] at hv
    omega
  ·split at hk2
   ·injection hk2 with hk2
    injection hk2 with e1 e2
    subst e1
    have := ((h.own j v xs hj).far g hv).2
    simp [Value.ownBlock] at hu
    omega
   ·exact h.off j k v xs u zs g hne hj hk2 hv hu
theorem Quad.app {v0 w : World} {r : Nat -> Option (Value × List UInt8)} (h : Quad v0 w r) {i : Nat} {v : Value} {xs ys : List UInt8} (hi : r i = some (v, xs)) (ao : Option Addr) (n c : Nat) (hn : ys.length = n) (hs : Sl w ao ys) (h0 : ao = none -> ys = [] ∧ c = 0) (hl : xs.length + n <= 140737488355328) :
  ∃ v' w', (Builtin.append_ #[27, 27] 27 #[v, .slice ao n c]).run Tryz.prog w = .ok v' w' ∧ Quad v0 w' (upd4 r i (some (v', xs ++ ys))) := by
 have hov := h.own i v xs hi
 obtain ⟨v', w', hrun, ho, hk, hb⟩ := run_appSl2 w v0.heap.size v xs ys hov ao n c hn hs h0 hl h.kept.size
 have hko : Kept [] v0 w' := h.kept.trans hk (fun g hg hlt => by
  have hg2 : v.ownBlock = some g := by simpa using hg
  have := (hov.far g hg2).1
  omega)
 have hoth : ∀ j u zs, j ≠ i -> r j = some (u, zs) -> OwnB w' v0.heap.size u zs := fun j u zs hne hj =>
  (h.own j u zs hj).kept hk (fun g hg hgl => h.off j i u zs v xs g hne hj hi hg (by simpa using hgl))
 have hap : ∀ j u zs g, j ≠ i -> r j = some (u, zs) -> u.ownBlock = some g -> v'.ownBlock = some g -> False := fun j u zs g hne hj hu hv => by
  rcases hb with hb | hb
  ·rw [hb] at hv; exact h.off j i u zs v xs g hne hj hi hu hv
  ·rw [hb] at hv
   injection hv with hv
   have := ((h.own j u zs hj).far g hu).2
   omega
 refine ⟨v', w', hrun, hko, fun j u zs hj => ?_, fun j k u zs u2 zs2 g hne hj hk2 hu hu2 => ?_⟩
 ·unfold upd4 at hj
  split at hj
  ·injection hj with hj
   injection hj with e1 e2
   subst e1 e2
   exact ho
  ·rename_i hne
   exact hoth j u zs hne hj
 ·unfold upd4 at hj hk2
  split at hj
  ·split at hk2
   ·omega
   ·rename_i hki
    injection hj with hj
    injection hj with e1 e2
    subst e1
    exact hap k u2 zs2 g hki hk2 hu2 hu
  ·rename_i hji
   split at hk2
   ·injection hk2 with hk2
    injection hk2 with e1 e2
    subst e1
    exact hap j u zs g hji hj hu hu2
   ·exact h.off j k u zs u2 zs2 g hne hj hk2 hu hu2
theorem wpOp_new0 {ops : Array Oper} {Q : Exit -> Act -> World -> Prop} {i : Nat} {o : Oper} {K : Act -> World -> Prop} {a : Act} {w : World} (ho : ops[i]? = some o) (hw : Region.wanted o (yielded ops a.tmps) = true) (hop : o.op = .buildSlice 27 0 #[])
  (h : K (a.put o.dst (.slice (some ⟨w.heap.size, 0, none⟩) 0 0)) (w.alloc (.cells (bys []).toArray 5))) : wpOp Tryz.prog ops Q i K a w := by
 obtain ⟨i0, hi, hz0, hz1, hz2⟩ := info_parts Tryz.infoByte9
 refine wpOp_step ho (fun K' hK => ?_)
 rw [if_pos hw]
 have hr : (Instr.buildSlice 27 0 #[]).run Tryz.prog w = .ok (.slice (some ⟨w.heap.size, 0, none⟩) 0 0) (w.alloc (.cells #[] 5)) := by
  simp [Instr.buildSlice, run_underlying Tryz.underlying27, sizeOf, typeInfo, zeroValue, hi, hz0, hz1, newRow, Instr.fill]
  rw [show Array.range 0 = #[] by kernel_rfl, Array.map_empty]
 unfold Oper.wp execOp
 simp only [hop, Sem.run_bind, List.map_toArray, List.map_nil, hr, Result.andThen_ok]
 exact hK _ _ h
theorem wpOp_new1 {ops : Array Oper} {Q : Exit -> Act -> World -> Prop} {i : Nat} {o : Oper} {K : Act -> World -> Prop} {a : Act} {w : World} {s : Operand} {y : UInt8} (ho : ops[i]? = some o) (hw : Region.wanted o (yielded ops a.tmps) = true) (hop : o.op = .buildSlice 27 1 #[(0, s)]) (hs : a.eval s = .int .u8 y.toNat)
  (h : K (a.put o.dst (.slice (some ⟨w.heap.size, 0, none⟩) 1 1)) (w.alloc (.cells (bys [y]).toArray 5))) : wpOp Tryz.prog ops Q i K a w := by
 obtain ⟨i0, hi, hz0, hz1, hz2⟩ := info_parts Tryz.infoByte9
 refine wpOp_step ho (fun K' hK => ?_)
 rw [if_pos hw]
 refine wp_buildSlice 27 5 1 #[(0, s)] hop #[.int .u8 y.toNat] i0 (.int .u8 0) Tryz.underlying27 hi hz0 (by rw [hz1]; decide) (by rw [hz1]; decide) ?_ (hK _ _ h)
 rw [hz1]
 simp only [List.map_toArray, List.map_cons, List.map_nil, hs]
 kernel_rfl
theorem wpOp_app {ops : Array Oper} {Q : Exit -> Act -> World -> Prop} {i : Nat} {o : Oper} {K : Act -> World -> Prop} {a : Act} {w : World} {s t : Operand} {vs vt v' : Value} {w' : World} (ho : ops[i]? = some o) (hw : Region.wanted o (yielded ops a.tmps) = true) (hop : o.op = .call { callee := .builtin .append, args := #[s, t], argTypes := #[27, 27] }) (hty : o.type = 27) (hs : a.eval s = vs) (ht : a.eval t = vt)
  (hr : (Builtin.append_ #[27, 27] 27 #[vs, vt]).run Tryz.prog w = .ok v' w') (h : K (a.put o.dst v') w') : wpOp Tryz.prog ops Q i K a w := by
 refine wpOp_step ho (fun K' hK => ?_)
 rw [if_pos hw]
 exact wp_append_run8 w s t 27 hop vs vt hs ht (by rw [hty]; exact hr) (hK _ _ h)
structure B4 where
 p : Bool
 q : Bool
 r : Bool
 s : Bool
structure V4 where
 p : Value
 q : Value
 r : Value
 s : Value
def B4.ok (b : B4) : Bool := (!b.q || b.p) && (!b.s || (b.q && b.r))
def B4.rd (b : B4) (k : Nat) : List Nat := (if b.p then [] else [k]) ++ (if b.p && !b.q then [k + 2] else []) ++ (if b.r then [] else [k + 4]) ++ (if b.q && b.r && !b.s then [k + 5] else [])
def B4.left (b : B4) : Nat := (if b.p then 0 else 1) + (if b.q then 0 else 1) + (if b.r then 0 else 1) + (if b.s then 0 else 1)
def B4.row (b : B4) (x : V4) (ds ys : List UInt8) : Option (Value × List UInt8) := if b.s then some (x.s, ds ++ ys) else if b.q then some (x.q, ds) else if b.p then some (x.p, []) else none
def B4.one (b : B4) (x : V4) (ys : List UInt8) : Option (Value × List UInt8) := if b.r then some (x.r, ys) else none
def rr (b1 b2 : B4) (x1 x2 : V4) (ds es ys : List UInt8) : Nat -> Option (Value × List UInt8)
 | 0 => b1.row x1 ds ys
 | 1 => b1.one x1 ys
 | 2 => b2.row x2 es ys
 | 3 => b2.one x2 ys
 | _ + 4 => none
def bl2 : List Bool := [false, true]
def chk4 (f : B4 -> Bool) : Bool := bl2.all fun p => bl2.all fun q => bl2.all fun r => bl2.all fun s => f ⟨p, q, r, s⟩
theorem chk4_at {f : B4 -> Bool} (h : chk4 f = true) (b : B4) : f b = true := by
 obtain ⟨p, q, r, s⟩ := b
 simp only [chk4, bl2, List.all_cons, List.all_nil, Bool.and_true, Bool.and_eq_true] at h
 cases p <;> cases q <;> cases r <;> cases s <;> simp only [h]
def B4.rd2 (b : B4) (t : Bool) (k : Nat) : List Nat := (if b.p then [] else [k]) ++ (if b.p && !b.q && t then [k + 2] else []) ++ (if b.r then [] else [k + 4]) ++ (if b.q && b.r && !b.s then [k + 5] else [])
def chk8 (ops : Array Oper) (L : B4 -> B4 -> Array Bool) : Bool := chk4 fun b1 => chk4 fun b2 => !(b1.ok && b2.ok && (!b2.q || b1.s)) || (b1.s && b2.s) || (Region.ready .any ops (L b1 b2) == b1.rd 10 ++ b2.rd2 b1.s 16)
theorem chk8_at {ops : Array Oper} {L : B4 -> B4 -> Array Bool} (h : chk8 ops L = true) {b1 b2 : B4} (h1 : b1.ok = true) (h2 : b2.ok = true) (h3 : (!b2.q || b1.s) = true) (hn : ¬ (b1.s = true ∧ b2.s = true)) : Region.ready .any ops (L b1 b2) = b1.rd 10 ++ b2.rd2 b1.s 16 := by
 have := chk4_at (chk4_at h b1) b2
 rw [h1, h2, h3] at this
 simp only [Bool.and_self, Bool.not_true, Bool.false_or, Bool.or_eq_true, Bool.and_eq_true, beq_iff_eq] at this
 rcases this with h | h
 ·exact absurd h hn
 ·exact h
theorem ok_p {b : B4} (hb : b.ok = true) (h : b.p = false) : ({ b with p := true } : B4).ok = true := by
 obtain ⟨p, q, r, s⟩ := b; revert hb h; cases p <;> cases q <;> cases r <;> cases s <;> simp [B4.ok]
theorem ok_q {b : B4} (hb : b.ok = true) (h : b.p = true ∧ b.q = false) : ({ b with q := true } : B4).ok = true := by
 obtain ⟨p, q, r, s⟩ := b; revert hb h; cases p <;> cases q <;> cases r <;> cases s <;> simp [B4.ok]
theorem ok_r {b : B4} (hb : b.ok = true) (h : b.r = false) : ({ b with r := true } : B4).ok = true := by
 obtain ⟨p, q, r, s⟩ := b; revert hb h; cases p <;> cases q <;> cases r <;> cases s <;> simp [B4.ok]
theorem ok_s {b : B4} (hb : b.ok = true) (h : b.q = true ∧ b.r = true ∧ b.s = false) : ({ b with s := true } : B4).ok = true := by
 obtain ⟨p, q, r, s⟩ := b; revert hb h; cases p <;> cases q <;> cases r <;> cases s <;> simp [B4.ok]
theorem left_p {b : B4} (h : b.p = false) : b.left = ({ b with p := true } : B4).left + 1 := by simp [B4.left, h]; omega
theorem left_q {b : B4} (h : b.p = true ∧ b.q = false) : b.left = ({ b with q := true } : B4).left + 1 := by simp [B4.left, h.2]; omega
theorem left_r {b : B4} (h : b.r = false) : b.left = ({ b with r := true } : B4).left + 1 := by simp [B4.left, h]; omega
theorem left_s {b : B4} (h : b.q = true ∧ b.r = true ∧ b.s = false) : b.left = ({ b with s := true } : B4).left + 1 := by simp [B4.left, h.2.2]
theorem qs_off {b : B4} (hb : b.ok = true) (h : b.q = false) : b.s = false := by
 obtain ⟨p, q, r, s⟩ := b; revert hb h; cases p <;> cases q <;> cases r <;> cases s <;> simp [B4.ok]
theorem left_none {b : B4} (h : b.left = 0) : b = ⟨true, true, true, true⟩ := by
 obtain ⟨p, q, r, s⟩ := b; revert h; cases p <;> cases q <;> cases r <;> cases s <;> simp [B4.left]
theorem left_some {b : B4} (hb : b.ok = true) (h : b.s = true) : b.left = 0 := by
 obtain ⟨p, q, r, s⟩ := b; revert hb h; cases p <;> cases q <;> cases r <;> cases s <;> simp [B4.left, B4.ok]
theorem rd_mem {b : B4} {k i : Nat} (h : i ∈ b.rd k) : (i = k ∧ b.p = false) ∨ (i = k + 2 ∧ b.p = true ∧ b.q = false) ∨ (i = k + 4 ∧ b.r = false) ∨ (i = k + 5 ∧ b.q = true ∧ b.r = true ∧ b.s = false) := by
 obtain ⟨p, q, r, s⟩ := b
 revert h
 cases p <;> cases q <;> cases r <;> cases s <;> simp [B4.rd]
theorem rd_ne {b : B4} (hb : b.ok = true) (h : b.left ≠ 0) (k : Nat) : b.rd k ≠ [] := by
 obtain ⟨p, q, r, s⟩ := b
 revert hb h
 cases p <;> cases q <;> cases r <;> cases s <;> simp [B4.rd, B4.ok, B4.left]
theorem rd2_mem {b : B4} {t : Bool} {k i : Nat} (h : i ∈ b.rd2 t k) : (i = k ∧ b.p = false) ∨ (i = k + 2 ∧ (b.p = true ∧ b.q = false) ∧ t = true) ∨ (i = k + 4 ∧ b.r = false) ∨ (i = k + 5 ∧ b.q = true ∧ b.r = true ∧ b.s = false) := by
 obtain ⟨p, q, r, s⟩ := b
 revert h
 cases p <;> cases q <;> cases r <;> cases s <;> cases t <;> simp [B4.rd2]
theorem rd2_ne {b : B4} (hb : b.ok = true) (h : b.left ≠ 0) (k : Nat) : b.rd2 true k ≠ [] := by
 obtain ⟨p, q, r, s⟩ := b
 revert hb h
 cases p <;> cases q <;> cases r <;> cases s <;> simp [B4.rd2, B4.ok, B4.left]
theorem rr_p1 (b1 b2 : B4) (x1 x2 : V4) (ds es ys : List UInt8) (v : Value) (h : b1.ok = true) (h0 : b1.p = false) : rr { b1 with p := true } b2 { x1 with p := v } x2 ds es ys = upd4 (rr b1 b2 x1 x2 ds es ys) 0 (some (v, [])) := by
 funext i
 obtain ⟨p, q, r, s⟩ := b1
 match i with
 | 0 => revert h0 h; cases p <;> cases q <;> cases r <;> cases s <;> simp [rr, upd4, B4.row, B4.one, B4.ok]
 | 1 => revert h0 h; cases p <;> cases q <;> cases r <;> cases s <;> simp [rr, upd4, B4.row, B4.one, B4.ok]
 | 2 => revert h0 h; cases p <;> cases q <;> cases r <;> cases s <;> simp [rr, upd4, B4.row, B4.one, B4.ok]
 | 3 => revert h0 h; cases p <;> cases q <;> cases r <;> cases s <;> simp [rr, upd4, B4.row, B4.one, B4.ok]
 | _ + 4 => simp [rr, upd4]
theorem rr_q1 (b1 b2 : B4) (x1 x2 : V4) (ds es ys : List UInt8) (v : Value) (h : b1.ok = true) (h0 : b1.q = false) : rr { b1 with q := true } b2 { x1 with q := v } x2 ds es ys = upd4 (rr b1 b2 x1 x2 ds es ys) 0 (some (v, ds)) := by
 funext i
 obtain ⟨p, q, r, s⟩ := b1
 match i with
 | 0 => revert h0 h; cases p <;> cases q <;> cases r <;> cases s <;> simp [rr, upd4, B4.row, B4.one, B4.ok]
 | 1 => revert h0 h; cases p <;> cases q <;> cases r <;> cases s <;> simp [rr, upd4, B4.row, B4.one, B4.ok]
 | 2 => revert h0 h; cases p <;> cases q <;> cases r <;> cases s <;> simp [rr, upd4, B4.row, B4.one, B4.ok]
 | 3 => revert h0 h; cases p <;> cases q <;> cases r <;> cases s <;> simp [rr, upd4, B4.row, B4.one, B4.ok]
 | _ + 4 => simp [rr, upd4]
theorem rr_r1 (b1 b2 : B4) (x1 x2 : V4) (ds es ys : List UInt8) (v : Value) (h0 : b1.r = false) : rr { b1 with r := true } b2 { x1 with r := v } x2 ds es ys = upd4 (rr b1 b2 x1 x2 ds es ys) 1 (some (v, ys)) := by
 funext i
 obtain ⟨p, q, r, s⟩ := b1
 match i with
 | 0 => revert h0; cases p <;> cases q <;> cases r <;> cases s <;> simp [rr, upd4, B4.row, B4.one, B4.ok]
 | 1 => revert h0; cases p <;> cases q <;> cases r <;> cases s <;> simp [rr, upd4, B4.row, B4.one, B4.ok]
 | 2 => revert h0; cases p <;> cases q <;> cases r <;> cases s <;> simp [rr, upd4, B4.row, B4.one, B4.ok]
 | 3 => revert h0; cases p <;> cases q <;> cases r <;> cases s <;> simp [rr, upd4, B4.row, B4.one, B4.ok]
 | _ + 4 => simp [rr, upd4]
theorem rr_s1 (b1 b2 : B4) (x1 x2 : V4) (ds es ys : List UInt8) (v : Value) (h0 : b1.s = false) : rr { b1 with s := true } b2 { x1 with s := v } x2 ds es ys = upd4 (rr b1 b2 x1 x2 ds es ys) 0 (some (v, ds ++ ys)) := by
 funext i
 obtain ⟨p, q, r, s⟩ := b1
 match i with
 | 0 => revert h0; cases p <;> cases q <;> cases r <;> cases s <;> simp [rr, upd4, B4.row, B4.one, B4.ok]
 | 1 => revert h0; cases p <;> cases q <;> cases r <;> cases s <;> simp [rr, upd4, B4.row, B4.one, B4.ok]
 | 2 => revert h0; cases p <;> cases q <;> cases r <;> cases s <;> simp [rr, upd4, B4.row, B4.one, B4.ok]
 | 3 => revert h0; cases p <;> cases q <;> cases r <;> cases s <;> simp [rr, upd4, B4.row, B4.one, B4.ok]
 | _ + 4 => simp [rr, upd4]
theorem rr_p2 (b1 b2 : B4) (x1 x2 : V4) (ds es ys : List UInt8) (v : Value) (h : b2.ok = true) (h0 : b2.p = false) : rr b1 { b2 with p := true } x1 { x2 with p := v } ds es ys = upd4 (rr b1 b2 x1 x2 ds es ys) 2 (some (v, [])) := by
 funext i
 obtain ⟨p, q, r, s⟩ := b2
 match i with
 | 0 => revert h0 h; cases p <;> cases q <;> cases r <;> cases s <;> simp [rr, upd4, B4.row, B4.one, B4.ok]
 | 1 => revert h0 h; cases p <;> cases q <;> cases r <;> cases s <;> simp [rr, upd4, B4.row, B4.one, B4.ok]
 | 2 => revert h0 h; cases p <;> cases q <;> cases r <;> cases s <;> simp [rr, upd4, B4.row, B4.one, B4.ok]
 | 3 => revert h0 h; cases p <;> cases q <;> cases r <;> cases s <;> simp [rr, upd4, B4.row, B4.one, B4.ok]
 | _ + 4 => simp [rr, upd4]
theorem rr_q2 (b1 b2 : B4) (x1 x2 : V4) (ds es ys : List UInt8) (v : Value) (h : b2.ok = true) (h0 : b2.q = false) : rr b1 { b2 with q := true } x1 { x2 with q := v } ds es ys = upd4 (rr b1 b2 x1 x2 ds es ys) 2 (some (v, es)) := by
 funext i
 obtain ⟨p, q, r, s⟩ := b2
 match i with
 | 0 => revert h0 h; cases p <;> cases q <;> cases r <;> cases s <;> simp [rr, upd4, B4.row, B4.one, B4.ok]
 | 1 => revert h0 h; cases p <;> cases q <;> cases r <;> cases s <;> simp [rr, upd4, B4.row, B4.one, B4.ok]
 | 2 => revert h0 h; cases p <;> cases q <;> cases r <;> cases s <;> simp [rr, upd4, B4.row, B4.one, B4.ok]
 | 3 => revert h0 h; cases p <;> cases q <;> cases r <;> cases s <;> simp [rr, upd4, B4.row, B4.one, B4.ok]
 | _ + 4 => simp [rr, upd4]
theorem rr_r2 (b1 b2 : B4) (x1 x2 : V4) (ds es ys : List UInt8) (v : Value) (h0 : b2.r = false) : rr b1 { b2 with r := true } x1 { x2 with r := v } ds es ys = upd4 (rr b1 b2 x1 x2 ds es ys) 3 (some (v, ys)) := by
 funext i
 obtain ⟨p, q, r, s⟩ := b2
 match i with
 | 0 => revert h0; cases p <;> cases q <;> cases r <;> cases s <;> simp [rr, upd4, B4.row, B4.one, B4.ok]
 | 1 => revert h0; cases p <;> cases q <;> cases r <;> cases s <;> simp [rr, upd4, B4.row, B4.one, B4.ok]
 | 2 => revert h0; cases p <;> cases q <;> cases r <;> cases s <;> simp [rr, upd4, B4.row, B4.one, B4.ok]
 | 3 => revert h0; cases p <;> cases q <;> cases r <;> cases s <;> simp [rr, upd4, B4.row, B4.one, B4.ok]
 | _ + 4 => simp [rr, upd4]
theorem rr_s2 (b1 b2 : B4) (x1 x2 : V4) (ds es ys : List UInt8) (v : Value) (h0 : b2.s = false) : rr b1 { b2 with s := true } x1 { x2 with s := v } ds es ys = upd4 (rr b1 b2 x1 x2 ds es ys) 2 (some (v, es ++ ys)) := by
 funext i
 obtain ⟨p, q, r, s⟩ := b2
 match i with
 | 0 => revert h0; cases p <;> cases q <;> cases r <;> cases s <;> simp [rr, upd4, B4.row, B4.one, B4.ok]
 | 1 => revert h0; cases p <;> cases q <;> cases r <;> cases s <;> simp [rr, upd4, B4.row, B4.one, B4.ok]
 | 2 => revert h0; cases p <;> cases q <;> cases r <;> cases s <;> simp [rr, upd4, B4.row, B4.one, B4.ok]
 | 3 => revert h0; cases p <;> cases q <;> cases r <;> cases s <;> simp [rr, upd4, B4.row, B4.one, B4.ok]
 | _ + 4 => simp [rr, upd4]
structure Rg8 (ops : Array Oper) (L : B4 -> B4 -> Array Bool) (F : V4 -> V4 -> Act) (dv ev : Value) (y : UInt8) : Prop where
 chk : chk8 ops L = true
 set10 : ∀ b1 b2, (L b1 b2).setIfInBounds 10 true = L { b1 with p := true } b2
 o10 : ∃ o, ops[10]? = some o ∧ o.op = .buildSlice 27 0 #[] ∧ (∀ x1 x2, Region.wanted o (yielded ops (F x1 x2).tmps) = true) ∧ (∀ x1 x2 v, (F x1 x2).put o.dst v = F { x1 with p := v } x2)
 set12 : ∀ b1 b2, (L b1 b2).setIfInBounds 12 true = L { b1 with q := true } b2
 o12 : ∃ o s t, ops[12]? = some o ∧ o.op = .call { callee := .builtin .append, args := #[s, t], argTypes := #[27, 27] } ∧ (∀ x1 x2, Region.wanted o (yielded ops (F x1 x2).tmps) = true) ∧ (∀ x1 x2 v, (F x1 x2).put o.dst v = F { x1 with q := v } x2) ∧ o.type = 27 ∧ (∀ x1 x2, (F x1 x2).eval s = x1.p) ∧ (∀ x1 x2, (F x1 x2).eval t = dv)
 set14 : ∀ b1 b2, (L b1 b2).setIfInBounds 14 true = L { b1 with r := true } b2
 o14 : ∃ o s, ops[14]? = some o ∧ o.op = .buildSlice 27 1 #[(0, s)] ∧ (∀ x1 x2, Region.wanted o (yielded ops (F x1 x2).tmps) = true) ∧ (∀ x1 x2 v, (F x1 x2).put o.dst v = F { x1 with r := v } x2) ∧ (∀ x1 x2, (F x1 x2).eval s = .int .u8 y.toNat)
 set15 : ∀ b1 b2, (L b1 b2).setIfInBounds 15 true = L { b1 with s := true } b2
 o15 : ∃ o s t, ops[15]? = some o ∧ o.op = .call { callee := .builtin .append, args := #[s, t], argTypes := #[27, 27] } ∧ (∀ x1 x2, Region.wanted o (yielded ops (F x1 x2).tmps) = true) ∧ (∀ x1 x2 v, (F x1 x2).put o.dst v = F { x1 with s := v } x2) ∧ o.type = 27 ∧ (∀ x1 x2, (F x1 x2).eval s = x1.q) ∧ (∀ x1 x2, (F x1 x2).eval t = x1.r)
 set16 : ∀ b1 b2, (L b1 b2).setIfInBounds 16 true = L b1 { b2 with p := true }
 o16 : ∃ o, ops[16]? = some o ∧ o.op = .buildSlice 27 0 #[] ∧ (∀ x1 x2, Region.wanted o (yielded ops (F x1 x2).tmps) = true) ∧ (∀ x1 x2 v, (F x1 x2).put o.dst v = F x1 { x2 with p := v })
 set18 : ∀ b1 b2, (L b1 b2).setIfInBounds 18 true = L b1 { b2 with q := true }
 o18 : ∃ o s t, ops[18]? = some o ∧ o.op = .call { callee := .builtin .append, args := #[s, t], argTypes := #[27, 27] } ∧ (∀ x1 x2, Region.wanted o (yielded ops (F x1 x2).tmps) = true) ∧ (∀ x1 x2 v, (F x1 x2).put o.dst v = F x1 { x2 with q := v }) ∧ o.type = 27 ∧ (∀ x1 x2, (F x1 x2).eval s = x2.p) ∧ (∀ x1 x2, (F x1 x2).eval t = ev)
 set20 : ∀ b1 b2, (L b1 b2).setIfInBounds 20 true = L b1 { b2 with r := true }
 o20 : ∃ o s, ops[20]? = some o ∧ o.op = .buildSlice 27 1 #[(0, s)] ∧ (∀ x1 x2, Region.wanted o (yielded ops (F x1 x2).tmps) = true) ∧ (∀ x1 x2 v, (F x1 x2).put o.dst v = F x1 { x2 with r := v }) ∧ (∀ x1 x2, (F x1 x2).eval s = .int .u8 y.toNat)
 set21 : ∀ b1 b2, (L b1 b2).setIfInBounds 21 true = L b1 { b2 with s := true }
 o21 : ∃ o s t, ops[21]? = some o ∧ o.op = .call { callee := .builtin .append, args := #[s, t], argTypes := #[27, 27] } ∧ (∀ x1 x2, Region.wanted o (yielded ops (F x1 x2).tmps) = true) ∧ (∀ x1 x2 v, (F x1 x2).put o.dst v = F x1 { x2 with s := v }) ∧ o.type = 27 ∧ (∀ x1 x2, (F x1 x2).eval s = x2.q) ∧ (∀ x1 x2, (F x1 x2).eval t = x2.r)
theorem wpAnyH_two {ops : Array Oper} {L : B4 -> B4 -> Array Bool} {F : V4 -> V4 -> Act} {Q : Exit -> Act -> World -> Prop} {S : World -> Prop} {v0 : World} (hS : ∀ w, Kept [] v0 w -> S w) {fuel : Nat} {dvo evo : Option Addr} {dvn dvc evn evc : Nat} {ds es : List UInt8} {y : UInt8}
  (hR : Rg8 ops L F (.slice dvo dvn dvc) (.slice evo evn evc) y) (hdsl : ds.length = dvn) (hds : Sl v0 dvo ds) (hds0 : dvo = none -> ds = [] ∧ dvc = 0) (hdsm : dvn <= 1000000000) (hesl : es.length = evn) (hes : Sl v0 evo es) (hes0 : evo = none -> es = [] ∧ evc = 0) (hesm : evn <= 1000000000)
  (hcont : ∀ x1 x2 w, Quad v0 w (rr ⟨true, true, true, true⟩ ⟨true, true, true, true⟩ x1 x2 ds es [y]) -> wpAnyH Tryz.prog .any ops Q S fuel (L ⟨true, true, true, true⟩ ⟨true, true, true, true⟩) (F x1 x2) w) :
  ∀ (n : Nat) (b1 b2 : B4) (x1 x2 : V4) (w : World), b1.ok = true -> b2.ok = true -> (!b2.q || b1.s) = true -> b1.left + b2.left = n -> Quad v0 w (rr b1 b2 x1 x2 ds es [y]) -> wpAnyH Tryz.prog .any ops Q S (fuel + n) (L b1 b2) (F x1 x2) w := by
 intro n
 induction n with
 | zero =>
  intro b1 b2 x1 x2 w hok1 hok2 hx hl hQd
  obtain rfl := left_none (b := b1) (by omega)
  obtain rfl := left_none (b := b2) (by omega)
  exact hcont x1 x2 w hQd
 | succ n ih =>
  intro b1 b2 x1 x2 w hok1 hok2 hx hl hQd
  have hrd := chk8_at hR.chk hok1 hok2 hx (fun h => by have := left_some hok1 h.1; have := left_some hok2 h.2; omega)
  refine wpAnyH_all hrd ?_ (fun i hi => ?_)
  ·intro h
   obtain ⟨h1, h2⟩ := List.append_eq_nil_iff.1 h
   by_cases h0 : b1.left = 0
   ·obtain rfl := left_none h0
    exact rd2_ne hok2 (by omega) 16 h2
   ·exact rd_ne hok1 h0 10 h1
  rcases List.mem_append.1 hi with hi | hi
  ·rcases rd_mem hi with ⟨rfl, h⟩ | ⟨rfl, h⟩ | ⟨rfl, h⟩ | ⟨rfl, h⟩
   ·obtain ⟨o, ho, hop, hwt, hput⟩ := hR.o10
    refine wpOp_new0 ho (hwt _ _) hop ?_
    have hq := hQd.make 0 [] (by simp)
    rw [hput, hR.set10]
    rw [<-rr_p1 b1 b2 x1 x2 ds es [y] _ hok1 h] at hq
    exact ⟨hS _ hq.kept, ih _ _ _ _ _ (ok_p hok1 h) hok2 hx (by have := left_p (b := b1) h; omega) hq⟩
   ·obtain ⟨o, s, t, ho, hop, hwt, hput, hty, hs, ht⟩ := hR.o12
    have hrw : rr b1 b2 x1 x2 ds es [y] 0 = some (x1.p, []) := by
     show b1.row x1 ds [y] = _
     unfold B4.row
     rw [qs_off hok1 h.2, h.2, h.1]; rfl
    obtain ⟨v', w', hrun, hq⟩ := hQd.app hrw dvo dvn dvc hdsl (hds.kept hQd.kept (by simp)) hds0 (by simp; omega)
    refine wpOp_app ho (hwt _ _) hop hty (hs _ _) (ht _ _) hrun ?_
    rw [hput, hR.set12]
    rw [List.nil_append, <-rr_q1 b1 b2 x1 x2 ds es [y] _ hok1 h.2] at hq
    exact ⟨hS _ hq.kept, ih _ _ _ _ _ (ok_q hok1 h) hok2 hx (by have := left_q (b := b1) h; omega) hq⟩
   ·obtain ⟨o, s, ho, hop, hwt, hput, hs⟩ := hR.o14
    refine wpOp_new1 ho (hwt _ _) hop (hs _ _) ?_
    have hq := hQd.make 1 [y] (by simp)
    rw [hput, hR.set14]
    rw [<-rr_r1 b1 b2 x1 x2 ds es [y] _ h] at hq
    exact ⟨hS _ hq.kept, ih _ _ _ _ _ (ok_r hok1 h) hok2 hx (by have := left_r (b := b1) h; omega) hq⟩
   ·obtain ⟨o, s, t, ho, hop, hwt, hput, hty, hs, ht⟩ := hR.o15
    have hrw : rr b1 b2 x1 x2 ds es [y] 0 = some (x1.q, ds) := by
     show b1.row x1 ds [y] = _
     unfold B4.row
     rw [h.2.2, h.1]; rfl
    have hrw1 : rr b1 b2 x1 x2 ds es [y] 1 = some (x1.r, [y]) := by
     show b1.one x1 [y] = _
     unfold B4.one
     rw [h.2.1]; rfl
    obtain ⟨ao, cap, hxr, hc1, hsl, _, _, hnil⟩ := (hQd.own _ _ _ hrw1).shape
    obtain ⟨v', w', hrun, hq⟩ := hQd.app hrw ao 1 cap rfl hsl hnil (by omega)
    refine wpOp_app ho (hwt _ _) hop hty (hs _ _) ((ht _ _).trans hxr) hrun ?_
    rw [hput, hR.set15]
    rw [<-rr_s1 b1 b2 x1 x2 ds es [y] _ h.2.2] at hq
    exact ⟨hS _ hq.kept, ih _ _ _ _ _ (ok_s hok1 h) hok2 (by simp) (by have := left_s (b := b1) h; omega) hq⟩
  ·rcases rd2_mem hi with ⟨rfl, h⟩ | ⟨rfl, h⟩ | ⟨rfl, h⟩ | ⟨rfl, h⟩
   ·obtain ⟨o, ho, hop, hwt, hput⟩ := hR.o16
    refine wpOp_new0 ho (hwt _ _) hop ?_
    have hq := hQd.make 2 [] (by simp)
    rw [hput, hR.set16]
    rw [<-rr_p2 b1 b2 x1 x2 ds es [y] _ hok2 h] at hq
    exact ⟨hS _ hq.kept, ih _ _ _ _ _ hok1 (ok_p hok2 h) hx (by have := left_p (b := b2) h; omega) hq⟩
   ·obtain ⟨o, s, t, ho, hop, hwt, hput, hty, hs, ht⟩ := hR.o18
    have hrw : rr b1 b2 x1 x2 ds es [y] 2 = some (x2.p, []) := by
     show b2.row x2 es [y] = _
     unfold B4.row
     rw [qs_off hok2 h.1.2, h.1.2, h.1.1]; rfl
    obtain ⟨v', w', hrun, hq⟩ := hQd.app hrw evo evn evc hesl (hes.kept hQd.kept (by simp)) hes0 (by simp; omega)
    refine wpOp_app ho (hwt _ _) hop hty (hs _ _) (ht _ _) hrun ?_
    rw [hput, hR.set18]
    rw [List.nil_append, <-rr_q2 b1 b2 x1 x2 ds es [y] _ hok2 h.1.2] at hq
    exact ⟨hS _ hq.kept, ih _ _ _ _ _ hok1 (ok_q hok2 h.1) (by simp [h.2]) (by have := left_q (b := b2) h.1; omega) hq⟩
   ·obtain ⟨o, s, ho, hop, hwt, hput, hs⟩ := hR.o20
    refine wpOp_new1 ho (hwt _ _) hop (hs _ _) ?_
    have hq := hQd.make 3 [y] (by simp)
    rw [hput, hR.set20]
    rw [<-rr_r2 b1 b2 x1 x2 ds es [y] _ h] at hq
    exact ⟨hS _ hq.kept, ih _ _ _ _ _ hok1 (ok_r hok2 h) hx (by have := left_r (b := b2) h; omega) hq⟩
   ·obtain ⟨o, s, t, ho, hop, hwt, hput, hty, hs, ht⟩ := hR.o21
    have hrw : rr b1 b2 x1 x2 ds es [y] 2 = some (x2.q, es) := by
     show b2.row x2 es [y] = _
     unfold B4.row
     rw [h.2.2, h.1]; rfl
    have hrw1 : rr b1 b2 x1 x2 ds es [y] 3 = some (x2.r, [y]) := by
     show b2.one x2 [y] = _
     unfold B4.one
     rw [h.2.1]; rfl
    obtain ⟨ao, cap, hxr, hc1, hsl, _, _, hnil⟩ := (hQd.own _ _ _ hrw1).shape
    obtain ⟨v', w', hrun, hq⟩ := hQd.app hrw ao 1 cap rfl hsl hnil (by omega)
    refine wpOp_app ho (hwt _ _) hop hty (hs _ _) ((ht _ _).trans hxr) hrun ?_
    rw [hput, hR.set21]
    rw [<-rr_s2 b1 b2 x1 x2 ds es [y] _ h.2.2] at hq
    exact ⟨hS _ hq.kept, ih _ _ _ _ _ hok1 (ok_s hok2 h) hx (by have := left_s (b := b2) h; omega) hq⟩
def all8 (A : Act) (x1 x2 : V4) : Act := (((((((A.put (some 140) x1.p).put (some 142) x1.q).put (some 144) x1.r).put (some 145) x1.s).put (some 146) x2.p).put (some 148) x2.q).put (some 150) x2.r).put (some 151) x2.s
def lst8 (L : Array Bool) (b1 b2 : B4) : Array Bool := (((((((L.setIfInBounds 10 b1.p).setIfInBounds 12 b1.q).setIfInBounds 14 b1.r).setIfInBounds 15 b1.s).setIfInBounds 16 b2.p).setIfInBounds 18 b2.q).setIfInBounds 20 b2.r).setIfInBounds 21 b2.s
def non4 : B4 := ⟨false, false, false, false⟩
def yes4 : B4 := ⟨true, true, true, true⟩
def und4 : V4 := ⟨undef, undef, undef, undef⟩
theorem wpAnyH_both {ops : Array Oper} {L : Array Bool} {A : Act} {Q : Exit -> Act -> World -> Prop} {S : World -> Prop} {v0 : World} (hS : ∀ w, Kept [] v0 w -> S w) {fuel : Nat} (dvo evo : Option Addr) (dvn dvc evn evc : Nat) (ds es : List UInt8) (y : UInt8)
  (hR : Rg8 ops (lst8 L) (all8 A) (.slice dvo dvn dvc) (.slice evo evn evc) y) (hL : lst8 L non4 non4 = L) (hA : all8 A und4 und4 = A) (hd : InB8 v0 dvo dvn dvc ds) (hdm : dvn <= 1000000000) (he : InB8 v0 evo evn evc es) (hem : evn <= 1000000000)
  (hcont : ∀ x1 x2 w, S w -> OwnB w v0.heap.size x1.s (ds ++ [y]) -> OwnB w v0.heap.size x2.s (es ++ [y]) -> Kept [] v0 w -> wpAnyH Tryz.prog .any ops Q S fuel (lst8 L yes4 yes4) (all8 A x1 x2) w) :
  wpAnyH Tryz.prog .any ops Q S (fuel + 8) L A v0 := by
 have hn : ∀ i, rr non4 non4 und4 und4 ds es [y] i = none := fun i => by
  match i with
  | 0 => rfl
  | 1 => rfl
  | 2 => rfl
  | 3 => rfl
  | _ + 4 => rfl
 have hq0 : Quad v0 v0 (rr non4 non4 und4 und4 ds es [y]) := ⟨Kept.refl _ _, (fun i v xs h => by rw [hn] at h; cases h), (fun i j v xs u ys g _ h => by rw [hn] at h; cases h)⟩
 have h := wpAnyH_two hS hR hd.len hd.sl hd.nil hdm he.len he.sl he.nil hem (fuel := fuel) (Q := Q) (fun x1 x2 w hq => hcont x1 x2 w (hS w hq.kept) (hq.own 0 _ _ rfl) (hq.own 2 _ _ rfl) hq.kept) 8 non4 non4 und4 und4 v0 rfl rfl rfl rfl hq0
 rw [hL, hA] at h
 exact h
end

section
open Dlt
theorem turned18_zero (width : Int) (ao : Option Addr) (n cap Z : Nat) (bo : Option Addr) (m bc : Nat) (at_ : Int) (xs ys : List UInt8) (w : World) (h1 : InB w ao n cap xs) (h2 : InB w bo m bc ys) (hat : (Lit.int .i64 at_).wf = true) (hc : signE width n (Z : Int) = 0) (hm : makeE (sign width xs Z) ys = 0) :
  Calls Tryz.prog 4 #[.int .i64 width, .slice ao n cap, .int .i64 Z, .slice bo m bc, .int .i64 at_, .int .u8 0] w fun e w' => e = .returned (.bool true) ∧ Below w.heap.size w w' := by
 have HAT := hide hat
 clear hat
 have hz := Tryz.zeroSig
 have hkn := known18_ok w
 have H1 := hide h1
 have H2 := hide h2
 clear h1 h2
 have hS := fun W (hW : Kept [] w W) => sign_ok width ao n cap (Z : Int) xs W H1.out.len H1.out.le (H1.out.sl.kept hW (by simp)) (by have := H1.out.in8.max; omega)
 have e2 : signS width xs (Z : Int) = sign width xs Z := by unfold signS; rw [H1.out.len, hc, if_pos rfl, Int.toNat_natCast]
 rw [hc, e2] at hS
 clear e2
 have hMay := sign_may (show signE width xs.length (Z : Int) = 0 by rw [H1.out.len]; exact hc)
 have HN : Hid (n <= 131072) := by
  have a3 := hMay.l2
  have e2 : (sign width xs Z).length = (xs.length : Nat) := rfl
  have e3 := H1.out.len
  show n <= 131072
  omega
 obtain ⟨sg, hsg⟩ := nm (sign width xs Z)
 obtain ⟨sn, hsn⟩ := nm (sg.blocks.length)
 have HQS := hide hsn
 rw [hsg] at hS hMay hm
 clear hsg hsn hc
 have he1 : okE (may sg) = 0 := by rw [may_iff.2 hMay]; rfl
 have he2 : encodeS sg = encS sg := by unfold encodeS; rw [may_iff.2 hMay, if_pos rfl]
 obtain ⟨eb, heb⟩ := nm (encS sg)
 obtain ⟨en, hen⟩ := nm (eb.length)
 have HEB : Hid ((∃ us, eb = sealed us) ∧ 4 <= en ∧ en <= 131072) := by
  have h5 := encS_len hMay
  rw [heb, hen] at h5
  refine ⟨⟨bodyS sg, heb.symm⟩, ?_, by omega⟩
  rw [<-hen, <-heb]
  show 4 <= (sealed (bodyS sg)).length
  rw [sealed_len]
  omega
 have HEN := hide hen
 clear hen hMay
 go_enter Tryz.func4, Tryz.ntmps4
 go_upto_region 3 with (go_at_call 7; refine hkn.mono ?_; rintro r w1 ⟨rfl, hk1⟩; have HK1 := hide hk1; have hS1 := hS w1 hk1; clear hkn hk1 hS)
 go_upto_region 4 with (first
  | (go_at_call 13; refine hS1.mono ?_; rintro r wa ⟨hta, hka⟩; obtain ⟨so, sc, rfl, hsi, hsb⟩ := TellS.open hta; rw [HQS.out] at hsi ⊢; have Ha := hide (ai hka hsi); have hoza := heap_new wa (.cells zeroS 26); have hia := Tryz.infoSigA sg (.slice so sn sc); have hzs : zeroS.size = (sg.cells (.slice so sn sc)).toArray.size := (by rw [sig_size]; exact sig_size _ _); have hal := sig_one sg (.slice so sn sc) rfl; clear hS1 hta hka hsi hsb)
  | refine wpList_store_rowTo rfl 26 (.tmp 13) (.tmp 31) rfl rfl wa.heap.size (sg.cells (.slice so sn sc)).toArray rfl rfl 26 zeroS hoza hia hzs hal ?_)
 have kb : Kept [] wa ((wa.alloc (.cells zeroS 26)).setRow wa.heap.size (sg.cells (.slice so sn sc)).toArray) := ((Kept.refl [] wa).alloc _).trans (kept_row _ wa.heap.size _) (fun i hi hl => by simp only [List.mem_singleton] at hi; omega)
 have hA : SigAt ((wa.alloc (.cells zeroS 26)).setRow wa.heap.size (sg.cells (.slice so sn sc)).toArray) wa.heap.size sg (.slice so sn sc) := ⟨setRow_heap _ _ _ _ _ _ hoza⟩
 obtain ⟨O, hO⟩ := nm (wa.heap.size)
 rw [hO] at kb hA ⊢
 have HKb := hide ((HK1.out.tr Ha.out.1).tr kb)
 have HIb := hide (Ha.out.2.kept kb)
 clear hO hoza hia hzs hal kb Ha HK1
 generalize (wa.alloc (.cells zeroS 26)).setRow O (sg.cells (.slice so sn sc)).toArray = wb at hA HKb HIb ⊢
 have hM := make_ok sg so sn sc bo m bc ys wb HIb.out H2.out.len H2.out.le (H2.out.sl.kept HKb.out (by simp)) (by have := H2.out.in8.max; have := H2.out.le; have := H2.out.max; omega)
 have hE := fun W (hW : Kept [] wb W) => encode_ok sg so sn sc W (HIb.out.kept hW)
 rw [he1, he2, heb] at hE
 have HE := hide hE
 obtain ⟨mb, hmb⟩ := nm (makeB sg ys)
 obtain ⟨dn, hdn⟩ := nm (mb.length)
 rw [hmb] at hM
 obtain ⟨_, _, hdec, _, _⟩ := make_good hm
 rw [hmb] at hdec
 have HMB : Hid ((∃ us, mb = sealed us) ∧ 4 <= dn ∧ dn <= 131072) := by
  obtain ⟨_, h5, h6⟩ := decD_some hdec
  rw [hdn] at h6
  refine ⟨⟨_, h5⟩, ?_, h6⟩
  rw [<-hdn, h5]
  show 4 <= (sealed _).length
  rw [sealed_len]
  omega
 rw [hm] at hM
 clear hm hmb hdec
 have HDN := hide hdn
 have hrz := hA.range
 have HA := hide hA
 have hil := Tryz.infoSig sg (.slice so sn sc)
 clear hA hdn hE he1 he2 heb
 go_upto_region 7 with (first
  | refine wpList_load_mid rfl 26 (.tmp 13) rfl O 0 rfl (sg.cells (.slice so sn sc)) _ hrz Tryz.underlying26 rfl hil ?_
  | (go_at_call 8; refine hM.mono ?_; rintro r wc ⟨⟨dO, dc, rfl, hod⟩, hkc⟩; rw [HDN.out] at hod ⊢; have Hc := hide (ai hod hkc); clear hM hod hkc))
 clear hrz
 have hrz := (HA.out.kept Hc.out.2 (by simp)).range
 have hE := HE.out wc Hc.out.2
 clear HE HA
 go_upto_region 8 with (first
  | refine wpList_load_mid rfl 26 (.tmp 13) rfl O 0 rfl (sg.cells (.slice so sn sc)) _ hrz Tryz.underlying26 rfl hil ?_
  | (go_at_call 14; refine hE.mono ?_; rintro r wd ⟨⟨eO, ec, rfl, hoe⟩, hkd⟩; rw [HEN.out] at hoe ⊢; have Hd := hide (ai hoe hkd); clear hE hoe hkd))
 clear hrz hil HIb
 have hdn4 := HMB.out.2
 have hen4 := HEB.out.2
 obtain ⟨g, dc', e, hg1, hgc, hg2⟩ := own_head Hc.out.1 (by omega)
 injection e with e _ e'
 subst e e'
 obtain ⟨h, ec', e, hh1, hhc, hh2⟩ := own_head Hd.out.1 (by omega)
 injection e with e _ e'
 subst e e'
 obtain ⟨B1, hB1⟩ : ∃ B, wb.heap.size = B := ⟨_, rfl⟩
 obtain ⟨B2, hB2⟩ : ∃ B, wc.heap.size = B := ⟨_, rfl⟩
 have HGH : Hid (g ≠ h ∧ w.heap.size <= g ∧ w.heap.size <= h) := by
  have a := HKb.out.size
  have b := Hc.out.2.size
  exact ⟨by omega, by omega, by omega⟩
 have HO : Hid (OwnB wd B1 (.slice (some ⟨g, 0, none⟩) dn dc) mb ∧ OwnB wd B2 (.slice (some ⟨h, 0, none⟩) en ec) eb ∧ Kept [] w wd) := by
  refine ⟨?_, ?_, (HKb.out.tr Hc.out.2).tr Hd.out.2⟩
  ·have := own_kept9 Hc.out.1 Hd.out.2 (by simp)
   unfold OwnB
   rw [HDN.out, <-hB1]
   exact this
  ·unfold OwnB
   rw [HEN.out, <-hB2]
   exact Hd.out.1
 clear Hc Hd HKb hg1 hg2 hh1 hh2 hB1 hB2
 have hd0 : ((dn : Int) == 0) = false := by simp; omega
 have he0 : ((en : Int) == 0) = false := by simp; omega
 have hr1 := round18_ok at_ dn wd HAT.out (by omega) (by omega)
 have hr2 := round18_ok at_ en wd HAT.out (by omega) (by omega)
 have HR2 := hide hr2
 clear hr2 HAT
 go_upto_region 15 with (go_at_call 15; refine hr1.mono ?_; rintro r w' ⟨i, hi, rfl, hww⟩; obtain rfl := hww.symm; clear hr1)
 have hr2 := HR2.out
 clear HR2
 go_upto_region 16 with (go_at_call 15; refine hr2.mono ?_; rintro r w' ⟨k, hk, rfl, hww⟩; obtain rfl := hww.symm; clear hr2)
 obtain ⟨xv1, zv1, hx1, hz1, cx1, fx1, hxr1, hF1⟩ := flip_ok (i := i) 1 HO.out.1 HO.out.2.1 HO.out.2.2 (by rw [own_len HO.out.1]; exact hi) HGH.out.1 HGH.out.2.1
 rw [show (((1 : UInt8).toNat : Nat) : Int) = 1 from rfl] at hxr1
 have HF1 := hide hF1
 clear hF1 HO
 go_upto_region 17 with (fail)
 generalize wd.setCell ⟨g, i, none⟩ (.int .u8 zv1) = w7 at HF1 ⊢
 obtain ⟨mb1, hmb1⟩ := nm (mb.set i (mb.getD i 0 ^^^ 1))
 have HMB1 := hide hmb1
 have HO : Hid (OwnB w7 B1 (.slice (some ⟨g, 0, none⟩) dn dc) mb1 ∧ OwnB w7 B2 (.slice (some ⟨h, 0, none⟩) en ec) eb ∧ Kept [] w w7) := by have := HF1.out; rw [hmb1] at this; exact this
 clear HF1 hmb1 cx1 fx1 hxr1
 obtain ⟨xv2, zv2, hx2, hz2, cx2, fx2, hxr2, hF2⟩ := flip_ok (i := k) 1 HO.out.2.1 HO.out.1 HO.out.2.2 (by rw [own_len HO.out.2.1]; exact hk) HGH.out.1.symm HGH.out.2.2
 rw [show (((1 : UInt8).toNat : Nat) : Int) = 1 from rfl] at hxr2
 have HF2 := hide hF2
 clear hF2 HO
 go_upto_region 18 with (fail)
 generalize w7.setCell ⟨h, k, none⟩ (.int .u8 zv2) = w8 at HF2 ⊢
 obtain ⟨eb1, heb1⟩ := nm (eb.set k (eb.getD k 0 ^^^ 1))
 have HEB1 := hide heb1
 have HO : Hid (OwnB w8 B1 (.slice (some ⟨g, 0, none⟩) dn dc) mb1 ∧ OwnB w8 B2 (.slice (some ⟨h, 0, none⟩) en ec) eb1 ∧ Kept [] w w8) := by have := HF2.out; rw [heb1] at this; exact ⟨this.2.1, this.1, this.2.2⟩
 clear HF2 heb1 cx2 fx2 hxr2
 have hP := apply_ok ao n cap xs (some ⟨g, 0, none⟩) dn dc mb1 w8 (H1.out.in8.kept HO.out.2.2) HO.out.1.in8
 obtain ⟨hae, hab⟩ : applyE xs mb1 = 180 ∧ applyB xs mb1 = [] := by
  obtain ⟨⟨us, hus⟩, _⟩ := HMB.out
  rw [<-HMB1.out]
  exact applyE_turned hus (by rw [HDN.out]; exact hi) (by decide) (by rw [H1.out.len]; exact HN.out)
 rw [hae, hab] at hP
 have hD := fun W (hW : Kept [] w8 W) => decode_k18 (some ⟨h, 0, none⟩) en ec eb1 W (HO.out.2.1.in8.kept hW)
 have hds : decS eb1 = none := by
  obtain ⟨⟨us, hus⟩, _⟩ := HEB.out
  rw [<-HEB1.out]
  exact decS_turned hus (by rw [HEN.out]; exact hk) (by decide)
 rw [show decC18 eb1 = 180 by unfold decC18; rw [hds], show decV18 eb1 = sig0 by unfold decV18; rw [hds]] at hD
 obtain ⟨s0, hs0⟩ := nm (sig0)
 obtain ⟨zn, hzn⟩ := nm (s0.blocks.length)
 rw [hs0] at hD
 have HZN := hide hzn
 clear hae hab hds hs0 hzn
 go_upto_region 19 with (go_at_call 16; refine hP.mono ?_; rintro r wf ⟨⟨ko, kc, rfl, hof⟩, hkf⟩; rw [show ([] : List UInt8).length = 0 from rfl]; have hD1 := hD wf hkf; have Hf := hide hkf; clear hP hof hkf hD)
 go_upto_region 20 with (first
  | (go_at_call 17; refine hD1.mono ?_; rintro r wa ⟨hta, hka⟩; obtain ⟨zo, zc, rfl, hsi, hsb⟩ := TellS.open hta; rw [HZN.out]; have Ha := hide hka; have hoza := heap_new wa (.cells zeroS 26); have hia := Tryz.infoSigA s0 (.slice zo zn zc); have hzs : zeroS.size = (s0.cells (.slice zo zn zc)).toArray.size := (by rw [sig_size]; exact sig_size _ _); have hal := sig_one s0 (.slice zo zn zc) rfl; clear hD1 hta hka hsi hsb)
  | refine wpList_store_rowTo rfl 26 (.tmp 22) (.tmp 99) rfl rfl wa.heap.size (s0.cells (.slice zo zn zc)).toArray rfl rfl 26 zeroS hoza hia hzs hal ?_)
 have kb : Kept [] wa ((wa.alloc (.cells zeroS 26)).setRow wa.heap.size (s0.cells (.slice zo zn zc)).toArray) := ((Kept.refl [] wa).alloc _).trans (kept_row _ wa.heap.size _) (fun i hi hl => by simp only [List.mem_singleton] at hi; omega)
 have kc : Kept [] w8 ((wa.alloc (.cells zeroS 26)).setRow wa.heap.size (s0.cells (.slice zo zn zc)).toArray) := (Hf.out.tr Ha.out).tr kb
 have HO2 : Hid (OwnB ((wa.alloc (.cells zeroS 26)).setRow wa.heap.size (s0.cells (.slice zo zn zc)).toArray) B1 (.slice (some ⟨g, 0, none⟩) dn dc) mb1 ∧ OwnB ((wa.alloc (.cells zeroS 26)).setRow wa.heap.size (s0.cells (.slice zo zn zc)).toArray) B2 (.slice (some ⟨h, 0, none⟩) en ec) eb1 ∧ Kept [] w ((wa.alloc (.cells zeroS 26)).setRow wa.heap.size (s0.cells (.slice zo zn zc)).toArray)) := ⟨HO.out.1.kept kc (by simp), HO.out.2.1.kept kc (by simp), HO.out.2.2.tr kc⟩
 obtain ⟨O2, hO2⟩ := nm (wa.heap.size)
 rw [hO2]
 rw [hO2] at HO2
 clear hO2 hoza hia hzs hal kb kc Ha Hf HO
 generalize (wa.alloc (.cells zeroS 26)).setRow O2 (s0.cells (.slice zo zn zc)).toArray = w10 at HO2 ⊢
 have HO := hide HO2.out
 clear HO2
 go_upto_region 22 with (fail)
 obtain ⟨xv3, zv3, hx3, hz3, cx3, fx3, hxr3, hF3⟩ := flip_ok (i := i) 1 HO.out.1 HO.out.2.1 HO.out.2.2 (by rw [own_len HO.out.1]; exact hi) HGH.out.1 HGH.out.2.1
 rw [show (((1 : UInt8).toNat : Nat) : Int) = 1 from rfl] at hxr3
 have HF3 := hide hF3
 clear hF3 HO
 go_upto_region 23 with (fail)
 generalize w10.setCell ⟨g, i, none⟩ (.int .u8 zv3) = w11 at HF3 ⊢
 have HO : Hid (OwnB w11 B1 (.slice (some ⟨g, 0, none⟩) dn dc) mb ∧ OwnB w11 B2 (.slice (some ⟨h, 0, none⟩) en ec) eb1 ∧ Kept [] w w11) := by have := HF3.out; rw [<-HMB1.out, set_back mb i 1 (by rw [HDN.out]; exact hi)] at this; exact this
 clear HF3 cx3 fx3 hxr3 HMB1
 obtain ⟨xv4, zv4, hx4, hz4, cx4, fx4, hxr4, hF4⟩ := flip_ok (i := k) 1 HO.out.2.1 HO.out.1 HO.out.2.2 (by rw [own_len HO.out.2.1]; exact hk) HGH.out.1.symm HGH.out.2.2
 rw [show (((1 : UInt8).toNat : Nat) : Int) = 1 from rfl] at hxr4
 have HF4 := hide hF4
 clear hF4 HO
 go_upto_region 24 with (fail)
 generalize w11.setCell ⟨h, k, none⟩ (.int .u8 zv4) = w12 at HF4 ⊢
 have HO : Hid (OwnB w12 B1 (.slice (some ⟨g, 0, none⟩) dn dc) mb ∧ OwnB w12 B2 (.slice (some ⟨h, 0, none⟩) en ec) eb ∧ Kept [] w w12) := by have := HF4.out; rw [<-HEB1.out, set_back eb k 1 (by rw [HEN.out]; exact hk)] at this; exact ⟨this.2.1, this.1, this.2.2⟩
 clear HF4 cx4 fx4 hxr4 HEB1
 have hdi := HO.out.1.in8
 have hei := HO.out.2.1.in8
 have hic : i <= dc := by have := hdi.le; omega
 have hkc : k <= ec := by have := hei.le; omega
 have hcut1 := fun W => Tryz.cutBy W (some ⟨g, 0, none⟩) dn dc i hic
 have hcut2 := fun W => Tryz.cutBy W (some ⟨h, 0, none⟩) en ec k hkc
 have hp1 : InB8 w12 (some ⟨g, 0, none⟩) i dc (mb.take i) := ⟨by rw [List.length_take, HDN.out]; omega, hic, by omega, hdi.sl.take i, fun e => by cases e⟩
 have hp2 : InB8 w12 (some ⟨h, 0, none⟩) k ec (eb.take k) := ⟨by rw [List.length_take, HEN.out]; omega, hkc, by omega, hei.sl.take k, fun e => by cases e⟩
 have HAL := hide (fun W (hW : Kept [] w12 W) => alikeTo_ok ao n cap xs (some ⟨g, 0, none⟩) i dc (mb.take i) (some ⟨h, 0, none⟩) k ec (eb.take k) W ((H1.out.in8.kept HO.out.2.2).kept hW) (hp1.kept hW) (hp2.kept hW))
 have HD8 := hide hdi
 have HE8 := hide hei
 have hli : i < 9223372036854775807 := by omega
 have hlk : k < 9223372036854775807 := by omega
 clear hdi hei hp1 hp2
 refine th w12 fun h0 => ?_
 generalize World.drew w12 = v0 at h0  ⊢
 refine t1 0 (.slice ao n cap) h0 ?_
 simp only [zz]
 refine t1 1 (.slice (some ⟨g, 0, none⟩) dn dc) h0 ?_
 simp only [zz]
 refine t1 2 (.int .i64 (i : Nat)) h0 ?_
 simp only [zz]
 refine t2 3 (.slice (some ⟨g, 0, none⟩) i dc) rfl h0 ?_ (fun w hSw => by have c0 := hcut1 w; go_simp)
 simp only [zz]
 refine t1 4 (.slice (some ⟨h, 0, none⟩) en ec) h0 ?_
 simp only [zz]
 refine t1 5 (.int .i64 (k : Nat)) h0 ?_
 simp only [zz]
 refine t2 6 (.slice (some ⟨h, 0, none⟩) k ec) rfl h0 ?_ (fun w hSw => by have c0 := hcut2 w; go_simp)
 simp only [zz]
 refine rd 7 fun K hK => ?_
 go_simp
 refine (HAL.out v0 h0).mono ?_
 rintro e v1 ⟨rfl, hk7⟩
 refine hK.out _ _ (h0.tr hk7) (fun h1 => ?_)
 clear hK K
 try simp only [zz]
 clear hk7 h0
 refine t1 8 (.bool true) h1 ?_
 simp only [zz]
 refine t1 9 (.slice ao n cap) h1 ?_
 simp only [zz]
 refine t1 11 (.slice (some ⟨g, 0, none⟩) dn dc) h1 ?_
 simp only [zz]
 refine t1 13 (.int .u8 1) h1 ?_
 simp only [zz]
 refine t1 17 (.slice (some ⟨h, 0, none⟩) en ec) h1 ?_
 simp only [zz]
 refine t1 19 (.int .u8 1) h1 ?_
 simp only [zz]
 refine wpAnyH_both (v0 := v1) (fun w hw => h1.tr hw) (some ⟨g, 0, none⟩) (some ⟨h, 0, none⟩) dn dc en ec mb eb 1 ?_ (by kernel_rfl) (by kernel_rfl) (HD8.out.kept h1) (by omega) (HE8.out.kept h1) (by omega) ?_
 ·exact ⟨(by kernel_rfl), (fun _ _ => by kernel_rfl), (⟨_, rfl, rfl, fun _ _ => by kernel_rfl, fun _ _ _ => by kernel_rfl⟩), (fun _ _ => by kernel_rfl), (⟨_, _, _, rfl, rfl, fun _ _ => by kernel_rfl, fun _ _ _ => by kernel_rfl, rfl, fun _ _ => by kernel_rfl, fun _ _ => by kernel_rfl⟩), (fun _ _ => by kernel_rfl), (⟨_, _, rfl, rfl, fun _ _ => by kernel_rfl, fun _ _ _ => by kernel_rfl, fun _ _ => by kernel_rfl⟩), (fun _ _ => by kernel_rfl), (⟨_, _, _, rfl, rfl, fun _ _ => by kernel_rfl, fun _ _ _ => by kernel_rfl, rfl, fun _ _ => by kernel_rfl, fun _ _ => by kernel_rfl⟩), (fun _ _ => by kernel_rfl), (⟨_, rfl, rfl, fun _ _ => by kernel_rfl, fun _ _ _ => by kernel_rfl⟩), (fun _ _ => by kernel_rfl), (⟨_, _, _, rfl, rfl, fun _ _ => by kernel_rfl, fun _ _ _ => by kernel_rfl, rfl, fun _ _ => by kernel_rfl, fun _ _ => by kernel_rfl⟩), (fun _ _ => by kernel_rfl), (⟨_, _, rfl, rfl, fun _ _ => by kernel_rfl, fun _ _ _ => by kernel_rfl, fun _ _ => by kernel_rfl⟩), (fun _ _ => by kernel_rfl), (⟨_, _, _, rfl, rfl, fun _ _ => by kernel_rfl, fun _ _ _ => by kernel_rfl, rfl, fun _ _ => by kernel_rfl, fun _ _ => by kernel_rfl⟩)⟩
 rintro ⟨p1, q1, r1, s1⟩ ⟨p2, q2, r2, s2⟩ v2 h2 hO1 hO2 hk2
 obtain ⟨m1, hm1⟩ := nm ((mb ++ [1]).length)
 obtain ⟨m2, hm2⟩ := nm ((eb ++ [1]).length)
 obtain ⟨o1, c1, e1, _⟩ := own_shape hO1
 obtain ⟨o2, c2, e2, _⟩ := own_shape hO2
 simp only at e1 e2
 subst e1 e2
 simp only at hO1 hO2
 rw [hm1] at hO1 ⊢
 rw [hm2] at hO2 ⊢
 have hal2 := alikeTo_ok ao n cap xs o1 m1 c1 _ o2 m2 c2 _ v2 ((H1.out.in8.kept HO.out.2.2).kept h2) hO1.in8 hO2.in8
 clear hO1 hO2 hk2 hm1 hm2 HAL HD8 HE8 h1
 simp only [all8, Act.put, List.setIfInBounds_toArray, List.set_cons_zero, List.set_cons_succ]
 refine rd 22 fun K hK => ?_
 go_simp
 refine (hal2).mono ?_
 rintro e v3 ⟨rfl, hk22⟩
 refine hK.out _ _ (h2.tr hk22) (fun h3 => ?_)
 clear hK K
 try simp only [zz]
 clear hk22 h2 hal2
 refine t1 23 (.bool true) h3 ?_
 simp only [zz]
 refine t1 24 (.bool true) h3 ?_
 simp only [zz]
 refine qd ?_
 have HKF := hide (HO.out.2.2.tr h3)
 clear h3 HO
 go_wp2
 go_ret
 exact ⟨rfl, HKF.out.below0⟩
end

end Go.Proofs.YtmklodligplbaabGreat
