import Derived.Test.YtmklodligplbaaaGreatD9cm
open Go.RowKit
set_option linter.unusedVariables false
set_option linter.unusedSimpArgs false
set_option maxRecDepth 100000
set_option maxHeartbeats 51200000
namespace Go.Proofs.YtmklodligplbaaaGreat
section
open Dlt
theorem yieldsIf_build8 {ops : Array Oper} {S : World -> Prop} {op : Oper} {a : Act} (hw : Region.wanted op (yielded ops a.tmps) = true) (t : TypeId) (parts : Array (Nat × Operand)) (ho : op.op = .build t parts) (vals : Array (Nat × Value)) (hv : (parts.map fun (i, x) => (i, a.eval x)) = vals) (v : Value) (hrun : ∀ W, (Instr.build t vals).run Tryz.prog W = .ok v W) : YieldsIf Tryz.prog ops S op v a :=
 .inl ⟨hw, fun w hw' => by
  unfold execOp
  simp only [ho, hv, Sem.run_bind, hrun, Result.andThen_ok]
  rfl⟩
theorem make_ok (s : Sig) (ao : Option Addr) (n cap : Nat) (to : Option Addr) (tn tc : Nat) (ys : List UInt8) (w : World) (hI : SigIn w s ao n cap) (hyl : ys.length = tn) (hyc : tn <= tc) (hys : Sl w to ys) (hym : tn <= 4611686018427387904) :
  Calls Tryz.prog 14 #[.agg (s.cells (.slice ao n cap)).toArray, .slice to tn tc] w fun e w' => TellB w w' e (makeE s ys) (makeB s ys) ∧ Kept [] w w' := by
 have hA := SigAt.new w s (.slice ao n cap)
 have hK := ka w (.cells (s.cells (.slice ao n cap)).toArray 29)
 have hrg := hA.range
 have hil := Tryz.infoSig s (.slice ao n cap)
 have hmb := mayBe_ok s ao n cap _ (hI.kept hK)
 obtain ⟨G, hG⟩ := nm (w.heap.size)
 rw [hG] at hrg hA
 have HI := hide (ai (hI.kept hK) (ai hyl (ai hyc (hys.kept hK (by simp)))))
 have HA := hide hA
 cases hm : may s with
 | false =>
  rw [hm] at hmb
  have HE : Hid (makeE s ys = 180 ∧ makeB s ys = []) := by
   have e : makeE s ys = 180 := by unfold makeE; rw [if_pos hm]
   exact ⟨e, by unfold makeB; rw [e]; rfl⟩
  clear hm hA hI hys hyl hyc
  go_enter Tryz.func14, Tryz.ntmps14
  go_upto_region 1 with (fail)
  clear hG
  generalize w.alloc (.cells (s.cells (.slice ao n cap)).toArray 29) = w1 at *
  go_wp2_with (first
   | refine wpList_load_mid rfl 29 (.tmp 2) rfl G 0 rfl (s.cells (.slice ao n cap)) _ hrg Tryz.underlying29 rfl hil ?_
   | (go_at_call 33; refine hmb.mono ?_; rintro r w2 ⟨rfl, hk2⟩; have H2 := hide hk2; clear hmb hk2))
  go_ret2
  rw [HE.out.1, HE.out.2]
  exact ⟨⟨none, 0, rfl, World.ownsRow_nil _ _ _ _⟩, hK.tr H2.out⟩
 | true =>
  rw [hm] at hmb
  have HM := hide (may_iff.1 hm)
  have HMT := hide hm
  clear hm hA hI hys hyc
  go_enter Tryz.func14, Tryz.ntmps14
  go_upto_region 1 with (fail)
  clear hG
  generalize w.alloc (.cells (s.cells (.slice ao n cap)).toArray 29) = w1 at *
  go_upto_region 3 with (first
   | refine wpList_load_mid rfl 29 (.tmp 2) rfl G 0 rfl (s.cells (.slice ao n cap)) _ hrg Tryz.underlying29 rfl hil ?_
   | (go_at_call 33; refine hmb.mono ?_; rintro r w2 ⟨rfl, hk2⟩; have H2 := hide hk2; clear hmb hk2))
  by_cases hlong : 131072 < tn
  ·have hl' : (131072 : Int) < (tn : Int) := by omega
   have HE : Hid (makeE s ys = 2 ∧ makeB s ys = []) := by
    have e : makeE s ys = 2 := by unfold makeE; rw [if_neg (by rw [HMT.out]; simp), if_pos (by rw [hyl]; exact hlong)]
    exact ⟨e, by unfold makeB; rw [e]; rfl⟩
   clear hrg hyl
   go_wp2
   go_ret2
   rw [HE.out.1, HE.out.2]
   exact ⟨⟨none, 0, rfl, World.ownsRow_nil _ _ _ _⟩, hK.tr H2.out⟩
  ·have hl' : ¬ (131072 : Int) < (tn : Int) := by omega
   have hl2 : tn <= 131072 := by omega
   obtain ⟨W, hW⟩ := Int.eq_ofNat_of_zero_le (show 0 <= s.width by have := HM.out.w1; omega)
   obtain ⟨Z, hZ⟩ := Int.eq_ofNat_of_zero_le (show 0 <= s.size by have := HM.out.z1; omega)
   have hW2 : W <= 32 := by have := HM.out.w2; omega
   have hZ1 : 1 <= Z := by have := HM.out.z1; omega
   have hZ2 : Z <= 4096 := by have := HM.out.z2; omega
   have hn : n <= 2048 := by rw [<-HI.out.1.len]; exact HM.out.few
   have hin := instructions_ok s Z ao n cap to tn tc ys w2 (HI.out.1.kept H2.out) (by omega) hZ hZ1 hZ2 hyl HI.out.2.2.1 (HI.out.2.2.2.kept H2.out (by simp)) (by omega)
   have HIO : Hid (insOf s ys = ins s.width Z s.blocks [] ys) := by show _ = _; unfold insOf; rw [hZ]; rfl
   have hok := insF_ok (wd := s.width) (L := s.blocks) hZ1 (by rw [HI.out.1.len]; omega) ys.length [] ys (by omega) (by simp)
   rw [<-HIO.out] at hin
   have HOK : Hid ((∀ x, x ∈ insOf s ys -> okW x) ∧ litS (insOf s ys) <= 131072) := by
    rw [HIO.out]
    refine ⟨hok.1, Nat.le_trans hok.2 ?_⟩
    show 0 + ys.length <= _
    omega
   have HWZ := hide (ai hW hZ)
   have HYL := hide hyl
   have HEE : Hid (makeE s ys = if 2048 < (insOf s ys).length then 183 else if 131072 < (makeX s ys).length then 2 else 0) := by show _ = _; unfold makeE; rw [if_neg (by rw [HMT.out]; simp), if_neg (by rw [hyl]; omega)]
   have hrg2 := (HA.out.kept H2.out (by simp)).range
   obtain ⟨bk, hbk⟩ : ∃ bk : Wk, bk.sum = s.length ∧ bk.id = s.base := ⟨baseK s HM.out, rfl, rfl⟩
   obtain ⟨tk, htk⟩ : ∃ tk : Wk, tk.sum = (tn : Int) ∧ tk.id = Sha.ident s.width ys := ⟨targK s.width ys (by omega), by show (ys.length : Int) = _; rw [hyl], rfl⟩
   have HX : Hid (sealed ([] ++ Pure.fix 68 1 ++ Pure.enc W ++ Pure.enc Z ++ [bk, tk].flatMap (encK W) ++ Pure.enc (insOf s ys).length ++ (insOf s ys).flatMap encI) = makeX s ys) := by
    show _ = _
    unfold makeX
    simp only [List.flatMap_cons, List.flatMap_nil, List.append_nil, encK, hbk.1, hbk.2, htk.1, htk.2, hW, hZ, Int.toNat_natCast, hyl]
   clear hrg hyl hok hW hZ HIO
   have HEB : Hid (makeB s ys = if makeE s ys = 0 then makeX s ys else []) := rfl
   generalize insOf s ys = L at *
   generalize makeX s ys = out at *
   go_upto_region 6 with (first
    | refine wpList_load_mid rfl 29 (.tmp 2) rfl G 0 rfl (s.cells (.slice ao n cap)) _ hrg2 Tryz.underlying29 rfl hil ?_
    | (go_at_call 34; refine hin.mono ?_; rintro r w3 ⟨v, w0, rfl, hia, hk0, hk3⟩; obtain ⟨lo, lc, rfl, _⟩ := hia.shape; have H3 := hide (ai hia (ai hk0 hk3)); clear hin hia hk0 hk3))
   obtain ⟨ln, hln⟩ := nm (L.length)
   rw [hln] at H3 HEE HX ⊢
   have HLN := hide hln
   clear hln
   by_cases hbig : 2048 < ln
   ·have hb' : (2048 : Int) < (ln : Int) := by omega
    have HE : Hid (makeE s ys = 183 ∧ makeB s ys = []) := by
     have e : makeE s ys = 183 := by rw [HEE.out, if_pos hbig]
     exact ⟨e, by rw [HEB.out, e]; rfl⟩
    clear HEE HEB
    go_wp2
    go_ret2
    rw [HE.out.1, HE.out.2]
    exact ⟨⟨none, 0, rfl, World.ownsRow_nil _ _ _ _⟩, ((hK.tr H2.out).tr H3.out.2.1).tr H3.out.2.2⟩
   ·have hb' : ¬ (2048 : Int) < (ln : Int) := by omega
    have hb2 : ln <= 2048 := by omega
    have HK3 := hide (H2.out.trans (H3.out.2.1.tr H3.out.2.2) (by simp))
    have hA3 := HA.out.kept HK3.out (by simp)
    have c0 := hA3.cell (s.c0 _)
    have c1 := hA3.cell (s.c1 _)
    have c2 := hA3.cell (s.c2 _)
    have hrb := hA3.base
    rw [HWZ.out.1] at c0 htk
    rw [HWZ.out.2] at c1
    rw [<-hbk.1] at c2
    rw [<-hbk.2] at hrb
    have hlb : (Tryz.prog.info? 26).map (·.size) = some (bys bk.id).length := idlen bk.hid
    have hbs := fun X => Tryz.builtSeal bk X
    have hbo := fun X => Tryz.builtOrd W Z bk tk lo ln lc X
    have hts := htk.1
    have hti := htk.2
    have hso := fun X (h : Kept [] w3 X) => sealOf_ok W to tn tc ys X tk hts hti HYL.out HI.out.2.2.1 (HI.out.2.2.2.kept (HK3.out.tr h) (by simp)) (by omega)
    have hwo := fun X (h : Kept [] w3 X) => writeOrder_ok W Z bk tk lo ln lc L w0 X hW2 hZ2 (by rw [hbk.1]; exact HM.out.l1) (by rw [hbk.1]; have := HM.out.l2; omega) (by rw [hts]; omega) (by rw [hts]; omega) (H3.out.1.kept h) HLN.out (by omega) (H3.out.2.2.tr h) HOK.out.1 (by have h1 := flatI_len L HOK.out.1; have h2 := HOK.out.2; have h3 := HLN.out; omega) out HX.out
    have HSO := hide hso
    have HWO := hide hwo
    have HBK := hide hbk
    clear hso hwo hts hti hbk htk hA3 hrg2 hil
    go_wp2
    refine th w3 fun h0 => ?_
    generalize World.drew w3 = v0 at h0  ⊢
    refine t1 0 (.pointer (some ⟨G, 0, none⟩)) h0 ?_
    try simp only [zz]
    refine t2 1 (.int .i64 W) rfl h0 ?_ (fun w hSw => by have c0 := Kept.cellOf hSw c0 (by simp); go_simp)
    try simp only [zz]
    refine t1 2 (.pointer (some ⟨G, 1, none⟩)) h0 ?_
    try simp only [zz]
    refine t2 3 (.int .i64 Z) rfl h0 ?_ (fun w hSw => by have c0 := Kept.cellOf hSw c1 (by simp); go_simp)
    try simp only [zz]
    refine t1 4 (.pointer (some ⟨G, 2, none⟩)) h0 ?_
    try simp only [zz]
    refine t2 5 (.int .i64 bk.sum) rfl h0 ?_ (fun w hSw => by have c0 := Kept.cellOf hSw c2 (by simp); go_simp)
    try simp only [zz]
    refine t1 6 (.pointer (some ⟨G, 3, none⟩)) h0 ?_
    try simp only [zz]
    refine t4 7 (.agg (bys bk.id).toArray) rfl (yieldsIf_load_mid (by rfl) _ _ rfl G 3 rfl (bys bk.id) _ (fun W h j u hu => Kept.cellOf h (hrb j u hu) (by simp)) Tryz.underlying26 rfl hlb) h0 ?_
    try simp only [zz]
    refine t4 8 (.agg bk.cells.toArray) rfl (yieldsIf_build8 (by rfl) 68 #[(0, .tmp 27), (1, .tmp 29)] rfl #[(0, .int .i64 bk.sum), (1, .agg (bys bk.id).toArray)] (by simp [Act.eval, Act.put]) _ hbs) h0 ?_
    try simp only [zz]
    refine t1 9 (.pointer (some ⟨G, 0, none⟩)) h0 ?_
    try simp only [zz]
    refine t2 10 (.int .i64 W) rfl h0 ?_ (fun w hSw => by have c0 := Kept.cellOf hSw c0 (by simp); go_simp)
    try simp only [zz]
    refine t1 11 (.slice to tn tc) h0 ?_
    try simp only [zz]
    refine t1 13 (.slice lo ln lc) h0 ?_
    try simp only [zz]
    refine rd 12 fun K hK => ?_
    go_simp
    refine (HSO.out v0 h0).mono ?_
    rintro e v1 ⟨rfl, hq⟩
    refine hK.out _ _ (h0.tr hq) (fun h1 => ?_)
    clear hK K
    try simp only [zz]
    clear hq h0
    refine t4 14 (.agg (ordC W Z bk tk (.slice lo ln lc)).toArray) rfl (yieldsIf_build8 (by rfl) 71 #[(0, .tmp 23), (1, .tmp 25), (2, .tmp 30), (3, .tmp 34), (4, .tmp 35)] rfl #[(0, .int .i64 W), (1, .int .i64 Z), (2, .agg bk.cells.toArray), (3, .agg tk.cells.toArray), (4, .slice lo ln lc)] (by simp [Act.eval, Act.put]) _ hbo) h1 ?_
    try simp only [zz]
    refine rd 15 fun K hK => ?_
    go_simp
    refine (HWO.out v1 h1).mono ?_
    rintro e v2 ⟨⟨ao5, cap5, rfl, ho5⟩, hq⟩
    have HO5 := hide (ai ho5 h1.size)
    refine hK.out _ _ (h1.tr hq) (fun h2 => ?_)
    clear hK K
    try simp only [zz]
    clear hq h1 ho5
    refine t1 16 (.slice ao5 out.length cap5) h2 ?_
    try simp only [zz]
    refine dn ?_
    have HKF := hide ((hK.tr HK3.out).tr h2)
    have HSZ : Hid (w.heap.size <= v1.heap.size) := Nat.le_trans (hK.tr HK3.out).size HO5.out.2
    obtain ⟨ol, hol⟩ := nm (out.length)
    rw [hol] at HEE HO5 ⊢
    have HOL := hide hol
    clear hol h2 hrb c0 c1 c2 hbs hbo HSO HWO
    by_cases hbo : 131072 < ol
    ·have hbo' : (131072 : Int) < (ol : Int) := by omega
     have HE : Hid (makeE s ys = 2 ∧ makeB s ys = []) := by
      have e : makeE s ys = 2 := by rw [HEE.out, if_neg hbig, if_pos hbo]
      exact ⟨e, by rw [HEB.out, e]; rfl⟩
     clear HEE HEB
     go_wp2
     go_ret2
     rw [HE.out.1, HE.out.2]
     exact ⟨⟨none, 0, rfl, World.ownsRow_nil _ _ _ _⟩, HKF.out⟩
    ·have hbo' : ¬ (131072 : Int) < (ol : Int) := by omega
     have HE : Hid (makeE s ys = 0 ∧ makeB s ys = out) := by
      have e : makeE s ys = 0 := by rw [HEE.out, if_neg hbig, if_neg hbo]
      exact ⟨e, by rw [HEB.out, e]; rfl⟩
     clear HEE HEB
     go_wp2
     go_ret2
     rw [HE.out.1, HE.out.2]
     refine ⟨⟨ao5, cap5, by rw [HOL.out]; rfl, ?_⟩, HKF.out⟩
     rw [HOL.out]
     exact own_base HO5.out.1 HSZ.out
end

section
open Dlt
theorem seal_no {w : World} {b : Nat} {ao : Option Addr} {cap : Nat} {xs : List UInt8} {s : Rs} (h : RdS w b ao cap xs s) (n : Nat) (hw : Dlt.within (stNumber xs s).1 0 131072 = false) :
  Calls Tryz.prog 80 #[stV b, .int .i64 n] w fun e w' => e = gaveUp8 ∧ Kept [b] w w' := by
 have hz := Tryz.zeroSeal
 have hK : Kept [] w ((w.alloc (.cells (stC b).toArray 88)).alloc (.cells zeroK 68)) := ((Kept.refl [] w).alloc _).alloc _
 have hX := (Sx.new w b).kept ((Kept.refl [] (w.alloc (.cells (stC b).toArray 88))).alloc (.cells zeroK 68)) (by simp)
 have hle := length_no (h.later hK) hw
 have hrg := hX.range
 clear hw h hX
 go_enter Tryz.func80, Tryz.ntmps80
 go_upto_region 1 with (fail)
 generalize (w.alloc (.cells (stC b).toArray 88)).alloc (.cells zeroK 68) = w1 at *
 go_wp2_with (first
  | refine wpList_load_mid rfl 88 (.tmp 2) rfl w.heap.size 0 rfl (stC b) _ hrg Tryz.underlying88 rfl Tryz.infoStrict ?_
  | (go_at_call 51; refine hle.mono ?_; rintro r w2 ⟨rfl, hk2⟩; have H2 := hide hk2; clear hle hk2))
 exact ⟨rfl, rfl, (hK.mono (by simp)).tr H2.out⟩
theorem seal_yes {w : World} {b : Nat} {ao : Option Addr} {cap : Nat} {xs : List UInt8} {s : Rs} (h : RdS w b ao cap xs s) (n : Nat) (hn : n <= 32) (hw : Dlt.within (stNumber xs s).1 0 131072 = true) (k : Wk) (hks : k.sum = (stNumber xs s).1) (hki : k.id = pad (stRaw xs (stNumber xs s).2 n).1) :
  Calls Tryz.prog 80 #[stV b, .int .i64 n] w fun e w' => e = .returned (.agg k.cells.toArray) ∧ RdS w' b ao cap xs (stRaw xs (stNumber xs s).2 n).2 ∧ Kept [b] w w' := by
 have hz := Tryz.zeroSeal
 obtain ⟨w1, hw1⟩ := nm ((w.alloc (.cells (stC b).toArray 88)).alloc (.cells zeroK 68))
 have hK : Kept [] w w1 := by rw [<-hw1]; exact ((Kept.refl [] w).alloc _).alloc _
 have hX : Sx w1 w.heap.size b := by rw [<-hw1]; exact (Sx.new w b).kept ((Kept.refl [] _).alloc _) (by simp)
 have hnz : w1.heap[w.heap.size + 1]? = some (.cells zeroK 68 (0, 0)) := by
  rw [<-hw1]
  have := heap_new (w.alloc (.cells (stC b).toArray 88)) (.cells zeroK 68)
  rwa [World.size_alloc] at this
 have hle := length_yes (h.later hK) hw
 have hrg := hX.range
 have hbl := h.lt
 have HBK := hide h.blk
 obtain ⟨G, hG⟩ := nm (w.heap.size)
 rw [hG] at hX hnz hrg hbl
 have HX := hide hX
 have HNZ := hide hnz
 have HGB : Hid (G ∉ [b] ∧ G + 1 ∉ [b]) := ⟨by simp; omega, by simp; omega⟩
 have HB := Tryz.builtSeal k
 rw [hks, hki] at HB
 have hial := Tryz.infoSealA k
 have hzs : zeroK.size = k.cells.toArray.size := by rw [wk_size]; rfl
 have hall := wk_all k
 clear hw h hX hnz hbl hks hki
 go_enter Tryz.func80, Tryz.ntmps80
 go_upto_region 1 with (fail)
 first | rw [hw1] | skip
 have HG := hide hG
 clear hG hw1
 go_upto_region 2 with (first
  | refine wpList_load_mid rfl 88 (.tmp 2) rfl G 0 rfl (stC b) _ hrg Tryz.underlying88 rfl Tryz.infoStrict ?_
  | (go_at_call 51; refine hle.mono ?_; rintro r w2 ⟨rfl, hr2, hk2⟩; have H2 := hide (ai hr2 hk2); clear hle hr2 hk2))
 have hX2 := HX.out.kept H2.out.2 HGB.out.1
 have hrg2 := hX2.range
 have hid := id_ok H2.out.1 n hn
 obtain ⟨q, hq⟩ := nm ((stNumber xs s).1)
 rw [hq] at HB ⊢
 clear hrg hX2 hq
 obtain ⟨rr, hrr⟩ := nm (stRaw xs (stNumber xs s).2 n)
 rw [hrr] at HB hid
 have HRR := hide hrr
 clear hrr
 go_wp2_with (first
  | refine wpList_load_mid rfl 88 (.tmp 2) rfl G 0 rfl (stC b) _ hrg2 Tryz.underlying88 rfl Tryz.infoStrict ?_
  | (go_at_call 53; refine hid.mono ?_; rintro r w3 ⟨rfl, hr3, hk3⟩; have H3 := hide (ai hr3 hk3); have hn3 : w3.heap[G + 1]? = some (.cells zeroK 68 (0, 0)) := ((H2.out.2.tr hk3).block _ (gs HNZ.out).1 HGB.out.2).trans HNZ.out; clear hid hr3 hk3 hrg2)
  | refine wpList_buildRun8 rfl 68 #[(0, .tmp 8), (1, .tmp 11)] rfl #[(0, .int .i64 q), (1, .agg (bys (pad rr.1)).toArray)] (by simp [Act.eval]) _ (HB _) ?_
  | refine wpList_store_rowTo rfl 68 (.tmp 4) (.tmp 12) rfl rfl (G + 1) k.cells.toArray rfl rfl 68 zeroK hn3 hial hzs hall ?_)
 have kk : Kept [b] w w3 := ((hK.mono (by simp)).tr H2.out.2).tr H3.out.2
 have hk4 : Kept [G + 1] w3 (w3.setRow (G + 1) k.cells.toArray) := kept_row w3 _ _
 refine ret_row rfl rfl (G + 1) 68 k.cells.toArray (0, 0) _ rfl (setRow_heap _ _ _ _ _ _ hn3) Tryz.underlying68 rfl hial ⟨rfl, ?_, kk.trans hk4 (by have := HG.out; simp; omega)⟩
 rw [HRR.out]
 refine H3.out.1.kept hk4 (by have := HGB.out.2; simp at this ⊢; omega) (fun hne a ha => ?_)
 have := HBK.out hne a ha
 have := HG.out
 simp
 omega
end

section
open Dlt
theorem run_all (x y : Int) : (#[Value.int .i64 x, Value.int .i64 y]).all (·.oneCell') = true := by simp [Value.oneCell']
theorem Tryz.infoRunA (x y : Int) : (Tryz.prog.info? 112).map (·.size) = some (#[Value.int .i64 x, Value.int .i64 y]).size := Tryz.infoRun
theorem run_no1 {w : World} {b : Nat} {ao : Option Addr} {cap : Nat} {xs : List UInt8} {s : Rs} (h : RdS w b ao cap xs s) (n : Nat) (hw : Dlt.within (stNumber xs s).1 0 n = false) :
  Calls Tryz.prog 106 #[stV b, .int .i64 n] w fun e w' => e = gaveUp8 ∧ Kept [b] w w' := by
 have hz := Tryz.zeroRun
 have hK : Kept [] w ((w.alloc (.cells (stC b).toArray 88)).alloc (.cells #[.int .i64 0, .int .i64 0] 112)) := ((Kept.refl [] w).alloc _).alloc _
 have hX := (Sx.new w b).kept ((Kept.refl [] (w.alloc (.cells (stC b).toArray 88))).alloc (.cells #[.int .i64 0, .int .i64 0] 112)) (by simp)
 have hle := number_no 0 n (h.later hK) hw
 have hrg := hX.range
 clear hw h hX
 go_enter Tryz.func106, Tryz.ntmps106
 go_upto_region 1 with (fail)
 generalize (w.alloc (.cells (stC b).toArray 88)).alloc (.cells #[.int .i64 0, .int .i64 0] 112) = w1 at *
 go_wp2_with (first
  | refine wpList_load_mid rfl 88 (.tmp 2) rfl w.heap.size 0 rfl (stC b) _ hrg Tryz.underlying88 rfl Tryz.infoStrict ?_
  | (go_at_call 81; refine hle.mono ?_; rintro r w2 ⟨rfl, hk2⟩; have H2 := hide hk2; clear hle hk2))
 exact ⟨rfl, rfl, (hK.mono (by simp)).tr H2.out⟩
theorem run_no2 {w : World} {b : Nat} {ao : Option Addr} {cap : Nat} {xs : List UInt8} {s : Rs} (h : RdS w b ao cap xs s) (n : Nat) (hn : n <= 1000000) (hw : Dlt.within (stNumber xs s).1 0 n = true) (hw2 : Dlt.within (stNumber xs (stNumber xs s).2).1 1 ((n : Int) - (stNumber xs s).1) = false) :
  Calls Tryz.prog 106 #[stV b, .int .i64 n] w fun e w' => e = gaveUp8 ∧ Kept [b] w w' := by
 have hz := Tryz.zeroRun
 obtain ⟨w1, hw1⟩ := nm ((w.alloc (.cells (stC b).toArray 88)).alloc (.cells #[.int .i64 0, .int .i64 0] 112))
 have hK : Kept [] w w1 := by rw [<-hw1]; exact ((Kept.refl [] w).alloc _).alloc _
 have hX : Sx w1 w.heap.size b := by rw [<-hw1]; exact (Sx.new w b).kept ((Kept.refl [] _).alloc _) (by simp)
 have hle := number_yes 0 n (h.later hK) hw
 have hrg := hX.range
 have hbl := h.lt
 obtain ⟨q1, q2⟩ := Dlt.within_iff.1 hw
 have hsub : IntKind.i64.wrap ((n : Int) - (stNumber xs s).1) = (n : Int) - (stNumber xs s).1 := by simp [IntKind.wrap, IntKind.bits, IntKind.signed]; omega
 obtain ⟨G, hG⟩ := nm (w.heap.size)
 rw [hG] at hX hrg hbl
 have HX := hide hX
 have HGB : Hid (G ∉ [b]) := by show G ∉ [b]; simp; omega
 have HW2 := hide hw2
 clear hw h hX hbl hw2
 go_enter Tryz.func106, Tryz.ntmps106
 go_upto_region 1 with (fail)
 first | rw [hw1] | skip
 clear hG hw1
 go_upto_region 2 with (first
  | refine wpList_load_mid rfl 88 (.tmp 2) rfl G 0 rfl (stC b) _ hrg Tryz.underlying88 rfl Tryz.infoStrict ?_
  | (go_at_call 81; refine hle.mono ?_; rintro r w2 ⟨rfl, hr2, hk2⟩; have H2 := hide (ai hr2 hk2); clear hle hr2 hk2))
 have hX2 := HX.out.kept H2.out.2 HGB.out
 have hrg2 := hX2.range
 have hnu := number_no 1 ((n : Int) - (stNumber xs s).1) H2.out.1 HW2.out
 clear hrg hX2
 go_wp2_with (first
  | refine wpList_load_mid rfl 88 (.tmp 2) rfl G 0 rfl (stC b) _ hrg2 Tryz.underlying88 rfl Tryz.infoStrict ?_
  | (go_at_call 81; refine hnu.mono ?_; rintro r w3 ⟨rfl, hk3⟩; have H3 := hide hk3; clear hnu hk3 hrg2))
 exact ⟨rfl, rfl, ((hK.mono (by simp)).tr H2.out.2).tr H3.out⟩
theorem run_yes {w : World} {b : Nat} {ao : Option Addr} {cap : Nat} {xs : List UInt8} {s : Rs} (h : RdS w b ao cap xs s) (n : Nat) (hn : n <= 1000000) (hw : Dlt.within (stNumber xs s).1 0 n = true) (hw2 : Dlt.within (stNumber xs (stNumber xs s).2).1 1 ((n : Int) - (stNumber xs s).1) = true) :
  Calls Tryz.prog 106 #[stV b, .int .i64 n] w fun e w' => e = .returned (.agg #[.int .i64 (stNumber xs s).1, .int .i64 (stNumber xs (stNumber xs s).2).1]) ∧ RdS w' b ao cap xs (stNumber xs (stNumber xs s).2).2 ∧ Kept [b] w w' := by
 have hz := Tryz.zeroRun
 obtain ⟨w1, hw1⟩ := nm ((w.alloc (.cells (stC b).toArray 88)).alloc (.cells #[.int .i64 0, .int .i64 0] 112))
 have hK : Kept [] w w1 := by rw [<-hw1]; exact ((Kept.refl [] w).alloc _).alloc _
 have hX : Sx w1 w.heap.size b := by rw [<-hw1]; exact (Sx.new w b).kept ((Kept.refl [] _).alloc _) (by simp)
 have hnz : w1.heap[w.heap.size + 1]? = some (.cells #[.int .i64 0, .int .i64 0] 112 (0, 0)) := by
  rw [<-hw1]
  have := heap_new (w.alloc (.cells (stC b).toArray 88)) (.cells #[.int .i64 0, .int .i64 0] 112)
  rwa [World.size_alloc] at this
 have hle := number_yes 0 n (h.later hK) hw
 have hrg := hX.range
 have hbl := h.lt
 have HBK := hide h.blk
 obtain ⟨q1, q2⟩ := Dlt.within_iff.1 hw
 have hsub : IntKind.i64.wrap ((n : Int) - (stNumber xs s).1) = (n : Int) - (stNumber xs s).1 := by simp [IntKind.wrap, IntKind.bits, IntKind.signed]; omega
 obtain ⟨G, hG⟩ := nm (w.heap.size)
 rw [hG] at hX hrg hbl hnz
 have HX := hide hX
 have HNZ := hide hnz
 have HGB : Hid (G ∉ [b] ∧ G + 1 ∉ [b]) := ⟨by simp; omega, by simp; omega⟩
 have HW2 := hide hw2
 clear hw h hX hbl hw2 hnz
 go_enter Tryz.func106, Tryz.ntmps106
 go_upto_region 1 with (fail)
 first | rw [hw1] | skip
 have HG := hide hG
 clear hG hw1
 go_upto_region 2 with (first
  | refine wpList_load_mid rfl 88 (.tmp 2) rfl G 0 rfl (stC b) _ hrg Tryz.underlying88 rfl Tryz.infoStrict ?_
  | (go_at_call 81; refine hle.mono ?_; rintro r w2 ⟨rfl, hr2, hk2⟩; have H2 := hide (ai hr2 hk2); clear hle hr2 hk2))
 have hX2 := HX.out.kept H2.out.2 HGB.out.1
 have hrg2 := hX2.range
 have hnu := number_yes 1 ((n : Int) - (stNumber xs s).1) H2.out.1 HW2.out
 clear hrg hX2
 go_wp2_with (first
  | refine wpList_load_mid rfl 88 (.tmp 2) rfl G 0 rfl (stC b) _ hrg2 Tryz.underlying88 rfl Tryz.infoStrict ?_
  | (go_at_call 81; refine hnu.mono ?_; rintro r w3 ⟨rfl, hr3, hk3⟩; have H3 := hide (ai hr3 hk3); have hn3 : w3.heap[G + 1]? = some (.cells #[.int .i64 0, .int .i64 0] 112 (0, 0)) := ((H2.out.2.tr hk3).block _ (gs HNZ.out).1 HGB.out.2).trans HNZ.out; clear hnu hr3 hk3 hrg2)
  | refine wpList_store_rowTo rfl 112 (.tmp 4) (.tmp 15) rfl rfl (G + 1) #[.int .i64 (stNumber xs s).1, .int .i64 (stNumber xs (stNumber xs s).2).1] rfl rfl 112 #[.int .i64 0, .int .i64 0] hn3 (Tryz.infoRunA _ _) rfl (run_all _ _) ?_)
 have kk : Kept [b] w w3 := ((hK.mono (by simp)).tr H2.out.2).tr H3.out.2
 have hk4 : Kept [G + 1] w3 (w3.setRow (G + 1) #[.int .i64 (stNumber xs s).1, .int .i64 (stNumber xs (stNumber xs s).2).1]) := kept_row w3 _ _
 refine ret_row rfl rfl (G + 1) 112 #[.int .i64 (stNumber xs s).1, .int .i64 (stNumber xs (stNumber xs s).2).1] (0, 0) _ rfl (setRow_heap _ _ _ _ _ _ hn3) Tryz.underlying112 rfl Tryz.infoRun ⟨rfl, ?_, kk.trans hk4 (by have := HG.out; simp; omega)⟩
 refine H3.out.1.kept hk4 (by have := HGB.out.2; simp at this ⊢; omega) (fun hne a ha => ?_)
 have := HBK.out hne a ha
 have := HG.out
 simp
 omega
end

section
open Dlt
theorem literal_no {w : World} {b : Nat} {ao : Option Addr} {cap : Nat} {xs : List UInt8} {s : Rs} (h : RdS w b ao cap xs s) (hw : (stText xs s 131072).1 = []) :
  Calls Tryz.prog 107 #[stV b] w fun e w' => e = gaveUp8 ∧ Kept [b] w w' := by
 have hK := ka w (.cells (stC b).toArray 88)
 have hX := Sx.new w b
 have htx := text_st (h.later hK) 131072
 have cb := hX.cell
 have HX := hide hX
 have hbl := h.lt
 rw [hw] at htx
 obtain ⟨G, hG⟩ := nm (w.heap.size)
 rw [hG] at HX hbl cb
 have HGB : Hid (G ∉ [b]) := by show G ∉ [b]; simp; omega
 clear h hw hX hbl
 go_enter Tryz.func107, Tryz.ntmps107
 go_upto_region 1 with (fail)
 clear hG
 generalize w.alloc (.cells (stC b).toArray 88) = w1 at *
 go_upto_region 2 with (go_at_call 121; refine htx.mono ?_; rintro r w2 ⟨⟨ao5, cap5, rfl, hfr5⟩, hk2, hr2⟩; have H2 := hide (ai hk2 hr2); clear htx hk2 hr2 hfr5 cb)
 have hrg := (HX.out.kept H2.out.1 HGB.out).range
 have hmu := must_no b w2
 go_wp2_with (first
  | refine wpList_load_mid rfl 88 (.tmp 1) rfl G 0 rfl (stC b) _ hrg Tryz.underlying88 rfl Tryz.infoStrict ?_
  | (go_at_call 52; refine hmu.mono ?_; rintro r w3 ⟨rfl, hk3⟩; have H3 := hide hk3; clear hmu hk3 hrg))
 exact ⟨rfl, rfl, ((hK.mono (by simp)).tr H2.out.1).tr H3.out⟩
theorem literal_yes {w : World} {b : Nat} {ao : Option Addr} {cap : Nat} {xs : List UInt8} {s : Rs} (h : RdS w b ao cap xs s) (hw : (stText xs s 131072).1 ≠ []) :
  Calls Tryz.prog 107 #[stV b] w fun e w' => (∃ lo lc, e = .returned (.slice lo (stText xs s 131072).1.length lc) ∧ (stText xs s 131072).1.length <= lc ∧ Sl w' lo (stText xs s 131072).1 ∧ (∀ a, lo = some a -> w.heap.size <= a.block)) ∧ RdS w' b ao cap xs (stText xs s 131072).2 ∧ Kept [b] w w' := by
 have hK := ka w (.cells (stC b).toArray 88)
 have hX := Sx.new w b
 have htx := text_st (h.later hK) 131072
 have cb := hX.cell
 have HX := hide hX
 have hbl := h.lt
 have HBK := hide h.blk
 obtain ⟨G, hG⟩ := nm (w.heap.size)
 rw [hG] at HX hbl cb
 have HGB : Hid (G ∉ [b]) := by show G ∉ [b]; simp; omega
 have hpos : 0 < (stText xs s 131072).1.length := List.length_pos_iff.2 hw
 clear h hw hX hbl
 go_enter Tryz.func107, Tryz.ntmps107
 go_upto_region 1 with (fail)
 clear hG
 generalize w.alloc (.cells (stC b).toArray 88) = w1 at *
 obtain ⟨tt, htt⟩ := nm (stText xs s 131072)
 rw [htt] at htx hpos
 have HTT := hide htt
 clear htt
 obtain ⟨m, hm⟩ := nm (tt.1.length)
 unfold RowEnd at htx
 rw [hm] at htx hpos
 have HM := hide hm
 clear hm
 go_upto_region 2 with (go_at_call 121; refine htx.mono ?_; rintro r w2 ⟨⟨ao5, cap5, rfl, hfr5⟩, hk2, hr2⟩; have H2 := hide (ai hk2 (ai hr2 hfr5)); clear htx hk2 hr2 hfr5 cb)
 have hrg := (HX.out.kept H2.out.1 HGB.out).range
 have hmu := must_yes b w2
 go_wp2_with (first
  | refine wpList_load_mid rfl 88 (.tmp 1) rfl G 0 rfl (stC b) _ hrg Tryz.underlying88 rfl Tryz.infoStrict ?_
  | (go_at_call 52; refine hmu.mono ?_; rintro r w3 ⟨rfl, hk3⟩; have H3 := hide hk3; clear hmu hk3 hrg))
 go_ret
 rw [HTT.out, HM.out]
 obtain ⟨f1, f2, f3, f4⟩ := H2.out.2.2
 refine ⟨⟨ao5, cap5, rfl, by rw [<-HM.out]; exact f2, f1.kept H3.out (by simp), fun a ha => Nat.le_trans hK.size (f4 a ha).1⟩, H2.out.2.1.later H3.out, ((hK.mono (by simp)).tr H2.out.1).tr H3.out⟩
end

end Go.Proofs.YtmklodligplbaaaGreat
