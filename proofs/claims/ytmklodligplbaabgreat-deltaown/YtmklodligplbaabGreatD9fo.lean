import Derived.Test.YtmklodligplbaabGreatD9ao
open Go.RowKit
set_option linter.unusedVariables false
set_option linter.unusedSimpArgs false
set_option maxRecDepth 100000
set_option maxHeartbeats 0
namespace Go.Proofs.YtmklodligplbaabGreat
section
open Dlt
theorem yieldsIf_build8 {ops : Array Oper} {S : World -> Prop} {op : Oper} {a : Act} (hw : Region.wanted op (yielded ops a.tmps) = true) (t : TypeId) (parts : Array (Nat × Operand)) (ho : op.op = .build t parts) (vals : Array (Nat × Value)) (hv : (parts.map fun (i, x) => (i, a.eval x)) = vals) (v : Value) (hrun : ∀ W, (Instr.build t vals).run Tryz.prog W = .ok v W) : YieldsIf Tryz.prog ops S op v a :=
 .inl ⟨hw, fun w hw' => by
  unfold execOp
  simp only [ho, hv, Sem.run_bind, hrun, Result.andThen_ok]
  rfl⟩
theorem make_ok (s : Sig) (ao : Option Addr) (n cap : Nat) (to : Option Addr) (tn tc : Nat) (ys : List UInt8) (w : World) (hI : SigIn w s ao n cap) (hyl : ys.length = tn) (hyc : tn <= tc) (hys : Sl w to ys) (hym : tn <= 4611686018427387904) :
  Calls Tryz.prog 8 #[.agg (s.cells (.slice ao n cap)).toArray, .slice to tn tc] w fun e w' => TellB w w' e (makeE s ys) (makeB s ys) ∧ Kept [] w w' := by
 have hA := SigAt.new w s (.slice ao n cap)
 have hK := ka w (.cells (s.cells (.slice ao n cap)).toArray 26)
 have hrg := hA.range
 have hil := Tryz.infoSig s (.slice ao n cap)
 have hmb := mayBe_ok s ao n cap _ (hI.kept hK)
 obtain ⟨G, hG⟩ := nm (w.heap.size)
 rw [hG] at hrg hA
 have HI := hide (ai (hI.kept hK) (ai hyl (ai hyc (hys.kept hK (by simp)))))
 have HA := hide hA
 cases hm : may s with
 | false =>
  rw [hm] at hmb
  have HE : Hid (makeE s ys = 180 ∧ makeB s ys = []) := by
   have e : makeE s ys = 180 := by unfold makeE; rw [if_pos hm]
   exact ⟨e, by unfold makeB; rw [e]; rfl⟩
  clear hm hA hI hys hyl hyc
  go_enter Tryz.func8, Tryz.ntmps8
  go_upto_region 1 with (fail)
  clear hG
  generalize w.alloc (.cells (s.cells (.slice ao n cap)).toArray 26) = w1 at *
  go_wp2_with (first
   | refine wpList_load_mid rfl 26 (.tmp 2) rfl G 0 rfl (s.cells (.slice ao n cap)) _ hrg Tryz.underlying26 rfl hil ?_
   | (go_at_call 28; refine hmb.mono ?_; rintro r w2 ⟨rfl, hk2⟩; have H2 := hide hk2; clear hmb hk2))
  go_ret2
  rw [HE.out.1, HE.out.2]
  exact ⟨⟨none, 0, rfl, World.ownsRow_nil _ _ _ _⟩, hK.tr H2.out⟩
 | true =>
  rw [hm] at hmb
  have HM := hide (may_iff.1 hm)
  have HMT := hide hm
  clear hm hA hI hys hyc
  go_enter Tryz.func8, Tryz.ntmps8
  go_upto_region 1 with (fail)
  clear hG
  generalize w.alloc (.cells (s.cells (.slice ao n cap)).toArray 26) = w1 at *
  go_upto_region 3 with (first
   | refine wpList_load_mid rfl 26 (.tmp 2) rfl G 0 rfl (s.cells (.slice ao n cap)) _ hrg Tryz.underlying26 rfl hil ?_
   | (go_at_call 28; refine hmb.mono ?_; rintro r w2 ⟨rfl, hk2⟩; have H2 := hide hk2; clear hmb hk2))
  by_cases hlong : 131072 < tn
  ·have hl' : (131072 : Int) < (tn : Int) := by omega
   have HE : Hid (makeE s ys = 2 ∧ makeB s ys = []) := by
    have e : makeE s ys = 2 := by unfold makeE; rw [if_neg (by rw [HMT.out]; simp), if_pos (by rw [hyl]; exact hlong)]
    exact ⟨e, by unfold makeB; rw [e]; rfl⟩
   clear hrg hyl
   go_wp2
   go_ret2
   rw [HE.out.1, HE.out.2]
   exact ⟨⟨none, 0, rfl, World.ownsRow_nil _ _ _ _⟩, hK.tr H2.out⟩
  ·have hl' : ¬ (131072 : Int) < (tn : Int) := by omega
   have hl2 : tn <= 131072 := by omega
   obtain ⟨W, hW⟩ := Int.eq_ofNat_of_zero_le (show 0 <= s.width by have := HM.out.w1; omega)
   obtain ⟨Z, hZ⟩ := Int.eq_ofNat_of_zero_le (show 0 <= s.size by have := HM.out.z1; omega)
   have hW2 : W <= 32 := by have := HM.out.w2; omega
   have hZ1 : 1 <= Z := by have := HM.out.z1; omega
   have hZ2 : Z <= 4096 := by have := HM.out.z2; omega
   have hn : n <= 2048 := by rw [<-HI.out.1.len]; exact HM.out.few
   have hin := instructions_ok s Z ao n cap to tn tc ys w2 (HI.out.1.kept H2.out) (by omega) hZ hZ1 hZ2 hyl HI.out.2.2.1 (HI.out.2.2.2.kept H2.out (by simp)) (by omega)
   have HIO : Hid (insOf s ys = ins s.width Z s.blocks [] ys) := by show _ = _; unfold insOf; rw [hZ]; rfl
   have hok := insF_ok (wd := s.width) (L := s.blocks) hZ1 (by rw [HI.out.1.len]; omega) ys.length [] ys (by omega) (by simp)
   rw [<-HIO.out] at hin
   have HOK : Hid ((∀ x, x ∈ insOf s ys -> okW x) ∧ litS (insOf s ys) <= 131072) := by
    rw [HIO.out]
    refine ⟨hok.1, Nat.le_trans hok.2 ?_⟩
    show 0 + ys.length <= _
    omega
   have HWZ := hide (ai hW hZ)
   have HYL := hide hyl
   have HEE : Hid (makeE s ys = if 2048 < (insOf s ys).length then 183 else if 131072 < (makeX s ys).length then 2 else 0) := by show _ = _; unfold makeE; rw [if_neg (by rw [HMT.out]; simp), if_neg (by rw [hyl]; omega)]
   have hrg2 := (HA.out.kept H2.out (by simp)).range
   obtain ⟨bk, hbk⟩ : ∃ bk : Wk, bk.sum = s.length ∧ bk.id = s.base := ⟨baseK s HM.out, rfl, rfl⟩
   obtain ⟨tk, htk⟩ : ∃ tk : Wk, tk.sum = (tn : Int) ∧ tk.id = Sha.ident s.width ys := ⟨targK s.width ys (by omega), by show (ys.length : Int) = _; rw [hyl], rfl⟩
   have HX : Hid (sealed ([] ++ Pure.fix 68 1 ++ Pure.enc W ++ Pure.enc Z ++ [bk, tk].flatMap (encK W) ++ Pure.enc (insOf s ys).length ++ (insOf s ys).flatMap encI) = makeX s ys) := by
    show _ = _
    unfold makeX
    simp only [List.flatMap_cons, List.flatMap_nil, List.append_nil, encK, hbk.1, hbk.2, htk.1, htk.2, hW, hZ, Int.toNat_natCast, hyl]
   clear hrg hyl hok hW hZ HIO
   have HEB : Hid (makeB s ys = if makeE s ys = 0 then makeX s ys else []) := rfl
   generalize insOf s ys = L at *
   generalize makeX s ys = out at *
   go_upto_region 6 with (first
    | refine wpList_load_mid rfl 26 (.tmp 2) rfl G 0 rfl (s.cells (.slice ao n cap)) _ hrg2 Tryz.underlying26 rfl hil ?_
    | (go_at_call 29; refine hin.mono ?_; rintro r w3 ⟨v, w0, rfl, hia, hk0, hk3⟩; obtain ⟨lo, lc, rfl, _⟩ := hia.shape; have H3 := hide (ai hia (ai hk0 hk3)); clear hin hia hk0 hk3))
   obtain ⟨ln, hln⟩ := nm (L.length)
   rw [hln] at H3 HEE HX ⊢
   have HLN := hide hln
   clear hln
   by_cases hbig : 2048 < ln
   ·have hb' : (2048 : Int) < (ln : Int) := by omega
    have HE : Hid (makeE s ys = 183 ∧ makeB s ys = []) := by
     have e : makeE s ys = 183 := by rw [HEE.out, if_pos hbig]
     exact ⟨e, by rw [HEB.out, e]; rfl⟩
    clear HEE HEB
    go_wp2
    go_ret2
    rw [HE.out.1, HE.out.2]
    exact ⟨⟨none, 0, rfl, World.ownsRow_nil _ _ _ _⟩, ((hK.tr H2.out).tr H3.out.2.1).tr H3.out.2.2⟩
   ·have hb' : ¬ (2048 : Int) < (ln : Int) := by omega
    have hb2 : ln <= 2048 := by omega
    have HK3 := hide (H2.out.trans (H3.out.2.1.tr H3.out.2.2) (by simp))
    have hA3 := HA.out.kept HK3.out (by simp)
    have c0 := hA3.cell (s.c0 _)
    have c1 := hA3.cell (s.c1 _)
    have c2 := hA3.cell (s.c2 _)
    have hrb := hA3.base
    rw [HWZ.out.1] at c0 htk
    rw [HWZ.out.2] at c1
    rw [<-hbk.1] at c2
    rw [<-hbk.2] at hrb
    have hlb : (Tryz.prog.info? 23).map (·.size) = some (bys bk.id).length := idlen bk.hid
    have hbs := fun X => Tryz.builtSeal bk X
    have hbo := fun X => Tryz.builtOrd W Z bk tk lo ln lc X
    have hts := htk.1
    have hti := htk.2
    have hso := fun X (h : Kept [] w3 X) => sealOf_ok W to tn tc ys X tk hts hti HYL.out HI.out.2.2.1 (HI.out.2.2.2.kept (HK3.out.tr h) (by simp)) (by omega)
    have hwo := fun X (h : Kept [] w3 X) => writeOrder_ok W Z bk tk lo ln lc L w0 X hW2 hZ2 (by rw [hbk.1]; exact HM.out.l1) (by rw [hbk.1]; have := HM.out.l2; omega) (by rw [hts]; omega) (by rw [hts]; omega) (H3.out.1.kept h) HLN.out (by omega) (H3.out.2.2.tr h) HOK.out.1 (by have h1 := flatI_len L HOK.out.1; have h2 := HOK.out.2; have h3 := HLN.out; omega) out HX.out
    have HSO := hide hso
    have HWO := hide hwo
    have HBK := hide hbk
    clear hso hwo hts hti hbk htk hA3 hrg2 hil
    go_wp2
    refine th w3 fun h0 => ?_
    generalize World.drew w3 = v0 at h0  ⊢
    refine t1 0 (.pointer (some ⟨G, 0, none⟩)) h0 ?_
    simp only [zz]
    refine t2 1 (.int .i64 W) rfl h0 ?_ (fun w h => by have c := qc h c0; go_simp)
    simp only [zz]
    refine t1 2 (.pointer (some ⟨G, 1, none⟩)) h0 ?_
    simp only [zz]
    refine t2 3 (.int .i64 Z) rfl h0 ?_ (fun w h => by have c := qc h c1; go_simp)
    simp only [zz]
    refine t1 4 (.pointer (some ⟨G, 2, none⟩)) h0 ?_
    simp only [zz]
    refine t2 5 (.int .i64 bk.sum) rfl h0 ?_ (fun w h => by have c := qc h c2; go_simp)
    simp only [zz]
    refine t1 6 (.pointer (some ⟨G, 3, none⟩)) h0 ?_
    simp only [zz]
    refine t4 7 (.agg (bys bk.id).toArray) rfl (yieldsIf_load_mid (by rfl) _ _ rfl G 3 rfl (bys bk.id) _ (fun W h j u hu => Kept.cellOf h (hrb j u hu) (by simp)) Tryz.underlying23 rfl hlb) h0 ?_
    simp only [zz]
    refine t4 8 (.agg bk.cells.toArray) rfl (yieldsIf_build8 (by rfl) 71 #[(0, .tmp 27), (1, .tmp 29)] rfl #[(0, .int .i64 bk.sum), (1, .agg (bys bk.id).toArray)] (by simp [Act.eval, Act.put]) _ hbs) h0 ?_
    simp only [zz]
    refine t1 9 (.pointer (some ⟨G, 0, none⟩)) h0 ?_
    simp only [zz]
    refine t2 10 (.int .i64 W) rfl h0 ?_ (fun w h => by have c := qc h c0; go_simp)
    simp only [zz]
    refine t1 11 (.slice to tn tc) h0 ?_
    simp only [zz]
    refine t1 13 (.slice lo ln lc) h0 ?_
    simp only [zz]
    refine rd 12 fun K hK => ?_
    go_simp
    refine (HSO.out v0 h0).mono ?_
    rintro e v1 ⟨rfl, hq⟩
    refine hK.out _ _ (h0.tr hq) (fun h1 => ?_)
    clear hK K
    try simp only [zz]
    clear hq h0
    refine t4 14 (.agg (ordC W Z bk tk (.slice lo ln lc)).toArray) rfl (yieldsIf_build8 (by rfl) 74 #[(0, .tmp 23), (1, .tmp 25), (2, .tmp 30), (3, .tmp 34), (4, .tmp 35)] rfl #[(0, .int .i64 W), (1, .int .i64 Z), (2, .agg bk.cells.toArray), (3, .agg tk.cells.toArray), (4, .slice lo ln lc)] (by simp [Act.eval, Act.put]) _ hbo) h1 ?_
    simp only [zz]
    refine rd 15 fun K hK => ?_
    go_simp
    refine (HWO.out v1 h1).mono ?_
    rintro e v2 ⟨⟨ao5, cap5, rfl, ho5⟩, hq⟩
    have HO5 := hide (ai ho5 h1.size)
    refine hK.out _ _ (h1.tr hq) (fun h2 => ?_)
    clear hK K
    try simp only [zz]
    clear hq h1 ho5
    refine t1 16 (.slice ao5 out.length cap5) h2 ?_
    simp only [zz]
    refine qd ?_
    have HKF := hide ((hK.tr HK3.out).tr h2)
    have HSZ : Hid (w.heap.size <= v1.heap.size) := Nat.le_trans (hK.tr HK3.out).size HO5.out.2
    obtain ⟨ol, hol⟩ := nm (out.length)
    rw [hol] at HEE HO5 ⊢
    have HOL := hide hol
    clear hol h2 hrb c0 c1 c2 hbs hbo HSO HWO
    by_cases hbo : 131072 < ol
    ·have hbo' : (131072 : Int) < (ol : Int) := by omega
     have HE : Hid (makeE s ys = 2 ∧ makeB s ys = []) := by
      have e : makeE s ys = 2 := by rw [HEE.out, if_neg hbig, if_pos hbo]
      exact ⟨e, by rw [HEB.out, e]; rfl⟩
     clear HEE HEB
     go_wp2
     go_ret2
     rw [HE.out.1, HE.out.2]
     exact ⟨⟨none, 0, rfl, World.ownsRow_nil _ _ _ _⟩, HKF.out⟩
    ·have hbo' : ¬ (131072 : Int) < (ol : Int) := by omega
     have HE : Hid (makeE s ys = 0 ∧ makeB s ys = out) := by
      have e : makeE s ys = 0 := by rw [HEE.out, if_neg hbig, if_neg hbo]
      exact ⟨e, by rw [HEB.out, e]; rfl⟩
     clear HEE HEB
     go_wp2
     go_ret2
     rw [HE.out.1, HE.out.2]
     refine ⟨⟨ao5, cap5, by rw [HOL.out]; rfl, ?_⟩, HKF.out⟩
     rw [HOL.out]
     exact own_base HO5.out.1 HSZ.out
end

section
open Dlt
theorem seal_no {w : World} {b : Nat} {ao : Option Addr} {cap : Nat} {xs : List UInt8} {s : Rs} (h : RdS w b ao cap xs s) (n : Nat) (hw : Dlt.within (stNumber xs s).1 0 131072 = false) :
  Calls Tryz.prog 89 #[stV b, .int .i64 n] w fun e w' => e = gaveUp8 ∧ Kept [b] w w' := by
 have hz := Tryz.zeroSeal
 have hK : Kept [] w ((w.alloc (.cells (stC b).toArray 145)).alloc (.cells zeroK 71)) := ((Kept.refl [] w).alloc _).alloc _
 have hX := (Sx.new w b).kept ((Kept.refl [] (w.alloc (.cells (stC b).toArray 145))).alloc (.cells zeroK 71)) (by simp)
 have hle := length_no (h.later hK) hw
 have hrg := hX.range
 clear hw h hX
 go_enter Tryz.func89, Tryz.ntmps89
 go_upto_region 1 with (fail)
 generalize (w.alloc (.cells (stC b).toArray 145)).alloc (.cells zeroK 71) = w1 at *
 go_wp2_with (first
  | refine wpList_load_mid rfl 145 (.tmp 2) rfl w.heap.size 0 rfl (stC b) _ hrg Tryz.underlying145 rfl Tryz.infoStrict ?_
  | (go_at_call 94; refine hle.mono ?_; rintro r w2 ⟨rfl, hk2⟩; have H2 := hide hk2; clear hle hk2))
 exact ⟨rfl, rfl, (hK.mono (by simp)).tr H2.out⟩
theorem seal_yes {w : World} {b : Nat} {ao : Option Addr} {cap : Nat} {xs : List UInt8} {s : Rs} (h : RdS w b ao cap xs s) (n : Nat) (hn : n <= 32) (hw : Dlt.within (stNumber xs s).1 0 131072 = true) (k : Wk) (hks : k.sum = (stNumber xs s).1) (hki : k.id = pad (stRaw xs (stNumber xs s).2 n).1) :
  Calls Tryz.prog 89 #[stV b, .int .i64 n] w fun e w' => e = .returned (.agg k.cells.toArray) ∧ RdS w' b ao cap xs (stRaw xs (stNumber xs s).2 n).2 ∧ Kept [b] w w' := by
 have hz := Tryz.zeroSeal
 obtain ⟨w1, hw1⟩ := nm ((w.alloc (.cells (stC b).toArray 145)).alloc (.cells zeroK 71))
 have hK : Kept [] w w1 := by rw [<-hw1]; exact ((Kept.refl [] w).alloc _).alloc _
 have hX : Sx w1 w.heap.size b := by rw [<-hw1]; exact (Sx.new w b).kept ((Kept.refl [] _).alloc _) (by simp)
 have hnz : w1.heap[w.heap.size + 1]? = some (.cells zeroK 71 (0, 0)) := by
  rw [<-hw1]
  have := heap_new (w.alloc (.cells (stC b).toArray 145)) (.cells zeroK 71)
  rwa [World.size_alloc] at this
 have hle := length_yes (h.later hK) hw
 have hrg := hX.range
 have hbl := h.lt
 have HBK := hide h.blk
 obtain ⟨G, hG⟩ := nm (w.heap.size)
 rw [hG] at hX hnz hrg hbl
 have HX := hide hX
 have HNZ := hide hnz
 have HGB : Hid (G ∉ [b] ∧ G + 1 ∉ [b]) := ⟨by simp; omega, by simp; omega⟩
 have HB := Tryz.builtSeal k
 rw [hks, hki] at HB
 have hial := Tryz.infoSealA k
 have hzs : zeroK.size = k.cells.toArray.size := by rw [wk_size]; rfl
 have hall := wk_all k
 clear hw h hX hnz hbl hks hki
 go_enter Tryz.func89, Tryz.ntmps89
 go_upto_region 1 with (fail)
 first | rw [hw1] | skip
 have HG := hide hG
 clear hG hw1
 go_upto_region 2 with (first
  | refine wpList_load_mid rfl 145 (.tmp 2) rfl G 0 rfl (stC b) _ hrg Tryz.underlying145 rfl Tryz.infoStrict ?_
  | (go_at_call 94; refine hle.mono ?_; rintro r w2 ⟨rfl, hr2, hk2⟩; have H2 := hide (ai hr2 hk2); clear hle hr2 hk2))
 have hX2 := HX.out.kept H2.out.2 HGB.out.1
 have hrg2 := hX2.range
 have hid := id_ok H2.out.1 n hn
 obtain ⟨q, hq⟩ := nm ((stNumber xs s).1)
 rw [hq] at HB ⊢
 clear hrg hX2 hq
 obtain ⟨rr, hrr⟩ := nm (stRaw xs (stNumber xs s).2 n)
 rw [hrr] at HB hid
 have HRR := hide hrr
 clear hrr
 go_wp2_with (first
  | refine wpList_load_mid rfl 145 (.tmp 2) rfl G 0 rfl (stC b) _ hrg2 Tryz.underlying145 rfl Tryz.infoStrict ?_
  | (go_at_call 95; refine hid.mono ?_; rintro r w3 ⟨rfl, hr3, hk3⟩; have H3 := hide (ai hr3 hk3); have hn3 : w3.heap[G + 1]? = some (.cells zeroK 71 (0, 0)) := ((H2.out.2.tr hk3).block _ (gs HNZ.out).1 HGB.out.2).trans HNZ.out; clear hid hr3 hk3 hrg2)
  | refine wpList_buildRun8 rfl 71 #[(0, .tmp 8), (1, .tmp 11)] rfl #[(0, .int .i64 q), (1, .agg (bys (pad rr.1)).toArray)] (by simp [Act.eval]) _ (HB _) ?_
  | refine wpList_store_rowTo rfl 71 (.tmp 4) (.tmp 12) rfl rfl (G + 1) k.cells.toArray rfl rfl 71 zeroK hn3 hial hzs hall ?_)
 have kk : Kept [b] w w3 := ((hK.mono (by simp)).tr H2.out.2).tr H3.out.2
 have hk4 : Kept [G + 1] w3 (w3.setRow (G + 1) k.cells.toArray) := kept_row w3 _ _
 refine ret_row rfl rfl (G + 1) 71 k.cells.toArray (0, 0) _ rfl (setRow_heap _ _ _ _ _ _ hn3) Tryz.underlying71 rfl hial ⟨rfl, ?_, kk.trans hk4 (by have := HG.out; simp; omega)⟩
 rw [HRR.out]
 refine H3.out.1.kept hk4 (by have := HGB.out.2; simp at this ⊢; omega) (fun hne a ha => ?_)
 have := HBK.out hne a ha
 have := HG.out
 simp
 omega
end

section
open Dlt
theorem run_all (x y : Int) : (#[Value.int .i64 x, Value.int .i64 y]).all (·.oneCell') = true := by simp [Value.oneCell']
theorem Tryz.infoRunA (x y : Int) : (Tryz.prog.info? 116).map (·.size) = some (#[Value.int .i64 x, Value.int .i64 y]).size := Tryz.infoRun
theorem run_no1 {w : World} {b : Nat} {ao : Option Addr} {cap : Nat} {xs : List UInt8} {s : Rs} (h : RdS w b ao cap xs s) (n : Nat) (hw : Dlt.within (stNumber xs s).1 0 n = false) :
  Calls Tryz.prog 116 #[stV b, .int .i64 n] w fun e w' => e = gaveUp8 ∧ Kept [b] w w' := by
 have hz := Tryz.zeroRun
 have hK : Kept [] w ((w.alloc (.cells (stC b).toArray 145)).alloc (.cells #[.int .i64 0, .int .i64 0] 116)) := ((Kept.refl [] w).alloc _).alloc _
 have hX := (Sx.new w b).kept ((Kept.refl [] (w.alloc (.cells (stC b).toArray 145))).alloc (.cells #[.int .i64 0, .int .i64 0] 116)) (by simp)
 have hle := number_no 0 n (h.later hK) hw
 have hrg := hX.range
 clear hw h hX
 go_enter Tryz.func116, Tryz.ntmps116
 go_upto_region 1 with (fail)
 generalize (w.alloc (.cells (stC b).toArray 145)).alloc (.cells #[.int .i64 0, .int .i64 0] 116) = w1 at *
 go_wp2_with (first
  | refine wpList_load_mid rfl 145 (.tmp 2) rfl w.heap.size 0 rfl (stC b) _ hrg Tryz.underlying145 rfl Tryz.infoStrict ?_
  | (go_at_call 90; refine hle.mono ?_; rintro r w2 ⟨rfl, hk2⟩; have H2 := hide hk2; clear hle hk2))
 exact ⟨rfl, rfl, (hK.mono (by simp)).tr H2.out⟩
theorem run_no2 {w : World} {b : Nat} {ao : Option Addr} {cap : Nat} {xs : List UInt8} {s : Rs} (h : RdS w b ao cap xs s) (n : Nat) (hn : n <= 1000000) (hw : Dlt.within (stNumber xs s).1 0 n = true) (hw2 : Dlt.within (stNumber xs (stNumber xs s).2).1 1 ((n : Int) - (stNumber xs s).1) = false) :
  Calls Tryz.prog 116 #[stV b, .int .i64 n] w fun e w' => e = gaveUp8 ∧ Kept [b] w w' := by
 have hz := Tryz.zeroRun
 obtain ⟨w1, hw1⟩ := nm ((w.alloc (.cells (stC b).toArray 145)).alloc (.cells #[.int .i64 0, .int .i64 0] 116))
 have hK : Kept [] w w1 := by rw [<-hw1]; exact ((Kept.refl [] w).alloc _).alloc _
 have hX : Sx w1 w.heap.size b := by rw [<-hw1]; exact (Sx.new w b).kept ((Kept.refl [] _).alloc _) (by simp)
 have hle := number_yes 0 n (h.later hK) hw
 have hrg := hX.range
 have hbl := h.lt
 obtain ⟨q1, q2⟩ := Dlt.within_iff.1 hw
 have hsub : IntKind.i64.wrap ((n : Int) - (stNumber xs s).1) = (n : Int) - (stNumber xs s).1 := by simp [IntKind.wrap, IntKind.bits, IntKind.signed]; omega
 obtain ⟨G, hG⟩ := nm (w.heap.size)
 rw [hG] at hX hrg hbl
 have HX := hide hX
 have HGB : Hid (G ∉ [b]) := by show G ∉ [b]; simp; omega
 have HW2 := hide hw2
 clear hw h hX hbl hw2
 go_enter Tryz.func116, Tryz.ntmps116
 go_upto_region 1 with (fail)
 first | rw [hw1] | skip
 clear hG hw1
 go_upto_region 2 with (first
  | refine wpList_load_mid rfl 145 (.tmp 2) rfl G 0 rfl (stC b) _ hrg Tryz.underlying145 rfl Tryz.infoStrict ?_
  | (go_at_call 90; refine hle.mono ?_; rintro r w2 ⟨rfl, hr2, hk2⟩; have H2 := hide (ai hr2 hk2); clear hle hr2 hk2))
 have hX2 := HX.out.kept H2.out.2 HGB.out
 have hrg2 := hX2.range
 have hnu := number_no 1 ((n : Int) - (stNumber xs s).1) H2.out.1 HW2.out
 clear hrg hX2
 go_wp2_with (first
  | refine wpList_load_mid rfl 145 (.tmp 2) rfl G 0 rfl (stC b) _ hrg2 Tryz.underlying145 rfl Tryz.infoStrict ?_
  | (go_at_call 90; refine hnu.mono ?_; rintro r w3 ⟨rfl, hk3⟩; have H3 := hide hk3; clear hnu hk3 hrg2))
 exact ⟨rfl, rfl, ((hK.mono (by simp)).tr H2.out.2).tr H3.out⟩
theorem run_yes {w : World} {b : Nat} {ao : Option Addr} {cap : Nat} {xs : List UInt8} {s : Rs} (h : RdS w b ao cap xs s) (n : Nat) (hn : n <= 1000000) (hw : Dlt.within (stNumber xs s).1 0 n = true) (hw2 : Dlt.within (stNumber xs (stNumber xs s).2).1 1 ((n : Int) - (stNumber xs s).1) = true) :
  Calls Tryz.prog 116 #[stV b, .int .i64 n] w fun e w' => e = .returned (.agg #[.int .i64 (stNumber xs s).1, .int .i64 (stNumber xs (stNumber xs s).2).1]) ∧ RdS w' b ao cap xs (stNumber xs (stNumber xs s).2).2 ∧ Kept [b] w w' := by
 have hz := Tryz.zeroRun
 obtain ⟨w1, hw1⟩ := nm ((w.alloc (.cells (stC b).toArray 145)).alloc (.cells #[.int .i64 0, .int .i64 0] 116))
 have hK : Kept [] w w1 := by rw [<-hw1]; exact ((Kept.refl [] w).alloc _).alloc _
 have hX : Sx w1 w.heap.size b := by rw [<-hw1]; exact (Sx.new w b).kept ((Kept.refl [] _).alloc _) (by simp)
 have hnz : w1.heap[w.heap.size + 1]? = some (.cells #[.int .i64 0, .int .i64 0] 116 (0, 0)) := by
  rw [<-hw1]
  have := heap_new (w.alloc (.cells (stC b).toArray 145)) (.cells #[.int .i64 0, .int .i64 0] 116)
  rwa [World.size_alloc] at this
 have hle := number_yes 0 n (h.later hK) hw
 have hrg := hX.range
 have hbl := h.lt
 have HBK := hide h.blk
 obtain ⟨q1, q2⟩ := Dlt.within_iff.1 hw
 have hsub : IntKind.i64.wrap ((n : Int) - (stNumber xs s).1) = (n : Int) - (stNumber xs s).1 := by simp [IntKind.wrap, IntKind.bits, IntKind.signed]; omega
 obtain ⟨G, hG⟩ := nm (w.heap.size)
 rw [hG] at hX hrg hbl hnz
 have HX := hide hX
 have HNZ := hide hnz
 have HGB : Hid (G ∉ [b] ∧ G + 1 ∉ [b]) := ⟨by simp; omega, by simp; omega⟩
 have HW2 := hide hw2
 clear hw h hX hbl hw2 hnz
 go_enter Tryz.func116, Tryz.ntmps116
 go_upto_region 1 with (fail)
 first | rw [hw1] | skip
 have HG := hide hG
 clear hG hw1
 go_upto_region 2 with (first
  | refine wpList_load_mid rfl 145 (.tmp 2) rfl G 0 rfl (stC b) _ hrg Tryz.underlying145 rfl Tryz.infoStrict ?_
  | (go_at_call 90; refine hle.mono ?_; rintro r w2 ⟨rfl, hr2, hk2⟩; have H2 := hide (ai hr2 hk2); clear hle hr2 hk2))
 have hX2 := HX.out.kept H2.out.2 HGB.out.1
 have hrg2 := hX2.range
 have hnu := number_yes 1 ((n : Int) - (stNumber xs s).1) H2.out.1 HW2.out
 clear hrg hX2
 go_wp2_with (first
  | refine wpList_load_mid rfl 145 (.tmp 2) rfl G 0 rfl (stC b) _ hrg2 Tryz.underlying145 rfl Tryz.infoStrict ?_
  | (go_at_call 90; refine hnu.mono ?_; rintro r w3 ⟨rfl, hr3, hk3⟩; have H3 := hide (ai hr3 hk3); have hn3 : w3.heap[G + 1]? = some (.cells #[.int .i64 0, .int .i64 0] 116 (0, 0)) := ((H2.out.2.tr hk3).block _ (gs HNZ.out).1 HGB.out.2).trans HNZ.out; clear hnu hr3 hk3 hrg2)
  | refine wpList_store_rowTo rfl 116 (.tmp 4) (.tmp 15) rfl rfl (G + 1) #[.int .i64 (stNumber xs s).1, .int .i64 (stNumber xs (stNumber xs s).2).1] rfl rfl 116 #[.int .i64 0, .int .i64 0] hn3 (Tryz.infoRunA _ _) rfl (run_all _ _) ?_)
 have kk : Kept [b] w w3 := ((hK.mono (by simp)).tr H2.out.2).tr H3.out.2
 have hk4 : Kept [G + 1] w3 (w3.setRow (G + 1) #[.int .i64 (stNumber xs s).1, .int .i64 (stNumber xs (stNumber xs s).2).1]) := kept_row w3 _ _
 refine ret_row rfl rfl (G + 1) 116 #[.int .i64 (stNumber xs s).1, .int .i64 (stNumber xs (stNumber xs s).2).1] (0, 0) _ rfl (setRow_heap _ _ _ _ _ _ hn3) Tryz.underlying116 rfl Tryz.infoRun ⟨rfl, ?_, kk.trans hk4 (by have := HG.out; simp; omega)⟩
 refine H3.out.1.kept hk4 (by have := HGB.out.2; simp at this ⊢; omega) (fun hne a ha => ?_)
 have := HBK.out hne a ha
 have := HG.out
 simp
 omega
end

section
open Dlt
theorem literal_no {w : World} {b : Nat} {ao : Option Addr} {cap : Nat} {xs : List UInt8} {s : Rs} (h : RdS w b ao cap xs s) (hw : (stText xs s 131072).1 = []) :
  Calls Tryz.prog 117 #[stV b] w fun e w' => e = gaveUp8 ∧ Kept [b] w w' := by
 have hK := ka w (.cells (stC b).toArray 145)
 have hX := Sx.new w b
 have htx := text_st (h.later hK) 131072
 have cb := hX.cell
 have HX := hide hX
 have hbl := h.lt
 rw [hw] at htx
 obtain ⟨G, hG⟩ := nm (w.heap.size)
 rw [hG] at HX hbl cb
 have HGB : Hid (G ∉ [b]) := by show G ∉ [b]; simp; omega
 clear h hw hX hbl
 go_enter Tryz.func117, Tryz.ntmps117
 go_upto_region 1 with (fail)
 clear hG
 generalize w.alloc (.cells (stC b).toArray 145) = w1 at *
 go_upto_region 2 with (go_at_call 133; refine htx.mono ?_; rintro r w2 ⟨⟨ao5, cap5, rfl, hfr5⟩, hk2, hr2⟩; have H2 := hide (ai hk2 hr2); clear htx hk2 hr2 hfr5 cb)
 have hrg := (HX.out.kept H2.out.1 HGB.out).range
 have hmu := must_no b w2
 go_wp2_with (first
  | refine wpList_load_mid rfl 145 (.tmp 1) rfl G 0 rfl (stC b) _ hrg Tryz.underlying145 rfl Tryz.infoStrict ?_
  | (go_at_call 92; refine hmu.mono ?_; rintro r w3 ⟨rfl, hk3⟩; have H3 := hide hk3; clear hmu hk3 hrg))
 exact ⟨rfl, rfl, ((hK.mono (by simp)).tr H2.out.1).tr H3.out⟩
theorem literal_yes {w : World} {b : Nat} {ao : Option Addr} {cap : Nat} {xs : List UInt8} {s : Rs} (h : RdS w b ao cap xs s) (hw : (stText xs s 131072).1 ≠ []) :
  Calls Tryz.prog 117 #[stV b] w fun e w' => (∃ lo lc, e = .returned (.slice lo (stText xs s 131072).1.length lc) ∧ (stText xs s 131072).1.length <= lc ∧ Sl w' lo (stText xs s 131072).1 ∧ (∀ a, lo = some a -> w.heap.size <= a.block)) ∧ RdS w' b ao cap xs (stText xs s 131072).2 ∧ Kept [b] w w' := by
 have hK := ka w (.cells (stC b).toArray 145)
 have hX := Sx.new w b
 have htx := text_st (h.later hK) 131072
 have cb := hX.cell
 have HX := hide hX
 have hbl := h.lt
 have HBK := hide h.blk
 obtain ⟨G, hG⟩ := nm (w.heap.size)
 rw [hG] at HX hbl cb
 have HGB : Hid (G ∉ [b]) := by show G ∉ [b]; simp; omega
 have hpos : 0 < (stText xs s 131072).1.length := List.length_pos_iff.2 hw
 clear h hw hX hbl
 go_enter Tryz.func117, Tryz.ntmps117
 go_upto_region 1 with (fail)
 clear hG
 generalize w.alloc (.cells (stC b).toArray 145) = w1 at *
 obtain ⟨tt, htt⟩ := nm (stText xs s 131072)
 rw [htt] at htx hpos
 have HTT := hide htt
 clear htt
 obtain ⟨m, hm⟩ := nm (tt.1.length)
 unfold RowEnd at htx
 rw [hm] at htx hpos
 have HM := hide hm
 clear hm
 go_upto_region 2 with (go_at_call 133; refine htx.mono ?_; rintro r w2 ⟨⟨ao5, cap5, rfl, hfr5⟩, hk2, hr2⟩; have H2 := hide (ai hk2 (ai hr2 hfr5)); clear htx hk2 hr2 hfr5 cb)
 have hrg := (HX.out.kept H2.out.1 HGB.out).range
 have hmu := must_yes b w2
 go_wp2_with (first
  | refine wpList_load_mid rfl 145 (.tmp 1) rfl G 0 rfl (stC b) _ hrg Tryz.underlying145 rfl Tryz.infoStrict ?_
  | (go_at_call 92; refine hmu.mono ?_; rintro r w3 ⟨rfl, hk3⟩; have H3 := hide hk3; clear hmu hk3 hrg))
 go_ret
 rw [HTT.out, HM.out]
 obtain ⟨f1, f2, f3, f4⟩ := H2.out.2.2
 refine ⟨⟨ao5, cap5, rfl, by rw [<-HM.out]; exact f2, f1.kept H3.out (by simp), fun a ha => Nat.le_trans hK.size (f4 a ha).1⟩, H2.out.2.1.later H3.out, ((hK.mono (by simp)).tr H2.out.1).tr H3.out⟩
end

section
open Dlt
def StpN (base : Nat) (w : World) : Stp -> Value -> Prop
 | .copy f c, v => v = .iface 116 (.agg #[.int .i64 (f : Nat), .int .i64 (c : Nat)])
 | .lit bs, v => ∃ ao n cap, v = .iface 113 (.slice ao n cap) ∧ bs.length = n ∧ n <= cap ∧ Sl w ao bs ∧ ∀ a, ao = some a -> base <= a.block
theorem giveUp_k (w : World) : Calls Tryz.prog 113 #[] w fun e w' => e = gaveUp8 ∧ Kept [] w w' := (giveUp_ok w).mono fun e w' h => ⟨h.1, by rw [h.2]; exact Kept.refl [] w⟩
theorem ins_no1 {w : World} {b : Nat} {ao : Option Addr} {cap : Nat} {xs : List UInt8} {s : Rs} (h : RdS w b ao cap xs s) (n : Nat) (hn : n <= 1000000) (h1 : (stFixed xs s 1).1 = 1) (hw : Dlt.within (stNumber xs (stFixed xs s 1).2).1 0 n = false) :
  Calls Tryz.prog 91 #[stV b, .int .i64 n] w fun e w' => e = gaveUp8 ∧ Kept [b] w w' := by
 have hK := ka w (.cells (stC b).toArray 145)
 have hX := Sx.new w b
 have hfx := rfixed_st (h.later hK) 1
 have cb := hX.cell
 have HX := hide hX
 have hbl := h.lt
 obtain ⟨G, hG⟩ := nm (w.heap.size)
 rw [hG] at HX hbl cb
 have HGB : Hid (G ∉ [b]) := by show G ∉ [b]; simp; omega
 have HG := hide hG
 obtain ⟨fx, hfe⟩ := nm ((stFixed xs s 1).1)
 rw [hfe] at hfx h1
 clear h hX hbl hfe
 go_enter Tryz.func91, Tryz.ntmps91
 go_upto_region 1 with (fail)
 clear hG
 generalize w.alloc (.cells (stC b).toArray 145) = w1 at *
 go_upto_region 4 with (go_at_call 96; refine hfx.mono ?_; rintro r w2 ⟨rfl, hk2, hr2⟩; have H2 := hide (ai hk2 hr2); clear hfx hk2 hr2 cb)
 have hrg := (HX.out.kept H2.out.1 HGB.out).range
 subst h1
 have hc := run_no1 H2.out.2 n hw
 go_wp2_with (first
  | refine wpList_load_mid rfl 145 (.tmp 2) rfl G 0 rfl (stC b) _ hrg Tryz.underlying145 rfl Tryz.infoStrict ?_
  | (go_at_call 116; refine hc.mono ?_; rintro r w3 ⟨rfl, hk3⟩; have H3 := hide hk3; clear hc hk3 hrg))
 exact ⟨rfl, rfl, ((hK.mono (by simp)).tr H2.out.1).tr H3.out⟩
theorem ins_no2 {w : World} {b : Nat} {ao : Option Addr} {cap : Nat} {xs : List UInt8} {s : Rs} (h : RdS w b ao cap xs s) (n : Nat) (hn : n <= 1000000) (h1 : (stFixed xs s 1).1 = 1) (hw : Dlt.within (stNumber xs (stFixed xs s 1).2).1 0 n = true) (hw2 : Dlt.within (stNumber xs (stNumber xs (stFixed xs s 1).2).2).1 1 ((n : Int) - (stNumber xs (stFixed xs s 1).2).1) = false) :
  Calls Tryz.prog 91 #[stV b, .int .i64 n] w fun e w' => e = gaveUp8 ∧ Kept [b] w w' := by
 have hK := ka w (.cells (stC b).toArray 145)
 have hX := Sx.new w b
 have hfx := rfixed_st (h.later hK) 1
 have cb := hX.cell
 have HX := hide hX
 have hbl := h.lt
 obtain ⟨G, hG⟩ := nm (w.heap.size)
 rw [hG] at HX hbl cb
 have HGB : Hid (G ∉ [b]) := by show G ∉ [b]; simp; omega
 have HG := hide hG
 obtain ⟨fx, hfe⟩ := nm ((stFixed xs s 1).1)
 rw [hfe] at hfx h1
 clear h hX hbl hfe
 go_enter Tryz.func91, Tryz.ntmps91
 go_upto_region 1 with (fail)
 clear hG
 generalize w.alloc (.cells (stC b).toArray 145) = w1 at *
 go_upto_region 4 with (go_at_call 96; refine hfx.mono ?_; rintro r w2 ⟨rfl, hk2, hr2⟩; have H2 := hide (ai hk2 hr2); clear hfx hk2 hr2 cb)
 have hrg := (HX.out.kept H2.out.1 HGB.out).range
 subst h1
 have hc := run_no2 H2.out.2 n hn hw hw2
 go_wp2_with (first
  | refine wpList_load_mid rfl 145 (.tmp 2) rfl G 0 rfl (stC b) _ hrg Tryz.underlying145 rfl Tryz.infoStrict ?_
  | (go_at_call 116; refine hc.mono ?_; rintro r w3 ⟨rfl, hk3⟩; have H3 := hide hk3; clear hc hk3 hrg))
 exact ⟨rfl, rfl, ((hK.mono (by simp)).tr H2.out.1).tr H3.out⟩
theorem ins_no3 {w : World} {b : Nat} {ao : Option Addr} {cap : Nat} {xs : List UInt8} {s : Rs} (h : RdS w b ao cap xs s) (n : Nat) (hn : n <= 1000000) (h1 : (stFixed xs s 1).1 = 2) (hw : (stText xs (stFixed xs s 1).2 131072).1 = []) :
  Calls Tryz.prog 91 #[stV b, .int .i64 n] w fun e w' => e = gaveUp8 ∧ Kept [b] w w' := by
 have hK := ka w (.cells (stC b).toArray 145)
 have hX := Sx.new w b
 have hfx := rfixed_st (h.later hK) 1
 have cb := hX.cell
 have HX := hide hX
 have hbl := h.lt
 obtain ⟨G, hG⟩ := nm (w.heap.size)
 rw [hG] at HX hbl cb
 have HGB : Hid (G ∉ [b]) := by show G ∉ [b]; simp; omega
 have HG := hide hG
 obtain ⟨fx, hfe⟩ := nm ((stFixed xs s 1).1)
 rw [hfe] at hfx h1
 clear h hX hbl hfe
 go_enter Tryz.func91, Tryz.ntmps91
 go_upto_region 1 with (fail)
 clear hG
 generalize w.alloc (.cells (stC b).toArray 145) = w1 at *
 go_upto_region 4 with (go_at_call 96; refine hfx.mono ?_; rintro r w2 ⟨rfl, hk2, hr2⟩; have H2 := hide (ai hk2 hr2); clear hfx hk2 hr2 cb)
 have hrg := (HX.out.kept H2.out.1 HGB.out).range
 subst h1
 have hc := literal_no H2.out.2 hw
 go_wp2_with (first
  | refine wpList_load_mid rfl 145 (.tmp 2) rfl G 0 rfl (stC b) _ hrg Tryz.underlying145 rfl Tryz.infoStrict ?_
  | (go_at_call 117; refine hc.mono ?_; rintro r w3 ⟨rfl, hk3⟩; have H3 := hide hk3; clear hc hk3 hrg))
 exact ⟨rfl, rfl, ((hK.mono (by simp)).tr H2.out.1).tr H3.out⟩
theorem ins_no4 {w : World} {b : Nat} {ao : Option Addr} {cap : Nat} {xs : List UInt8} {s : Rs} (h : RdS w b ao cap xs s) (n : Nat) (hn : n <= 1000000) (h1 : (stFixed xs s 1).1 ≠ 1) (h2 : (stFixed xs s 1).1 ≠ 2) :
  Calls Tryz.prog 91 #[stV b, .int .i64 n] w fun e w' => e = gaveUp8 ∧ Kept [b] w w' := by
 have hK := ka w (.cells (stC b).toArray 145)
 have hX := Sx.new w b
 have hfx := rfixed_st (h.later hK) 1
 have cb := hX.cell
 have HX := hide hX
 have hbl := h.lt
 obtain ⟨G, hG⟩ := nm (w.heap.size)
 rw [hG] at HX hbl cb
 have HGB : Hid (G ∉ [b]) := by show G ∉ [b]; simp; omega
 have HG := hide hG
 obtain ⟨fx, hfe⟩ := nm ((stFixed xs s 1).1)
 rw [hfe] at hfx h1 h2
 clear h hX hbl hfe
 go_enter Tryz.func91, Tryz.ntmps91
 go_upto_region 1 with (fail)
 clear hG
 generalize w.alloc (.cells (stC b).toArray 145) = w1 at *
 go_upto_region 4 with (go_at_call 96; refine hfx.mono ?_; rintro r w2 ⟨rfl, hk2, hr2⟩; have H2 := hide (ai hk2 hr2); clear hfx hk2 hr2 cb)
 have hrg := (HX.out.kept H2.out.1 HGB.out).range
 have g1 : (fx == 1) = false := by simpa using h1
 have g2 : (fx == 2) = false := by simpa using h2
 have hc := giveUp_k w2
 go_wp2_with (first
  | refine wpList_load_mid rfl 145 (.tmp 2) rfl G 0 rfl (stC b) _ hrg Tryz.underlying145 rfl Tryz.infoStrict ?_
  | (go_at_call 113; refine hc.mono ?_; rintro r w3 ⟨rfl, hk3⟩; have H3 := hide hk3; clear hc hk3 hrg))
 exact ⟨rfl, rfl, ((hK.mono (by simp)).tr H2.out.1).tr H3.out⟩
theorem ins_yes1 {w : World} {b : Nat} {ao : Option Addr} {cap : Nat} {xs : List UInt8} {s : Rs} (h : RdS w b ao cap xs s) (n : Nat) (hn : n <= 1000000) (h1 : (stFixed xs s 1).1 = 1) (hw : Dlt.within (stNumber xs (stFixed xs s 1).2).1 0 n = true) (hw2 : Dlt.within (stNumber xs (stNumber xs (stFixed xs s 1).2).2).1 1 ((n : Int) - (stNumber xs (stFixed xs s 1).2).1) = true) :
  Calls Tryz.prog 91 #[stV b, .int .i64 n] w fun e w' => (∃ u, e = .returned u ∧ StpN w.heap.size w' (.copy (stNumber xs (stFixed xs s 1).2).1.toNat (stNumber xs (stNumber xs (stFixed xs s 1).2).2).1.toNat) u) ∧ RdS w' b ao cap xs (stNumber xs (stNumber xs (stFixed xs s 1).2).2).2 ∧ Kept [b] w w' := by
 have hK := ka w (.cells (stC b).toArray 145)
 have hX := Sx.new w b
 have hfx := rfixed_st (h.later hK) 1
 have cb := hX.cell
 have HX := hide hX
 have hbl := h.lt
 obtain ⟨G, hG⟩ := nm (w.heap.size)
 rw [hG] at HX hbl cb
 have HGB : Hid (G ∉ [b]) := by show G ∉ [b]; simp; omega
 have HG := hide hG
 obtain ⟨fx, hfe⟩ := nm ((stFixed xs s 1).1)
 rw [hfe] at hfx h1
 clear h hX hbl hfe
 go_enter Tryz.func91, Tryz.ntmps91
 go_upto_region 1 with (fail)
 clear hG
 generalize w.alloc (.cells (stC b).toArray 145) = w1 at *
 go_upto_region 4 with (go_at_call 96; refine hfx.mono ?_; rintro r w2 ⟨rfl, hk2, hr2⟩; have H2 := hide (ai hk2 hr2); clear hfx hk2 hr2 cb)
 have hrg := (HX.out.kept H2.out.1 HGB.out).range
 subst h1
 have hc := run_yes H2.out.2 n hn hw hw2
 obtain ⟨p1, p2⟩ := Dlt.within_iff.1 hw
 obtain ⟨p3, p4⟩ := Dlt.within_iff.1 hw2
 obtain ⟨F, hF⟩ := Int.eq_ofNat_of_zero_le p1
 obtain ⟨C, hC⟩ := Int.eq_ofNat_of_zero_le (show 0 <= (stNumber xs (stNumber xs (stFixed xs s 1).2).2).1 by omega)
 rw [hF, hC] at hc
 have HFC := hide (ai hF hC)
 clear hw hw2 p1 p2 p3 p4 hF hC
 go_wp2_with (first
  | refine wpList_load_mid rfl 145 (.tmp 2) rfl G 0 rfl (stC b) _ hrg Tryz.underlying145 rfl Tryz.infoStrict ?_
  | (go_at_call 116; refine hc.mono ?_; rintro r w3 ⟨rfl, hr3, hk3⟩; have H3 := hide (ai hr3 hk3); clear hc hr3 hk3 hrg))
 go_ret
 rw [HFC.out.1, HFC.out.2]
 exact ⟨⟨_, rfl, rfl⟩, H3.out.1, ((hK.mono (by simp)).tr H2.out.1).tr H3.out.2⟩
theorem ins_yes2 {w : World} {b : Nat} {ao : Option Addr} {cap : Nat} {xs : List UInt8} {s : Rs} (h : RdS w b ao cap xs s) (n : Nat) (hn : n <= 1000000) (h1 : (stFixed xs s 1).1 = 2) (hw : (stText xs (stFixed xs s 1).2 131072).1 ≠ []) :
  Calls Tryz.prog 91 #[stV b, .int .i64 n] w fun e w' => (∃ u, e = .returned u ∧ StpN w.heap.size w' (.lit (stText xs (stFixed xs s 1).2 131072).1) u) ∧ RdS w' b ao cap xs (stText xs (stFixed xs s 1).2 131072).2 ∧ Kept [b] w w' := by
 have hK := ka w (.cells (stC b).toArray 145)
 have hX := Sx.new w b
 have hfx := rfixed_st (h.later hK) 1
 have cb := hX.cell
 have HX := hide hX
 have hbl := h.lt
 obtain ⟨G, hG⟩ := nm (w.heap.size)
 rw [hG] at HX hbl cb
 have HGB : Hid (G ∉ [b]) := by show G ∉ [b]; simp; omega
 have HG := hide hG
 obtain ⟨fx, hfe⟩ := nm ((stFixed xs s 1).1)
 rw [hfe] at hfx h1
 clear h hX hbl hfe
 go_enter Tryz.func91, Tryz.ntmps91
 go_upto_region 1 with (fail)
 clear hG
 generalize w.alloc (.cells (stC b).toArray 145) = w1 at *
 go_upto_region 4 with (go_at_call 96; refine hfx.mono ?_; rintro r w2 ⟨rfl, hk2, hr2⟩; have H2 := hide (ai hk2 hr2); clear hfx hk2 hr2 cb)
 have hrg := (HX.out.kept H2.out.1 HGB.out).range
 subst h1
 have hc := literal_yes H2.out.2 hw
 obtain ⟨tt, htt⟩ := nm (stText xs (stFixed xs s 1).2 131072)
 rw [htt] at hc
 have HTT := hide htt
 obtain ⟨m, hm⟩ := nm (tt.1.length)
 rw [hm] at hc
 have HM := hide hm
 clear hw htt hm
 go_wp2_with (first
  | refine wpList_load_mid rfl 145 (.tmp 2) rfl G 0 rfl (stC b) _ hrg Tryz.underlying145 rfl Tryz.infoStrict ?_
  | (go_at_call 117; refine hc.mono ?_; rintro r w3 ⟨⟨lo, lc, rfl, hl1, hl2, hl3⟩, hr3, hk3⟩; have H3 := hide (ai hr3 (ai hk3 (ai hl1 (ai hl2 hl3)))); clear hc hr3 hk3 hrg hl1 hl2 hl3))
 go_ret
 rw [HTT.out]
 have hsz := ((hK.mono (l2 := [b]) (by simp)).tr H2.out.1).size
 exact ⟨⟨_, rfl, lo, m, lc, rfl, HM.out, H3.out.2.2.1, H3.out.2.2.2.1, fun a ha => Nat.le_trans hsz (H3.out.2.2.2.2 a ha)⟩, H3.out.1, ((hK.mono (by simp)).tr H2.out.1).tr H3.out.2.1⟩
end

section
open Dlt
theorem instr_none {w : World} {b : Nat} {ao : Option Addr} {cap : Nat} {xs : List UInt8} {s : Rs} (h : RdS w b ao cap xs s) (n : Nat) (hn : n <= 1000000) (hd : rdI xs n s = none) :
  Calls Tryz.prog 91 #[stV b, .int .i64 n] w fun e w' => e = gaveUp8 ∧ Kept [b] w w' := by
 unfold rdI at hd
 split at hd
 ·next h1 =>
  split at hd
  ·next h2 => exact ins_no1 h n hn h1 h2
  ·next h2 =>
   split at hd
   ·next h3 => exact ins_no2 h n hn h1 (by simpa using h2) h3
   ·cases hd
 ·next h1 =>
  split at hd
  ·next h2 =>
   split at hd
   ·next h3 => exact ins_no3 h n hn h2 h3
   ·cases hd
  ·next h2 => exact ins_no4 h n hn h1 h2
theorem instr_some {w : World} {b : Nat} {ao : Option Addr} {cap : Nat} {xs : List UInt8} {s : Rs} (h : RdS w b ao cap xs s) (n : Nat) (hn : n <= 1000000) (p : Stp × Rs) (hd : rdI xs n s = some p) :
  Calls Tryz.prog 91 #[stV b, .int .i64 n] w fun e w' => (∃ u, e = .returned u ∧ StpN w.heap.size w' p.1 u) ∧ RdS w' b ao cap xs p.2 ∧ Kept [b] w w' := by
 unfold rdI at hd
 split at hd
 ·next h1 =>
  split at hd
  ·cases hd
  ·next h2 =>
   split at hd
   ·cases hd
   ·next h3 =>
    injection hd with hd
    subst hd
    exact ins_yes1 h n hn h1 (by simpa using h2) (by simpa using h3)
 ·next h1 =>
  split at hd
  ·next h2 =>
   split at hd
   ·cases hd
   ·next h3 =>
    injection hd with hd
    subst hd
    exact ins_yes2 h n hn h2 h3
  ·cases hd
theorem litLength_ok (lo : Option Addr) (n lc : Nat) (z : Int) (w : World) :
  Calls Tryz.prog 153 #[.slice lo n lc, .int .i64 z] w fun e w' => e = .returned (.int .i64 n) ∧ w' = w := by
 go_enter Tryz.func153, Tryz.ntmps153
 go_wp2
 go_ret
 exact ⟨rfl, rfl⟩
end

section
open Dlt
theorem Tryz.infoByte9 : (Tryz.prog.info? 5).map (fun i => (i.zero, i.size, i.bytes)) = some (some (.int .u8 0), 1, 1) := by kernel_rfl
theorem Tryz.appLit (vo : Option Addr) (n c : Nat) (u : Value) (W : World) : (Builtin.append_ #[27, 113] 27 #[.slice vo n c, u]).run Tryz.prog W = (Builtin.append_ #[27, 27] 27 #[.slice vo n c, u]).run Tryz.prog W := by
 have h1 : ∀ W, (underlying 113).run Tryz.prog W = .ok (.slice 5) W := fun W => by kernel_rfl
 have h2 : ∀ W, (underlying 27).run Tryz.prog W = .ok (.slice 5) W := fun W => by kernel_rfl
 have h3 : ∀ W, (sizeOf 5).run Tryz.prog W = .ok 1 W := fun W => by kernel_rfl
 unfold Builtin.append_
 simp only [List.getElem?_toArray, List.getElem?_cons_zero, List.getElem?_cons_succ, Sem.run_bind, Sem.run_pure, h1, h2, h3, Result.andThen_ok]
theorem app9 {w : World} {base : Nat} {v : Value} {n : Nat} {xs : List UInt8} (h : w.ownsRow base 5 1 v n (bys xs)) (hb : base <= w.heap.size) (so : Option Addr) (m c : Nat) (ys : List UInt8) (hm : ys.length = m) (hne : ys ≠ []) (hs : Sl w so ys) (hl : n + m <= 1000000) :
  ∃ v' w', (Builtin.append_ #[27, 27] 27 #[v, .slice so m c]).run Tryz.prog w = .ok v' w' ∧ w'.ownsRow base 5 1 v' (n + m) (bys (xs ++ ys)) ∧ Kept v.ownBlock.toList w w' := by
 obtain ⟨i0, hi, hz0, hz1, hz2⟩ := info_parts Tryz.infoByte9
 obtain ⟨g, off, rfl, hg, hc⟩ := hs.open hne
 obtain ⟨v', w', hrun, h4, h5, _, _⟩ := run_append_own_at (P := Tryz.prog) w base 27 27 5 i0 (.int .u8 0) 1 1 Tryz.underlying27 hi hz0 hz1 hz2 rfl (by decide) v _ _ h ⟨g, off, none⟩ m c (bys ys) (by rw [bys_length, hm, Nat.mul_one]) (fun j u hv => by
   obtain ⟨hj, rfl⟩ := bys_get hv
   rw [Addr.add_mid]; exact hc j hj) (bys_oneCell ys) (by unfold maxLen; omega) (by omega) hb
 exact ⟨v', w', hrun, by rw [bys_append]; exact h4, (Kept.refl _ w).grown h5 (fun g hg _ => by rw [hg]; simp)⟩
theorem run_makeB9 (w : World) (c : Nat) (h : c <= 1000000) : (Instr.makeSlice 27 (.int .i64 0) (.int .i64 c)).run Tryz.prog w = .ok (.slice (some ⟨w.heap.size, 0, none⟩) 0 c) (w.alloc (.cells (madeCells (Value.int .u8 0).cells (c * 1)) 5)) := by
 obtain ⟨i0, hi, hz0, hz1, hz2⟩ := info_parts Tryz.infoByte9
 have hmk := run_make (P := Tryz.prog) w 27 5 i0 (.int .u8 0) Tryz.underlying27 hi hz0 .i64 .i64 0 c (by omega) (by omega) (by rw [hz2]; omega) (by omega)
 rw [hz1] at hmk
 simpa using hmk
end

section
open Dlt
theorem wpList_appendRunL {ops : Array Oper} {rest : List Oper} {o : Oper} {a : Act} {w : World} {Q : Exit -> Act -> World -> Prop} (hgd : o.guard = none) (d s : Operand) (t t' : TypeId)
  (ho : o.op = .call { callee := .builtin .append, args := #[d, s], argTypes := #[t, t'] }) (v u : Value) (hd : a.eval d = v) (hs : a.eval s = u) {v' : Value} {w' : World}
  (hr : (Builtin.append_ #[t, t'] o.type #[v, u]).run Tryz.prog w = .ok v' w') (h : wpList Tryz.prog ops Q rest (a.put o.dst v') w') : wpList Tryz.prog ops Q (o :: rest) a w :=
 wpList_plain hgd fun _ hK => by
  unfold Oper.wp execOp
  simp only [ho, resolve, invoke, builtin, Sem.run_bind, Sem.run_pure, Result.andThen_ok, List.map_toArray, List.map_cons, List.map_nil, hd, hs, hr]
  exact hK _ _ h
theorem total_take (z : Nat) (L : List Stp) (k : Nat) : total z (L.take k) <= total z L := by
 conv => rhs; rw [<-List.take_append_drop k L]
 simp only [total, List.map_append, List.sum_append]
 omega
theorem take_snoc9 {L : List Stp} {k : Nat} {s : Stp} (h : L[k]? = some s) : L.take (k + 1) = L.take k ++ [s] := by
 obtain ⟨hk, rfl⟩ := List.getElem?_eq_some_iff.1 h
 exact List.take_succ_eq_append_getElem hk
theorem doIs_len {z : Nat} {b : List UInt8} : ∀ {L : List Stp}, (∀ s, s ∈ L -> okI (b.length / z) s) -> (doIs z b L).length = total z L
 | [], _ => rfl
 | s :: L, h => by
  have h1 := doI_len (h s (List.mem_cons_self ..))
  have h2 := doIs_len (fun t ht => h t (List.mem_cons_of_mem _ ht))
  show (doI z b s ++ doIs z b L).length = _
  rw [List.length_append, h1, h2]
  simp [total]
theorem do_ok (W : Int) (Z T : Nat) (bk tk : Wk) (lo : Option Addr) (n lc : Nat) (L : List Stp) (bo : Option Addr) (bn bc : Nat) (bs : List UInt8) (w : World) (hL : L.length = n) (hn : n <= 1000000) (hT : tk.sum = (T : Int)) (hT2 : T <= 1000000) (hZ1 : 1 <= Z)
  (hel : ∀ i, i < n -> ∃ g off u s, lo = some ⟨g, off, none⟩ ∧ w.cell? ⟨g, off + i, none⟩ = some u ∧ L[i]? = some s ∧ StpV w s u) (hok : ∀ s, s ∈ L -> okI (bn / Z) s) (htot : total Z L <= 1000000) (hbl : bs.length = bn) (hbc : bn <= bc) (hbm : bn <= 1000000) (hbs : Sl w bo bs) :
  Calls Tryz.prog 50 #[.agg (ordC W Z bk tk (.slice lo n lc)).toArray, .slice bo bn bc] w fun e w' => (∃ ao' cap', e = .returned (.slice ao' (total Z L) cap') ∧ w'.ownsRow w.heap.size 5 1 (.slice ao' (total Z L) cap') (total Z L) (bys (doIs Z bs L))) ∧ Kept [] w w' := by
 have hA := OrdAt.new w W Z bk tk (.slice lo n lc)
 have hK := ka w (.cells (ordC W Z bk tk (.slice lo n lc)).toArray 74)
 have cT := hA.c (ordC_t (j := 0) tk.su)
 have cV := hA.c (ordC_v W Z bk tk (.slice lo n lc))
 rw [hT] at cT
 have hG1 : (w.alloc (.cells (ordC W Z bk tk (.slice lo n lc)).toArray 74)).heap.size = w.heap.size + 1 := by simp
 have HIN := hide (ai hL (ai hel (ai hok (ai htot (ai hbl (ai hbc hbs))))))
 have HA := hide hA
 clear hL hel hok htot hbl hbc hbs hA
 obtain ⟨G, hG⟩ := nm (w.heap.size)
 rw [hG] at cT cV HA hG1
 have HG := hide hG
 go_enter Tryz.func50, Tryz.ntmps50
 go_upto_region 1 with (fail)
 clear hG
 generalize w.alloc (.cells (ordC W Z bk tk (.slice lo n lc)).toArray 74) = w1 at *
 have hmk := run_makeB9 w1 T hT2
 rw [hG1] at hmk
 go_upto_region 2 with (fail)
 have hk2 := ka w1 (.cells (madeCells #[.int .u8 0] T) 5)
 have HOW : Hid ((w1.alloc (.cells (madeCells #[.int .u8 0] T) 5)).ownsRow w1.heap.size 5 1 (.slice (some ⟨G + 1, 0, none⟩) 0 T) 0 (bys [])) := by
  refine ⟨rfl, .inr ⟨G + 1, T, madeCells #[.int .u8 0] T, rfl, by omega, by rw [<-hG1]; exact heap_new w1 _, by omega, by unfold maxLen; omega, by simp [size_madeCells], by simp [bys]⟩⟩
 have cV2 := hk2.cellOf cV (by simp)
 have HA2 := hide (HA.out.kept hk2 (by simp))
 have HK2 := hide hk2
 clear hmk cT cV hk2
 generalize w1.alloc (.cells (madeCells #[.int .u8 0] T) 5) = w2 at *
 have HB1 : Hid (w1.heap.size = G + 1) := hG1
 clear hG1
 go_wp2
 go_loopw [5, 18] (fun x y wr => ∃ (k : Nat) (mo : Option Addr) (m mc : Nat), k <= n ∧ x = .slice mo m mc ∧ y = .int .i64 k ∧ m <= 1000000 ∧ Hid (wr.ownsRow w1.heap.size 5 1 (.slice mo m mc) m (bys (doIs Z bs (L.take k))) ∧ m = total Z (L.take k) ∧ Kept [] w1 wr)) (fun x y wr => n - (intOf y).toNat)
 case atStart => exact ⟨0, some ⟨G + 1, 0, none⟩, 0, T, Nat.zero_le _, rfl, rfl, by omega, HOW.out, rfl, HK2.out⟩
 case round =>
  clear HOW HA2 HK2 cV2
  obtain ⟨k, mo, m, mc, hk, rfl, rfl, hm, HS⟩ := hrel
  by_cases hlt : k < n
  ·obtain ⟨g, off, u, st, rfl, hcell, hsi, hsv⟩ := HIN.out.2.1 k hlt
   have hcr := (hK.tr HS.out.2.2).cellOf hcell (by simp)
   have hoki := HIN.out.2.2.1 st (List.mem_of_getElem? hsi)
   have HTS := hide (take_snoc9 hsi)
   have HSV := hide (hsv.kept (hK.tr HS.out.2.2))
   have htt := total_take Z L (k + 1)
   rw [HTS.out, total_snoc, <-HS.out.2.1] at htt
   have HT3 := hide (Nat.le_trans htt HIN.out.2.2.2.1)
   have hcZ := (HA.out.kept HS.out.2.2 (by simp)).c (j := 1) (u := .int .i64 Z) rfl
   clear hcell hsi hsv htt
   cases st with
   | copy f c =>
    obtain rfl : u = .iface 116 (.agg #[.int .i64 (f : Nat), .int .i64 (c : Nat)]) := HSV.out
    obtain ⟨hc1, hfc⟩ := hoki
    have hmx : (f + c) * Z <= bn := Nat.le_trans (Nat.mul_le_mul_right Z hfc) (Nat.div_mul_le_self _ _)
    rw [Nat.add_mul] at hmx
    have hM1 : 1 <= c * Z := by have : 1 * 1 <= c * Z := Nat.mul_le_mul hc1 hZ1; omega
    have hrl := fun X => runLength_ok f c Z X (by omega)
    have hlen : Stp.len Z (.copy f c) = c * Z := rfl
    have hdo : doI Z bs (.copy f c) = (bs.drop (f * Z)).take (c * Z) := rfl
    have hT3 := HT3.out
    rw [hlen] at hT3
    have hta := Tryz.isRun (.agg #[.int .i64 (f : Nat), .int .i64 (c : Nat)])
    have hzr := Tryz.zeroRun
    have HDO := hide (ai hdo hlen)
    have hmul0 : IntKind.i64.wrap ((f : Int) * (Z : Int)) = ((f * Z : Nat) : Int) := by
     have e : ((f : Int) * (Z : Int)) = ((f * Z : Nat) : Int) := by simp
     rw [e]
     generalize f * Z = A at hmx
     simp [IntKind.wrap, IntKind.bits, IntKind.signed]; omega
    clear hdo hlen
    obtain ⟨A, hA⟩ := nm (f * Z)
    obtain ⟨M, hM⟩ := nm (c * Z)
    rw [hA] at hmx hmul0 HDO
    rw [hM] at hmx hM1 hrl hT3 HDO
    clear hA hM hc1 hfc
    have hadd : IntKind.i64.wrap ((A : Int) + (M : Int)) = ((A + M : Nat) : Int) := by simp [IntKind.wrap, IntKind.bits, IntKind.signed]; omega
    obtain ⟨b, o, rfl, _⟩ := HIN.out.2.2.2.2.2.2 0 (by rw [HIN.out.2.2.2.2.1]; omega)
    have hcut := fun X => cut2 X b o bn bc A (A + M) M (by omega) (by omega) HIN.out.2.2.2.2.2.1 rfl (by have := HIN.out.2.2.2.2.2.1; omega)
    have HRL := hide hrl
    have hwat : ((bs.drop A).take M) = wat bs M A := rfl
    have HRK := hide (fun X (h : Kept [] wr X) => app9 (own_same HS.out.1 (fun g hg => h.block g (own_blk HS.out.1 hg).2.1 (by simp))) (Nat.le_trans HS.out.2.2.size h.size) (some ⟨b, o + A, none⟩) M (bc - A) (wat bs M A) (wat_length8 _ _ _ (by rw [HIN.out.2.2.2.2.1]; omega)) (fun e => by have := wat_length8 bs M A (by rw [HIN.out.2.2.2.2.1]; omega); rw [e] at this; simp at this; omega) ((HIN.out.2.2.2.2.2.2.kept ((hK.tr HS.out.2.2).tr h) (by simp)).wat8 M A (by rw [HIN.out.2.2.2.2.1]; omega)) hT3)
    obtain ⟨S, hS⟩ := nm (A + M)
    rw [hS] at hadd hcut
    clear hS hrl
    have hkr := ka wr (.cells #[.int .i64 f, .int .i64 c] 116)
    have HKR := hide hkr
    have hcZ3 := hkr.cellOf hcZ (by simp)
    clear hkr
    go_upto_region 9 with (fail)
    go_wp2_with (first
     | (go_at_call 70; refine (HRL.out _).mono ?_; rintro e w5 ⟨rfl, hk5⟩; obtain ⟨v', w6, hap, hown, hk6⟩ := HRK.out w5 (HKR.out.tr hk5); obtain ⟨ao4, cap4, rfl, _⟩ := own_shape hown; have H6 := hide (ai hown (ai hk6 hk5)); clear hown hk6 hk5)
     | refine wpList_appendRunL rfl _ _ 27 27 rfl _ _ rfl rfl hap ?_)
    have HN : Hid (w6.ownsRow w1.heap.size 5 1 (.slice ao4 (m + M) cap4) (m + M) (bys (doIs Z bs (L.take (k + 1)))) ∧ m + M = total Z (L.take (k + 1)) ∧ Kept [] w1 w6) := by
     refine ⟨?_, ?_, ((HS.out.2.2.tr HKR.out).tr H6.out.2.2).trans H6.out.2.1 (fun i hi hl => ?_)⟩
     ·rw [HTS.out, doIs_snoc, HDO.out.1, hwat]; exact H6.out.1
     ·rw [HTS.out, total_snoc, <-HS.out.2.1, HDO.out.2]
     ·have := (own_blk HS.out.1 (g := i) (by simpa using hi)).1
      omega
    clear hap
    go_roundw
    case rel => exact ⟨k + 1, ao4, m + M, cap4, by omega, rfl, by go_num, hT3, HN.out⟩
    case measure => simp [intOf]; omega
   | lit ys =>
    obtain ⟨so, sn, sc, rfl, hsn, hsc, hsl⟩ := HSV.out
    obtain ⟨v', w4, hap, hown, hk4⟩ := app9 HS.out.1 HS.out.2.2.size so sn sc ys hsn hoki.1 hsl (by have h1 := HT3.out; have h2 : Stp.len Z (.lit ys) = ys.length := rfl; omega)
    obtain ⟨ao4, cap4, rfl, _⟩ := own_shape hown
    have hta := Tryz.notRun (.slice so sn sc)
    have htb := Tryz.isLit (.slice so sn sc)
    rw [<-Tryz.appLit] at hap
    have HN : Hid (w4.ownsRow w1.heap.size 5 1 (.slice ao4 (m + sn) cap4) (m + sn) (bys (doIs Z bs (L.take (k + 1)))) ∧ m + sn = total Z (L.take (k + 1)) ∧ Kept [] w1 w4) := by
     refine ⟨?_, ?_, HS.out.2.2.trans hk4 (fun i hi hl => ?_)⟩
     ·rw [HTS.out, doIs_snoc]; exact hown
     ·rw [HTS.out, total_snoc, <-HS.out.2.1, <-hsn]; rfl
     ·have := (own_blk HS.out.1 (g := i) (by simpa using hi)).1
      omega
    have hm4 : m + sn <= 1000000 := by have h1 := HT3.out; have h2 : Stp.len Z (.lit ys) = ys.length := rfl; omega
    clear hown hk4 hsl
    go_wp2_with (refine wpList_appendRunL rfl _ _ 27 113 rfl _ _ rfl rfl hap ?_)
    go_roundw
    case rel => exact ⟨k + 1, ao4, m + sn, cap4, by omega, rfl, by go_num, hm4, HN.out⟩
    case measure => simp [intOf]; omega
  ·obtain rfl : k = n := by omega
   have hS := HS.out
   rw [List.take_of_length_le (by rw [HIN.out.1]; exact Nat.le_refl _)] at hS
   obtain ⟨h1, rfl, h3⟩ := hS
   have HF := hide (ai h1 h3)
   clear h1 h3 HS
   go_wp2
   go_ret
   exact ⟨⟨mo, mc, rfl, own_base HF.out.1 hK.size⟩, hK.tr HF.out.2⟩
end

section
open Dlt
namespace Dlt
end Dlt
end

end Go.Proofs.YtmklodligplbaabGreat
