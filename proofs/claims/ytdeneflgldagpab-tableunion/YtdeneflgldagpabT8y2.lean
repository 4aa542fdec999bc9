/-
  The walk: freightlaw8.TableUnion: conflicts. (Written by tools/t8y.py.)
-/
import Derived.Test.YtdeneflgldagpabT8yc
namespace Go.Proofs.Ytdeneflgldagpab
open Go.RowKit Go.Sort
set_option linter.unusedVariables false
set_option linter.unusedSimpArgs false

set_option maxHeartbeats 25600000 in
set_option maxRecDepth 100000 in
theorem union_unlike (ao : Option Addr) (n cap : Nat) (ao2 : Option Addr) (n2 cap2 : Nat) (L L2 : List Res) (w : World) (hi : InR w ao n cap L) (hi2 : InR w ao2 n2 cap2 L2) (hV : Tb.valid L = true) (hV2 : Tb.valid L2 = true) (hUx : Tb.unl L L2 ≠ []) :
    Calls Try.prog 5 #[.slice ao n cap, .slice ao2 n2 cap2] w fun e w' => e = .returned (.bool true) ∧ Below w.heap.size w w' := by
  have HUX := hide hUx
  clear hUx
  have hcm := hi.max
  have hle := hi.le
  have hcm2 := hi2.max
  have hle2 := hi2.le
  have h32 : n ≤ 32 := by have := Tb.valid_len hV; rw [hi.len] at this; exact this
  have h322 : n2 ≤ 32 := by have := Tb.valid_len hV2; rw [hi2.len] at this; exact this
  have HI := hide hi
  have HI2 := hide hi2
  have HJ : Hid (∀ p W, Kept [] w W → Calls Try.prog 16 #[.slice ao n cap, .slice ao2 n2 cap2, .int .i64 p] W fun r w' => ToldJ W w' r (Tb.join L L2 p)) := fun p W hk =>
    join_ok ao ao2 n cap n2 cap2 L L2 p W (by omega) (by omega) hi.len hi2.len ⟨hi.ress.kept hk (by simp), wao3 ao, fun h => (hi.nil h).2⟩ ⟨hi2.ress.kept hk (by simp), wao3 ao2, fun h => (hi2.nil h).2⟩ hle hle2 (by omega) (by omega)
  have HV := hide hV
  have HV2 := hide hV2
  obtain ⟨S1, hS1⟩ : ∃ S, Tb.jk L L2 = S := ⟨_, rfl⟩
  obtain ⟨S2, hS2⟩ : ∃ S, Tb.jt L L2 = S := ⟨_, rfl⟩
  obtain ⟨S3, hS3⟩ : ∃ S, Tb.jf L L2 = S := ⟨_, rfl⟩
  have h1 := HJ.out 1 w (Kept.refl _ _)
  rw [Tb.join_keep hV hV2, hS1] at h1
  have HS1 := hide hS1
  have HS2 := hide hS2
  have HS3 := hide hS3
  clear hi hi2 hcm hle hcm2 hle2 hV hV2 hS1 hS2 hS3
  go_enter Try.func5, Try.ntmps5
  go_upto_region 2 with (go_at_call 16; refine h1.mono ?_; intro r w1 ht; obtain ⟨bo1, m1, c1, co1, q1, d1, rfl, hj, hk⟩ := told_jd ht; have J1 := hide hj; have K1 := hide hk; clear ht hj hk h1)
  have h1 := HJ.out 2 w1 K1.out
  rw [Tb.join_take HV.out HV2.out, HS2.out] at h1
  go_upto_region 3 with (go_at_call 16; refine h1.mono ?_; intro r w2 ht; obtain ⟨bo2, m2, c2, co2, q2, d2, rfl, hj, hk⟩ := told_jd ht; have J2 := hide hj; have K2 := hide hk; clear ht hj hk h1)
  have h1 := HJ.out 3 w2 (K1.out.trans K2.out (by simp))
  rw [Tb.join_fail HV.out HV2.out, HS3.out] at h1
  go_upto_region 4 with (go_at_call 16; refine h1.mono ?_; intro r w3 ht; obtain ⟨bo3, m3, c3, co3, q3, d3, rfl, hj, hk⟩ := told_jd ht; have J3 := hide hj; have K3 := hide hk; clear ht hj hk h1)
  have hft := fits_ok ao n cap L w3 HI.out.len (HI.out.ress.kept ((K1.out.trans K2.out (by simp)).trans K3.out (by simp)) (by simp)) (by omega)
  rw [HV.out] at hft
  go_upto_region 6 with (first
    | (have z := hft; go_at_call 11; refine hft.mono ?_; rintro r w4 ⟨rfl, hk⟩; have K4 := hide hk; clear hk hft z; have hfu := fits_ok ao2 n2 cap2 L2 w4 HI2.out.len (HI2.out.ress.kept (((K1.out.trans K2.out (by simp)).trans K3.out (by simp)).trans K4.out (by simp)) (by simp)) (by omega); rw [HV2.out] at hfu)
    | (go_at_call 11; refine hfu.mono ?_; rintro r w5 ⟨rfl, hk⟩; have K5 := hide hk; clear hk hfu))
  have KB : Hid (Kept [] w w5) := (((K1.out.trans K2.out (by simp)).trans K3.out (by simp)).trans K4.out (by simp)).trans K5.out (by simp)
  replace J1 : Hid (Jd w5 S1 bo1 m1 c1 co1 q1 d1) := (((J1.out.kept K2.out).kept K3.out).kept K4.out).kept K5.out
  replace J2 : Hid (Jd w5 S2 bo2 m2 c2 co2 q2 d2) := ((J2.out.kept K3.out).kept K4.out).kept K5.out
  replace J3 : Hid (Jd w5 S3 bo3 m3 c3 co3 q3 d3) := (J3.out.kept K4.out).kept K5.out
  have LA : Hid (Ress w5 ao L) := HI.out.ress.kept KB.out (by simp)
  have LB : Hid (Ress w5 ao2 L2) := HI2.out.ress.kept KB.out (by simp)
  have HN := hide HI.out.len
  have HN2 := hide HI2.out.len
  clear K1 K2 K3 K4 K5 HI HI2 HJ
  clear w1 w2 w3 w4
  have hz := Try.zeroRes
  go_wp2
  go_loopw [14, 15, 16] (fun x y z wr => ∃ (k nn : Nat), k ≤ n2 ∧ nn ≤ 64 ∧ z = .int .i64 k ∧ y = .int .i64 nn ∧ Hid (nn = n + Tb.cnt L (L2.take k)) ∧ Hid (OwnI wr w5.heap.size x (Tb.unl L (L2.take k))) ∧ Hid (Below w5.heap.size w5 wr)) (fun x y z wr => n2 - (intOf z).toNat)
  case atStart => exact ⟨0, n, Nat.zero_le _, by omega, rfl, rfl, by show _ = _; rfl, ⟨World.ownsRow_nil _ _ _ _, by simp [Tb.unl]⟩, Below.refl _ _⟩
  case round =>
    obtain ⟨k, nn, hk, hnn, rfl, rfl, HC, HO, HB⟩ := hrel
    by_cases hlt : k < n2
    · have hkN : k < n2 := hlt
      have hkl : k < L2.length := by rw [HN2.out]; exact hlt
      obtain ⟨b2, o2, rfl, hry⟩ := (LB.out.kept (Kept.of_below HB.out) (by simp)) k hkl
      have HT : Hid (L2.take (k + 1) = L2.take k ++ [L2.getD k res0]) := Tb.take_getD L2 k hkl
      have HUL : Hid ((Tb.unl L (L2.take k)).length ≤ 32) := by
        have h3 := (Tb.unl_len L (L2.take k)).1
        rw [List.length_take] at h3
        show _ ≤ _
        omega
      have HYw := hide hry
      generalize L2.getD k res0 = y at hry HT HYw
      have hsn := Tb.unl_snoc L (L2.take k) y
      rw [← HT.out] at hsn
      have HSN := hide hsn
      obtain ⟨A, hA⟩ : ∃ A, y.action = A := ⟨_, rfl⟩
      have hAl : A.length = 32 := by rw [← hA]; exact y.ha
      have iA : (Try.prog.info? 34).map (·.size) = some (bys A).length := by rw [bys_length, hAl]; kernel_rfl
      have iy : (Try.prog.info? 36).map (·.size) = some y.cells.length := by rw [y.len]; exact Try.infoResS
      have rA : wr.rangeAt b2 (o2 + k * 65) (bys A) := by have := res_act_rangeU hry; rwa [hA] at this
      have hof := of_ok ao n cap L A wr HN.out (LA.out.kept (Kept.of_below HB.out) (by simp)) hAl (by omega)
      have HF : Hid (y.action = A) := hA
      clear hry hsn hA
      rcases hfd : Tb.find L A with _ | x
      · rw [hfd] at hof
        simp only [Option.getD_none, Option.isSome_none] at hof
        have hu : Hid (Tb.unl L [y] = [] ∧ Tb.cnt L [y] = 1) := by
          constructor
          · simp only [Tb.unl, HF.out, hfd]
          · simp [Tb.cnt, HF.out, hfd]
        clear hfd
        have i0a : (Try.prog.info? 36).map (·.size) = some res0.cells.toArray.size := by rw [res_size]; exact Try.infoResS
        go_upto_region 12 with (first
          | refine wpList_load_mid rfl 34 (.tmp 105) rfl b2 (o2 + k * 65) rfl (bys A) _ rA Try.underlying34 rfl iA ?_
          | (go_at_call 14; refine hof.mono ?_; rintro r w6 ⟨rfl, hk6⟩; have KC := hide hk6; clear hk6 hof)
          | refine wpList_store_rowTo rfl 36 (.tmp 17) (.tmp 108) rfl rfl w6.heap.size res0.cells.toArray rfl rfl 36 zeroR (new_zero w6) i0a (zero_size res0) (res_all res0) ?_)
        have eW : (w6.alloc (.cells zeroR 36)).setRow w6.heap.size res0.cells.toArray = withRes w6 res0 := rfl
        rw [eW]
        have K7 : Hid (Kept [] wr (withRes w6 res0)) := KC.out.trans (Kept.of_below (withRes_below w6 res0)) (by simp)
        generalize withRes w6 res0 = w7 at K7 ⊢
        clear eW KC rA
        go_wp2
        go_roundw
        case rel => exact ⟨k + 1, nn + 1, by omega, by have h1 := HC.out; have h3 := (Tb.unl_len L (L2.take k)).2; rw [List.length_take] at h3; omega, by go_num, by go_num, by show _ = _; rw [HSN.out.2, hu.out.2]; have := HC.out; omega, by show OwnI _ _ _ _; rw [HSN.out.1, hu.out.1, List.append_nil]; exact HO.out.kept K7.out (by simp), HB.out.trans (K7.out.below HB.out.size (by simp))⟩
        case measure => simp [intOf]; omega
      · rw [hfd] at hof
        simp only [Option.getD_some, Option.isSome_some] at hof
        have hxa : x.action = A := by have := List.find?_some hfd; simpa using this
        have HXA := hide hxa
        have HFD := hide hfd
        clear hfd hxa
        have ix : (Try.prog.info? 36).map (·.size) = some x.cells.length := by rw [x.len]; exact Try.infoResS
        have ixa : (Try.prog.info? 36).map (·.size) = some x.cells.toArray.size := by rw [res_size]; exact Try.infoResS
        go_upto_region 12 with (first
          | refine wpList_load_mid rfl 34 (.tmp 105) rfl b2 (o2 + k * 65) rfl (bys A) _ rA Try.underlying34 rfl iA ?_
          | (go_at_call 14; refine hof.mono ?_; rintro r w6 ⟨rfl, hk6⟩; have KC := hide hk6; clear hk6 hof)
          | refine wpList_store_rowTo rfl 36 (.tmp 17) (.tmp 108) rfl rfl w6.heap.size x.cells.toArray rfl rfl 36 zeroR (new_zero w6) ixa (zero_size x) (res_all x) ?_)
        have eW : (w6.alloc (.cells zeroR 36)).setRow w6.heap.size x.cells.toArray = withRes w6 x := rfl
        rw [eW]
        have K7 : Hid (Kept [] wr (withRes w6 x)) := KC.out.trans (Kept.of_below (withRes_below w6 x)) (by simp)
        have T7 := hide (res_range (withRes_row w6 x))
        obtain ⟨v, hv⟩ : ∃ v, w6.heap.size = v := ⟨_, rfl⟩
        rw [hv] at T7 ⊢
        clear eW hv KC rA
        generalize withRes w6 x = w7 at K7 T7 ⊢
        clear w6
        obtain ⟨w6, hw6⟩ : ∃ V, V = w7 := ⟨_, rfl⟩
        subst hw6
        have rv := T7.out
        have ry : w6.rangeAt b2 (o2 + k * 65) y.cells := fun q v hv => K7.out.cellOf (HYw.out q v hv) (by simp)
        have heq := Try.eqlRes x y
        obtain ⟨D, hD⟩ : ∃ D, decide (x = y) = D := ⟨_, rfl⟩
        simp only [hD] at heq
        have HD := hide hD
        clear hD
        go_upto_region 14 with (fail)
        refine wp_region_held_drew (S := fun w' => Kept [] w6 w') (by kernel_rfl) ((Kept.refl [] w6).drew) (fun h0 => ?_)
        generalize World.drew w6 = v0 at h0 ⊢
        refine wpAnyH_take (i := 0) rfl (by kernel_rfl) (by kernel_rfl) (by kernel_rfl) (fun _ _ _ h => h) (yieldsIf_load_mid (by rfl) _ _ rfl _ _ rfl _ _ (fun w h j v hv => Kept.cellOf h (rv j v hv) (by simp)) Try.underlying36 rfl ix) h0 ?_
        try simp only [List.getElem_toArray, List.getElem_cons_zero, List.getElem_cons_succ, Act.put, List.setIfInBounds_toArray, List.set_cons_zero, List.set_cons_succ]
        refine wpAnyH_take (i := 1) (v := .slice (some ⟨b2, o2, none⟩) n2 cap2) rfl (by kernel_rfl) (by kernel_rfl) (by kernel_rfl) (fun _ _ _ h => h) (Or.inl ⟨by rfl, fun w hSw => by go_simp⟩) h0 ?_
        try simp only [List.getElem_toArray, List.getElem_cons_zero, List.getElem_cons_succ, Act.put, List.setIfInBounds_toArray, List.set_cons_zero, List.set_cons_succ]
        refine wpAnyH_take (i := 2) (v := .int .i64 k) rfl (by kernel_rfl) (by kernel_rfl) (by kernel_rfl) (fun _ _ _ h => h) (Or.inl ⟨by rfl, fun w hSw => by go_simp⟩) h0 ?_
        try simp only [List.getElem_toArray, List.getElem_cons_zero, List.getElem_cons_succ, Act.put, List.setIfInBounds_toArray, List.set_cons_zero, List.set_cons_succ]
        refine wpAnyH_take (i := 3) (v := .pointer (some ⟨b2, o2 + k * 65, none⟩)) rfl (by kernel_rfl) (by kernel_rfl) (by kernel_rfl) (fun _ _ _ h => h) (Or.inl ⟨by rfl, fun w hSw => by have c0 := hkN; go_simp⟩) h0 ?_
        try simp only [List.getElem_toArray, List.getElem_cons_zero, List.getElem_cons_succ, Act.put, List.setIfInBounds_toArray, List.set_cons_zero, List.set_cons_succ]
        refine wpAnyH_take (i := 4) rfl (by kernel_rfl) (by kernel_rfl) (by kernel_rfl) (fun _ _ _ h => h) (yieldsIf_load_mid (by rfl) _ _ rfl _ _ rfl _ _ (fun w h j v hv => Kept.cellOf h (ry j v hv) (by simp)) Try.underlying36 rfl iy) h0 ?_
        try simp only [List.getElem_toArray, List.getElem_cons_zero, List.getElem_cons_succ, Act.put, List.setIfInBounds_toArray, List.set_cons_zero, List.set_cons_succ]
        refine wpAnyH_take (i := 5) (v := .bool (!D)) rfl (by kernel_rfl) (by kernel_rfl) (by kernel_rfl) (fun _ _ _ h => h) (Or.inl ⟨by rfl, fun w hSw => by have c := heq w; go_simp⟩) h0 ?_
        try simp only [List.getElem_toArray, List.getElem_cons_zero, List.getElem_cons_succ, Act.put, List.setIfInBounds_toArray, List.set_cons_zero, List.set_cons_succ]
        refine wpAnyH_done (by kernel_rfl) ?_ _
        have K8 : Hid (Kept [] wr v0) := K7.out.trans h0 (by simp)
        have T8 : Hid (v0.rangeAt v 0 x.cells) := fun q u hu => h0.cellOf (T7.out q u hu) (by simp)
        clear h0 rv ry heq K7 T7
        obtain ⟨w8, hw8⟩ : ∃ V, V = v0 := ⟨_, rfl⟩
        subst hw8
        have O8 : Hid (OwnI w8 w5.heap.size u14 (Tb.unl L (L2.take k)) ∧ Below w5.heap.size w5 w8) := ⟨HO.out.kept K8.out (by simp), HB.out.trans (K8.out.below HB.out.size (by simp))⟩
        clear K8
        have hcn : Hid (Tb.cnt L [y] = 0) := by show _ = _; simp [Tb.cnt, HF.out, HFD.out]
        cases D with
        | true =>
          have hu : Hid (Tb.unl L [y] = []) := by show _ = _; simp [Tb.unl, HF.out, HFD.out, of_decide_eq_true HD.out]
          go_wp2
          go_roundw
          case rel => exact ⟨k + 1, nn, by omega, hnn, by go_num, rfl, by show _ = _; rw [HSN.out.2, hcn.out]; exact HC.out, by show OwnI _ _ _ _; rw [HSN.out.1, hu.out, List.append_nil]; exact O8.out.1, O8.out.2⟩
          case measure => simp [intOf]; omega
        | false =>
          have hu : Hid (Tb.unl L [y] = [A]) := by show _ = _; simp [Tb.unl, HF.out, HFD.out, of_decide_eq_false HD.out, HXA.out]
          obtain ⟨v1, w9, hrun1, ho9, hb9⟩ := run_app1I O8.out.1 O8.out.2.size A hAl (by have := HUL.out; omega)
          have H9 : Hid (OwnI w9 w5.heap.size v1 (Tb.unl L (L2.take (k + 1))) ∧ Below w5.heap.size w5 w9) := ⟨by rw [HSN.out.1, hu.out]; exact ho9, O8.out.2.trans hb9⟩
          clear ho9 hb9
          have rX : w8.rangeAt v 0 (bys A) := by have := res_act_rangeU T8.out; rwa [HXA.out] at this
          go_wp2_with (first
            | refine wpList_load_mid rfl 34 (.tmp 121) rfl v 0 rfl (bys A) _ rX Try.underlying34 rfl iA ?_
            | refine wpList_buildId rfl (.tmp 122) rfl A hAl rfl ?_
            | refine wpList_app_run rfl (.tmp 120) (.tmp 123) 42 42 rfl u14 (.slice (some ⟨w8.heap.size, 0, none⟩) 1 1) rfl rfl v1 w9 hrun1 ?_)
          go_roundw
          case rel => exact ⟨k + 1, nn, by omega, hnn, by go_num, rfl, by show _ = _; rw [HSN.out.2, hcn.out]; exact HC.out, H9.out.1, H9.out.2⟩
          case measure => simp [intOf]; omega
    · have hkn : L2.take k = L2 := List.take_of_length_le (by rw [HN2.out]; omega)
      rw [hkn] at HC HO
      clear hkn
      obtain ⟨U, hU0⟩ : ∃ U, Tb.unl L L2 = U := ⟨_, rfl⟩
      rw [hU0] at HO
      have HU := hide hU0
      have HNN : Hid (Tb.big L L2 = nn) := by show _ = _; unfold Tb.big; rw [HN.out]; exact HC.out.symm
      obtain ⟨uo, ud, hu14, hUI, _⟩ := own_ids HO.out
      subst hu14
      have HUL : Hid (U.length ≤ 32) := by have h3 := (Tb.unl_len L L2).1; rw [HU.out, HN2.out] at h3; show _ ≤ _; omega
      have K6 : Hid (Kept [] w5 wr) := Kept.of_below HB.out
      have UI : Hid (Idss wr uo U ∧ ∀ i ∈ U, i.length = 32) := ⟨hUI, HO.out.2⟩
      obtain ⟨qU, hqU⟩ : ∃ qU, U.length = qU := ⟨_, rfl⟩
      rw [hqU] at HUL ⊢
      have HQU := hide hqU
      clear hU0 hUI HO HC HB hqU hk hz
      have hqu : qU ≤ 32 := HUL.out
      have hU : U ≠ [] := by have := HUX.out; rwa [HU.out] at this
      have e3 : S3 = ([], U, 150) := by rw [← HS3.out]; unfold Tb.jf; rw [HU.out, if_pos hU]
      rw [e3] at J3
      obtain rfl : m3 = 0 := J3.out.lm.symm
      have hq3 : qU = q3 := by rw [← J3.out.lq]; exact HQU.out.symm
      subst hq3
      have hq0 : (0 : Int) < (qU : Int) := by have := List.length_pos_iff.2 hU; rw [HQU.out] at this; omega
      have e33 : S3.2.2 = 150 := by rw [e3]
      rw [e33]
      clear e3 e33
      have hid := ids_yes co3 uo qU d3 ud U wr HQU.out UI.out.2 (by omega) (J3.out.kept K6.out).ids UI.out.1
      obtain ⟨e1, he1⟩ : ∃ e, S1.2.2 = e := ⟨_, rfl⟩
      rw [he1]
      go_upto_region 21 with (go_at_call 17; refine hid.mono ?_; rintro r w7 ⟨rfl, hk⟩; have K8 := hide hk; clear hk hid)
      have HEX : Hid (S1.2.2 = e1) := he1
      clear hq0 he1
      have KW7 : Hid (Kept [] w5 w7) := K6.out.trans K8.out (by simp)
      have UI7 : Hid (Idss w7 uo U) := UI.out.1.kept K8.out (by simp)
      clear K8
      by_cases hN : 32 < nn
      · have hNz : (32 : Int) < (nn : Int) := by omega
        have f1 : S1 = ([], [], 97) := by rw [← HS1.out]; unfold Tb.jk; rw [HNN.out, if_pos hN]
        have f2 : S2 = ([], [], 97) := by rw [← HS2.out]; unfold Tb.jt; rw [HNN.out, if_pos hN]
        rw [f1] at J1 HEX
        rw [f2] at J2
        obtain rfl : m1 = 0 := J1.out.lm.symm
        obtain rfl : q1 = 0 := J1.out.lq.symm
        obtain rfl : m2 = 0 := J2.out.lm.symm
        obtain rfl : q2 = 0 := J2.out.lq.symm
        obtain rfl : e1 = 97 := HEX.out.symm
        have f22 : S2.2.2 = 97 := by rw [f2]
        rw [f22]
        clear f1 f2 f22
        go_wp2_with (go_at_call 8; refine (awake_ok _).mono ?_; rintro r w9 ⟨rfl, hk⟩; have HD := hide hk; clear hk)
        go_ret
        exact ⟨rfl, ((KB.out.trans KW7.out (by simp)).trans HD.out (by simp)).below (Nat.le_refl _) (by simp)⟩
      · have hNz : ¬ (32 : Int) < (nn : Int) := by omega
        have f1 : S1 = (Tb.kep L L2, U, 0) := by rw [← HS1.out]; unfold Tb.jk; rw [HNN.out, if_neg hN, HU.out]
        have f2 : S2 = (Tb.tak L L2, U, 0) := by rw [← HS2.out]; unfold Tb.jt; rw [HNN.out, if_neg hN, HU.out]
        have HKV := hide (Tb.kep_valid HV.out HV2.out (by rw [HNN.out]; exact hN))
        have HKL := hide (Tb.kep_len HV.out HV2.out)
        rw [HNN.out] at HKL
        have HAT : Hid (∀ i, i < nn → _) := fun i (hi : i < nn) => Tb.uni_at HV.out HV2.out (i := i) (by rw [HNN.out]; exact hi)
        have HJS := hide (Tb.join_self HKV.out.1)
        have HJN := hide (Tb.join_none HKV.out.1)
        rw [f1] at J1 HEX
        rw [f2] at J2
        obtain rfl : e1 = 0 := HEX.out.symm
        have f22 : S2.2.2 = 0 := by rw [f2]
        rw [f22]
        clear f1 f2 f22
        generalize Tb.kep L L2 = KK at J1 HKV HKL HAT HJS HJN
        generalize Tb.tak L L2 = TT at J2 HKV HKL HAT
        have hm1 : nn = m1 := by rw [← J1.out.lm]; exact HKL.out.1.symm
        have hm2 : nn = m2 := by rw [← J2.out.lm]; exact HKL.out.2.symm
        have hq1 : qU = q1 := by rw [← J1.out.lq]; exact HQU.out.symm
        have hq2 : qU = q2 := by rw [← J2.out.lq]; exact HQU.out.symm
        subst hm1
        subst hm2
        subst hq1
        subst hq2
        have hnne : ((nn : Int) != (nn : Int)) = false := by simp
        have hid := ids_yes co1 uo qU d1 ud U w7 HQU.out UI.out.2 (by omega) (J1.out.kept KW7.out).ids UI7.out
        go_upto_region 25 with (first
          | (have z := hid; go_at_call 17; refine hid.mono ?_; rintro r w8 ⟨rfl, hk⟩; have G1 := hide hk; clear hk hid z; have hie := ids_yes co2 uo qU d2 ud U w8 HQU.out UI.out.2 (by omega) ((J2.out.kept KW7.out).kept G1.out).ids (UI7.out.kept G1.out (by simp)))
          | (go_at_call 17; refine hie.mono ?_; rintro r w9 ⟨rfl, hk⟩; have G2 := hide (G1.out.trans hk (by simp)); clear hk hie; have hft := fits_ok bo1 nn c1 KK w9 HKL.out.1 ((J1.out.kept KW7.out).kept G2.out).rs (by omega); rw [HKV.out.1] at hft)
          | (have z := hft; go_at_call 11; refine hft.mono ?_; rintro r w10 ⟨rfl, hk⟩; have G3 := hide (G2.out.trans hk (by simp)); clear hk hft z; have hfu := fits_ok bo2 nn c2 TT w10 HKL.out.2 ((J2.out.kept KW7.out).kept G3.out).rs (by omega); rw [HKV.out.2] at hfu)
          | (go_at_call 11; refine hfu.mono ?_; rintro r w11 ⟨rfl, hk⟩; have G4 := hide (G3.out.trans hk (by simp)); clear hk hfu))
        have KQ : Hid (Kept [] w5 w11) := KW7.out.trans G4.out (by simp)
        clear hnne G1 G2 G3 G4 KW7 UI7
        have hz := Try.zeroRes
        go_wp2
        go_loopw [19] (fun y wr => ∃ i : Nat, i ≤ nn ∧ y = .int .i64 i ∧ Hid (Kept [] w11 wr)) (fun y wr => nn - (intOf y).toNat)
        case atStart => exact ⟨0, Nat.zero_le _, rfl, Kept.refl _ _⟩
        case round =>
          obtain ⟨i, hi, rfl, HKW⟩ := hrel
          have KR : Hid (Kept [] w5 wr) := KQ.out.trans HKW.out (by simp)
          by_cases hlt : i < nn
          · have hiN : i < nn := hlt
            obtain ⟨bk, ok, rfl, hrk⟩ := (J1.out.kept KR.out).rs i (by show i < KK.length; rw [HKL.out.1]; exact hlt)
            obtain ⟨bt, ot, rfl, hrt⟩ := (J2.out.kept KR.out).rs i (by show i < TT.length; rw [HKL.out.2]; exact hlt)
            obtain ⟨x, y, hx, hy, hcs⟩ := HAT.out i hlt
            have hrk' : wr.rangeAt bk (ok + i * 65) x.cells := by rw [← hx]; exact hrk
            have hrt' : wr.rangeAt bt (ot + i * 65) y.cells := by rw [← hy]; exact hrt
            have HXk := hide hrk'
            have HYt := hide hrt'
            clear hrk hrt hrk' hrt' hx hy
            obtain ⟨E, hE⟩ : ∃ E, x.action = E := ⟨_, rfl⟩
            have hEl : E.length = 32 := by rw [← hE]; exact x.ha
            rw [hE] at hcs
            have iE : (Try.prog.info? 34).map (·.size) = some (bys E).length := by rw [bys_length, hEl]; kernel_rfl
            have ix : (Try.prog.info? 36).map (·.size) = some x.cells.length := by rw [x.len]; exact Try.infoResS
            have HRE : Hid (wr.rangeAt bk (ok + i * 65) (bys E)) := by have := res_act_rangeU HXk.out; rw [hE] at this; exact this
            have rE := HRE.out
            have heqx : ∀ W, (Op.equalIn 10000 36 (.agg x.cells.toArray) (.agg x.cells.toArray)).run Try.prog W = .ok true W := fun W => by rw [Try.eqlRes]; simp
            clear hE
            rcases hcs with ⟨a0, b0, hfa, hfb, e1, e2⟩ | ⟨hfa, hfb, e2⟩ | ⟨hfa, hfb, e2⟩
            · subst e1
              subst e2
              have iy : (Try.prog.info? 36).map (·.size) = some y.cells.length := by rw [y.len]; exact Try.infoResS
              have heqy : ∀ W, (Op.equalIn 10000 36 (.agg y.cells.toArray) (.agg y.cells.toArray)).run Try.prog W = .ok true W := fun W => by rw [Try.eqlRes]; simp
              have hof := of_ok ao n cap L E wr HN.out (LA.out.kept KR.out (by simp)) hEl (by omega)
              rw [hfa] at hof
              simp only [Option.getD_some, Option.isSome_some] at hof
              have iva : (Try.prog.info? 36).map (·.size) = some x.cells.toArray.size := by rw [res_size]; exact Try.infoResS
              have ivb : (Try.prog.info? 36).map (·.size) = some y.cells.toArray.size := by rw [res_size]; exact Try.infoResS
              go_upto_region 29 with (first
                | refine wpList_load_mid rfl 34 (.tmp 231) rfl bk (ok + i * 65) rfl (bys E) _ rE Try.underlying34 rfl iE ?_
                | (go_at_call 14; refine hof.mono ?_; rintro r w7 ⟨rfl, hk7⟩; have KC := hide hk7; clear hk7 hof)
                | refine wpList_store_rowTo rfl 36 (.tmp 20) (.tmp 234) rfl rfl w7.heap.size x.cells.toArray rfl rfl 36 zeroR (new_zero w7) iva (zero_size x) (res_all x) ?_)
              have eW : (w7.alloc (.cells zeroR 36)).setRow w7.heap.size x.cells.toArray = withRes w7 x := rfl
              rw [eW]
              have K8 : Hid (Kept [] wr (withRes w7 x)) := KC.out.trans (Kept.of_below (withRes_below w7 x)) (by simp)
              have P8 : Hid ((withRes w7 x).heap[w7.heap.size]? = some (.cells x.cells.toArray 36 (0, 0))) := withRes_row w7 x
              have PN : Hid (wr.heap.size ≤ w7.heap.size) := KC.out.size
              obtain ⟨p, hp⟩ : ∃ p, w7.heap.size = p := ⟨_, rfl⟩
              rw [hp] at P8 PN ⊢
              clear eW hp KC rE
              generalize withRes w7 x = w8 at K8 P8 ⊢
              clear w7
              have rE : w8.rangeAt bk (ok + i * 65) (bys E) := fun q v hv => K8.out.cellOf (HRE.out q v hv) (by simp)
              have hof := of_ok ao2 n2 cap2 L2 E w8 HN2.out (LB.out.kept (KR.out.trans K8.out (by simp)) (by simp)) hEl (by omega)
              rw [hfb] at hof
              simp only [Option.getD_some, Option.isSome_some] at hof
              clear hfa hfb
              go_upto_region 30 with (first
                | refine wpList_load_mid rfl 34 (.tmp 241) rfl bk (ok + i * 65) rfl (bys E) _ rE Try.underlying34 rfl iE ?_
                | (go_at_call 14; refine hof.mono ?_; rintro r w10 ⟨rfl, hk7⟩; have KC := hide hk7; clear hk7 hof)
                | refine wpList_store_rowTo rfl 36 (.tmp 22) (.tmp 244) rfl rfl w10.heap.size y.cells.toArray rfl rfl 36 zeroR (new_zero w10) ivb (zero_size y) (res_all y) ?_)
              have eW : (w10.alloc (.cells zeroR 36)).setRow w10.heap.size y.cells.toArray = withRes w10 y := rfl
              rw [eW]
              have KW2 : Kept [] w8 (withRes w10 y) := KC.out.trans (Kept.of_below (withRes_below w10 y)) (by simp)
              have K9 : Hid (Kept [] wr (withRes w10 y)) := K8.out.trans KW2 (by simp)
              have P9 : Hid ((withRes w10 y).heap[p]? = some (.cells x.cells.toArray 36 (0, 0))) := by show _ = _; rw [KW2.block p (Array.getElem?_eq_some_iff.1 P8.out).1 (by simp)]; exact P8.out
              have Q9 : Hid ((withRes w10 y).heap[w10.heap.size]? = some (.cells y.cells.toArray 36 (0, 0)) ∧ p ≠ w10.heap.size) := ⟨withRes_row w10 y, fun e => by have h1 := (Array.getElem?_eq_some_iff.1 P8.out).1; have h2 := KC.out.size; omega⟩
              have QN : Hid (wr.heap.size ≤ p ∧ wr.heap.size ≤ w10.heap.size) := ⟨PN.out, Nat.le_trans K8.out.size KC.out.size⟩
              obtain ⟨q, hq⟩ : ∃ q, w10.heap.size = q := ⟨_, rfl⟩
              rw [hq] at Q9 QN ⊢
              clear eW hq KC rE KW2 P8 K8
              generalize withRes w10 y = w11 at K9 P9 Q9 ⊢
              clear w8 w10
              go_upto_region 34 with (fail)
              have KX : Hid (Kept [] wr w11) := K9.out
              have ra0 := hide (res_range P9.out)
              have rb0 := hide (res_range Q9.out.1)
              obtain ⟨w9, hw9⟩ : ∃ V, V = w11 := ⟨_, rfl⟩
              subst hw9
              have ra := ra0.out
              have rb := rb0.out
              have rk : w9.rangeAt bk (ok + i * 65) x.cells := fun q v hv => KX.out.cellOf (HXk.out q v hv) (by simp)
              have rt : w9.rangeAt bt (ot + i * 65) y.cells := fun q v hv => KX.out.cellOf (HYt.out q v hv) (by simp)
              refine wp_region_held_drew (S := fun w' => Kept [] w9 w') (by kernel_rfl) ((Kept.refl [] w9).drew) (fun h0 => ?_)
              generalize World.drew w9 = v0 at h0 ⊢
              refine wpAnyH_take (i := 0) (v := .bool true) rfl (by kernel_rfl) (by kernel_rfl) (by kernel_rfl) (fun _ _ _ h => h) (Or.inl ⟨by rfl, fun w hSw => by go_simp⟩) h0 ?_
              try simp only [List.getElem_toArray, List.getElem_cons_zero, List.getElem_cons_succ, Act.put, List.setIfInBounds_toArray, List.set_cons_zero, List.set_cons_succ]
              refine wpAnyH_take (i := 1) (v := .bool false) rfl (by kernel_rfl) (by kernel_rfl) (by kernel_rfl) (fun _ _ _ h => h) (Or.inl ⟨by rfl, fun w hSw => by go_simp⟩) h0 ?_
              try simp only [List.getElem_toArray, List.getElem_cons_zero, List.getElem_cons_succ, Act.put, List.setIfInBounds_toArray, List.set_cons_zero, List.set_cons_succ]
              refine wpAnyH_take (i := 2) (v := .bool false) rfl (by kernel_rfl) (by kernel_rfl) (by kernel_rfl) (fun _ _ _ h => h) (Or.inl ⟨by rfl, fun w hSw => by go_simp⟩) h0 ?_
              try simp only [List.getElem_toArray, List.getElem_cons_zero, List.getElem_cons_succ, Act.put, List.setIfInBounds_toArray, List.set_cons_zero, List.set_cons_succ]
              refine wpAnyH_take (i := 3) (v := undef) rfl (by kernel_rfl) (by kernel_rfl) (by kernel_rfl) (fun _ _ _ h => h) (Or.inr ⟨by rfl, rfl⟩) h0 ?_
              try simp only [List.getElem_toArray, List.getElem_cons_zero, List.getElem_cons_succ, Act.put, List.setIfInBounds_toArray, List.set_cons_zero, List.set_cons_succ]
              refine wpAnyH_take (i := 4) (v := undef) rfl (by kernel_rfl) (by kernel_rfl) (by kernel_rfl) (fun _ _ _ h => h) (Or.inr ⟨by rfl, rfl⟩) h0 ?_
              try simp only [List.getElem_toArray, List.getElem_cons_zero, List.getElem_cons_succ, Act.put, List.setIfInBounds_toArray, List.set_cons_zero, List.set_cons_succ]
              refine wpAnyH_take (i := 5) (v := .bool false) rfl (by kernel_rfl) (by kernel_rfl) (by kernel_rfl) (fun _ _ _ h => h) (Or.inl ⟨by rfl, fun w hSw => by go_simp⟩) h0 ?_
              try simp only [List.getElem_toArray, List.getElem_cons_zero, List.getElem_cons_succ, Act.put, List.setIfInBounds_toArray, List.set_cons_zero, List.set_cons_succ]
              refine wpAnyH_take (i := 6) (v := .bool false) rfl (by kernel_rfl) (by kernel_rfl) (by kernel_rfl) (fun _ _ _ h => h) (Or.inl ⟨by rfl, fun w hSw => by go_simp⟩) h0 ?_
              try simp only [List.getElem_toArray, List.getElem_cons_zero, List.getElem_cons_succ, Act.put, List.setIfInBounds_toArray, List.set_cons_zero, List.set_cons_succ]
              refine wpAnyH_take (i := 7) (v := .slice (some ⟨bk, ok, none⟩) nn c1) rfl (by kernel_rfl) (by kernel_rfl) (by kernel_rfl) (fun _ _ _ h => h) (Or.inl ⟨by rfl, fun w hSw => by go_simp⟩) h0 ?_
              try simp only [List.getElem_toArray, List.getElem_cons_zero, List.getElem_cons_succ, Act.put, List.setIfInBounds_toArray, List.set_cons_zero, List.set_cons_succ]
              refine wpAnyH_take (i := 8) (v := .int .i64 i) rfl (by kernel_rfl) (by kernel_rfl) (by kernel_rfl) (fun _ _ _ h => h) (Or.inl ⟨by rfl, fun w hSw => by go_simp⟩) h0 ?_
              try simp only [List.getElem_toArray, List.getElem_cons_zero, List.getElem_cons_succ, Act.put, List.setIfInBounds_toArray, List.set_cons_zero, List.set_cons_succ]
              refine wpAnyH_take (i := 9) (v := .pointer (some ⟨bk, ok + i * 65, none⟩)) rfl (by kernel_rfl) (by kernel_rfl) (by kernel_rfl) (fun _ _ _ h => h) (Or.inl ⟨by rfl, fun w hSw => by have c0 := hiN; go_simp⟩) h0 ?_
              try simp only [List.getElem_toArray, List.getElem_cons_zero, List.getElem_cons_succ, Act.put, List.setIfInBounds_toArray, List.set_cons_zero, List.set_cons_succ]
              refine wpAnyH_take (i := 10) rfl (by kernel_rfl) (by kernel_rfl) (by kernel_rfl) (fun _ _ _ h => h) (yieldsIf_load_mid (by rfl) _ _ rfl _ _ rfl _ _ (fun w h j v hv => Kept.cellOf h (rk j v hv) (by simp)) Try.underlying36 rfl ix) h0 ?_
              try simp only [List.getElem_toArray, List.getElem_cons_zero, List.getElem_cons_succ, Act.put, List.setIfInBounds_toArray, List.set_cons_zero, List.set_cons_succ]
              refine wpAnyH_take (i := 11) rfl (by kernel_rfl) (by kernel_rfl) (by kernel_rfl) (fun _ _ _ h => h) (yieldsIf_load_mid (by rfl) _ _ rfl _ _ rfl _ _ (fun w h j v hv => Kept.cellOf h (ra j v hv) (by simp)) Try.underlying36 rfl ix) h0 ?_
              try simp only [List.getElem_toArray, List.getElem_cons_zero, List.getElem_cons_succ, Act.put, List.setIfInBounds_toArray, List.set_cons_zero, List.set_cons_succ]
              refine wpAnyH_take (i := 12) (v := .bool false) rfl (by kernel_rfl) (by kernel_rfl) (by kernel_rfl) (fun _ _ _ h => h) (Or.inl ⟨by rfl, fun w hSw => by have c := heqx w; go_simp⟩) h0 ?_
              try simp only [List.getElem_toArray, List.getElem_cons_zero, List.getElem_cons_succ, Act.put, List.setIfInBounds_toArray, List.set_cons_zero, List.set_cons_succ]
              refine wpAnyH_take (i := 13) (v := .bool false) rfl (by kernel_rfl) (by kernel_rfl) (by kernel_rfl) (fun _ _ _ h => h) (Or.inl ⟨by rfl, fun w hSw => by go_simp⟩) h0 ?_
              try simp only [List.getElem_toArray, List.getElem_cons_zero, List.getElem_cons_succ, Act.put, List.setIfInBounds_toArray, List.set_cons_zero, List.set_cons_succ]
              refine wpAnyH_take (i := 14) (v := .bool false) rfl (by kernel_rfl) (by kernel_rfl) (by kernel_rfl) (fun _ _ _ h => h) (Or.inl ⟨by rfl, fun w hSw => by go_simp⟩) h0 ?_
              try simp only [List.getElem_toArray, List.getElem_cons_zero, List.getElem_cons_succ, Act.put, List.setIfInBounds_toArray, List.set_cons_zero, List.set_cons_succ]
              refine wpAnyH_take (i := 15) (v := .slice (some ⟨bt, ot, none⟩) nn c2) rfl (by kernel_rfl) (by kernel_rfl) (by kernel_rfl) (fun _ _ _ h => h) (Or.inl ⟨by rfl, fun w hSw => by go_simp⟩) h0 ?_
              try simp only [List.getElem_toArray, List.getElem_cons_zero, List.getElem_cons_succ, Act.put, List.setIfInBounds_toArray, List.set_cons_zero, List.set_cons_succ]
              refine wpAnyH_take (i := 16) (v := .int .i64 i) rfl (by kernel_rfl) (by kernel_rfl) (by kernel_rfl) (fun _ _ _ h => h) (Or.inl ⟨by rfl, fun w hSw => by go_simp⟩) h0 ?_
              try simp only [List.getElem_toArray, List.getElem_cons_zero, List.getElem_cons_succ, Act.put, List.setIfInBounds_toArray, List.set_cons_zero, List.set_cons_succ]
              refine wpAnyH_take (i := 17) (v := .pointer (some ⟨bt, ot + i * 65, none⟩)) rfl (by kernel_rfl) (by kernel_rfl) (by kernel_rfl) (fun _ _ _ h => h) (Or.inl ⟨by rfl, fun w hSw => by have c0 := hiN; go_simp⟩) h0 ?_
              try simp only [List.getElem_toArray, List.getElem_cons_zero, List.getElem_cons_succ, Act.put, List.setIfInBounds_toArray, List.set_cons_zero, List.set_cons_succ]
              refine wpAnyH_take (i := 18) rfl (by kernel_rfl) (by kernel_rfl) (by kernel_rfl) (fun _ _ _ h => h) (yieldsIf_load_mid (by rfl) _ _ rfl _ _ rfl _ _ (fun w h j v hv => Kept.cellOf h (rt j v hv) (by simp)) Try.underlying36 rfl iy) h0 ?_
              try simp only [List.getElem_toArray, List.getElem_cons_zero, List.getElem_cons_succ, Act.put, List.setIfInBounds_toArray, List.set_cons_zero, List.set_cons_succ]
              refine wpAnyH_take (i := 19) rfl (by kernel_rfl) (by kernel_rfl) (by kernel_rfl) (fun _ _ _ h => h) (yieldsIf_load_mid (by rfl) _ _ rfl _ _ rfl _ _ (fun w h j v hv => Kept.cellOf h (rb j v hv) (by simp)) Try.underlying36 rfl iy) h0 ?_
              try simp only [List.getElem_toArray, List.getElem_cons_zero, List.getElem_cons_succ, Act.put, List.setIfInBounds_toArray, List.set_cons_zero, List.set_cons_succ]
              refine wpAnyH_take (i := 20) (v := .bool false) rfl (by kernel_rfl) (by kernel_rfl) (by kernel_rfl) (fun _ _ _ h => h) (Or.inl ⟨by rfl, fun w hSw => by have c := heqy w; go_simp⟩) h0 ?_
              try simp only [List.getElem_toArray, List.getElem_cons_zero, List.getElem_cons_succ, Act.put, List.setIfInBounds_toArray, List.set_cons_zero, List.set_cons_succ]
              refine wpAnyH_take (i := 21) (v := .bool false) rfl (by kernel_rfl) (by kernel_rfl) (by kernel_rfl) (fun _ _ _ h => h) (Or.inl ⟨by rfl, fun w hSw => by go_simp⟩) h0 ?_
              try simp only [List.getElem_toArray, List.getElem_cons_zero, List.getElem_cons_succ, Act.put, List.setIfInBounds_toArray, List.set_cons_zero, List.set_cons_succ]
              refine wpAnyH_done (by kernel_rfl) ?_ _
              have KY : Hid (Kept [] wr v0) := KX.out.trans h0 (by simp)
              clear h0
              go_wp2
              go_roundw
              case rel => exact ⟨i + 1, by omega, by go_num, HKW.out.trans KY.out (by simp)⟩
              case measure => simp [intOf]; omega
            · have e3 := e2.symm
              subst e3
              have iy := ix
              have heqy := heqx
              have hof := of_ok ao n cap L E wr HN.out (LA.out.kept KR.out (by simp)) hEl (by omega)
              rw [hfa] at hof
              simp only [Option.getD_some, Option.isSome_some] at hof
              have iva : (Try.prog.info? 36).map (·.size) = some x.cells.toArray.size := by rw [res_size]; exact Try.infoResS
              have ivb : (Try.prog.info? 36).map (·.size) = some res0.cells.toArray.size := by rw [res_size]; exact Try.infoResS
              go_upto_region 29 with (first
                | refine wpList_load_mid rfl 34 (.tmp 231) rfl bk (ok + i * 65) rfl (bys E) _ rE Try.underlying34 rfl iE ?_
                | (go_at_call 14; refine hof.mono ?_; rintro r w7 ⟨rfl, hk7⟩; have KC := hide hk7; clear hk7 hof)
                | refine wpList_store_rowTo rfl 36 (.tmp 20) (.tmp 234) rfl rfl w7.heap.size x.cells.toArray rfl rfl 36 zeroR (new_zero w7) iva (zero_size x) (res_all x) ?_)
              have eW : (w7.alloc (.cells zeroR 36)).setRow w7.heap.size x.cells.toArray = withRes w7 x := rfl
              rw [eW]
              have K8 : Hid (Kept [] wr (withRes w7 x)) := KC.out.trans (Kept.of_below (withRes_below w7 x)) (by simp)
              have P8 : Hid ((withRes w7 x).heap[w7.heap.size]? = some (.cells x.cells.toArray 36 (0, 0))) := withRes_row w7 x
              have PN : Hid (wr.heap.size ≤ w7.heap.size) := KC.out.size
              obtain ⟨p, hp⟩ : ∃ p, w7.heap.size = p := ⟨_, rfl⟩
              rw [hp] at P8 PN ⊢
              clear eW hp KC rE
              generalize withRes w7 x = w8 at K8 P8 ⊢
              clear w7
              have rE : w8.rangeAt bk (ok + i * 65) (bys E) := fun q v hv => K8.out.cellOf (HRE.out q v hv) (by simp)
              have hof := of_ok ao2 n2 cap2 L2 E w8 HN2.out (LB.out.kept (KR.out.trans K8.out (by simp)) (by simp)) hEl (by omega)
              rw [hfb] at hof
              simp only [Option.getD_none, Option.isSome_none] at hof
              clear hfa hfb
              go_upto_region 30 with (first
                | refine wpList_load_mid rfl 34 (.tmp 241) rfl bk (ok + i * 65) rfl (bys E) _ rE Try.underlying34 rfl iE ?_
                | (go_at_call 14; refine hof.mono ?_; rintro r w10 ⟨rfl, hk7⟩; have KC := hide hk7; clear hk7 hof)
                | refine wpList_store_rowTo rfl 36 (.tmp 22) (.tmp 244) rfl rfl w10.heap.size res0.cells.toArray rfl rfl 36 zeroR (new_zero w10) ivb (zero_size res0) (res_all res0) ?_)
              have eW : (w10.alloc (.cells zeroR 36)).setRow w10.heap.size res0.cells.toArray = withRes w10 res0 := rfl
              rw [eW]
              have KW2 : Kept [] w8 (withRes w10 res0) := KC.out.trans (Kept.of_below (withRes_below w10 res0)) (by simp)
              have K9 : Hid (Kept [] wr (withRes w10 res0)) := K8.out.trans KW2 (by simp)
              have P9 : Hid ((withRes w10 res0).heap[p]? = some (.cells x.cells.toArray 36 (0, 0))) := by show _ = _; rw [KW2.block p (Array.getElem?_eq_some_iff.1 P8.out).1 (by simp)]; exact P8.out
              have Q9 : Hid ((withRes w10 res0).heap[w10.heap.size]? = some (.cells res0.cells.toArray 36 (0, 0)) ∧ p ≠ w10.heap.size) := ⟨withRes_row w10 res0, fun e => by have h1 := (Array.getElem?_eq_some_iff.1 P8.out).1; have h2 := KC.out.size; omega⟩
              have QN : Hid (wr.heap.size ≤ p ∧ wr.heap.size ≤ w10.heap.size) := ⟨PN.out, Nat.le_trans K8.out.size KC.out.size⟩
              obtain ⟨q, hq⟩ : ∃ q, w10.heap.size = q := ⟨_, rfl⟩
              rw [hq] at Q9 QN ⊢
              clear eW hq KC rE KW2 P8 K8
              generalize withRes w10 res0 = w11 at K9 P9 Q9 ⊢
              clear w8 w10
              have hrow := Q9.out.1
              have rp := res_range P9.out
              have szx : res0.cells.toArray.size = x.cells.toArray.size := by rw [res_size, res_size]
              go_upto_region 34 with (first
                | refine wpList_load_mid rfl 36 (.tmp 20) rfl p 0 rfl x.cells _ rp Try.underlying36 rfl ix ?_
                | refine wpList_store_rowTo rfl 36 (.tmp 22) (.tmp 251) rfl rfl q x.cells.toArray rfl rfl 36 res0.cells.toArray hrow iva szx (res_all x) ?_)
              have kk := kept_row w11 q x.cells.toArray
              have KX : Hid (Kept [] wr (w11.setRow q x.cells.toArray)) := K9.out.trans kk (fun j hj hl => by simp at hj; have := QN.out; omega)
              have ra0 := hide (res_range (show (w11.setRow q x.cells.toArray).heap[p]? = _ by rw [kk.block p (Array.getElem?_eq_some_iff.1 P9.out).1 (by simpa using Q9.out.2)]; exact P9.out))
              have rb0 := hide (res_range (setRow_heap _ _ _ x.cells.toArray _ _ hrow))
              clear kk hrow rp
              generalize w11.setRow q x.cells.toArray = w9 at KX ra0 rb0 ⊢
              have ra := ra0.out
              have rb := rb0.out
              have rk : w9.rangeAt bk (ok + i * 65) x.cells := fun q v hv => KX.out.cellOf (HXk.out q v hv) (by simp)
              have rt : w9.rangeAt bt (ot + i * 65) x.cells := fun q v hv => KX.out.cellOf (HYt.out q v hv) (by simp)
              refine wp_region_held_drew (S := fun w' => Kept [] w9 w') (by kernel_rfl) ((Kept.refl [] w9).drew) (fun h0 => ?_)
              generalize World.drew w9 = v0 at h0 ⊢
              refine wpAnyH_take (i := 0) (v := .bool true) rfl (by kernel_rfl) (by kernel_rfl) (by kernel_rfl) (fun _ _ _ h => h) (Or.inl ⟨by rfl, fun w hSw => by go_simp⟩) h0 ?_
              try simp only [List.getElem_toArray, List.getElem_cons_zero, List.getElem_cons_succ, Act.put, List.setIfInBounds_toArray, List.set_cons_zero, List.set_cons_succ]
              refine wpAnyH_take (i := 1) (v := .bool false) rfl (by kernel_rfl) (by kernel_rfl) (by kernel_rfl) (fun _ _ _ h => h) (Or.inl ⟨by rfl, fun w hSw => by go_simp⟩) h0 ?_
              try simp only [List.getElem_toArray, List.getElem_cons_zero, List.getElem_cons_succ, Act.put, List.setIfInBounds_toArray, List.set_cons_zero, List.set_cons_succ]
              refine wpAnyH_take (i := 2) (v := .bool false) rfl (by kernel_rfl) (by kernel_rfl) (by kernel_rfl) (fun _ _ _ h => h) (Or.inl ⟨by rfl, fun w hSw => by go_simp⟩) h0 ?_
              try simp only [List.getElem_toArray, List.getElem_cons_zero, List.getElem_cons_succ, Act.put, List.setIfInBounds_toArray, List.set_cons_zero, List.set_cons_succ]
              refine wpAnyH_take (i := 3) (v := undef) rfl (by kernel_rfl) (by kernel_rfl) (by kernel_rfl) (fun _ _ _ h => h) (Or.inr ⟨by rfl, rfl⟩) h0 ?_
              try simp only [List.getElem_toArray, List.getElem_cons_zero, List.getElem_cons_succ, Act.put, List.setIfInBounds_toArray, List.set_cons_zero, List.set_cons_succ]
              refine wpAnyH_take (i := 4) (v := undef) rfl (by kernel_rfl) (by kernel_rfl) (by kernel_rfl) (fun _ _ _ h => h) (Or.inr ⟨by rfl, rfl⟩) h0 ?_
              try simp only [List.getElem_toArray, List.getElem_cons_zero, List.getElem_cons_succ, Act.put, List.setIfInBounds_toArray, List.set_cons_zero, List.set_cons_succ]
              refine wpAnyH_take (i := 5) (v := .bool false) rfl (by kernel_rfl) (by kernel_rfl) (by kernel_rfl) (fun _ _ _ h => h) (Or.inl ⟨by rfl, fun w hSw => by go_simp⟩) h0 ?_
              try simp only [List.getElem_toArray, List.getElem_cons_zero, List.getElem_cons_succ, Act.put, List.setIfInBounds_toArray, List.set_cons_zero, List.set_cons_succ]
              refine wpAnyH_take (i := 6) (v := .bool false) rfl (by kernel_rfl) (by kernel_rfl) (by kernel_rfl) (fun _ _ _ h => h) (Or.inl ⟨by rfl, fun w hSw => by go_simp⟩) h0 ?_
              try simp only [List.getElem_toArray, List.getElem_cons_zero, List.getElem_cons_succ, Act.put, List.setIfInBounds_toArray, List.set_cons_zero, List.set_cons_succ]
              refine wpAnyH_take (i := 7) (v := .slice (some ⟨bk, ok, none⟩) nn c1) rfl (by kernel_rfl) (by kernel_rfl) (by kernel_rfl) (fun _ _ _ h => h) (Or.inl ⟨by rfl, fun w hSw => by go_simp⟩) h0 ?_
              try simp only [List.getElem_toArray, List.getElem_cons_zero, List.getElem_cons_succ, Act.put, List.setIfInBounds_toArray, List.set_cons_zero, List.set_cons_succ]
              refine wpAnyH_take (i := 8) (v := .int .i64 i) rfl (by kernel_rfl) (by kernel_rfl) (by kernel_rfl) (fun _ _ _ h => h) (Or.inl ⟨by rfl, fun w hSw => by go_simp⟩) h0 ?_
              try simp only [List.getElem_toArray, List.getElem_cons_zero, List.getElem_cons_succ, Act.put, List.setIfInBounds_toArray, List.set_cons_zero, List.set_cons_succ]
              refine wpAnyH_take (i := 9) (v := .pointer (some ⟨bk, ok + i * 65, none⟩)) rfl (by kernel_rfl) (by kernel_rfl) (by kernel_rfl) (fun _ _ _ h => h) (Or.inl ⟨by rfl, fun w hSw => by have c0 := hiN; go_simp⟩) h0 ?_
              try simp only [List.getElem_toArray, List.getElem_cons_zero, List.getElem_cons_succ, Act.put, List.setIfInBounds_toArray, List.set_cons_zero, List.set_cons_succ]
              refine wpAnyH_take (i := 10) rfl (by kernel_rfl) (by kernel_rfl) (by kernel_rfl) (fun _ _ _ h => h) (yieldsIf_load_mid (by rfl) _ _ rfl _ _ rfl _ _ (fun w h j v hv => Kept.cellOf h (rk j v hv) (by simp)) Try.underlying36 rfl ix) h0 ?_
              try simp only [List.getElem_toArray, List.getElem_cons_zero, List.getElem_cons_succ, Act.put, List.setIfInBounds_toArray, List.set_cons_zero, List.set_cons_succ]
              refine wpAnyH_take (i := 11) rfl (by kernel_rfl) (by kernel_rfl) (by kernel_rfl) (fun _ _ _ h => h) (yieldsIf_load_mid (by rfl) _ _ rfl _ _ rfl _ _ (fun w h j v hv => Kept.cellOf h (ra j v hv) (by simp)) Try.underlying36 rfl ix) h0 ?_
              try simp only [List.getElem_toArray, List.getElem_cons_zero, List.getElem_cons_succ, Act.put, List.setIfInBounds_toArray, List.set_cons_zero, List.set_cons_succ]
              refine wpAnyH_take (i := 12) (v := .bool false) rfl (by kernel_rfl) (by kernel_rfl) (by kernel_rfl) (fun _ _ _ h => h) (Or.inl ⟨by rfl, fun w hSw => by have c := heqx w; go_simp⟩) h0 ?_
              try simp only [List.getElem_toArray, List.getElem_cons_zero, List.getElem_cons_succ, Act.put, List.setIfInBounds_toArray, List.set_cons_zero, List.set_cons_succ]
              refine wpAnyH_take (i := 13) (v := .bool false) rfl (by kernel_rfl) (by kernel_rfl) (by kernel_rfl) (fun _ _ _ h => h) (Or.inl ⟨by rfl, fun w hSw => by go_simp⟩) h0 ?_
              try simp only [List.getElem_toArray, List.getElem_cons_zero, List.getElem_cons_succ, Act.put, List.setIfInBounds_toArray, List.set_cons_zero, List.set_cons_succ]
              refine wpAnyH_take (i := 14) (v := .bool false) rfl (by kernel_rfl) (by kernel_rfl) (by kernel_rfl) (fun _ _ _ h => h) (Or.inl ⟨by rfl, fun w hSw => by go_simp⟩) h0 ?_
              try simp only [List.getElem_toArray, List.getElem_cons_zero, List.getElem_cons_succ, Act.put, List.setIfInBounds_toArray, List.set_cons_zero, List.set_cons_succ]
              refine wpAnyH_take (i := 15) (v := .slice (some ⟨bt, ot, none⟩) nn c2) rfl (by kernel_rfl) (by kernel_rfl) (by kernel_rfl) (fun _ _ _ h => h) (Or.inl ⟨by rfl, fun w hSw => by go_simp⟩) h0 ?_
              try simp only [List.getElem_toArray, List.getElem_cons_zero, List.getElem_cons_succ, Act.put, List.setIfInBounds_toArray, List.set_cons_zero, List.set_cons_succ]
              refine wpAnyH_take (i := 16) (v := .int .i64 i) rfl (by kernel_rfl) (by kernel_rfl) (by kernel_rfl) (fun _ _ _ h => h) (Or.inl ⟨by rfl, fun w hSw => by go_simp⟩) h0 ?_
              try simp only [List.getElem_toArray, List.getElem_cons_zero, List.getElem_cons_succ, Act.put, List.setIfInBounds_toArray, List.set_cons_zero, List.set_cons_succ]
              refine wpAnyH_take (i := 17) (v := .pointer (some ⟨bt, ot + i * 65, none⟩)) rfl (by kernel_rfl) (by kernel_rfl) (by kernel_rfl) (fun _ _ _ h => h) (Or.inl ⟨by rfl, fun w hSw => by have c0 := hiN; go_simp⟩) h0 ?_
              try simp only [List.getElem_toArray, List.getElem_cons_zero, List.getElem_cons_succ, Act.put, List.setIfInBounds_toArray, List.set_cons_zero, List.set_cons_succ]
              refine wpAnyH_take (i := 18) rfl (by kernel_rfl) (by kernel_rfl) (by kernel_rfl) (fun _ _ _ h => h) (yieldsIf_load_mid (by rfl) _ _ rfl _ _ rfl _ _ (fun w h j v hv => Kept.cellOf h (rt j v hv) (by simp)) Try.underlying36 rfl iy) h0 ?_
              try simp only [List.getElem_toArray, List.getElem_cons_zero, List.getElem_cons_succ, Act.put, List.setIfInBounds_toArray, List.set_cons_zero, List.set_cons_succ]
              refine wpAnyH_take (i := 19) rfl (by kernel_rfl) (by kernel_rfl) (by kernel_rfl) (fun _ _ _ h => h) (yieldsIf_load_mid (by rfl) _ _ rfl _ _ rfl _ _ (fun w h j v hv => Kept.cellOf h (rb j v hv) (by simp)) Try.underlying36 rfl iy) h0 ?_
              try simp only [List.getElem_toArray, List.getElem_cons_zero, List.getElem_cons_succ, Act.put, List.setIfInBounds_toArray, List.set_cons_zero, List.set_cons_succ]
              refine wpAnyH_take (i := 20) (v := .bool false) rfl (by kernel_rfl) (by kernel_rfl) (by kernel_rfl) (fun _ _ _ h => h) (Or.inl ⟨by rfl, fun w hSw => by have c := heqy w; go_simp⟩) h0 ?_
              try simp only [List.getElem_toArray, List.getElem_cons_zero, List.getElem_cons_succ, Act.put, List.setIfInBounds_toArray, List.set_cons_zero, List.set_cons_succ]
              refine wpAnyH_take (i := 21) (v := .bool false) rfl (by kernel_rfl) (by kernel_rfl) (by kernel_rfl) (fun _ _ _ h => h) (Or.inl ⟨by rfl, fun w hSw => by go_simp⟩) h0 ?_
              try simp only [List.getElem_toArray, List.getElem_cons_zero, List.getElem_cons_succ, Act.put, List.setIfInBounds_toArray, List.set_cons_zero, List.set_cons_succ]
              refine wpAnyH_done (by kernel_rfl) ?_ _
              have KY : Hid (Kept [] wr v0) := KX.out.trans h0 (by simp)
              clear h0
              go_wp2
              go_roundw
              case rel => exact ⟨i + 1, by omega, by go_num, HKW.out.trans KY.out (by simp)⟩
              case measure => simp [intOf]; omega
            · have e3 := e2.symm
              subst e3
              have iy := ix
              have heqy := heqx
              have hof := of_ok ao n cap L E wr HN.out (LA.out.kept KR.out (by simp)) hEl (by omega)
              rw [hfa] at hof
              simp only [Option.getD_none, Option.isSome_none] at hof
              have iva : (Try.prog.info? 36).map (·.size) = some res0.cells.toArray.size := by rw [res_size]; exact Try.infoResS
              have ivb : (Try.prog.info? 36).map (·.size) = some x.cells.toArray.size := by rw [res_size]; exact Try.infoResS
              go_upto_region 29 with (first
                | refine wpList_load_mid rfl 34 (.tmp 231) rfl bk (ok + i * 65) rfl (bys E) _ rE Try.underlying34 rfl iE ?_
                | (go_at_call 14; refine hof.mono ?_; rintro r w7 ⟨rfl, hk7⟩; have KC := hide hk7; clear hk7 hof)
                | refine wpList_store_rowTo rfl 36 (.tmp 20) (.tmp 234) rfl rfl w7.heap.size res0.cells.toArray rfl rfl 36 zeroR (new_zero w7) iva (zero_size res0) (res_all res0) ?_)
              have eW : (w7.alloc (.cells zeroR 36)).setRow w7.heap.size res0.cells.toArray = withRes w7 res0 := rfl
              rw [eW]
              have K8 : Hid (Kept [] wr (withRes w7 res0)) := KC.out.trans (Kept.of_below (withRes_below w7 res0)) (by simp)
              have P8 : Hid ((withRes w7 res0).heap[w7.heap.size]? = some (.cells res0.cells.toArray 36 (0, 0))) := withRes_row w7 res0
              have PN : Hid (wr.heap.size ≤ w7.heap.size) := KC.out.size
              obtain ⟨p, hp⟩ : ∃ p, w7.heap.size = p := ⟨_, rfl⟩
              rw [hp] at P8 PN ⊢
              clear eW hp KC rE
              generalize withRes w7 res0 = w8 at K8 P8 ⊢
              clear w7
              have rE : w8.rangeAt bk (ok + i * 65) (bys E) := fun q v hv => K8.out.cellOf (HRE.out q v hv) (by simp)
              have hof := of_ok ao2 n2 cap2 L2 E w8 HN2.out (LB.out.kept (KR.out.trans K8.out (by simp)) (by simp)) hEl (by omega)
              rw [hfb] at hof
              simp only [Option.getD_some, Option.isSome_some] at hof
              clear hfa hfb
              go_upto_region 30 with (first
                | refine wpList_load_mid rfl 34 (.tmp 241) rfl bk (ok + i * 65) rfl (bys E) _ rE Try.underlying34 rfl iE ?_
                | (go_at_call 14; refine hof.mono ?_; rintro r w10 ⟨rfl, hk7⟩; have KC := hide hk7; clear hk7 hof)
                | refine wpList_store_rowTo rfl 36 (.tmp 22) (.tmp 244) rfl rfl w10.heap.size x.cells.toArray rfl rfl 36 zeroR (new_zero w10) ivb (zero_size x) (res_all x) ?_)
              have eW : (w10.alloc (.cells zeroR 36)).setRow w10.heap.size x.cells.toArray = withRes w10 x := rfl
              rw [eW]
              have KW2 : Kept [] w8 (withRes w10 x) := KC.out.trans (Kept.of_below (withRes_below w10 x)) (by simp)
              have K9 : Hid (Kept [] wr (withRes w10 x)) := K8.out.trans KW2 (by simp)
              have P9 : Hid ((withRes w10 x).heap[p]? = some (.cells res0.cells.toArray 36 (0, 0))) := by show _ = _; rw [KW2.block p (Array.getElem?_eq_some_iff.1 P8.out).1 (by simp)]; exact P8.out
              have Q9 : Hid ((withRes w10 x).heap[w10.heap.size]? = some (.cells x.cells.toArray 36 (0, 0)) ∧ p ≠ w10.heap.size) := ⟨withRes_row w10 x, fun e => by have h1 := (Array.getElem?_eq_some_iff.1 P8.out).1; have h2 := KC.out.size; omega⟩
              have QN : Hid (wr.heap.size ≤ p ∧ wr.heap.size ≤ w10.heap.size) := ⟨PN.out, Nat.le_trans K8.out.size KC.out.size⟩
              obtain ⟨q, hq⟩ : ∃ q, w10.heap.size = q := ⟨_, rfl⟩
              rw [hq] at Q9 QN ⊢
              clear eW hq KC rE KW2 P8 K8
              generalize withRes w10 x = w11 at K9 P9 Q9 ⊢
              clear w8 w10
              have hrow := P9.out
              have rp := res_range Q9.out.1
              have szx : res0.cells.toArray.size = x.cells.toArray.size := by rw [res_size, res_size]
              go_upto_region 34 with (first
                | refine wpList_load_mid rfl 36 (.tmp 22) rfl q 0 rfl x.cells _ rp Try.underlying36 rfl ix ?_
                | refine wpList_store_rowTo rfl 36 (.tmp 20) (.tmp 248) rfl rfl p x.cells.toArray rfl rfl 36 res0.cells.toArray hrow ivb szx (res_all x) ?_)
              have kk := kept_row w11 p x.cells.toArray
              have KX : Hid (Kept [] wr (w11.setRow p x.cells.toArray)) := K9.out.trans kk (fun j hj hl => by simp at hj; have := QN.out; omega)
              have rb0 := hide (res_range (show (w11.setRow p x.cells.toArray).heap[q]? = _ by rw [kk.block q (Array.getElem?_eq_some_iff.1 Q9.out.1).1 (by simpa using fun h => Q9.out.2 h.symm)]; exact Q9.out.1))
              have ra0 := hide (res_range (setRow_heap _ _ _ x.cells.toArray _ _ hrow))
              clear kk hrow rp
              generalize w11.setRow p x.cells.toArray = w9 at KX ra0 rb0 ⊢
              have ra := ra0.out
              have rb := rb0.out
              have rk : w9.rangeAt bk (ok + i * 65) x.cells := fun q v hv => KX.out.cellOf (HXk.out q v hv) (by simp)
              have rt : w9.rangeAt bt (ot + i * 65) x.cells := fun q v hv => KX.out.cellOf (HYt.out q v hv) (by simp)
              refine wp_region_held_drew (S := fun w' => Kept [] w9 w') (by kernel_rfl) ((Kept.refl [] w9).drew) (fun h0 => ?_)
              generalize World.drew w9 = v0 at h0 ⊢
              refine wpAnyH_take (i := 0) (v := .bool false) rfl (by kernel_rfl) (by kernel_rfl) (by kernel_rfl) (fun _ _ _ h => h) (Or.inl ⟨by rfl, fun w hSw => by go_simp⟩) h0 ?_
              try simp only [List.getElem_toArray, List.getElem_cons_zero, List.getElem_cons_succ, Act.put, List.setIfInBounds_toArray, List.set_cons_zero, List.set_cons_succ]
              refine wpAnyH_take (i := 1) (v := .bool true) rfl (by kernel_rfl) (by kernel_rfl) (by kernel_rfl) (fun _ _ _ h => h) (Or.inl ⟨by rfl, fun w hSw => by go_simp⟩) h0 ?_
              try simp only [List.getElem_toArray, List.getElem_cons_zero, List.getElem_cons_succ, Act.put, List.setIfInBounds_toArray, List.set_cons_zero, List.set_cons_succ]
              refine wpAnyH_take (i := 2) (v := .bool true) rfl (by kernel_rfl) (by kernel_rfl) (by kernel_rfl) (fun _ _ _ h => h) (Or.inl ⟨by rfl, fun w hSw => by go_simp⟩) h0 ?_
              try simp only [List.getElem_toArray, List.getElem_cons_zero, List.getElem_cons_succ, Act.put, List.setIfInBounds_toArray, List.set_cons_zero, List.set_cons_succ]
              refine wpAnyH_take (i := 3) (v := .bool true) rfl (by kernel_rfl) (by kernel_rfl) (by kernel_rfl) (fun _ _ _ h => h) (Or.inl ⟨by rfl, fun w hSw => by go_simp⟩) h0 ?_
              try simp only [List.getElem_toArray, List.getElem_cons_zero, List.getElem_cons_succ, Act.put, List.setIfInBounds_toArray, List.set_cons_zero, List.set_cons_succ]
              refine wpAnyH_take (i := 4) (v := .bool false) rfl (by kernel_rfl) (by kernel_rfl) (by kernel_rfl) (fun _ _ _ h => h) (Or.inl ⟨by rfl, fun w hSw => by go_simp⟩) h0 ?_
              try simp only [List.getElem_toArray, List.getElem_cons_zero, List.getElem_cons_succ, Act.put, List.setIfInBounds_toArray, List.set_cons_zero, List.set_cons_succ]
              refine wpAnyH_take (i := 5) (v := .bool false) rfl (by kernel_rfl) (by kernel_rfl) (by kernel_rfl) (fun _ _ _ h => h) (Or.inl ⟨by rfl, fun w hSw => by go_simp⟩) h0 ?_
              try simp only [List.getElem_toArray, List.getElem_cons_zero, List.getElem_cons_succ, Act.put, List.setIfInBounds_toArray, List.set_cons_zero, List.set_cons_succ]
              refine wpAnyH_take (i := 6) (v := .bool false) rfl (by kernel_rfl) (by kernel_rfl) (by kernel_rfl) (fun _ _ _ h => h) (Or.inl ⟨by rfl, fun w hSw => by go_simp⟩) h0 ?_
              try simp only [List.getElem_toArray, List.getElem_cons_zero, List.getElem_cons_succ, Act.put, List.setIfInBounds_toArray, List.set_cons_zero, List.set_cons_succ]
              refine wpAnyH_take (i := 7) (v := .slice (some ⟨bk, ok, none⟩) nn c1) rfl (by kernel_rfl) (by kernel_rfl) (by kernel_rfl) (fun _ _ _ h => h) (Or.inl ⟨by rfl, fun w hSw => by go_simp⟩) h0 ?_
              try simp only [List.getElem_toArray, List.getElem_cons_zero, List.getElem_cons_succ, Act.put, List.setIfInBounds_toArray, List.set_cons_zero, List.set_cons_succ]
              refine wpAnyH_take (i := 8) (v := .int .i64 i) rfl (by kernel_rfl) (by kernel_rfl) (by kernel_rfl) (fun _ _ _ h => h) (Or.inl ⟨by rfl, fun w hSw => by go_simp⟩) h0 ?_
              try simp only [List.getElem_toArray, List.getElem_cons_zero, List.getElem_cons_succ, Act.put, List.setIfInBounds_toArray, List.set_cons_zero, List.set_cons_succ]
              refine wpAnyH_take (i := 9) (v := .pointer (some ⟨bk, ok + i * 65, none⟩)) rfl (by kernel_rfl) (by kernel_rfl) (by kernel_rfl) (fun _ _ _ h => h) (Or.inl ⟨by rfl, fun w hSw => by have c0 := hiN; go_simp⟩) h0 ?_
              try simp only [List.getElem_toArray, List.getElem_cons_zero, List.getElem_cons_succ, Act.put, List.setIfInBounds_toArray, List.set_cons_zero, List.set_cons_succ]
              refine wpAnyH_take (i := 10) rfl (by kernel_rfl) (by kernel_rfl) (by kernel_rfl) (fun _ _ _ h => h) (yieldsIf_load_mid (by rfl) _ _ rfl _ _ rfl _ _ (fun w h j v hv => Kept.cellOf h (rk j v hv) (by simp)) Try.underlying36 rfl ix) h0 ?_
              try simp only [List.getElem_toArray, List.getElem_cons_zero, List.getElem_cons_succ, Act.put, List.setIfInBounds_toArray, List.set_cons_zero, List.set_cons_succ]
              refine wpAnyH_take (i := 11) rfl (by kernel_rfl) (by kernel_rfl) (by kernel_rfl) (fun _ _ _ h => h) (yieldsIf_load_mid (by rfl) _ _ rfl _ _ rfl _ _ (fun w h j v hv => Kept.cellOf h (ra j v hv) (by simp)) Try.underlying36 rfl ix) h0 ?_
              try simp only [List.getElem_toArray, List.getElem_cons_zero, List.getElem_cons_succ, Act.put, List.setIfInBounds_toArray, List.set_cons_zero, List.set_cons_succ]
              refine wpAnyH_take (i := 12) (v := .bool false) rfl (by kernel_rfl) (by kernel_rfl) (by kernel_rfl) (fun _ _ _ h => h) (Or.inl ⟨by rfl, fun w hSw => by have c := heqx w; go_simp⟩) h0 ?_
              try simp only [List.getElem_toArray, List.getElem_cons_zero, List.getElem_cons_succ, Act.put, List.setIfInBounds_toArray, List.set_cons_zero, List.set_cons_succ]
              refine wpAnyH_take (i := 13) (v := .bool false) rfl (by kernel_rfl) (by kernel_rfl) (by kernel_rfl) (fun _ _ _ h => h) (Or.inl ⟨by rfl, fun w hSw => by go_simp⟩) h0 ?_
              try simp only [List.getElem_toArray, List.getElem_cons_zero, List.getElem_cons_succ, Act.put, List.setIfInBounds_toArray, List.set_cons_zero, List.set_cons_succ]
              refine wpAnyH_take (i := 14) (v := .bool false) rfl (by kernel_rfl) (by kernel_rfl) (by kernel_rfl) (fun _ _ _ h => h) (Or.inl ⟨by rfl, fun w hSw => by go_simp⟩) h0 ?_
              try simp only [List.getElem_toArray, List.getElem_cons_zero, List.getElem_cons_succ, Act.put, List.setIfInBounds_toArray, List.set_cons_zero, List.set_cons_succ]
              refine wpAnyH_take (i := 15) (v := .slice (some ⟨bt, ot, none⟩) nn c2) rfl (by kernel_rfl) (by kernel_rfl) (by kernel_rfl) (fun _ _ _ h => h) (Or.inl ⟨by rfl, fun w hSw => by go_simp⟩) h0 ?_
              try simp only [List.getElem_toArray, List.getElem_cons_zero, List.getElem_cons_succ, Act.put, List.setIfInBounds_toArray, List.set_cons_zero, List.set_cons_succ]
              refine wpAnyH_take (i := 16) (v := .int .i64 i) rfl (by kernel_rfl) (by kernel_rfl) (by kernel_rfl) (fun _ _ _ h => h) (Or.inl ⟨by rfl, fun w hSw => by go_simp⟩) h0 ?_
              try simp only [List.getElem_toArray, List.getElem_cons_zero, List.getElem_cons_succ, Act.put, List.setIfInBounds_toArray, List.set_cons_zero, List.set_cons_succ]
              refine wpAnyH_take (i := 17) (v := .pointer (some ⟨bt, ot + i * 65, none⟩)) rfl (by kernel_rfl) (by kernel_rfl) (by kernel_rfl) (fun _ _ _ h => h) (Or.inl ⟨by rfl, fun w hSw => by have c0 := hiN; go_simp⟩) h0 ?_
              try simp only [List.getElem_toArray, List.getElem_cons_zero, List.getElem_cons_succ, Act.put, List.setIfInBounds_toArray, List.set_cons_zero, List.set_cons_succ]
              refine wpAnyH_take (i := 18) rfl (by kernel_rfl) (by kernel_rfl) (by kernel_rfl) (fun _ _ _ h => h) (yieldsIf_load_mid (by rfl) _ _ rfl _ _ rfl _ _ (fun w h j v hv => Kept.cellOf h (rt j v hv) (by simp)) Try.underlying36 rfl iy) h0 ?_
              try simp only [List.getElem_toArray, List.getElem_cons_zero, List.getElem_cons_succ, Act.put, List.setIfInBounds_toArray, List.set_cons_zero, List.set_cons_succ]
              refine wpAnyH_take (i := 19) rfl (by kernel_rfl) (by kernel_rfl) (by kernel_rfl) (fun _ _ _ h => h) (yieldsIf_load_mid (by rfl) _ _ rfl _ _ rfl _ _ (fun w h j v hv => Kept.cellOf h (rb j v hv) (by simp)) Try.underlying36 rfl iy) h0 ?_
              try simp only [List.getElem_toArray, List.getElem_cons_zero, List.getElem_cons_succ, Act.put, List.setIfInBounds_toArray, List.set_cons_zero, List.set_cons_succ]
              refine wpAnyH_take (i := 20) (v := .bool false) rfl (by kernel_rfl) (by kernel_rfl) (by kernel_rfl) (fun _ _ _ h => h) (Or.inl ⟨by rfl, fun w hSw => by have c := heqy w; go_simp⟩) h0 ?_
              try simp only [List.getElem_toArray, List.getElem_cons_zero, List.getElem_cons_succ, Act.put, List.setIfInBounds_toArray, List.set_cons_zero, List.set_cons_succ]
              refine wpAnyH_take (i := 21) (v := .bool false) rfl (by kernel_rfl) (by kernel_rfl) (by kernel_rfl) (fun _ _ _ h => h) (Or.inl ⟨by rfl, fun w hSw => by go_simp⟩) h0 ?_
              try simp only [List.getElem_toArray, List.getElem_cons_zero, List.getElem_cons_succ, Act.put, List.setIfInBounds_toArray, List.set_cons_zero, List.set_cons_succ]
              refine wpAnyH_done (by kernel_rfl) ?_ _
              have KY : Hid (Kept [] wr v0) := KX.out.trans h0 (by simp)
              clear h0
              go_wp2
              go_roundw
              case rel => exact ⟨i + 1, by omega, by go_num, HKW.out.trans KY.out (by simp)⟩
              case measure => simp [intOf]; omega
          · have JK := hide (J1.out.kept KR.out)
            have hjo := join_ok bo1 bo1 nn c1 nn c1 KK KK 3 wr (by omega) (by omega) HKL.out.1 HKL.out.1 ⟨JK.out.rs, wao3 bo1, J1.out.nl⟩ ⟨JK.out.rs, wao3 bo1, J1.out.nl⟩ J1.out.le J1.out.le J1.out.mx J1.out.mx
            rw [HJS.out] at hjo
            go_upto_region 37 with (go_at_call 16; refine hjo.mono ?_; intro r w12 ht; obtain ⟨bo4, m4, c4, co4, q4, d4, rfl, hj, hk⟩ := told_jd ht; obtain rfl : q4 = 0 := hj.lq.symm; have hm4 : m4 = nn := (by rw [← hj.lm]; exact HKL.out.1); subst hm4; have J4 := hide hj; have K4 := hide hk; clear ht hj hk hjo)
            have hjo := join_ok none bo1 0 0 m4 c1 [] KK 3 w12 (by omega) (by omega) rfl HKL.out.1 ⟨Ress.nil _ _, wao3 none, fun _ => rfl⟩ ⟨(JK.out.kept K4.out).rs, wao3 bo1, J1.out.nl⟩ (Nat.le_refl _) J1.out.le (by omega) J1.out.mx
            rw [HJN.out] at hjo
            go_upto_region 38 with (go_at_call 16; refine hjo.mono ?_; intro r w13 ht; obtain ⟨bo5, m5, c5, co5, q5, d5, rfl, hj, hk⟩ := told_jd ht; have hm5 : m5 = m4 := (by rw [← hj.lm]; exact HKL.out.1); subst hm5; have J5 := hide hj; have K5 := hide hk; clear ht hj hk hjo)
            have hlk := like_yes bo4 bo1 m5 c4 c1 KK w13 HKL.out.1 (by omega) (J4.out.kept K5.out).rs ((JK.out.kept K4.out).kept K5.out).rs
            go_wp2_with (first
              | (have z := hlk; go_at_call 15; refine hlk.mono ?_; rintro r w14 ⟨rfl, hk⟩; have G1 := hide hk; clear hk hlk z; have hll := like_yes bo5 bo1 m5 c5 c1 KK w14 HKL.out.1 (by omega) (J5.out.kept G1.out).rs (((JK.out.kept K4.out).kept K5.out).kept G1.out).rs)
              | (go_at_call 15; refine hll.mono ?_; rintro r w15 ⟨rfl, hk⟩; have G2 := hide (G1.out.trans hk (by simp)); clear hk hll)
              | (go_at_call 8; refine (awake_ok _).mono ?_; rintro r w16 ⟨rfl, hk⟩; have HD := hide hk; clear hk))
            go_ret
            exact ⟨rfl, (((((KB.out.trans KR.out (by simp)).trans K4.out (by simp)).trans K5.out (by simp)).trans G2.out (by simp)).trans HD.out (by simp)).below (Nat.le_refl _) (by simp)⟩
end Go.Proofs.Ytdeneflgldagpab
