/-
  Contract: freightref9.Walk.open. (Written by tools/qtd.py.)
-/
import Derived.Test.YtngaimahhgmciaaGreatDoorQtcp
import Derived.Test.YtngaimahhgmciaaGreatDoorOgp
namespace Go.Proofs.YtngaimahhgmciaaGreatDoor
open Go.RowKit Go.Lib Go.Sort
set_option linter.unusedVariables false
set_option linter.unusedSimpArgs false

theorem own_typesT {w : World} {B s : Nat} {e T : TypeId} {v : Value} {n q : Nat} {xs : List Value} {cs : Array Value} {fr : Nat × Nat} (h : w.ownsRow B e s v n xs) (hq : w.heap[q]? = some (.cells cs T fr)) (hT : T ≠ e) : ∀ g, v.ownBlock = some g → g ≠ q := by
  rintro g hg rfl
  exact own_cell9 h hq (Ne.symm hT) hg
theorem ownE_baseT {w : World} {b1 b2 : Nat} {v : Value} {E : List Ent} (h : OwnE w b1 v E) (hb : b2 ≤ b1) : OwnE w b2 v E := ⟨own_base9 h.1 hb, h.2⟩
theorem ent_id_atT {w : World} {b off : Nat} {e : Ent} (h : w.rangeAt b off e.cells) : w.rangeAt b (off + 2) (bys e.id) := fun j v hv => by
  have h1 := h (2 + j) v (by unfold Ent.cells; rw [show 2 + j = j + 1 + 1 by omega]; simpa using hv)
  rwa [← Nat.add_assoc] at h1
theorem ent_kind_atT {w : World} {b off : Nat} {e : Ent} (h : w.rangeAt b off e.cells) : w.cell? ⟨b, off + 1, none⟩ = some (.int .i64 e.kind) := h 1 _ rfl
theorem up_nodupT {R : List (List UInt8)} (h : Up R) : R.Nodup := by
  refine List.Pairwise.imp ?_ h
  rintro a b h1 rfl
  have := cmp_swap a a
  omega
theorem fold_inU {R U l : List (List UInt8)} (hu : Up R) (hR : ∀ q ∈ R, q ∈ U) (hl : ∀ q ∈ l, q ∈ U) : Up (l.foldl wth R) ∧ ∀ q ∈ l.foldl wth R, q ∈ U := by
  obtain ⟨h1, h2⟩ := foldl_wth l R hu
  refine ⟨h1, fun q hq => ?_⟩
  rcases (h2 q).1 hq with h | h
  · exact hR q h
  · exact hl q h

set_option maxHeartbeats 6400000 in
set_option maxRecDepth 100000 in
theorem open9_ok {w0 w : World} {g : Nat} {va vn vb vd vl vx : Value} {R : Rw} {dp NX U : List (List UInt8)} {cd : Int} {ci : List UInt8} {X : List (Value × List (List UInt8))} (hW : Wk9 w w0.heap.size g va vn vb vd vl R dp cd ci ((vx, NX) :: X)) (hK : Kept [] w0 w)
    {si sd sc : Value} {I : List (List UInt8)} {D : List Value} {C : List Int} {f : List UInt8 → An} {cf : List UInt8 → Int} (hS : Sr9 w0 si sd sc I D C) (hF : Fnd9 w0 I D C f cf) (i : List UInt8) (hi : i.length = 32) (huB : Up R.bad) (hlB : (R.bad.length + 2) * 32 ≤ 140737488355328) (hn : I.length ≤ 4611686018427387904)
    (hU : (U.length + 2) * 32 ≤ 140737488355328) (huN : Up R.need) (huX : Up NX) (hNU : ∀ q ∈ R.need, q ∈ U) (hXU : ∀ q ∈ NX, q ∈ U) (hUE : ∀ xs E, f i = .data xs → Tn.parse xs = some E → ∀ e ∈ E, e.id ∈ U) (hIE : ∀ xs E, f i = .data xs → Tn.parse xs = some E → E.length ≤ 2251799813685248) :
    Calls Tryz.prog 44 #[.pointer (some ⟨g, 0, none⟩), .agg #[si, sd, sc], .agg (bys i).toArray, vx] w fun e w' => ∃ vx' vn' vb', e = .returned vx' ∧ Kept [] w0 w' ∧ Wk9 w' w0.heap.size g va vn' vb' vd vl (R.openE i NX (f i)).1 dp cd ci ((vx', (R.openE i NX (f i)).2) :: X) := by
  obtain ⟨S, hSS⟩ : ∃ r, r = w.heap.size := ⟨_, rfl⟩
  obtain ⟨G, hG⟩ : ∃ r, r = w.heap.size + 1 := ⟨_, rfl⟩
  have h1 := heap_alloc2_old w (.cells #[si, sd, sc] 39) (.cells (bys i).toArray 25)
  have h2 := heap_alloc2_new w (.cells #[si, sd, sc] 39) (.cells (bys i).toArray 25)
  have hk0 : Kept [] w ((w.alloc (.cells #[si, sd, sc] 39)).alloc (.cells (bys i).toArray 25)) := ((Kept.refl [] w).alloc _).alloc _
  rw [← hSS] at h1
  rw [← hG] at h2
  have HW0 := hide (And.intro (hK.trans hk0 (by simp)) (And.intro (hW.kept hk0) (And.intro h1 h2)))
  have HS := hide hS
  have HF := hide hF
  have hil := idl i hi
  have hial : (Tryz.prog.info? 39).map (·.size) = some [si, sd, sc].length := Tryz.infoSr9
  clear hS hF hk0 h1 h2 hW hK
  go_enter Tryz.func44, Tryz.ntmps44
  go_upto_region 1 with (fail)
  rw [← hG, ← hSS]
  clear hG hSS
  generalize (w.alloc _).alloc _ = w1 at HW0 ⊢
  have HK := hide HW0.out.1
  have HW := hide HW0.out.2.1
  have HR := hide HW0.out.2.2
  clear HW0
  have hrowS : w1.rangeAt S 0 [si, sd, sc] := row_rangeK HR.out.1
  have hri : w1.rangeAt G 0 (bys i) := row_rangeK HR.out.2
  have hfind := find9_ok si sd sc I D C i w1 (HS.out.kept HK.out) hi hn
  cases hfi : f i with
  | lack =>
    as_aux_lemma =>
    obtain ⟨fv, fc, hfe⟩ : ∃ fv fc, fnd9 I D C i = (fv, fc) := ⟨_, _, rfl⟩
    rw [hfe] at hfind
    have hne : (fc != 0) = true := by
      have h := HF.out.lack i hfi
      rw [hfe] at h
      rcases h with h | h <;> (cases h; rfl)
    have HE : Hid (R.openE i NX (f i) = (R, NX)) := hide (by rw [hfi]; rfl)
    clear hfe hfi
    go_upto_region 2 with (first
      | refine wpList_load_mid rfl 39 (.tmp 5) rfl S 0 rfl [si, sd, sc] _ hrowS Tryz.underlying39 rfl hial ?_
      | refine wpList_load_mid rfl 25 (.tmp 6) rfl G 0 rfl (bys i) _ hri Tryz.underlying25 rfl hil ?_
      | (go_at_call 17; refine hfind.mono ?_; rintro e w2 ⟨rfl, hk6⟩; have HK2 := hide (HK.out.trans hk6 (by simp)); have HW2 := hide (HW.out.kept hk6); have HG2 := hide ((hk6.block G (Array.getElem?_eq_some_iff.1 HR.out.2).1 (by simp)).trans HR.out.2); clear hfind hk6 hrowS hri))
    clear HW HK HR
    go_wp2
    go_ret
    exact ⟨_, _, _, rfl, HK2.out, by rw [HE.out]; exact HW2.out⟩
  | fail =>
    as_aux_lemma =>
    obtain ⟨fv, fc, hfe⟩ : ∃ fv fc, fnd9 I D C i = (fv, fc) := ⟨_, _, rfl⟩
    rw [hfe] at hfind
    have hne : (fc != 0) = true := by
      have h := (HF.out.fail i hfi).1
      have h2 := (HF.out.fail i hfi).2.1
      rw [hfe] at h
      have h : fc = cf i := h
      rw [h]
      simpa using h2
    have HE : Hid (R.openE i NX (f i) = (R, NX)) := hide (by rw [hfi]; rfl)
    clear hfe hfi
    go_upto_region 2 with (first
      | refine wpList_load_mid rfl 39 (.tmp 5) rfl S 0 rfl [si, sd, sc] _ hrowS Tryz.underlying39 rfl hial ?_
      | refine wpList_load_mid rfl 25 (.tmp 6) rfl G 0 rfl (bys i) _ hri Tryz.underlying25 rfl hil ?_
      | (go_at_call 17; refine hfind.mono ?_; rintro e w2 ⟨rfl, hk6⟩; have HK2 := hide (HK.out.trans hk6 (by simp)); have HW2 := hide (HW.out.kept hk6); have HG2 := hide ((hk6.block G (Array.getElem?_eq_some_iff.1 HR.out.2).1 (by simp)).trans HR.out.2); clear hfind hk6 hrowS hri))
    clear HW HK HR
    go_wp2
    go_ret
    exact ⟨_, _, _, rfl, HK2.out, by rw [HE.out]; exact HW2.out⟩
  | data xs =>
    obtain ⟨ao, c, hfe, hle, hmx, hsl⟩ := HF.out.data i xs hfi
    rw [hfe] at hfind
    have HSL := hide (And.intro hle (And.intro hmx hsl))
    have HFI := hide hfi
    obtain ⟨xn, hxn⟩ : ∃ n, xs.length = n := ⟨_, rfl⟩
    rw [hxn] at hfind
    have HXN := hide hxn
    clear hfe hle hmx hsl hfi hxn
    go_upto_region 2 with (first
      | refine wpList_load_mid rfl 39 (.tmp 5) rfl S 0 rfl [si, sd, sc] _ hrowS Tryz.underlying39 rfl hial ?_
      | refine wpList_load_mid rfl 25 (.tmp 6) rfl G 0 rfl (bys i) _ hri Tryz.underlying25 rfl hil ?_
      | (go_at_call 17; refine hfind.mono ?_; rintro e w2 ⟨rfl, hk6⟩; have HK2 := hide (HK.out.trans hk6 (by simp)); have HW2 := hide (HW.out.kept hk6); have HG2 := hide ((hk6.block G (Array.getElem?_eq_some_iff.1 HR.out.2).1 (by simp)).trans HR.out.2); clear hfind hk6 hrowS hri))
    clear HW HK HR
    have hpr := refparse_ok ao xn c xs w2 HXN.out (by have := HSL.out.2.1; rw [HXN.out] at this; exact this) (by have := HSL.out.1; rw [HXN.out] at this; exact this) (HSL.out.2.2.kept HK2.out (by simp))
    cases hp : Tn.parse xs with
    | none =>
      as_aux_lemma =>
      rw [hp] at hpr
      go_upto_region 5 with (go_at_call 41; refine hpr.mono ?_; rintro e w3 ⟨⟨ve, rfl, hoe⟩, hb2⟩; have HK3 := hide (Kept.of_below hb2); have HOE := hide hoe; clear hpr hb2 hoe)
      obtain ⟨ea, ec, hve, _, _, _, _⟩ := HOE.out.ents
      have hve : ve = .slice ea 0 ec := hve
      subst hve
      have hcd : (Tn.code false != 0) = true := by decide
      have HV := hide (HW2.out.kept HK3.out)
      have HKV := hide (HK2.out.trans HK3.out (by simp))
      have HG3 := hide ((HK3.out.block G (Array.getElem?_eq_some_iff.1 HG2.out).1 (by simp)).trans HG2.out)
      have HE : Hid (R.openE i NX (f i) = ({ R with bad := wth R.bad i }, NX)) := hide (by rw [HFI.out]; simp only [Rw.openE, hp])
      clear hp HOE HW2 HK2 HG2
      go_upto_region 6 with (fail)
      have cB := HV.out.cb
      have hri3 : w3.rangeAt G 0 (bys i) := row_rangeK HG3.out
      obtain ⟨al, cl, el, _⟩ := own_shape HV.out.b.1.1
      obtain ⟨nL, hnL⟩ : ∃ n, R.bad.length = n := ⟨_, rfl⟩
      rw [hnL] at el
      subst el
      clear hnL
      have hwith := fun W (hW : Kept [] w3 W) => with9b_ok w0.heap.size al nL cl R.bad i W ((HV.out.kept hW).b.1) (HV.out.kept hW).BS huB hi hlB
      refine wp_region_late (fun w' => Kept [] w3 w') (fun i => i == 9) (by kernel_rfl) ?_
      have h0 : Kept [] w3 w3.drew := (Kept.refl [] w3).drew
      generalize World.drew w3 = v0 at h0 ⊢
      refine wpAnyL_free (i := 0) (v := .pointer (some ⟨g, 0, none⟩)) rfl (by kernel_rfl) (by kernel_rfl) (by kernel_rfl) (fun _ _ _ h => h) (Or.inl ⟨by rfl, fun w _ => by go_simp⟩) ?_
      try simp only [List.getElem_toArray, List.getElem_cons_zero, List.getElem_cons_succ, Act.put, List.setIfInBounds_toArray, List.set_cons_zero, List.set_cons_succ]
      refine wpAnyL_free (i := 1) (v := .pointer (some ⟨g, 0, none⟩)) rfl (by kernel_rfl) (by kernel_rfl) (by kernel_rfl) (fun _ _ _ h => h) (Or.inl ⟨by rfl, fun w _ => by go_simp⟩) ?_
      try simp only [List.getElem_toArray, List.getElem_cons_zero, List.getElem_cons_succ, Act.put, List.setIfInBounds_toArray, List.set_cons_zero, List.set_cons_succ]
      refine wpAnyL_free (i := 2) (v := .pointer (some ⟨g, 0, none⟩)) rfl (by kernel_rfl) (by kernel_rfl) (by kernel_rfl) (fun _ _ _ h => h) (Or.inl ⟨by rfl, fun w _ => by go_simp⟩) ?_
      try simp only [List.getElem_toArray, List.getElem_cons_zero, List.getElem_cons_succ, Act.put, List.setIfInBounds_toArray, List.set_cons_zero, List.set_cons_succ]
      refine wpAnyL_free (i := 3) (v := .pointer (some ⟨g, 2, none⟩)) rfl (by kernel_rfl) (by kernel_rfl) (by kernel_rfl) (fun _ _ _ h => h) (Or.inl ⟨by rfl, fun w _ => by go_simp⟩) ?_
      try simp only [List.getElem_toArray, List.getElem_cons_zero, List.getElem_cons_succ, Act.put, List.setIfInBounds_toArray, List.set_cons_zero, List.set_cons_succ]
      refine wpAnyL_take (i := 4) (v := .slice al nL cl) rfl (by kernel_rfl) (by kernel_rfl) (by kernel_rfl) (by kernel_rfl) (by kernel_rfl) (fun _ _ _ h => h) (Or.inl ⟨by rfl, fun w hSw => by have c := Kept.cellOf hSw cB (by simp); go_simp⟩) h0 ?_
      try simp only [List.getElem_toArray, List.getElem_cons_zero, List.getElem_cons_succ, Act.put, List.setIfInBounds_toArray, List.set_cons_zero, List.set_cons_succ]
      refine wpAnyL_take (i := 5) (v := .agg (bys i).toArray) rfl (by kernel_rfl) (by kernel_rfl) (by kernel_rfl) (by kernel_rfl) (by kernel_rfl) (fun _ _ _ h => h) (yieldsIf_load_mid (by rfl) _ _ rfl G (0) rfl (bys i) _ (fun W h => fun jj u hu => Kept.cellOf h (hri3 jj u hu) (by simp)) Tryz.underlying25 rfl hil) h0 ?_
      try simp only [List.getElem_toArray, List.getElem_cons_zero, List.getElem_cons_succ, Act.put, List.setIfInBounds_toArray, List.set_cons_zero, List.set_cons_succ]
      refine wpAnyL_one (i := 6) (by kernel_rfl) rfl (fun K' hK => ?_)
      rw [if_pos (by rfl)]
      go_simp
      refine (hwith v0 h0).mono ?_
      rintro e w7 ⟨vq', rfl, hol, hk6, hor⟩
      obtain ⟨a', c', e', _⟩ := own_shape hol.1
      obtain ⟨n', hn'⟩ : ∃ n, (wth R.bad i).length = n := ⟨_, rfl⟩
      rw [hn'] at e'
      clear hn'
      subst e'
      have hcs : w7.cell? ⟨g, 2, none⟩ = some (.slice al nL cl) := hk6.cellOf (h0.cellOf cB (by simp)) (by simp)
      have hfz : w7.frozen? ⟨g, 2, none⟩ = false := ((HV.out.kept h0).kept hk6).fz 2
      refine hK.out _ _ (fun _ _ => h0.trans hk6 (by simp)) ?_
      clear hK K'
      try simp only [List.getElem_toArray, List.getElem_cons_zero, List.getElem_cons_succ, Act.put, List.setIfInBounds_toArray, List.set_cons_zero, List.set_cons_succ]
      refine wpAnyL_free (i := 7) (v := .pointer (some ⟨g, 0, none⟩)) rfl (by kernel_rfl) (by kernel_rfl) (by kernel_rfl) (fun _ _ _ h => h) (Or.inl ⟨by rfl, fun w _ => by go_simp⟩) ?_
      try simp only [List.getElem_toArray, List.getElem_cons_zero, List.getElem_cons_succ, Act.put, List.setIfInBounds_toArray, List.set_cons_zero, List.set_cons_succ]
      refine wpAnyL_free (i := 8) (v := .pointer (some ⟨g, 2, none⟩)) rfl (by kernel_rfl) (by kernel_rfl) (by kernel_rfl) (fun _ _ _ h => h) (Or.inl ⟨by rfl, fun w _ => by go_simp⟩) ?_
      try simp only [List.getElem_toArray, List.getElem_cons_zero, List.getElem_cons_succ, Act.put, List.setIfInBounds_toArray, List.set_cons_zero, List.set_cons_succ]
      refine wpAnyL_one (i := 9) (by kernel_rfl) rfl (fun K' hK => ?_)
      rw [if_pos (by rfl)]
      go_simp
      refine hK.out _ _ (fun _ h => by cases h) ?_
      clear hK K'
      try simp only [List.getElem_toArray, List.getElem_cons_zero, List.getElem_cons_succ, Act.put, List.setIfInBounds_toArray, List.set_cons_zero, List.set_cons_succ]
      refine wpAnyL_done (by kernel_rfl) ?_ _
      have hV := HV.out.kept h0
      have hap := Apt.withd hV.b.2 hV.a hor
      have hset := (hV.kept hk6).setB hol hap
      have HKF : Hid (Kept [] w0 (w7.setCell ⟨g, 2, none⟩ (.slice a' n' c'))) := hide (((HKV.out.trans h0 (by simp)).trans hk6 (by simp)).trans ((Kept.refl [g] w7).setCell (fun _ => by simp) _) (fun j hj hlt => by have h3 := hV.gB; have : j = g := (by simpa using hj); omega))
      have HWF := hide hset
      clear hset hap hV hwith cB hri3 h0 hk6 hor hol hcs hfz HV HKV HG3 HK3
      generalize w7.setCell ⟨g, 2, none⟩ (.slice a' n' c') = w8 at HKF HWF ⊢
      go_wp2
      go_loopw [3, 13] (fun x y wr => x = vx ∧ y = .int .i64 0 ∧ wr = w8) (fun x y wr => 0)
      case atStart => exact ⟨rfl, rfl, rfl⟩
      case round =>
        obtain ⟨rfl, rfl, rfl⟩ := hrel
        go_wp2
        go_ret
        exact ⟨_, _, _, rfl, HKF.out, by rw [HE.out]; exact HWF.out⟩
    | some E =>
      as_aux_lemma =>
      rw [hp] at hpr
      go_upto_region 5 with (go_at_call 41; refine hpr.mono ?_; rintro e w3 ⟨⟨ve, rfl, hoe⟩, hb2⟩; have HK3 := hide (Kept.of_below hb2); have HOE := hide hoe; clear hpr hb2 hoe)
      obtain ⟨ea, ec, hve, hvl, _, _, _⟩ := HOE.out.ents
      have hee : (some E).getD [] = E := rfl
      rw [hee] at hve hvl HOE
      clear hee
      obtain ⟨en, hen⟩ : ∃ m, E.length = m := ⟨_, rfl⟩
      rw [hen] at hve hvl
      subst hve
      have HEN := hide hen
      have HEB : Hid (en ≤ 2251799813685248) := hide (by rw [← hen]; have := HOE.out.1.1; have h2 := hIE xs E HFI.out hp; omega)
      have HV := hide (HW2.out.kept HK3.out)
      have HKV := hide (HK2.out.trans HK3.out (by simp))
      have hc0 : Tn.code true = 0 := rfl
      have HE : Hid (R.openE i NX (f i) = ({ R with need := (E.map (·.id)).foldl wth R.need }, (fldsE E).foldl wth NX)) := hide (by rw [HFI.out]; simp only [Rw.openE, hp])
      have HUE : Hid (∀ e ∈ E, e.id ∈ U) := hide (hUE xs E HFI.out hp)
      have HK2S : Hid (w0.heap.size ≤ w2.heap.size) := hide HK2.out.size
      clear hp hen HW2 HK2 HG2
      try rw [hc0]
      have HOE3 : Hid (OwnE w3 w0.heap.size (.slice ea en ec) E) := hide (ownE_baseT HOE.out HK2S.out)
      go_wp2
      go_loopw [3, 13] (fun x y wr => ∃ (vq vm : Value) (j : Nat), j ≤ en ∧ y = .int .i64 j ∧ vq = x ∧ Hid (Wk9 wr w0.heap.size g va vm vb vd vl { R with need := ((E.take j).map (·.id)).foldl wth R.need } dp cd ci ((vq, (fldsE (E.take j)).foldl wth NX) :: X) ∧ OwnE wr w0.heap.size (.slice ea en ec) E ∧ Kept [] w0 wr)) (fun x y wr => en - (intOf y).toNat)
      case atStart => exact ⟨_, vn, 0, Nat.zero_le _, rfl, rfl, hide ⟨HV.out, HOE3.out, HKV.out⟩⟩
      case round =>
        clear HV HKV HOE3 HOE HK3
        obtain ⟨vq, vm, j, hj, rfl, rfl, HP⟩ := hrel
        by_cases hlt : j < en
        · as_aux_lemma =>
          have hlt1 : (j : Int) < (en : Int) := by omega
          have hnb : en ≤ 2251799813685248 := HEB.out
          have hjl : j < E.length := by rw [HEN.out]; exact hlt
          obtain ⟨a0, c0, hv0, _, hents, _, _⟩ := HP.out.2.1.ents
          injection hv0 with hv1 hv2 hv3
          clear hv2 hv3
          subst hv1
          obtain ⟨ge, oe, hae, hrg, hok⟩ := hents j hjl
          subst hae
          obtain ⟨x, hx⟩ : ∃ x, E.getD j ent0 = x := ⟨_, rfl⟩
          have hxE : x ∈ E := by rw [← hx]; exact getD_mem hjl
          rw [hx] at hrg hok
          have hq9 := hok.idl
          have hrid := ent_id_atT hrg
          have hkd := ent_kind_atT hrg
          have htk : (E.take (j + 1)).map (·.id) = (E.take j).map (·.id) ++ [x.id] := by
            rw [List.take_succ_eq_append_getElem hjl, List.map_append, ← hx]
            simp [List.getElem?_eq_getElem hjl]
          have hfs := fldsE_snoc E j hjl
          rw [hx] at hfs
          have hxU := HUE.out x hxE
          have hne1 := fold_inU huN hNU (l := (E.take j).map (·.id)) (fun q hq => by obtain ⟨e, he, rfl⟩ := List.mem_map.1 hq; exact HUE.out e (List.mem_of_mem_take he))
          have hne2 := fold_inU huX hXU (l := fldsE (E.take j)) (fun q hq => by unfold fldsE at hq; obtain ⟨e, he, rfl⟩ := List.mem_map.1 hq; exact HUE.out e (List.mem_of_mem_take (List.mem_filter.1 he).1))
          obtain ⟨kd, hkde⟩ : ∃ kd, x.kind = kd := ⟨_, rfl⟩
          obtain ⟨xi, hxie⟩ : ∃ xi, x.id = xi := ⟨_, rfl⟩
          rw [hxie] at hq9 hrid htk hfs
          rw [hkde] at hkd hfs
          have hxl := idl xi hq9
          obtain ⟨N1, hN1⟩ : ∃ N, ((E.take j).map (·.id)).foldl wth R.need = N := ⟨_, rfl⟩
          obtain ⟨N2, hN2⟩ : ∃ N, (fldsE (E.take j)).foldl wth NX = N := ⟨_, rfl⟩
          have HTK : Hid (((E.take (j + 1)).map (·.id)).foldl wth R.need = wth N1 xi) := hide (by rw [htk, List.foldl_append, hN1]; rfl)
          have HFS : Hid ((fldsE (E.take (j + 1))).foldl wth NX = if (kd == 3) = true then wth N2 xi else N2) := hide (by
            rw [hfs, List.foldl_append, hN2]
            split <;> rfl)
          rw [hN1] at hne1
          rw [hN2] at hne2
          have HV : Hid (Wk9 wr w0.heap.size g va vm vb vd vl { R with need := N1 } dp cd ci ((vq, N2) :: X)) := hide (by have h := HP.out.1; rw [hN1, hN2] at h; exact h)
          have HRI := hide hrid
          have HKD := hide hkd
          have hb1 : (N1.length + 2) * 32 ≤ 140737488355328 := by have := nodup_le (up_nodupT hne1.1) hne1.2; omega
          have hb2 : (N2.length + 2) * 32 ≤ 140737488355328 := by have := nodup_le (up_nodupT hne2.1) hne2.2; omega
          have hu1 := hne1.1
          have hu2 := hne2.1
          obtain ⟨al, cl, el, _⟩ := own_shape HV.out.n.1.1
          obtain ⟨nL, hnL⟩ : ∃ n, ({ R with need := N1 } : Rw).need.length = n := ⟨_, rfl⟩
          rw [hnL] at el
          subst el
          clear hnL hne1 hne2 hN1 hN2 htk hfs hx hxE hxU hxie hkde hrg hok hents hkd
          go_upto_region 10 with (fail)
          have cN := HV.out.cn
          have hwith := fun W (hW : Kept [] wr W) => with9b_ok w0.heap.size al nL cl N1 xi W ((HV.out.kept hW).n.1) (HV.out.kept hW).BS hu1 hq9 hb1
          refine wp_region_late (fun w' => Kept [] wr w') (fun i => i == 13) (by kernel_rfl) ?_
          have h0 : Kept [] wr wr.drew := (Kept.refl [] wr).drew
          generalize World.drew wr = v0 at h0 ⊢
          refine wpAnyL_free (i := 0) (v := .pointer (some ⟨g, 0, none⟩)) rfl (by kernel_rfl) (by kernel_rfl) (by kernel_rfl) (fun _ _ _ h => h) (Or.inl ⟨by rfl, fun w _ => by go_simp⟩) ?_
          try simp only [List.getElem_toArray, List.getElem_cons_zero, List.getElem_cons_succ, Act.put, List.setIfInBounds_toArray, List.set_cons_zero, List.set_cons_succ]
          refine wpAnyL_free (i := 1) (v := .pointer (some ⟨g, 0, none⟩)) rfl (by kernel_rfl) (by kernel_rfl) (by kernel_rfl) (fun _ _ _ h => h) (Or.inl ⟨by rfl, fun w _ => by go_simp⟩) ?_
          try simp only [List.getElem_toArray, List.getElem_cons_zero, List.getElem_cons_succ, Act.put, List.setIfInBounds_toArray, List.set_cons_zero, List.set_cons_succ]
          refine wpAnyL_free (i := 2) (v := .pointer (some ⟨g, 0, none⟩)) rfl (by kernel_rfl) (by kernel_rfl) (by kernel_rfl) (fun _ _ _ h => h) (Or.inl ⟨by rfl, fun w _ => by go_simp⟩) ?_
          try simp only [List.getElem_toArray, List.getElem_cons_zero, List.getElem_cons_succ, Act.put, List.setIfInBounds_toArray, List.set_cons_zero, List.set_cons_succ]
          refine wpAnyL_free (i := 3) (v := .pointer (some ⟨g, 1, none⟩)) rfl (by kernel_rfl) (by kernel_rfl) (by kernel_rfl) (fun _ _ _ h => h) (Or.inl ⟨by rfl, fun w _ => by go_simp⟩) ?_
          try simp only [List.getElem_toArray, List.getElem_cons_zero, List.getElem_cons_succ, Act.put, List.setIfInBounds_toArray, List.set_cons_zero, List.set_cons_succ]
          refine wpAnyL_take (i := 4) (v := .slice al nL cl) rfl (by kernel_rfl) (by kernel_rfl) (by kernel_rfl) (by kernel_rfl) (by kernel_rfl) (fun _ _ _ h => h) (Or.inl ⟨by rfl, fun w hSw => by have c := Kept.cellOf hSw cN (by simp); go_simp⟩) h0 ?_
          try simp only [List.getElem_toArray, List.getElem_cons_zero, List.getElem_cons_succ, Act.put, List.setIfInBounds_toArray, List.set_cons_zero, List.set_cons_succ]
          refine wpAnyL_free (i := 5) (v := .slice (some ⟨ge, oe, none⟩) en ec) rfl (by kernel_rfl) (by kernel_rfl) (by kernel_rfl) (fun _ _ _ h => h) (Or.inl ⟨by rfl, fun w _ => by go_simp⟩) ?_
          try simp only [List.getElem_toArray, List.getElem_cons_zero, List.getElem_cons_succ, Act.put, List.setIfInBounds_toArray, List.set_cons_zero, List.set_cons_succ]
          refine wpAnyL_free (i := 6) (v := .int .i64 j) rfl (by kernel_rfl) (by kernel_rfl) (by kernel_rfl) (fun _ _ _ h => h) (Or.inl ⟨by rfl, fun w _ => by go_simp⟩) ?_
          try simp only [List.getElem_toArray, List.getElem_cons_zero, List.getElem_cons_succ, Act.put, List.setIfInBounds_toArray, List.set_cons_zero, List.set_cons_succ]
          refine wpAnyL_free (i := 7) (v := .pointer (some ⟨ge, oe + j * 34, none⟩)) rfl (by kernel_rfl) (by kernel_rfl) (by kernel_rfl) (fun _ _ _ h => h) (Or.inl ⟨by rfl, fun w _ => by go_simp⟩) ?_
          try simp only [List.getElem_toArray, List.getElem_cons_zero, List.getElem_cons_succ, Act.put, List.setIfInBounds_toArray, List.set_cons_zero, List.set_cons_succ]
          refine wpAnyL_free (i := 8) (v := .pointer (some ⟨ge, oe + j * 34 + 2, none⟩)) rfl (by kernel_rfl) (by kernel_rfl) (by kernel_rfl) (fun _ _ _ h => h) (Or.inl ⟨by rfl, fun w _ => by go_simp⟩) ?_
          try simp only [List.getElem_toArray, List.getElem_cons_zero, List.getElem_cons_succ, Act.put, List.setIfInBounds_toArray, List.set_cons_zero, List.set_cons_succ]
          refine wpAnyL_take (i := 9) (v := .agg (bys xi).toArray) rfl (by kernel_rfl) (by kernel_rfl) (by kernel_rfl) (by kernel_rfl) (by kernel_rfl) (fun _ _ _ h => h) (yieldsIf_load_mid (by rfl) _ _ rfl ge (oe + j * 34 + 2) rfl (bys xi) _ (fun W h => fun jj u hu => Kept.cellOf h (hrid jj u hu) (by simp)) Tryz.underlying25 rfl hxl) h0 ?_
          try simp only [List.getElem_toArray, List.getElem_cons_zero, List.getElem_cons_succ, Act.put, List.setIfInBounds_toArray, List.set_cons_zero, List.set_cons_succ]
          refine wpAnyL_one (i := 10) (by kernel_rfl) rfl (fun K' hK => ?_)
          rw [if_pos (by rfl)]
          go_simp
          refine (hwith v0 h0).mono ?_
          rintro e w7 ⟨vq', rfl, hol, hk6, hor⟩
          obtain ⟨a', c', e', _⟩ := own_shape hol.1
          obtain ⟨n', hn'⟩ : ∃ n, (wth N1 xi).length = n := ⟨_, rfl⟩
          rw [hn'] at e'
          clear hn'
          subst e'
          have hcs : w7.cell? ⟨g, 1, none⟩ = some (.slice al nL cl) := hk6.cellOf (h0.cellOf cN (by simp)) (by simp)
          have hfz : w7.frozen? ⟨g, 1, none⟩ = false := ((HV.out.kept h0).kept hk6).fz 1
          refine hK.out _ _ (fun _ _ => h0.trans hk6 (by simp)) ?_
          clear hK K'
          try simp only [List.getElem_toArray, List.getElem_cons_zero, List.getElem_cons_succ, Act.put, List.setIfInBounds_toArray, List.set_cons_zero, List.set_cons_succ]
          refine wpAnyL_free (i := 11) (v := .pointer (some ⟨g, 0, none⟩)) rfl (by kernel_rfl) (by kernel_rfl) (by kernel_rfl) (fun _ _ _ h => h) (Or.inl ⟨by rfl, fun w _ => by go_simp⟩) ?_
          try simp only [List.getElem_toArray, List.getElem_cons_zero, List.getElem_cons_succ, Act.put, List.setIfInBounds_toArray, List.set_cons_zero, List.set_cons_succ]
          refine wpAnyL_free (i := 12) (v := .pointer (some ⟨g, 1, none⟩)) rfl (by kernel_rfl) (by kernel_rfl) (by kernel_rfl) (fun _ _ _ h => h) (Or.inl ⟨by rfl, fun w _ => by go_simp⟩) ?_
          try simp only [List.getElem_toArray, List.getElem_cons_zero, List.getElem_cons_succ, Act.put, List.setIfInBounds_toArray, List.set_cons_zero, List.set_cons_succ]
          refine wpAnyL_one (i := 13) (by kernel_rfl) rfl (fun K' hK => ?_)
          rw [if_pos (by rfl)]
          go_simp
          refine hK.out _ _ (fun _ h => by cases h) ?_
          clear hK K'
          try simp only [List.getElem_toArray, List.getElem_cons_zero, List.getElem_cons_succ, Act.put, List.setIfInBounds_toArray, List.set_cons_zero, List.set_cons_succ]
          refine wpAnyL_done (by kernel_rfl) ?_ _
          have hV := HV.out.kept h0
          have hap := Apt.withd hV.n.2 hV.a hor
          have hset := (hV.kept hk6).setN hol hap
          have hks : Kept [g] w7 (w7.setCell ⟨g, 1, none⟩ (.slice a' n' c')) := (Kept.refl [g] w7).setCell (fun _ => by simp) _
          have hEk := (HP.out.2.1.kept h0 (fun _ _ => by simp)).kept hk6 (fun _ _ => by simp)
          have hgG : ge ≠ g := own_typesT hEk.1 (hV.kept hk6).row (by decide) ge rfl
          have HEF : Hid (OwnE (w7.setCell ⟨g, 1, none⟩ (.slice a' n' c')) w0.heap.size (.slice (some ⟨ge, oe, none⟩) en ec) E) := hide (hEk.kept hks (fun g2 hg2 => by simpa using own_typesT hEk.1 (hV.kept hk6).row (by decide) g2 hg2))
          have HKF : Hid (Kept [] w0 (w7.setCell ⟨g, 1, none⟩ (.slice a' n' c'))) := hide (((HP.out.2.2.trans h0 (by simp)).trans hk6 (by simp)).trans hks (fun j2 hj2 hlt => by have h3 := hV.gB; have : j2 = g := (by simpa using hj2); omega))
          have HWF := hide hset
          have hrid : (w7.setCell ⟨g, 1, none⟩ (.slice a' n' c')).rangeAt ge (oe + j * 34 + 2) (bys xi) := fun jj u hu => hks.cellOf (hk6.cellOf (h0.cellOf (HRI.out jj u hu) (by simp)) (by simp)) (by simpa using hgG)
          have hkd : (w7.setCell ⟨g, 1, none⟩ (.slice a' n' c')).cell? ⟨ge, oe + j * 34 + 1, none⟩ = some (.int .i64 kd) := hks.cellOf (hk6.cellOf (h0.cellOf HKD.out (by simp)) (by simp)) (by simpa using hgG)
          clear hset hap hV hwith cN h0 hk6 hor hol hcs hfz HV HP HRI HKD hEk hks hgG
          generalize w7.setCell ⟨g, 1, none⟩ (.slice a' n' c') = w8 at HKF HWF HEF hrid hkd ⊢
          by_cases hk3 : (kd == 3) = true
          · obtain rfl : kd = 3 := by simpa using hk3
            have hox : OwnI w8 w0.heap.size vq N2 := (HWF.out.x (vq, N2) (by simp)).1
            obtain ⟨ax, cx, ex, _⟩ := own_shape hox.1
            obtain ⟨nX, hnX⟩ : ∃ n, N2.length = n := ⟨_, rfl⟩
            rw [hnX] at ex
            clear hox
            subst ex
            clear hnX
            have hw2 := with9b_ok w0.heap.size ax nX cx N2 xi w8 ((HWF.out.x (.slice ax nX cx, N2) (by simp)).1) HWF.out.BS hu2 hq9 hb2
            go_upto_region 9 with (first
              | refine wpList_load_mid rfl 25 (.tmp 68) rfl ge (oe + j * 34 + 2) rfl (bys xi) _ hrid Tryz.underlying25 rfl hxl ?_
              | (go_at_call 33; refine hw2.mono ?_; rintro e w9 ⟨vz, rfl, hoz, hkz, hor⟩; have HZ := hide (And.intro hoz (And.intro hkz hor)); clear hw2 hoz hkz hor))
            have HWZ : Hid (Wk9 w9 w0.heap.size g va (.slice a' n' c') vb vd vl { R with need := wth N1 xi } dp cd ci ((vz, wth N2 xi) :: X)) := hide ((HWF.out.kept HZ.out.2.1).with_ HZ.out.1 (Apt.withd ((HWF.out.x (.slice ax nX cx, N2) (by simp)).2) HWF.out.a HZ.out.2.2) (fun p hp => by
              rcases List.mem_cons.1 hp with rfl | hp
              · exact .inl rfl
              · exact .inr (List.mem_cons_of_mem _ hp)))
            have HKZ := hide (HKF.out.trans HZ.out.2.1 (by simp))
            have HEZ := hide (HEF.out.kept HZ.out.2.1 (fun _ _ => by simp))
            clear HWF HEF HKF HZ hrid hkd
            go_wp2
            go_roundw
            case rel => exact ⟨vz, _, j + 1, by omega, by go_num, rfl, hide ⟨by rw [HTK.out, HFS.out]; exact HWZ.out, HEZ.out, HKZ.out⟩⟩
            case measure => simp [intOf]; omega
          · have hk3f : (kd == 3) = false := by simpa using hk3
            have HWZ := HWF
            clear hrid
            go_wp2
            go_roundw
            case rel => exact ⟨vq, _, j + 1, by omega, by go_num, rfl, hide ⟨by rw [HTK.out, HFS.out, if_neg hk3]; exact HWF.out, HEF.out, HKF.out⟩⟩
            case measure => simp [intOf]; omega
        · obtain rfl : j = en := by omega
          have hlt1 : ¬ (j : Int) < (j : Int) := by omega
          have HF9 : Hid (Wk9 wr w0.heap.size g va vm vb vd vl (R.openE i NX (f i)).1 dp cd ci ((vq, (R.openE i NX (f i)).2) :: X) ∧ Kept [] w0 wr) := hide (by
            rw [HE.out]
            have h := HP.out
            rw [List.take_of_length_le (by rw [HEN.out]; exact Nat.le_refl _)] at h
            exact ⟨h.1, h.2.2⟩)
          clear HP
          go_wp2
          go_ret
          exact ⟨vq, rfl, HF9.out.2, vm, vb, HF9.out.1⟩
end Go.Proofs.YtngaimahhgmciaaGreatDoor
