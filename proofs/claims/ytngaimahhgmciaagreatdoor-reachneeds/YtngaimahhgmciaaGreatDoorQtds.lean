import Derived.Test.YtngaimahhgmciaaGreatDoorQtbs
import Derived.Test.YtngaimahhgmciaaGreatDoorOgs
import Derived.Test.YtngaimahhgmciaaGreatDoorQ9qs
namespace Go.Proofs.YtngaimahhgmciaaGreatDoor
section
open Go.RowKit Go.Lib Go.Sort
set_option linter.unusedVariables false
set_option linter.unusedSimpArgs false
theorem own_typesT {w : World} {B s : Nat} {e T : TypeId} {v : Value} {n q : Nat} {xs : List Value} {cs : Array Value} {fr : Nat × Nat} (h : w.ownsRow B e s v n xs) (hq : w.heap[q]? = some (.cells cs T fr)) (hT : T ≠ e) : ∀ g, v.ownBlock = some g → g ≠ q := by
 rintro g hg rfl
 exact own_cell9 h hq (Ne.symm hT) hg
theorem ownE_baseT {w : World} {b1 b2 : Nat} {v : Value} {E : List Ent} (h : OwnE w b1 v E) (hb : b2 ≤ b1) : OwnE w b2 v E := ⟨own_base9 h.1 hb, h.2⟩
theorem ent_id_atT {w : World} {b off : Nat} {e : Ent} (h : w.rangeAt b off e.cells) : w.rangeAt b (off + 2) (bys e.id) := fun j v hv => by
 have h1 := h (2 + j) v (by unfold Ent.cells; rw [show 2 + j = j + 1 + 1 by omega]; simpa using hv)
 rwa [← Nat.add_assoc] at h1
theorem ent_kind_atT {w : World} {b off : Nat} {e : Ent} (h : w.rangeAt b off e.cells) : w.cell? ⟨b, off + 1, none⟩ = some (.int .i64 e.kind) := h 1 _ rfl
theorem up_nodupT {R : List (List UInt8)} (h : Up R) : R.Nodup := by
 refine List.Pairwise.imp ?_ h
 rintro a b h1 rfl
 have := cmp_swap a a
 omega
theorem fold_inU {R U l : List (List UInt8)} (hu : Up R) (hR : ∀ q ∈ R, q ∈ U) (hl : ∀ q ∈ l, q ∈ U) : Up (l.foldl wth R) ∧ ∀ q ∈ l.foldl wth R, q ∈ U := by
 obtain ⟨h1, h2⟩ := foldl_wth l R hu
 refine ⟨h1, fun q hq => ?_⟩
 rcases (h2 q).1 hq with h | h
 ·exact hR q h
 ·exact hl q h
set_option maxHeartbeats 6400000 in
set_option maxRecDepth 100000 in
theorem open9_ok {w0 w : World} {g : Nat} {va vn vb vd vl vx : Value} {R : Rw} {dp NX U : List (List UInt8)} {cd : Int} {ci : List UInt8} {X : List (Value × List (List UInt8))} (hW : Wk9 w w0.heap.size g va vn vb vd vl R dp cd ci ((vx, NX) :: X)) (hK : Kept [] w0 w)
  {si sd sc : Value} {I : List (List UInt8)} {D : List Value} {C : List Int} {f : List UInt8 → An} {cf : List UInt8 → Int} (hS : Sr9 w0 si sd sc I D C) (hF : Fnd9 w0 I D C f cf) (i : List UInt8) (hi : i.length = 32) (huB : Up R.bad) (hlB : (R.bad.length + 2) * 32 ≤ 140737488355328) (hn : I.length ≤ 4611686018427387904)
  (hU : (U.length + 2) * 32 ≤ 140737488355328) (huN : Up R.need) (huX : Up NX) (hNU : ∀ q ∈ R.need, q ∈ U) (hXU : ∀ q ∈ NX, q ∈ U) (hUE : ∀ xs E, f i = .data xs → Tn.parse xs = some E → ∀ e ∈ E, e.id ∈ U) (hIE : ∀ xs E, f i = .data xs → Tn.parse xs = some E → E.length ≤ 2251799813685248) :
  Calls Tryz.prog 44 #[.pointer (some ⟨g, 0, none⟩), .agg #[si, sd, sc], .agg (bys i).toArray, vx] w fun e w' => ∃ vx' vn' vb', e = .returned vx' ∧ Kept [] w0 w' ∧ Wk9 w' w0.heap.size g va vn' vb' vd vl (R.openE i NX (f i)).1 dp cd ci ((vx', (R.openE i NX (f i)).2) :: X) := by
 obtain ⟨S, hSS⟩ : ∃ r, r = w.heap.size := ⟨_, rfl⟩
 obtain ⟨G, hG⟩ : ∃ r, r = w.heap.size + 1 := ⟨_, rfl⟩
 have h1 := heap_alloc2_old w (.cells #[si, sd, sc] 39) (.cells (bys i).toArray 25)
 have h2 := heap_alloc2_new w (.cells #[si, sd, sc] 39) (.cells (bys i).toArray 25)
 have hk0 : Kept [] w ((w.alloc (.cells #[si, sd, sc] 39)).alloc (.cells (bys i).toArray 25)) := ((Kept.refl [] w).alloc _).alloc _
 rw [← hSS] at h1
 rw [← hG] at h2
 have HW0 := hide (And.intro (hK.trans hk0 (by simp)) (And.intro (hW.kept hk0) (And.intro h1 h2)))
 have HS := hide hS
 have HF := hide hF
 have hil := idl i hi
 have hial : (Tryz.prog.info? 39).map (·.size) = some [si, sd, sc].length := Tryz.infoSr9
 clear hS hF hk0 h1 h2 hW hK
 go_enter Tryz.func44, Tryz.ntmps44
 go_upto_region 1 with (fail)
 rw [← hG, ← hSS]
 clear hG hSS
 generalize (w.alloc _).alloc _ = w1 at HW0 ⊢
 have HK := hide HW0.out.1
 have HW := hide HW0.out.2.1
 have HR := hide HW0.out.2.2
 clear HW0
 have hrowS : w1.rangeAt S 0 [si, sd, sc] := row_rangeK HR.out.1
 have hri : w1.rangeAt G 0 (bys i) := row_rangeK HR.out.2
 have hfind := find9_ok si sd sc I D C i w1 (HS.out.kept HK.out) hi hn
 cases hfi : f i with
 | lack =>
  as_aux_lemma =>
  obtain ⟨fv, fc, hfe⟩ : ∃ fv fc, fnd9 I D C i = (fv, fc) := ⟨_, _, rfl⟩
  rw [hfe] at hfind
  have hne : (fc != 0) = true := by
   have h := HF.out.lack i hfi
   rw [hfe] at h
   rcases h with h | h <;> (cases h; rfl)
  have HE : Hid (R.openE i NX (f i) = (R, NX)) := hide (by rw [hfi]; rfl)
  clear hfe hfi
  go_upto_region 2 with (first
   | refine wpList_load_mid rfl 39 (.tmp 5) rfl S 0 rfl [si, sd, sc] _ hrowS Tryz.underlying39 rfl hial ?_
   | refine wpList_load_mid rfl 25 (.tmp 6) rfl G 0 rfl (bys i) _ hri Tryz.underlying25 rfl hil ?_
   | (go_at_call 17; refine hfind.mono ?_; rintro e w2 ⟨rfl, hk6⟩; have HK2 := hide (HK.out.trans hk6 (by simp)); have HW2 := hide (HW.out.kept hk6); have HG2 := hide ((hk6.block G (Array.getElem?_eq_some_iff.1 HR.out.2).1 (by simp)).trans HR.out.2); clear hfind hk6 hrowS hri))
  clear HW HK HR
  go_wp2
  go_ret
  exact ⟨_, _, _, rfl, HK2.out, by rw [HE.out]; exact HW2.out⟩
 | fail =>
  as_aux_lemma =>
  obtain ⟨fv, fc, hfe⟩ : ∃ fv fc, fnd9 I D C i = (fv, fc) := ⟨_, _, rfl⟩
  rw [hfe] at hfind
  have hne : (fc != 0) = true := by
   have h := (HF.out.fail i hfi).1
   have h2 := (HF.out.fail i hfi).2.1
   rw [hfe] at h
   have h : fc = cf i := h
   rw [h]
   simpa using h2
  have HE : Hid (R.openE i NX (f i) = (R, NX)) := hide (by rw [hfi]; rfl)
  clear hfe hfi
  go_upto_region 2 with (first
   | refine wpList_load_mid rfl 39 (.tmp 5) rfl S 0 rfl [si, sd, sc] _ hrowS Tryz.underlying39 rfl hial ?_
   | refine wpList_load_mid rfl 25 (.tmp 6) rfl G 0 rfl (bys i) _ hri Tryz.underlying25 rfl hil ?_
   | (go_at_call 17; refine hfind.mono ?_; rintro e w2 ⟨rfl, hk6⟩; have HK2 := hide (HK.out.trans hk6 (by simp)); have HW2 := hide (HW.out.kept hk6); have HG2 := hide ((hk6.block G (Array.getElem?_eq_some_iff.1 HR.out.2).1 (by simp)).trans HR.out.2); clear hfind hk6 hrowS hri))
  clear HW HK HR
  go_wp2
  go_ret
  exact ⟨_, _, _, rfl, HK2.out, by rw [HE.out]; exact HW2.out⟩
 | data xs =>
  obtain ⟨ao, c, hfe, hle, hmx, hsl⟩ := HF.out.data i xs hfi
  rw [hfe] at hfind
  have HSL := hide (And.intro hle (And.intro hmx hsl))
  have HFI := hide hfi
  obtain ⟨xn, hxn⟩ : ∃ n, xs.length = n := ⟨_, rfl⟩
  rw [hxn] at hfind
  have HXN := hide hxn
  clear hfe hle hmx hsl hfi hxn
  go_upto_region 2 with (first
   | refine wpList_load_mid rfl 39 (.tmp 5) rfl S 0 rfl [si, sd, sc] _ hrowS Tryz.underlying39 rfl hial ?_
   | refine wpList_load_mid rfl 25 (.tmp 6) rfl G 0 rfl (bys i) _ hri Tryz.underlying25 rfl hil ?_
   | (go_at_call 17; refine hfind.mono ?_; rintro e w2 ⟨rfl, hk6⟩; have HK2 := hide (HK.out.trans hk6 (by simp)); have HW2 := hide (HW.out.kept hk6); have HG2 := hide ((hk6.block G (Array.getElem?_eq_some_iff.1 HR.out.2).1 (by simp)).trans HR.out.2); clear hfind hk6 hrowS hri))
  clear HW HK HR
  have hpr := refparse_ok ao xn c xs w2 HXN.out (by have := HSL.out.2.1; rw [HXN.out] at this; exact this) (by have := HSL.out.1; rw [HXN.out] at this; exact this) (HSL.out.2.2.kept HK2.out (by simp))
  cases hp : Tn.parse xs with
  | none =>
   as_aux_lemma =>
   rw [hp] at hpr
   go_upto_region 5 with (go_at_call 41; refine hpr.mono ?_; rintro e w3 ⟨⟨ve, rfl, hoe⟩, hb2⟩; have HK3 := hide (Kept.of_below hb2); have HOE := hide hoe; clear hpr hb2 hoe)
   obtain ⟨ea, ec, hve, _, _, _, _⟩ := HOE.out.ents
   have hve : ve = .slice ea 0 ec := hve
   subst hve
   have hcd : (Tn.code false != 0) = true := by decide
   have HV := hide (HW2.out.kept HK3.out)
   have HKV := hide (HK2.out.trans HK3.out (by simp))
   have HG3 := hide ((HK3.out.block G (Array.getElem?_eq_some_iff.1 HG2.out).1 (by simp)).trans HG2.out)
   have HE : Hid (R.openE i NX (f i) = ({ R with bad := wth R.bad i }, NX)) := hide (by rw [HFI.out]; simp only [Rw.openE, hp])
   clear hp HOE HW2 HK2 HG2
   go_upto_region 6 with (fail)
   have cB := HV.out.cb
   have hri3 : w3.rangeAt G 0 (bys i) := row_rangeK HG3.out
   obtain ⟨al, cl, el, _⟩ := own_shape HV.out.b.1.1
   obtain ⟨nL, hnL⟩ : ∃ n, R.bad.length = n := ⟨_, rfl⟩
   rw [hnL] at el
   subst el
   clear hnL
   have hwith := fun W (hW : Kept [] w3 W) => with9b_ok w0.heap.size al nL cl R.bad i W ((HV.out.kept hW).b.1) (HV.out.kept hW).BS huB hi hlB
   refine wp_region_late (fun w' => Kept [] w3 w') (fun i => i == 9) (by kernel_rfl) ?_
   have h0 : Kept [] w3 w3.drew := (Kept.refl [] w3).drew
   generalize World.drew w3 = v0 at h0 ⊢
   refine wpAnyL_free (i := 0) (v := .pointer (some ⟨g, 0, none⟩)) rfl (by kernel_rfl) (by kernel_rfl) (by kernel_rfl) (fun _ _ _ h => h) (Or.inl ⟨by rfl, fun w _ => by go_simp⟩) ?_
   try simp only [zk1, zk2, zk3, zk4, zk5, zk6, zk7, zk8]
   refine wpAnyL_free (i := 1) (v := .pointer (some ⟨g, 0, none⟩)) rfl (by kernel_rfl) (by kernel_rfl) (by kernel_rfl) (fun _ _ _ h => h) (Or.inl ⟨by rfl, fun w _ => by go_simp⟩) ?_
   try simp only [zk1, zk2, zk3, zk4, zk5, zk6, zk7, zk8]
   refine wpAnyL_free (i := 2) (v := .pointer (some ⟨g, 0, none⟩)) rfl (by kernel_rfl) (by kernel_rfl) (by kernel_rfl) (fun _ _ _ h => h) (Or.inl ⟨by rfl, fun w _ => by go_simp⟩) ?_
   try simp only [zk1, zk2, zk3, zk4, zk5, zk6, zk7, zk8]
   refine wpAnyL_free (i := 3) (v := .pointer (some ⟨g, 2, none⟩)) rfl (by kernel_rfl) (by kernel_rfl) (by kernel_rfl) (fun _ _ _ h => h) (Or.inl ⟨by rfl, fun w _ => by go_simp⟩) ?_
   try simp only [zk1, zk2, zk3, zk4, zk5, zk6, zk7, zk8]
   refine wpAnyL_take (i := 4) (v := .slice al nL cl) rfl (by kernel_rfl) (by kernel_rfl) (by kernel_rfl) (by kernel_rfl) (by kernel_rfl) (fun _ _ _ h => h) (Or.inl ⟨by rfl, fun w hSw => by have c := Kept.cellOf hSw cB (by simp); go_simp⟩) h0 ?_
   try simp only [zk1, zk2, zk3, zk4, zk5, zk6, zk7, zk8]
   refine wpAnyL_take (i := 5) (v := .agg (bys i).toArray) rfl (by kernel_rfl) (by kernel_rfl) (by kernel_rfl) (by kernel_rfl) (by kernel_rfl) (fun _ _ _ h => h) (yieldsIf_load_mid (by rfl) _ _ rfl G (0) rfl (bys i) _ (fun W h => fun jj u hu => Kept.cellOf h (hri3 jj u hu) (by simp)) Tryz.underlying25 rfl hil) h0 ?_
   try simp only [zk1, zk2, zk3, zk4, zk5, zk6, zk7, zk8]
   refine wpAnyL_one (i := 6) (by kernel_rfl) rfl (fun K' hK => ?_)
   rw [if_pos (by rfl)]
   go_simp
   refine (hwith v0 h0).mono ?_
   rintro e w7 ⟨vq', rfl, hol, hk6, hor⟩
   obtain ⟨a', c', e', _⟩ := own_shape hol.1
   obtain ⟨n', hn'⟩ : ∃ n, (wth R.bad i).length = n := ⟨_, rfl⟩
   rw [hn'] at e'
   clear hn'
   subst e'
   have hcs : w7.cell? ⟨g, 2, none⟩ = some (.slice al nL cl) := hk6.cellOf (h0.cellOf cB (by simp)) (by simp)
   have hfz : w7.frozen? ⟨g, 2, none⟩ = false := ((HV.out.kept h0).kept hk6).fz 2
   refine hK.out _ _ (fun _ _ => h0.trans hk6 (by simp)) ?_
   clear hK K'
   try simp only [zk1, zk2, zk3, zk4, zk5, zk6, zk7, zk8]
   refine wpAnyL_free (i := 7) (v := .pointer (some ⟨g, 0, none⟩)) rfl (by kernel_rfl) (by kernel_rfl) (by kernel_rfl) (fun _ _ _ h => h) (Or.inl ⟨by rfl, fun w _ => by go_simp⟩) ?_
   try simp only [zk1, zk2, zk3, zk4, zk5, zk6, zk7, zk8]
   refine wpAnyL_free (i := 8) (v := .pointer (some ⟨g, 2, none⟩)) rfl (by kernel_rfl) (by kernel_rfl) (by kernel_rfl) (fun _ _ _ h => h) (Or.inl ⟨by rfl, fun w _ => by go_simp⟩) ?_
   try simp only [zk1, zk2, zk3, zk4, zk5, zk6, zk7, zk8]
   refine wpAnyL_one (i := 9) (by kernel_rfl) rfl (fun K' hK => ?_)
   rw [if_pos (by rfl)]
   go_simp
   refine hK.out _ _ (fun _ h => by cases h) ?_
   clear hK K'
   try simp only [zk1, zk2, zk3, zk4, zk5, zk6, zk7, zk8]
   refine wpAnyL_done (by kernel_rfl) ?_ _
   have hV := HV.out.kept h0
   have hap := Apt.withd hV.b.2 hV.a hor
   have hset := (hV.kept hk6).setB hol hap
   have HKF : Hid (Kept [] w0 (w7.setCell ⟨g, 2, none⟩ (.slice a' n' c'))) := hide (((HKV.out.trans h0 (by simp)).trans hk6 (by simp)).trans ((Kept.refl [g] w7).setCell (fun _ => by simp) _) (fun j hj hlt => by have h3 := hV.gB; have : j = g := (by simpa using hj); omega))
   have HWF := hide hset
   clear hset hap hV hwith cB hri3 h0 hk6 hor hol hcs hfz HV HKV HG3 HK3
   generalize w7.setCell ⟨g, 2, none⟩ (.slice a' n' c') = w8 at HKF HWF ⊢
   go_wp2
   go_loopw [3, 13] (fun x y wr => x = vx ∧ y = .int .i64 0 ∧ wr = w8) (fun x y wr => 0)
   case atStart => exact ⟨rfl, rfl, rfl⟩
   case round =>
    obtain ⟨rfl, rfl, rfl⟩ := hrel
    go_wp2
    go_ret
    exact ⟨_, _, _, rfl, HKF.out, by rw [HE.out]; exact HWF.out⟩
  | some E =>
   as_aux_lemma =>
   rw [hp] at hpr
   go_upto_region 5 with (go_at_call 41; refine hpr.mono ?_; rintro e w3 ⟨⟨ve, rfl, hoe⟩, hb2⟩; have HK3 := hide (Kept.of_below hb2); have HOE := hide hoe; clear hpr hb2 hoe)
   obtain ⟨ea, ec, hve, hvl, _, _, _⟩ := HOE.out.ents
   have hee : (some E).getD [] = E := rfl
   rw [hee] at hve hvl HOE
   clear hee
   obtain ⟨en, hen⟩ : ∃ m, E.length = m := ⟨_, rfl⟩
   rw [hen] at hve hvl
   subst hve
   have HEN := hide hen
   have HEB : Hid (en ≤ 2251799813685248) := hide (by rw [← hen]; have := HOE.out.1.1; have h2 := hIE xs E HFI.out hp; omega)
   have HV := hide (HW2.out.kept HK3.out)
   have HKV := hide (HK2.out.trans HK3.out (by simp))
   have hc0 : Tn.code true = 0 := rfl
   have HE : Hid (R.openE i NX (f i) = ({ R with need := (E.map (·.id)).foldl wth R.need }, (fldsE E).foldl wth NX)) := hide (by rw [HFI.out]; simp only [Rw.openE, hp])
   have HUE : Hid (∀ e ∈ E, e.id ∈ U) := hide (hUE xs E HFI.out hp)
   have HK2S : Hid (w0.heap.size ≤ w2.heap.size) := hide HK2.out.size
   clear hp hen HW2 HK2 HG2
   try rw [hc0]
   have HOE3 : Hid (OwnE w3 w0.heap.size (.slice ea en ec) E) := hide (ownE_baseT HOE.out HK2S.out)
   go_wp2
   go_loopw [3, 13] (fun x y wr => ∃ (vq vm : Value) (j : Nat), j ≤ en ∧ y = .int .i64 j ∧ vq = x ∧ Hid (Wk9 wr w0.heap.size g va vm vb vd vl { R with need := ((E.take j).map (·.id)).foldl wth R.need } dp cd ci ((vq, (fldsE (E.take j)).foldl wth NX) :: X) ∧ OwnE wr w0.heap.size (.slice ea en ec) E ∧ Kept [] w0 wr)) (fun x y wr => en - (intOf y).toNat)
   case atStart => exact ⟨_, vn, 0, Nat.zero_le _, rfl, rfl, hide ⟨HV.out, HOE3.out, HKV.out⟩⟩
   case round =>
    clear HV HKV HOE3 HOE HK3
    obtain ⟨vq, vm, j, hj, rfl, rfl, HP⟩ := hrel
    by_cases hlt : j < en
    ·as_aux_lemma =>
     have hlt1 : (j : Int) < (en : Int) := by omega
     have hnb : en ≤ 2251799813685248 := HEB.out
     have hjl : j < E.length := by rw [HEN.out]; exact hlt
     obtain ⟨a0, c0, hv0, _, hents, _, _⟩ := HP.out.2.1.ents
     injection hv0 with hv1 hv2 hv3
     clear hv2 hv3
     subst hv1
     obtain ⟨ge, oe, hae, hrg, hok⟩ := hents j hjl
     subst hae
     obtain ⟨x, hx⟩ : ∃ x, E.getD j ent0 = x := ⟨_, rfl⟩
     have hxE : x ∈ E := by rw [← hx]; exact getD_mem hjl
     rw [hx] at hrg hok
     have hq9 := hok.idl
     have hrid := ent_id_atT hrg
     have hkd := ent_kind_atT hrg
     have htk : (E.take (j + 1)).map (·.id) = (E.take j).map (·.id) ++ [x.id] := by
      rw [List.take_succ_eq_append_getElem hjl, List.map_append, ← hx]
      simp [List.getElem?_eq_getElem hjl]
     have hfs := fldsE_snoc E j hjl
     rw [hx] at hfs
     have hxU := HUE.out x hxE
     have hne1 := fold_inU huN hNU (l := (E.take j).map (·.id)) (fun q hq => by obtain ⟨e, he, rfl⟩ := List.mem_map.1 hq; exact HUE.out e (List.mem_of_mem_take he))
     have hne2 := fold_inU huX hXU (l := fldsE (E.take j)) (fun q hq => by unfold fldsE at hq; obtain ⟨e, he, rfl⟩ := List.mem_map.1 hq; exact HUE.out e (List.mem_of_mem_take (List.mem_filter.1 he).1))
     obtain ⟨kd, hkde⟩ : ∃ kd, x.kind = kd := ⟨_, rfl⟩
     obtain ⟨xi, hxie⟩ : ∃ xi, x.id = xi := ⟨_, rfl⟩
     rw [hxie] at hq9 hrid htk hfs
     rw [hkde] at hkd hfs
     have hxl := idl xi hq9
     obtain ⟨N1, hN1⟩ : ∃ N, ((E.take j).map (·.id)).foldl wth R.need = N := ⟨_, rfl⟩
     obtain ⟨N2, hN2⟩ : ∃ N, (fldsE (E.take j)).foldl wth NX = N := ⟨_, rfl⟩
     have HTK : Hid (((E.take (j + 1)).map (·.id)).foldl wth R.need = wth N1 xi) := hide (by rw [htk, List.foldl_append, hN1]; rfl)
     have HFS : Hid ((fldsE (E.take (j + 1))).foldl wth NX = if (kd == 3) = true then wth N2 xi else N2) := hide (by
      rw [hfs, List.foldl_append, hN2]
      split <;> rfl)
     rw [hN1] at hne1
     rw [hN2] at hne2
     have HV : Hid (Wk9 wr w0.heap.size g va vm vb vd vl { R with need := N1 } dp cd ci ((vq, N2) :: X)) := hide (by have h := HP.out.1; rw [hN1, hN2] at h; exact h)
     have HRI := hide hrid
     have HKD := hide hkd
     have hb1 : (N1.length + 2) * 32 ≤ 140737488355328 := by have := nodup_le (up_nodupT hne1.1) hne1.2; omega
     have hb2 : (N2.length + 2) * 32 ≤ 140737488355328 := by have := nodup_le (up_nodupT hne2.1) hne2.2; omega
     have hu1 := hne1.1
     have hu2 := hne2.1
     obtain ⟨al, cl, el, _⟩ := own_shape HV.out.n.1.1
     obtain ⟨nL, hnL⟩ : ∃ n, ({ R with need := N1 } : Rw).need.length = n := ⟨_, rfl⟩
     rw [hnL] at el
     subst el
     clear hnL hne1 hne2 hN1 hN2 htk hfs hx hxE hxU hxie hkde hrg hok hents hkd
     go_upto_region 10 with (fail)
     have cN := HV.out.cn
     have hwith := fun W (hW : Kept [] wr W) => with9b_ok w0.heap.size al nL cl N1 xi W ((HV.out.kept hW).n.1) (HV.out.kept hW).BS hu1 hq9 hb1
     refine wp_region_late (fun w' => Kept [] wr w') (fun i => i == 13) (by kernel_rfl) ?_
     have h0 : Kept [] wr wr.drew := (Kept.refl [] wr).drew
     generalize World.drew wr = v0 at h0 ⊢
     refine wpAnyL_free (i := 0) (v := .pointer (some ⟨g, 0, none⟩)) rfl (by kernel_rfl) (by kernel_rfl) (by kernel_rfl) (fun _ _ _ h => h) (Or.inl ⟨by rfl, fun w _ => by go_simp⟩) ?_
     try simp only [zk1, zk2, zk3, zk4, zk5, zk6, zk7, zk8]
     refine wpAnyL_free (i := 1) (v := .pointer (some ⟨g, 0, none⟩)) rfl (by kernel_rfl) (by kernel_rfl) (by kernel_rfl) (fun _ _ _ h => h) (Or.inl ⟨by rfl, fun w _ => by go_simp⟩) ?_
     try simp only [zk1, zk2, zk3, zk4, zk5, zk6, zk7, zk8]
     refine wpAnyL_free (i := 2) (v := .pointer (some ⟨g, 0, none⟩)) rfl (by kernel_rfl) (by kernel_rfl) (by kernel_rfl) (fun _ _ _ h => h) (Or.inl ⟨by rfl, fun w _ => by go_simp⟩) ?_
     try simp only [zk1, zk2, zk3, zk4, zk5, zk6, zk7, zk8]
     refine wpAnyL_free (i := 3) (v := .pointer (some ⟨g, 1, none⟩)) rfl (by kernel_rfl) (by kernel_rfl) (by kernel_rfl) (fun _ _ _ h => h) (Or.inl ⟨by rfl, fun w _ => by go_simp⟩) ?_
     try simp only [zk1, zk2, zk3, zk4, zk5, zk6, zk7, zk8]
     refine wpAnyL_take (i := 4) (v := .slice al nL cl) rfl (by kernel_rfl) (by kernel_rfl) (by kernel_rfl) (by kernel_rfl) (by kernel_rfl) (fun _ _ _ h => h) (Or.inl ⟨by rfl, fun w hSw => by have c := Kept.cellOf hSw cN (by simp); go_simp⟩) h0 ?_
     try simp only [zk1, zk2, zk3, zk4, zk5, zk6, zk7, zk8]
     refine wpAnyL_free (i := 5) (v := .slice (some ⟨ge, oe, none⟩) en ec) rfl (by kernel_rfl) (by kernel_rfl) (by kernel_rfl) (fun _ _ _ h => h) (Or.inl ⟨by rfl, fun w _ => by go_simp⟩) ?_
     try simp only [zk1, zk2, zk3, zk4, zk5, zk6, zk7, zk8]
     refine wpAnyL_free (i := 6) (v := .int .i64 j) rfl (by kernel_rfl) (by kernel_rfl) (by kernel_rfl) (fun _ _ _ h => h) (Or.inl ⟨by rfl, fun w _ => by go_simp⟩) ?_
     try simp only [zk1, zk2, zk3, zk4, zk5, zk6, zk7, zk8]
     refine wpAnyL_free (i := 7) (v := .pointer (some ⟨ge, oe + j * 34, none⟩)) rfl (by kernel_rfl) (by kernel_rfl) (by kernel_rfl) (fun _ _ _ h => h) (Or.inl ⟨by rfl, fun w _ => by go_simp⟩) ?_
     try simp only [zk1, zk2, zk3, zk4, zk5, zk6, zk7, zk8]
     refine wpAnyL_free (i := 8) (v := .pointer (some ⟨ge, oe + j * 34 + 2, none⟩)) rfl (by kernel_rfl) (by kernel_rfl) (by kernel_rfl) (fun _ _ _ h => h) (Or.inl ⟨by rfl, fun w _ => by go_simp⟩) ?_
     try simp only [zk1, zk2, zk3, zk4, zk5, zk6, zk7, zk8]
     refine wpAnyL_take (i := 9) (v := .agg (bys xi).toArray) rfl (by kernel_rfl) (by kernel_rfl) (by kernel_rfl) (by kernel_rfl) (by kernel_rfl) (fun _ _ _ h => h) (yieldsIf_load_mid (by rfl) _ _ rfl ge (oe + j * 34 + 2) rfl (bys xi) _ (fun W h => fun jj u hu => Kept.cellOf h (hrid jj u hu) (by simp)) Tryz.underlying25 rfl hxl) h0 ?_
     try simp only [zk1, zk2, zk3, zk4, zk5, zk6, zk7, zk8]
     refine wpAnyL_one (i := 10) (by kernel_rfl) rfl (fun K' hK => ?_)
     rw [if_pos (by rfl)]
     go_simp
     refine (hwith v0 h0).mono ?_
     rintro e w7 ⟨vq', rfl, hol, hk6, hor⟩
     obtain ⟨a', c', e', _⟩ := own_shape hol.1
     obtain ⟨n', hn'⟩ : ∃ n, (wth N1 xi).length = n := ⟨_, rfl⟩
     rw [hn'] at e'
     clear hn'
     subst e'
     have hcs : w7.cell? ⟨g, 1, none⟩ = some (.slice al nL cl) := hk6.cellOf (h0.cellOf cN (by simp)) (by simp)
     have hfz : w7.frozen? ⟨g, 1, none⟩ = false := ((HV.out.kept h0).kept hk6).fz 1
     refine hK.out _ _ (fun _ _ => h0.trans hk6 (by simp)) ?_
     clear hK K'
     try simp only [zk1, zk2, zk3, zk4, zk5, zk6, zk7, zk8]
     refine wpAnyL_free (i := 11) (v := .pointer (some ⟨g, 0, none⟩)) rfl (by kernel_rfl) (by kernel_rfl) (by kernel_rfl) (fun _ _ _ h => h) (Or.inl ⟨by rfl, fun w _ => by go_simp⟩) ?_
     try simp only [zk1, zk2, zk3, zk4, zk5, zk6, zk7, zk8]
     refine wpAnyL_free (i := 12) (v := .pointer (some ⟨g, 1, none⟩)) rfl (by kernel_rfl) (by kernel_rfl) (by kernel_rfl) (fun _ _ _ h => h) (Or.inl ⟨by rfl, fun w _ => by go_simp⟩) ?_
     try simp only [zk1, zk2, zk3, zk4, zk5, zk6, zk7, zk8]
     refine wpAnyL_one (i := 13) (by kernel_rfl) rfl (fun K' hK => ?_)
     rw [if_pos (by rfl)]
     go_simp
     refine hK.out _ _ (fun _ h => by cases h) ?_
     clear hK K'
     try simp only [zk1, zk2, zk3, zk4, zk5, zk6, zk7, zk8]
     refine wpAnyL_done (by kernel_rfl) ?_ _
     have hV := HV.out.kept h0
     have hap := Apt.withd hV.n.2 hV.a hor
     have hset := (hV.kept hk6).setN hol hap
     have hks : Kept [g] w7 (w7.setCell ⟨g, 1, none⟩ (.slice a' n' c')) := (Kept.refl [g] w7).setCell (fun _ => by simp) _
     have hEk := (HP.out.2.1.kept h0 (fun _ _ => by simp)).kept hk6 (fun _ _ => by simp)
     have hgG : ge ≠ g := own_typesT hEk.1 (hV.kept hk6).row (by decide) ge rfl
     have HEF : Hid (OwnE (w7.setCell ⟨g, 1, none⟩ (.slice a' n' c')) w0.heap.size (.slice (some ⟨ge, oe, none⟩) en ec) E) := hide (hEk.kept hks (fun g2 hg2 => by simpa using own_typesT hEk.1 (hV.kept hk6).row (by decide) g2 hg2))
     have HKF : Hid (Kept [] w0 (w7.setCell ⟨g, 1, none⟩ (.slice a' n' c'))) := hide (((HP.out.2.2.trans h0 (by simp)).trans hk6 (by simp)).trans hks (fun j2 hj2 hlt => by have h3 := hV.gB; have : j2 = g := (by simpa using hj2); omega))
     have HWF := hide hset
     have hrid : (w7.setCell ⟨g, 1, none⟩ (.slice a' n' c')).rangeAt ge (oe + j * 34 + 2) (bys xi) := fun jj u hu => hks.cellOf (hk6.cellOf (h0.cellOf (HRI.out jj u hu) (by simp)) (by simp)) (by simpa using hgG)
     have hkd : (w7.setCell ⟨g, 1, none⟩ (.slice a' n' c')).cell? ⟨ge, oe + j * 34 + 1, none⟩ = some (.int .i64 kd) := hks.cellOf (hk6.cellOf (h0.cellOf HKD.out (by simp)) (by simp)) (by simpa using hgG)
     clear hset hap hV hwith cN h0 hk6 hor hol hcs hfz HV HP HRI HKD hEk hks hgG
     generalize w7.setCell ⟨g, 1, none⟩ (.slice a' n' c') = w8 at HKF HWF HEF hrid hkd ⊢
     by_cases hk3 : (kd == 3) = true
     ·obtain rfl : kd = 3 := by simpa using hk3
      have hox : OwnI w8 w0.heap.size vq N2 := (HWF.out.x (vq, N2) (by simp)).1
      obtain ⟨ax, cx, ex, _⟩ := own_shape hox.1
      obtain ⟨nX, hnX⟩ : ∃ n, N2.length = n := ⟨_, rfl⟩
      rw [hnX] at ex
      clear hox
      subst ex
      clear hnX
      have hw2 := with9b_ok w0.heap.size ax nX cx N2 xi w8 ((HWF.out.x (.slice ax nX cx, N2) (by simp)).1) HWF.out.BS hu2 hq9 hb2
      go_upto_region 9 with (first
       | refine wpList_load_mid rfl 25 (.tmp 68) rfl ge (oe + j * 34 + 2) rfl (bys xi) _ hrid Tryz.underlying25 rfl hxl ?_
       | (go_at_call 33; refine hw2.mono ?_; rintro e w9 ⟨vz, rfl, hoz, hkz, hor⟩; have HZ := hide (And.intro hoz (And.intro hkz hor)); clear hw2 hoz hkz hor))
      have HWZ : Hid (Wk9 w9 w0.heap.size g va (.slice a' n' c') vb vd vl { R with need := wth N1 xi } dp cd ci ((vz, wth N2 xi) :: X)) := hide ((HWF.out.kept HZ.out.2.1).with_ HZ.out.1 (Apt.withd ((HWF.out.x (.slice ax nX cx, N2) (by simp)).2) HWF.out.a HZ.out.2.2) (fun p hp => by
       rcases List.mem_cons.1 hp with rfl | hp
       ·exact .inl rfl
       ·exact .inr (List.mem_cons_of_mem _ hp)))
      have HKZ := hide (HKF.out.trans HZ.out.2.1 (by simp))
      have HEZ := hide (HEF.out.kept HZ.out.2.1 (fun _ _ => by simp))
      clear HWF HEF HKF HZ hrid hkd
      go_wp2
      go_roundw
      case rel => exact ⟨vz, _, j + 1, by omega, by go_num, rfl, hide ⟨by rw [HTK.out, HFS.out]; exact HWZ.out, HEZ.out, HKZ.out⟩⟩
      case measure => simp [intOf]; omega
     ·have hk3f : (kd == 3) = false := by simpa using hk3
      have HWZ := HWF
      clear hrid
      go_wp2
      go_roundw
      case rel => exact ⟨vq, _, j + 1, by omega, by go_num, rfl, hide ⟨by rw [HTK.out, HFS.out, if_neg hk3]; exact HWF.out, HEF.out, HKF.out⟩⟩
      case measure => simp [intOf]; omega
    ·obtain rfl : j = en := by omega
     have hlt1 : ¬ (j : Int) < (j : Int) := by omega
     have HF9 : Hid (Wk9 wr w0.heap.size g va vm vb vd vl (R.openE i NX (f i)).1 dp cd ci ((vq, (R.openE i NX (f i)).2) :: X) ∧ Kept [] w0 wr) := hide (by
      rw [HE.out]
      have h := HP.out
      rw [List.take_of_length_le (by rw [HEN.out]; exact Nat.le_refl _)] at h
      exact ⟨h.1, h.2.2⟩)
     clear HP
     go_wp2
     go_ret
     exact ⟨vq, rfl, HF9.out.2, vm, vb, HF9.out.1⟩
end

section
open Go.RowKit Go.Lib Go.Sort
set_option linter.unusedVariables false
set_option linter.unusedSimpArgs false
def z32 : List UInt8 := List.replicate 32 0
def zeroW : Array Value := (wcs (.slice none 0 0) (.slice none 0 0) (.slice none 0 0) (.slice none 0 0) (.slice none 0 0) 0 z32).toArray
theorem Tryz.buildWk9 (w : World) : (Instr.build 77 #[]).run Tryz.prog w = .ok (.agg zeroW) w := by kernel_rfl
structure Rok (U : List (List UInt8)) (R : Rw) : Prop where
 n : Up R.need ∧ ∀ q ∈ R.need, q ∈ U
 b : Up R.bad ∧ ∀ q ∈ R.bad, q ∈ U
 l : Up R.lacks ∧ ∀ q ∈ R.lacks, q ∈ U
 a : R.asked.Nodup ∧ ∀ q ∈ R.asked, q ∈ U
theorem in_wth {R U : List (List UInt8)} {i : List UInt8} (h : Up R ∧ ∀ q ∈ R, q ∈ U) (hi : i ∈ U) : Up (wth R i) ∧ ∀ q ∈ wth R i, q ∈ U := ⟨up_wth h.1, fun q hq => by
 rcases mem_wth.1 hq with h1 | rfl
 ·exact h.2 q h1
 ·exact hi⟩
section
variable {U : List (List UInt8)} {R : Rw} {f : List UInt8 → An} {i : List UInt8}
theorem Rok.lenN (h : Rok U R) (hU : (U.length + 2) * 32 ≤ 140737488355328) : (R.need.length + 2) * 32 ≤ 140737488355328 := by have := nodup_le (up_nodupT h.n.1) h.n.2; omega
theorem Rok.lenB (h : Rok U R) (hU : (U.length + 2) * 32 ≤ 140737488355328) : (R.bad.length + 2) * 32 ≤ 140737488355328 := by have := nodup_le (up_nodupT h.b.1) h.b.2; omega
theorem Rok.lenL (h : Rok U R) (hU : (U.length + 2) * 32 ≤ 140737488355328) : (R.lacks.length + 2) * 32 ≤ 140737488355328 := by have := nodup_le (up_nodupT h.l.1) h.l.2; omega
theorem Rok.lenA (h : Rok U R) (hU : (U.length + 2) * 32 ≤ 140737488355328) : (R.asked.length + 1) * 32 ≤ 140737488355328 := by have := nodup_le h.a.1 h.a.2; omega
theorem Rok.needs (h : Rok U R) (hi : i ∈ U) : Rok U { R with need := wth R.need i } := ⟨in_wth h.n hi, h.b, h.l, h.a⟩
theorem Rok.ask (h : Rok U R) (hi : i ∈ U) : Rok U (R.ask f i).2 := by
 unfold Rw.ask
 by_cases hin : i ∈ R.asked
 ·rw [if_pos hin]; exact h
 ·rw [if_neg hin]
  have ha : (R.asked ++ [i]).Nodup ∧ ∀ q ∈ R.asked ++ [i], q ∈ U := ⟨List.nodup_append.2 ⟨h.a.1, by simp, fun a ha b hb => by simp only [List.mem_singleton] at hb; subst hb; rintro rfl; exact hin ha⟩, fun q hq => by
   rcases List.mem_append.1 hq with h1 | h1
   ·exact h.a.2 q h1
   ·simp only [List.mem_singleton] at h1; subst h1; exact hi⟩
  cases f i with
  | fail => exact ⟨h.n, h.b, h.l, ha⟩
  | lack => exact ⟨h.n, h.b, in_wth h.l hi, ha⟩
  | data xs => exact ⟨h.n, h.b, h.l, ha⟩
theorem ask_false (h : (R.ask f i).1 = false) : f i = .fail := by
 unfold Rw.ask at h
 split at h
 ·cases h
 ·cases hf : f i with
  | fail => rfl
  | lack => rw [hf] at h; cases h
  | data xs => rw [hf] at h; cases h
theorem ask_need : (R.ask f i).2.need = R.need := by
 unfold Rw.ask
 split
 ·rfl
 ·cases f i <;> rfl
theorem Rok.openE {NX : List (List UInt8)} (h : Rok U R) (hi : i ∈ U) (hX : Up NX ∧ ∀ q ∈ NX, q ∈ U) (hUE : ∀ xs E, f i = .data xs → Tn.parse xs = some E → ∀ e ∈ E, e.id ∈ U) : Rok U (R.openE i NX (f i)).1 ∧ Up (R.openE i NX (f i)).2 ∧ ∀ q ∈ (R.openE i NX (f i)).2, q ∈ U := by
 cases hf : f i with
 | fail => exact ⟨h, hX⟩
 | lack => exact ⟨h, hX⟩
 | data xs =>
  cases hp : Tn.parse xs with
  | none => simp only [Rw.openE, hp]; exact ⟨⟨h.n, in_wth h.b hi, h.l, h.a⟩, hX⟩
  | some E =>
   simp only [Rw.openE, hp]
   have hE := hUE xs E hf hp
   exact ⟨⟨fold_inU h.n.1 h.n.2 (fun q hq => by obtain ⟨e, he, rfl⟩ := List.mem_map.1 hq; exact hE e he), h.b, h.l, h.a⟩, fold_inU hX.1 hX.2 (fun q hq => by unfold fldsE at hq; obtain ⟨e, he, rfl⟩ := List.mem_map.1 hq; exact hE e (List.mem_filter.1 he).1)⟩
end
theorem Wk9.base9 {w : World} {B B2 g : Nat} {va vn vb vd vl : Value} {R : Rw} {dp : List (List UInt8)} {cd : Int} {ci : List UInt8} {X : List (Value × List (List UInt8))} (h : Wk9 w B g va vn vb vd vl R dp cd ci X) (hb : B2 ≤ B) : Wk9 w B2 g va vn vb vd vl R dp cd ci X :=
 have f : ∀ {v : Value} {L : List (List UInt8)}, OwnI w B v L → OwnI w B2 v L := fun h => ⟨own_base9 h.1 hb, h.2⟩
 ⟨h.row, Nat.le_trans hb h.gB, h.cil, f h.a, ⟨f h.n.1, h.n.2⟩, ⟨f h.b.1, h.b.2⟩, ⟨f h.d.1, h.d.2⟩, ⟨f h.l.1, h.l.2⟩, fun p hp => ⟨f (h.x p hp).1, (h.x p hp).2⟩⟩
theorem Wk9.drop9 {w : World} {B g : Nat} {va vn vb vd vl : Value} {R : Rw} {dp : List (List UInt8)} {cd : Int} {ci : List UInt8} {X : List (Value × List (List UInt8))} (h : Wk9 w B g va vn vb vd vl R dp cd ci X) : Wk9 w B g va vn vb vd vl R dp cd ci [] :=
 ⟨h.row, h.gB, h.cil, h.a, h.n, h.b, h.d, h.l, fun p hp => by simp at hp⟩
def Ro9 (w : World) (B g : Nat) (f : List UInt8 → An) (cf : List UInt8 → Int) (r : Option (List UInt8) × Rw × List (List UInt8)) : Prop :=
 ∃ va vn vb vd vl dp cd ci, Wk9 w B g va vn vb vd vl r.2.1 dp cd ci [] ∧ ((r.1 = none ∧ cd = 0 ∧ ci = z32 ∧ dp = r.2.2) ∨ ∃ i, r.1 = some i ∧ cd = cf i ∧ ci = i ∧ f i = .fail)
set_option maxHeartbeats 12800000 in
set_option maxRecDepth 100000 in
theorem rounds9_ok {w : World} {si sd sc : Value} {I : List (List UInt8)} {D : List Value} {C : List Int} {f : List UInt8 → An} {cf : List UInt8 → Int} {U : List (List UInt8)} (hS : Sr9 w si sd sc I D C) (hF : Fnd9 w I D C f cf) (ra : Option Addr) (rn rc : Nat) (RL : List Rz) (hrl : RL.length = rn) (hR : Rss w ra RL) (hn : I.length ≤ 4611686018427387904)
  (hUR : ∀ q ∈ RL.map (·.root), q ∈ U) (hUE : ∀ i xs E, f i = .data xs → Tn.parse xs = some E → ∀ e ∈ E, e.id ∈ U) (hUl : (U.length + 2) * 32 ≤ 140737488355328) (hrm : rn ≤ 4611686018427387904) :
  Calls Tryz.prog 30 #[.agg #[si, sd, sc], .slice ra rn rc] w fun e w' => ∃ g, e = .returned (.pointer (some ⟨g, 0, none⟩)) ∧ Ro9 w' w.heap.size g f cf (refW f (RL.map (·.root))) ∧ Kept [] w w' := by
 obtain ⟨S, hSS⟩ : ∃ r, r = w.heap.size := ⟨_, rfl⟩
 obtain ⟨w1, hw1⟩ : ∃ r, r = w.alloc (.cells #[si, sd, sc] 39) := ⟨_, rfl⟩
 have h1 := new_atK w (.cells #[si, sd, sc] 39)
 have hk0 : Kept [] w w1 := by rw [hw1]; exact (Kept.refl [] w).alloc _
 have hs1 : w1.heap.size = w.heap.size + 1 := by rw [hw1]; show (w.heap.push _).size = _; simp
 rw [← hSS, ← hw1] at h1
 have HSR : Hid (S < w1.heap.size ∧ w1.heap[S]? = some (.cells #[si, sd, sc] 39)) := hide ⟨by omega, h1⟩
 have HB1 := hide hs1
 have HK0 := hide hk0
 have HS := hide (And.intro hS hF)
 have HR := hide (And.intro hrl hR)
 have HU := hide (And.intro hUR (And.intro hUE hUl))
 have hial : (Tryz.prog.info? 39).map (·.size) = some [si, sd, sc].length := Tryz.infoSr9
 have hzw := Tryz.buildWk9
 obtain ⟨g, hg⟩ : ∃ r, r = w1.heap.size := ⟨_, rfl⟩
 obtain ⟨w2, hw2⟩ : ∃ r, r = w1.alloc (.cells zeroW 77) := ⟨_, rfl⟩
 have hk2 : Kept [] w1 w2 := by rw [hw2]; exact (Kept.refl [] w1).alloc _
 have h2 := new_atK w1 (.cells zeroW 77)
 rw [← hg, ← hw2] at h2
 have HWZ : Hid (Wk9 w2 w1.heap.size g (.slice none 0 0) (.slice none 0 0) (.slice none 0 0) (.slice none 0 0) (.slice none 0 0) ⟨[], [], [], []⟩ [] 0 z32 [(.slice none 0 0, [])]) := hide (by
  have hnil : OwnI w2 w1.heap.size (.slice none 0 0) [] := ⟨World.ownsRow_nil _ _ _ _, by simp⟩
  exact ⟨h2, by omega, rfl, hnil, ⟨hnil, apt_nil _⟩, ⟨hnil, apt_nil _⟩, ⟨hnil, apt_nil _⟩, ⟨hnil, apt_nil _⟩, fun p hp => by simp only [List.mem_singleton] at hp; subst hp; exact ⟨hnil, apt_nil _⟩⟩)
 have HKG := hide hk2
 clear hS hF hrl hR hUR hUE hUl h1 h2 hk0 hs1 hk2
 go_enter Tryz.func30, Tryz.ntmps30
 go_upto_region 1 with (fail)
 rw [← hSS, ← hw1]
 clear hSS hw1
 go_upto_region 2 with (fail)
 rw [← hg]
 generalize hw3 : w1.alloc _ = w3
 have hw32 : w2 = w3 := by rw [← hw3, hw2]; kernel_rfl
 subst hw32
 clear hg hw2 hw3 hzw
 go_wp2
 go_loopw [6, 7] (fun x y wr => ∃ (vq : Value) (k : Nat), k ≤ rn ∧ y = .int .i64 k ∧ vq = x ∧ Hid (Wk9 wr w1.heap.size g (.slice none 0 0) (.slice none 0 0) (.slice none 0 0) (.slice none 0 0) (.slice none 0 0) ⟨[], [], [], []⟩ [] 0 z32 [(vq, ((RL.map (·.root)).take k).foldl wth [])] ∧ Kept [] w2 wr)) (fun x y wr => rn - (intOf y).toNat)
 case atStart => exact ⟨_, 0, Nat.zero_le _, rfl, rfl, hide ⟨HWZ.out, Kept.refl _ _⟩⟩
 case round =>
  obtain ⟨vq, k, hk, rfl, rfl, HP⟩ := hrel
  by_cases hlt : k < rn
  ·as_aux_lemma =>
   have hlt1 : (k : Int) < (rn : Int) := by omega
   have hkl : k < RL.length := by rw [HR.out.1]; exact hlt
   obtain ⟨bz, oz, hao, hrg⟩ := (HR.out.2.kept ((HK0.out.trans HKG.out (by simp)).trans HP.out.2 (by simp)) (fun _ _ _ => by simp)) k hkl
   subst hao
   have hrr := rz_root_at hrg
   have htk : (RL.map (·.root)).take (k + 1) = (RL.map (·.root)).take k ++ [(RL.getD k rz0).root] := by
    rw [List.take_succ_eq_append_getElem (by rw [List.length_map]; exact hkl)]
    simp [List.getElem?_eq_getElem hkl]
   have hq0 : (RL.getD k rz0).root.length = 32 := (RL.getD k rz0).hr
   have hUk := fold_inU (U := U) (R := []) (l := (RL.map (·.root)).take k) (by simp [Up]) (by simp) (fun q hq => HU.out.1 q (List.mem_of_mem_take hq))
   obtain ⟨q, hqe⟩ : ∃ q, (RL.getD k rz0).root = q := ⟨_, rfl⟩
   rw [hqe] at hrr htk hq0
   have hql := idl q hq0
   obtain ⟨N, hN⟩ : ∃ N, ((RL.map (·.root)).take k).foldl wth [] = N := ⟨_, rfl⟩
   have HTK : Hid (((RL.map (·.root)).take (k + 1)).foldl wth [] = wth N q) := hide (by rw [htk, List.foldl_append, hN]; rfl)
   have HV := HP.out.1
   rw [hN] at HV hUk
   have hvx : OwnI wr w1.heap.size vq N := (HV.x (vq, N) (by simp)).1
   have hva := (HV.x (vq, N) (by simp)).2
   have HVV := hide (And.intro HV hva)
   obtain ⟨al, cl, el, _⟩ := own_shape hvx.1
   obtain ⟨nL, hnL⟩ : ∃ n, N.length = n := ⟨_, rfl⟩
   rw [hnL] at el
   subst el
   have hb1 : (N.length + 2) * 32 ≤ 140737488355328 := by have := nodup_le (up_nodupT hUk.1) hUk.2; have h2 := HU.out.2.2; omega
   have had := with9b_ok w1.heap.size al nL cl N q wr hvx HV.BS hUk.1 hq0 hb1
   clear hqe hkl hrg htk hnL hUk HV hvx hva hN
   go_wp2_with (first
    | refine wpList_load_mid rfl 25 (.tmp 25) rfl bz (oz + k * 65 + 32) rfl (bys q) _ hrr Tryz.underlying25 rfl hql ?_
    | (go_at_call 33; refine had.mono ?_; rintro e w9 ⟨vv, rfl, hvv, hk9, hor⟩; have HN2 := hide (And.intro hvv (And.intro hk9 hor)); clear had hvv hk9 hor))
   go_roundw
   case rel => exact ⟨vv, k + 1, by omega, by go_num, rfl, hide ⟨(HVV.out.1.kept HN2.out.2.1).with_ (X := [(.slice al nL cl, N)]) (v := vv) (L := ((RL.map (·.root)).take (k + 1)).foldl wth []) (by rw [HTK.out]; exact HN2.out.1) (Apt.withd HVV.out.2 HVV.out.1.a HN2.out.2.2) (fun p hp => .inl (by simpa using hp)), HP.out.2.trans HN2.out.2.1 (by simp)⟩⟩
   case measure => simp [intOf]; omega
  ·obtain rfl : k = rn := by omega
   have hlt1 : ¬ (k : Int) < (k : Int) := by omega
   have HA : Hid (Wk9 wr w1.heap.size g (.slice none 0 0) (.slice none 0 0) (.slice none 0 0) (.slice none 0 0) (.slice none 0 0) ⟨[], [], [], []⟩ [] 0 z32 [(vq, canon (RL.map (·.root)))] ∧ Kept [] w1 wr) := hide ⟨by
    have h := HP.out.1
    rw [List.take_of_length_le (by rw [List.length_map, HR.out.1]; exact Nat.le_refl _)] at h
    exact h, HKG.out.trans HP.out.2 (by simp)⟩
   clear HP HWZ
   have HCU : Hid (Up (canon (RL.map (·.root))) ∧ ∀ q ∈ canon (RL.map (·.root)), q ∈ U) := hide ⟨up_canon _, fun q hq => HU.out.1 q (mem_canon.1 hq)⟩
   have HOK0 : Hid (Rok U ⟨[], [], [], []⟩) := hide ⟨⟨by simp [Up], by simp⟩, ⟨by simp [Up], by simp⟩, ⟨by simp [Up], by simp⟩, ⟨by simp, by simp⟩⟩
   obtain ⟨wa, rfl⟩ : ∃ wo, wo = wr := ⟨_, rfl⟩
   go_wp2
   go_loopw [6, 8] (fun x y wr => ∃ (vq va vn vb vl : Value) (R : Rw) (N : List (List UInt8)) (d : Nat), 1 ≤ d ∧ d ≤ 7 ∧ y = .int .i64 d ∧ vq = x ∧ Hid (Wk9 wr w1.heap.size g va vn vb (.slice none 0 0) vl R [] 0 z32 [(vq, N)] ∧ Rok U R ∧ (Up N ∧ ∀ q ∈ N, q ∈ U) ∧ Kept [] w1 wr ∧ Rw.rounds f 6 ⟨[], [], [], []⟩ (canon (RL.map (·.root))) = Rw.rounds f (7 - d) R N)) (fun x y wr => 7 - (intOf y).toNat)
   case atStart => exact ⟨vq, _, _, _, _, _, _, 1, by omega, by omega, rfl, rfl, hide ⟨HA.out.1, HOK0.out, HCU.out, HA.out.2, rfl⟩⟩
   case round =>
    clear HA HOK0 HCU
    obtain ⟨vq, va, vn, vb, vl, R0, N, d, hd1, hd7, rfl, rfl, HP⟩ := hrel
    obtain ⟨na, cn, en, _⟩ := own_shape (HP.out.1.x (vq, N) (by simp)).1.1
    obtain ⟨nn, hnn⟩ : ∃ n, N.length = n := ⟨_, rfl⟩
    have hen : vq = .slice na nn cn := by rw [← hnn]; exact en
    have HNN := hide hnn
    clear en hnn
    subst hen
    have HNU := hide HP.out.2.2.1
    have hnnm : nn ≤ 4611686018427387904 := by have h := nodup_le (up_nodupT HNU.out.1) HNU.out.2; have h2 := HU.out.2.2; have h3 := HNN.out; omega
    by_cases hd : d ≤ 6
    ·have hd6 : (d : Int) ≤ 6 := by omega
     obtain ⟨m, hm⟩ : ∃ m, 7 - d = m + 1 := ⟨6 - d, by omega⟩
     have HD : Hid (7 - d = m + 1 ∧ Rw.rounds f 6 ⟨[], [], [], []⟩ (canon (RL.map (·.root))) = Rw.rounds f (m + 1) R0 N) := hide ⟨hm, by rw [← hm]; exact HP.out.2.2.2.2⟩
     have HS0 := hide HP.out
     clear hm HP
     obtain ⟨wb, rfl⟩ : ∃ wo, wo = wr := ⟨_, rfl⟩
     obtain ⟨vd, hvd⟩ : ∃ v : Value, v = .slice none 0 0 := ⟨_, rfl⟩
     obtain ⟨dp, hdp⟩ : ∃ v : List (List UInt8), v = [] := ⟨_, rfl⟩
     have HVD := hide (And.intro hvd hdp)
     rw [← hvd, ← hdp] at HS0
     clear hvd hdp
     go_wp2
     go_loopw [10] (fun y wr => ∃ (va1 vn1 vl1 : Value) (R1 : Rw) (k : Nat), k ≤ nn ∧ y = .int .i64 k ∧ Hid (Wk9 wr w1.heap.size g va1 vn1 vb vd vl1 R1 dp 0 z32 [(.slice na nn cn, N)] ∧ Rok U R1 ∧ Kept [] w1 wr ∧ Rw.asks1 f R0 N = Rw.asks1 f R1 (N.drop k))) (fun y wr => nn - (intOf y).toNat)
     case atStart => exact ⟨_, _, _, R0, 0, Nat.zero_le _, rfl, hide ⟨HS0.out.1, HS0.out.2.1, HS0.out.2.2.2.1, by rw [List.drop_zero]⟩⟩
     case round =>
      clear HS0
      obtain ⟨va1, vn1, vl1, R1, k, hk, rfl, HP⟩ := hrel
      by_cases hlt : k < nn
      ·as_aux_lemma =>
       have hlt1 : (k : Int) < (nn : Int) := by omega
       have hkl : k < N.length := by rw [HNN.out]; exact hlt
       have hoN : OwnI wr w1.heap.size (.slice na nn cn) N := (HP.out.1.x (.slice na nn cn, N) (by simp)).1
       obtain ⟨gn, on, hao, hrq⟩ := hoN.ids.1.1 k hkl
       have hq : (N.getD k []).length = 32 := hoN.2 _ (gmem9 hkl)
       have hqin : N.getD k [] ∈ N := gmem9 hkl
       have hdr : N.drop k = N.getD k [] :: N.drop (k + 1) := by rw [List.drop_eq_getElem_cons hkl, List.getD_eq_getElem?_getD, List.getElem?_eq_getElem hkl]; rfl
       obtain ⟨q, hqe⟩ : ∃ q, N.getD k [] = q := ⟨_, rfl⟩
       rw [hqe] at hrq hq hqin hdr
       have hql := idl q hq
       subst hao
       have hqU : q ∈ U := HNU.out.2 q hqin
       have HRQ := hide hrq
       have HV := hide HP.out.1
       have HO := hide HP.out.2.1
       have HQ := hide (And.intro HP.out.2.2.1 HP.out.2.2.2)
       have HDR := hide hdr
       obtain ⟨al, cl, el, _⟩ := own_shape HV.out.n.1.1
       obtain ⟨nL, hnL⟩ : ∃ n, R1.need.length = n := ⟨_, rfl⟩
       rw [hnL] at el
       subst el
       clear hnL hdr hqe hqin hoN hkl HP
       go_upto_region 14 with (fail)
       have cN := HV.out.cn
       have hwith := fun W (hW : Kept [] wr W) => with9b_ok w1.heap.size al nL cl R1.need q W ((HV.out.kept hW).n.1) (HV.out.kept hW).BS HO.out.n.1 hq (HO.out.lenN HU.out.2.2)
       refine wp_region_late (fun w' => Kept [] wr w') (fun i => i == 12) (by kernel_rfl) ?_
       have h0 : Kept [] wr wr.drew := (Kept.refl [] wr).drew
       generalize World.drew wr = v0 at h0 ⊢
       refine wpAnyL_free (i := 0) (v := .pointer (some ⟨g, 0, none⟩)) rfl (by kernel_rfl) (by kernel_rfl) (by kernel_rfl) (fun _ _ _ h => h) (Or.inl ⟨by rfl, fun w _ => by go_simp⟩) ?_
       try simp only [zk1, zk2, zk3, zk4, zk5, zk6, zk7, zk8]
       refine wpAnyL_free (i := 1) (v := .pointer (some ⟨g, 0, none⟩)) rfl (by kernel_rfl) (by kernel_rfl) (by kernel_rfl) (fun _ _ _ h => h) (Or.inl ⟨by rfl, fun w _ => by go_simp⟩) ?_
       try simp only [zk1, zk2, zk3, zk4, zk5, zk6, zk7, zk8]
       refine wpAnyL_free (i := 2) (v := .pointer (some ⟨g, 0, none⟩)) rfl (by kernel_rfl) (by kernel_rfl) (by kernel_rfl) (fun _ _ _ h => h) (Or.inl ⟨by rfl, fun w _ => by go_simp⟩) ?_
       try simp only [zk1, zk2, zk3, zk4, zk5, zk6, zk7, zk8]
       refine wpAnyL_free (i := 3) (v := .pointer (some ⟨g, 1, none⟩)) rfl (by kernel_rfl) (by kernel_rfl) (by kernel_rfl) (fun _ _ _ h => h) (Or.inl ⟨by rfl, fun w _ => by go_simp⟩) ?_
       try simp only [zk1, zk2, zk3, zk4, zk5, zk6, zk7, zk8]
       refine wpAnyL_take (i := 4) (v := .slice al nL cl) rfl (by kernel_rfl) (by kernel_rfl) (by kernel_rfl) (by kernel_rfl) (by kernel_rfl) (fun _ _ _ h => h) (Or.inl ⟨by rfl, fun w hSw => by have c := Kept.cellOf hSw cN (by simp); go_simp⟩) h0 ?_
       try simp only [zk1, zk2, zk3, zk4, zk5, zk6, zk7, zk8]
       refine wpAnyL_free (i := 5) (v := .slice (some ⟨gn, on, none⟩) nn cn) rfl (by kernel_rfl) (by kernel_rfl) (by kernel_rfl) (fun _ _ _ h => h) (Or.inl ⟨by rfl, fun w _ => by go_simp⟩) ?_
       try simp only [zk1, zk2, zk3, zk4, zk5, zk6, zk7, zk8]
       refine wpAnyL_free (i := 6) (v := .int .i64 k) rfl (by kernel_rfl) (by kernel_rfl) (by kernel_rfl) (fun _ _ _ h => h) (Or.inl ⟨by rfl, fun w _ => by go_simp⟩) ?_
       try simp only [zk1, zk2, zk3, zk4, zk5, zk6, zk7, zk8]
       refine wpAnyL_free (i := 7) (v := .pointer (some ⟨gn, on + k * 32, none⟩)) rfl (by kernel_rfl) (by kernel_rfl) (by kernel_rfl) (fun _ _ _ h => h) (Or.inl ⟨by rfl, fun w _ => by go_simp⟩) ?_
       try simp only [zk1, zk2, zk3, zk4, zk5, zk6, zk7, zk8]
       refine wpAnyL_take (i := 8) (v := .agg (bys q).toArray) rfl (by kernel_rfl) (by kernel_rfl) (by kernel_rfl) (by kernel_rfl) (by kernel_rfl) (fun _ _ _ h => h) (yieldsIf_load_mid (by rfl) _ _ rfl gn (on + k * 32) rfl (bys q) _ (fun W h => fun jj u hu => Kept.cellOf h (hrq jj u hu) (by simp)) Tryz.underlying25 rfl hql) h0 ?_
       try simp only [zk1, zk2, zk3, zk4, zk5, zk6, zk7, zk8]
       refine wpAnyL_one (i := 9) (by kernel_rfl) rfl (fun K' hK => ?_)
       rw [if_pos (by rfl)]
       go_simp
       refine (hwith v0 h0).mono ?_
       rintro e w7 ⟨vq', rfl, hol, hk6, hor⟩
       obtain ⟨a', c', e', _⟩ := own_shape hol.1
       obtain ⟨n', hn'⟩ : ∃ n, (wth R1.need q).length = n := ⟨_, rfl⟩
       rw [hn'] at e'
       clear hn'
       subst e'
       have hcs : w7.cell? ⟨g, 1, none⟩ = some (.slice al nL cl) := hk6.cellOf (h0.cellOf cN (by simp)) (by simp)
       have hfz : w7.frozen? ⟨g, 1, none⟩ = false := ((HV.out.kept h0).kept hk6).fz 1
       refine hK.out _ _ (fun _ _ => h0.trans hk6 (by simp)) ?_
       clear hK K'
       try simp only [zk1, zk2, zk3, zk4, zk5, zk6, zk7, zk8]
       refine wpAnyL_free (i := 10) (v := .pointer (some ⟨g, 0, none⟩)) rfl (by kernel_rfl) (by kernel_rfl) (by kernel_rfl) (fun _ _ _ h => h) (Or.inl ⟨by rfl, fun w _ => by go_simp⟩) ?_
       try simp only [zk1, zk2, zk3, zk4, zk5, zk6, zk7, zk8]
       refine wpAnyL_free (i := 11) (v := .pointer (some ⟨g, 1, none⟩)) rfl (by kernel_rfl) (by kernel_rfl) (by kernel_rfl) (fun _ _ _ h => h) (Or.inl ⟨by rfl, fun w _ => by go_simp⟩) ?_
       try simp only [zk1, zk2, zk3, zk4, zk5, zk6, zk7, zk8]
       refine wpAnyL_one (i := 12) (by kernel_rfl) rfl (fun K' hK => ?_)
       rw [if_pos (by rfl)]
       go_simp
       refine hK.out _ _ (fun _ h => by cases h) ?_
       clear hK K'
       try simp only [zk1, zk2, zk3, zk4, zk5, zk6, zk7, zk8]
       refine wpAnyL_done (by kernel_rfl) ?_ _
       have hV := HV.out.kept h0
       have hap := Apt.withd hV.n.2 hV.a hor
       have hset := (hV.kept hk6).setN hol hap
       have hks : Kept [g] w7 (w7.setCell ⟨g, 1, none⟩ (.slice a' n' c')) := (Kept.refl [g] w7).setCell (fun _ => by simp) _
       have hoN2 : OwnI w7 w1.heap.size (.slice (some ⟨gn, on, none⟩) nn cn) N := ((hV.kept hk6).x (.slice (some ⟨gn, on, none⟩) nn cn, N) (by simp)).1
       have hgG : gn ∉ [g] := ids_noWalk hoN2 (hV.kept hk6).row gn rfl
       have hrq8 : (w7.setCell ⟨g, 1, none⟩ (.slice a' n' c')).rangeAt gn (on + k * 32) (bys q) := fun jj u hu => hks.cellOf (hk6.cellOf (h0.cellOf (HRQ.out jj u hu) (by simp)) (by simp)) hgG
       have HKF : Hid (Kept [] w1 (w7.setCell ⟨g, 1, none⟩ (.slice a' n' c'))) := hide (((HQ.out.1.trans h0 (by simp)).trans hk6 (by simp)).trans hks (fun j2 hj2 hlt => by have h3 := hV.gB; have : j2 = g := (by simpa using hj2); omega))
       have HWF := hide hset
       have HRQ8 := hide hrq8
       clear hset hap hV hwith cN h0 hk6 hor hol hcs hfz HV hks hoN2 hgG hrq hrq8
       generalize w7.setCell ⟨g, 1, none⟩ (.slice a' n' c') = w8 at HKF HWF HRQ8 ⊢
       have HO2 := hide (HO.out.needs hqU)
       have hask := fun W (hW : Kept [] w8 W) => ask9_ok (HWF.out.kept hW) (HKF.out.trans hW (by simp)) (HS.out.1.kept HK0.out) (HS.out.2.kept HK0.out) q hq HO2.out.l.1 (HO2.out.lenA HU.out.2.2) (HO2.out.lenL HU.out.2.2) hn
       have hrq := HRQ8.out
       have hrowS : w8.rangeAt S 0 [si, sd, sc] := row_rangeK ((HKF.out.block S HSR.out.1 (by simp)).trans HSR.out.2)
       have HO3 := hide (HO2.out.ask (f := f) hqU)
       obtain ⟨R2, hR2⟩ : ∃ R2, ({ R1 with need := wth R1.need q } : Rw) = R2 := ⟨_, rfl⟩
       have HAS : Hid (Rw.asks1 f R1 (N.drop k) = if (R2.ask f q).1 = true then Rw.asks1 f (R2.ask f q).2 (N.drop (k + 1)) else (some q, (R2.ask f q).2)) := hide (by rw [HDR.out, ← hR2]; rfl)
       rw [hR2] at hask HO3
       clear hR2 HRQ8 HDR HO HO2 HRQ hqU
       obtain ⟨b, hb⟩ : ∃ b, (R2.ask f q).1 = b := ⟨_, rfl⟩
       have HB := hide hb
       simp only [hb] at hask
       clear hb
       cases b with
       | true =>
        go_upto_region 15 with (fail)
        refine wp_region_late (fun w' => Kept [] w8 w') (fun i => i == 6) (by kernel_rfl) ?_
        have h0 : Kept [] w8 w8.drew := (Kept.refl [] w8).drew
        generalize World.drew w8 = v0 at h0 ⊢
        refine wpAnyL_free (i := 0) (v := .pointer (some ⟨g, 0, none⟩)) rfl (by kernel_rfl) (by kernel_rfl) (by kernel_rfl) (fun _ _ _ h => h) (Or.inl ⟨by rfl, fun w _ => by go_simp⟩) ?_
        try simp only [zk1, zk2, zk3, zk4, zk5, zk6, zk7, zk8]
        refine wpAnyL_take (i := 1) (v := .agg #[si, sd, sc]) rfl (by kernel_rfl) (by kernel_rfl) (by kernel_rfl) (by kernel_rfl) (by kernel_rfl) (fun _ _ _ h => h) (yieldsIf_load_mid (by rfl) _ _ rfl S 0 rfl [si, sd, sc] _ (fun W h => fun jj u hu => Kept.cellOf h (hrowS jj u hu) (by simp)) Tryz.underlying39 rfl hial) h0 ?_
        try simp only [zk1, zk2, zk3, zk4, zk5, zk6, zk7, zk8]
        refine wpAnyL_free (i := 2) (v := .slice (some ⟨gn, on, none⟩) nn cn) rfl (by kernel_rfl) (by kernel_rfl) (by kernel_rfl) (fun _ _ _ h => h) (Or.inl ⟨by rfl, fun w _ => by go_simp⟩) ?_
        try simp only [zk1, zk2, zk3, zk4, zk5, zk6, zk7, zk8]
        refine wpAnyL_free (i := 3) (v := .int .i64 k) rfl (by kernel_rfl) (by kernel_rfl) (by kernel_rfl) (fun _ _ _ h => h) (Or.inl ⟨by rfl, fun w _ => by go_simp⟩) ?_
        try simp only [zk1, zk2, zk3, zk4, zk5, zk6, zk7, zk8]
        refine wpAnyL_free (i := 4) (v := .pointer (some ⟨gn, on + k * 32, none⟩)) rfl (by kernel_rfl) (by kernel_rfl) (by kernel_rfl) (fun _ _ _ h => h) (Or.inl ⟨by rfl, fun w _ => by go_simp⟩) ?_
        try simp only [zk1, zk2, zk3, zk4, zk5, zk6, zk7, zk8]
        refine wpAnyL_take (i := 5) (v := .agg (bys q).toArray) rfl (by kernel_rfl) (by kernel_rfl) (by kernel_rfl) (by kernel_rfl) (by kernel_rfl) (fun _ _ _ h => h) (yieldsIf_load_mid (by rfl) _ _ rfl gn (on + k * 32) rfl (bys q) _ (fun W h => fun jj u hu => Kept.cellOf h (hrq jj u hu) (by simp)) Tryz.underlying25 rfl hql) h0 ?_
        try simp only [zk1, zk2, zk3, zk4, zk5, zk6, zk7, zk8]
        refine wpAnyL_one (i := 6) (by kernel_rfl) rfl (fun K' hK => ?_)
        rw [if_pos (by rfl)]
        go_simp
        refine (hask v0 h0).mono ?_
        rintro e w9 ⟨rfl, hK9, va2, vl2, cd2, ci2, hW9, hor⟩
        refine hK.out _ _ (fun _ h => by cases h) ?_
        clear hK K'
        try simp only [zk1, zk2, zk3, zk4, zk5, zk6, zk7, zk8]
        refine wpAnyL_free (i := 7) (v := .bool false) rfl (by kernel_rfl) (by kernel_rfl) (by kernel_rfl) (fun _ _ _ h => h) (Or.inl ⟨by rfl, fun w _ => by go_simp⟩) ?_
        try simp only [zk1, zk2, zk3, zk4, zk5, zk6, zk7, zk8]
        refine wpAnyL_done (by kernel_rfl) ?_ _
        rcases hor with ⟨_, rfl, rfl⟩ | ⟨hx, _⟩
        rotate_left
        ·cases hx
        have HNX : Hid (Wk9 w9 w1.heap.size g va2 (.slice a' n' c') vb vd vl2 (R2.ask f q).2 dp 0 z32 [(.slice (some ⟨gn, on, none⟩) nn cn, N)] ∧ Rok U (R2.ask f q).2 ∧ Kept [] w1 w9 ∧ Rw.asks1 f R0 N = Rw.asks1 f (R2.ask f q).2 (N.drop (k + 1))) := hide ⟨hW9, HO3.out, hK9, by rw [HQ.out.2, HAS.out, if_pos HB.out]⟩
        clear h0 hask hrq hrowS hK9 hW9 HWF HKF HQ HAS HB HO3
        go_wp2
        go_roundw
        case rel => exact ⟨va2, _, vl2, (R2.ask f q).2, k + 1, by omega, by go_num, HNX⟩
        case measure => simp [intOf]; omega
       | false =>
        go_upto_region 15 with (fail)
        refine wp_region_late (fun w' => Kept [] w8 w') (fun i => i == 6) (by kernel_rfl) ?_
        have h0 : Kept [] w8 w8.drew := (Kept.refl [] w8).drew
        generalize World.drew w8 = v0 at h0 ⊢
        refine wpAnyL_free (i := 0) (v := .pointer (some ⟨g, 0, none⟩)) rfl (by kernel_rfl) (by kernel_rfl) (by kernel_rfl) (fun _ _ _ h => h) (Or.inl ⟨by rfl, fun w _ => by go_simp⟩) ?_
        try simp only [zk1, zk2, zk3, zk4, zk5, zk6, zk7, zk8]
        refine wpAnyL_take (i := 1) (v := .agg #[si, sd, sc]) rfl (by kernel_rfl) (by kernel_rfl) (by kernel_rfl) (by kernel_rfl) (by kernel_rfl) (fun _ _ _ h => h) (yieldsIf_load_mid (by rfl) _ _ rfl S 0 rfl [si, sd, sc] _ (fun W h => fun jj u hu => Kept.cellOf h (hrowS jj u hu) (by simp)) Tryz.underlying39 rfl hial) h0 ?_
        try simp only [zk1, zk2, zk3, zk4, zk5, zk6, zk7, zk8]
        refine wpAnyL_free (i := 2) (v := .slice (some ⟨gn, on, none⟩) nn cn) rfl (by kernel_rfl) (by kernel_rfl) (by kernel_rfl) (fun _ _ _ h => h) (Or.inl ⟨by rfl, fun w _ => by go_simp⟩) ?_
        try simp only [zk1, zk2, zk3, zk4, zk5, zk6, zk7, zk8]
        refine wpAnyL_free (i := 3) (v := .int .i64 k) rfl (by kernel_rfl) (by kernel_rfl) (by kernel_rfl) (fun _ _ _ h => h) (Or.inl ⟨by rfl, fun w _ => by go_simp⟩) ?_
        try simp only [zk1, zk2, zk3, zk4, zk5, zk6, zk7, zk8]
        refine wpAnyL_free (i := 4) (v := .pointer (some ⟨gn, on + k * 32, none⟩)) rfl (by kernel_rfl) (by kernel_rfl) (by kernel_rfl) (fun _ _ _ h => h) (Or.inl ⟨by rfl, fun w _ => by go_simp⟩) ?_
        try simp only [zk1, zk2, zk3, zk4, zk5, zk6, zk7, zk8]
        refine wpAnyL_take (i := 5) (v := .agg (bys q).toArray) rfl (by kernel_rfl) (by kernel_rfl) (by kernel_rfl) (by kernel_rfl) (by kernel_rfl) (fun _ _ _ h => h) (yieldsIf_load_mid (by rfl) _ _ rfl gn (on + k * 32) rfl (bys q) _ (fun W h => fun jj u hu => Kept.cellOf h (hrq jj u hu) (by simp)) Tryz.underlying25 rfl hql) h0 ?_
        try simp only [zk1, zk2, zk3, zk4, zk5, zk6, zk7, zk8]
        refine wpAnyL_one (i := 6) (by kernel_rfl) rfl (fun K' hK => ?_)
        rw [if_pos (by rfl)]
        go_simp
        refine (hask v0 h0).mono ?_
        rintro e w9 ⟨rfl, hK9, va2, vl2, cd2, ci2, hW9, hor⟩
        refine hK.out _ _ (fun _ h => by cases h) ?_
        clear hK K'
        try simp only [zk1, zk2, zk3, zk4, zk5, zk6, zk7, zk8]
        refine wpAnyL_free (i := 7) (v := .bool true) rfl (by kernel_rfl) (by kernel_rfl) (by kernel_rfl) (fun _ _ _ h => h) (Or.inl ⟨by rfl, fun w _ => by go_simp⟩) ?_
        try simp only [zk1, zk2, zk3, zk4, zk5, zk6, zk7, zk8]
        refine wpAnyL_done (by kernel_rfl) ?_ _
        rcases hor with ⟨hx, _⟩ | ⟨_, hcd, hci⟩
        ·cases hx
        rw [hcd, hci] at hW9
        clear hcd hci
        have HNX : Hid (Ro9 w9 w.heap.size g f cf (refW f (RL.map (·.root))) ∧ Kept [] w w9) := hide ⟨⟨va2, _, vb, vd, vl2, dp, cf q, q, by
         have e1 : Rw.asks1 f R0 N = (some q, (R2.ask f q).2) := by rw [HQ.out.2, HAS.out, if_neg (by rw [HB.out]; simp)]
         have e2 : refW f (RL.map (·.root)) = (some q, (R2.ask f q).2, N) := by
          unfold refW
          rw [HD.out.2]
          simp only [Rw.rounds, e1]
         rw [e2]
         exact ⟨(hW9.base9 (B2 := w.heap.size) (by have := HB1.out; omega)).drop9, .inr ⟨q, rfl, rfl, rfl, ask_false HB.out⟩⟩⟩, HK0.out.trans hK9 (by simp)⟩
        clear h0 hask hrq hrowS hK9 hW9 HWF HKF HQ HAS HB HO3
        go_wp2
        go_ret
        exact ⟨g, rfl, HNX.out.1, HNX.out.2⟩
      ·obtain rfl : k = nn := by omega
       have hlt1 : ¬ (k : Int) < (k : Int) := by omega
       have HC9 : Hid (Wk9 wr w1.heap.size g va1 vn1 vb vd vl1 R1 dp 0 z32 [(.slice none 0 0, []), (.slice na k cn, N)] ∧ Rok U R1 ∧ Kept [] w1 wr ∧ Rw.asks1 f R0 N = (none, R1)) := hide ⟨HP.out.1.with_ (v := .slice none 0 0) (L := []) ⟨World.ownsRow_nil _ _ _ _, by simp⟩ (apt_nil _) (fun p hp => by simpa using hp), HP.out.2.1, HP.out.2.2.1, by rw [HP.out.2.2.2, List.drop_of_length_le (by rw [HNN.out]; exact Nat.le_refl _)]; rfl⟩
       clear HP
       obtain ⟨wc, rfl⟩ : ∃ wo, wo = wr := ⟨_, rfl⟩
       obtain ⟨nn, rfl⟩ : ∃ r, r = k := ⟨_, rfl⟩
       obtain ⟨va, rfl⟩ : ∃ r, r = va1 := ⟨_, rfl⟩
       obtain ⟨vl, rfl⟩ : ∃ r, r = vl1 := ⟨_, rfl⟩
       obtain ⟨R1s, rfl⟩ : ∃ r, r = R1 := ⟨_, rfl⟩
       go_wp2
       go_loopw [9, 11] (fun x y wr => ∃ (vq vn1 vb1 : Value) (R1 : Rw) (NX : List (List UInt8)) (k : Nat), k ≤ nn ∧ y = .int .i64 k ∧ vq = x ∧ Hid (Wk9 wr w1.heap.size g va vn1 vb1 vd vl R1 dp 0 z32 [(vq, NX), (.slice na nn cn, N)] ∧ Rok U R1 ∧ (Up NX ∧ ∀ p ∈ NX, p ∈ U) ∧ Kept [] w1 wr ∧ Rw.opens f R1s [] N = Rw.opens f R1 NX (N.drop k))) (fun x y wr => nn - (intOf y).toNat)
       case atStart => exact ⟨_, _, _, R1s, [], 0, Nat.zero_le _, rfl, rfl, hide ⟨HC9.out.1, HC9.out.2.1, ⟨by simp [Up], by simp⟩, HC9.out.2.2.1, by rw [List.drop_zero]⟩⟩
       case round =>
        obtain ⟨vq, vn1, vb1, R1, NX, k, hk, rfl, rfl, HP⟩ := hrel
        by_cases hlt : k < nn
        ·as_aux_lemma =>
         have hlt1 : (k : Int) < (nn : Int) := by omega
         have hkl : k < N.length := by rw [HNN.out]; exact hlt
         have hoN : OwnI wr w1.heap.size (.slice na nn cn) N := (HP.out.1.x (.slice na nn cn, N) (by simp)).1
         obtain ⟨gn, on, hao, hrq⟩ := hoN.ids.1.1 k hkl
         have hq : (N.getD k []).length = 32 := hoN.2 _ (gmem9 hkl)
         have hqin : N.getD k [] ∈ N := gmem9 hkl
         have hdr : N.drop k = N.getD k [] :: N.drop (k + 1) := by rw [List.drop_eq_getElem_cons hkl, List.getD_eq_getElem?_getD, List.getElem?_eq_getElem hkl]; rfl
         obtain ⟨q, hqe⟩ : ∃ q, N.getD k [] = q := ⟨_, rfl⟩
         rw [hqe] at hrq hq hqin hdr
         have hql := idl q hq
         subst hao
         have hqU : q ∈ U := HNU.out.2 q hqin
         have HRQ := hide hrq
         have HDR := hide hdr
         have hopen := fun W (hW : Kept [] wr W) => open9_ok (U := U) (X := [(.slice (some ⟨gn, on, none⟩) nn cn, N)]) (HP.out.1.kept hW) (HP.out.2.2.2.1.trans hW (by simp)) (HS.out.1.kept HK0.out) (HS.out.2.kept HK0.out) q hq HP.out.2.1.b.1 (HP.out.2.1.lenB HU.out.2.2) hn HU.out.2.2 HP.out.2.1.n.1 HP.out.2.2.1.1 HP.out.2.1.n.2 HP.out.2.2.1.2 (fun xs E h1 h2 => HU.out.2.1 q xs E h1 h2) (fun xs E h1 h2 => Nat.le_trans (parse_lenK h2) (by decide))
         have hrowS : wr.rangeAt S 0 [si, sd, sc] := row_rangeK ((HP.out.2.2.2.1.block S HSR.out.1 (by simp)).trans HSR.out.2)
         have HOP := hide (HP.out.2.1.openE hqU HP.out.2.2.1 (fun xs E h1 h2 => HU.out.2.1 q xs E h1 h2))
         clear hdr hqe hqin hoN hkl
         go_upto_region 20 with (fail)
         refine wp_region_late (fun w' => Kept [] wr w') (fun i => i == 7 || i == 8) (by kernel_rfl) ?_
         have h0 : Kept [] wr wr.drew := (Kept.refl [] wr).drew
         generalize World.drew wr = v0 at h0 ⊢
         refine wpAnyL_free (i := 0) (v := .pointer (some ⟨g, 0, none⟩)) rfl (by kernel_rfl) (by kernel_rfl) (by kernel_rfl) (fun _ _ _ h => h) (Or.inl ⟨by rfl, fun w _ => by go_simp⟩) ?_
         try simp only [zk1, zk2, zk3, zk4, zk5, zk6, zk7, zk8]
         refine wpAnyL_take (i := 1) (v := .agg #[si, sd, sc]) rfl (by kernel_rfl) (by kernel_rfl) (by kernel_rfl) (by kernel_rfl) (by kernel_rfl) (fun _ _ _ h => h) (yieldsIf_load_mid (by rfl) _ _ rfl S 0 rfl [si, sd, sc] _ (fun W h => fun jj u hu => Kept.cellOf h (hrowS jj u hu) (by simp)) Tryz.underlying39 rfl hial) h0 ?_
         try simp only [zk1, zk2, zk3, zk4, zk5, zk6, zk7, zk8]
         refine wpAnyL_free (i := 2) (v := .slice (some ⟨gn, on, none⟩) nn cn) rfl (by kernel_rfl) (by kernel_rfl) (by kernel_rfl) (fun _ _ _ h => h) (Or.inl ⟨by rfl, fun w _ => by go_simp⟩) ?_
         try simp only [zk1, zk2, zk3, zk4, zk5, zk6, zk7, zk8]
         refine wpAnyL_free (i := 3) (v := .int .i64 k) rfl (by kernel_rfl) (by kernel_rfl) (by kernel_rfl) (fun _ _ _ h => h) (Or.inl ⟨by rfl, fun w _ => by go_simp⟩) ?_
         try simp only [zk1, zk2, zk3, zk4, zk5, zk6, zk7, zk8]
         refine wpAnyL_free (i := 4) (v := .pointer (some ⟨gn, on + k * 32, none⟩)) rfl (by kernel_rfl) (by kernel_rfl) (by kernel_rfl) (fun _ _ _ h => h) (Or.inl ⟨by rfl, fun w _ => by go_simp⟩) ?_
         try simp only [zk1, zk2, zk3, zk4, zk5, zk6, zk7, zk8]
         refine wpAnyL_take (i := 5) (v := .agg (bys q).toArray) rfl (by kernel_rfl) (by kernel_rfl) (by kernel_rfl) (by kernel_rfl) (by kernel_rfl) (fun _ _ _ h => h) (yieldsIf_load_mid (by rfl) _ _ rfl gn (on + k * 32) rfl (bys q) _ (fun W h => fun jj u hu => Kept.cellOf h (hrq jj u hu) (by simp)) Tryz.underlying25 rfl hql) h0 ?_
         try simp only [zk1, zk2, zk3, zk4, zk5, zk6, zk7, zk8]
         refine wpAnyL_free (i := 6) (v := vq) rfl (by kernel_rfl) (by kernel_rfl) (by kernel_rfl) (fun _ _ _ h => h) (Or.inl ⟨by rfl, fun w _ => by go_simp⟩) ?_
         try simp only [zk1, zk2, zk3, zk4, zk5, zk6, zk7, zk8]
         refine wpAnyL_one (i := 7) (by kernel_rfl) rfl (fun K' hK => ?_)
         rw [if_pos (by rfl)]
         go_simp
         refine (hopen v0 h0).mono ?_
         rintro e w9 ⟨vq2, vn2, vb2, rfl, hK9, hW9⟩
         refine hK.out _ _ (fun _ h => by cases h) ?_
         clear hK K'
         try simp only [zk1, zk2, zk3, zk4, zk5, zk6, zk7, zk8]
         refine wpAnyL_free (i := 8) (v := vq2) rfl (by kernel_rfl) (by kernel_rfl) (by kernel_rfl) (fun _ _ _ h => h) (Or.inl ⟨by rfl, fun w _ => by go_simp⟩) ?_
         try simp only [zk1, zk2, zk3, zk4, zk5, zk6, zk7, zk8]
         refine wpAnyL_done (by kernel_rfl) ?_ _
         have HNX : Hid (Wk9 w9 w1.heap.size g va vn2 vb2 vd vl (R1.openE q NX (f q)).1 dp 0 z32 [(vq2, (R1.openE q NX (f q)).2), (.slice (some ⟨gn, on, none⟩) nn cn, N)] ∧ Rok U (R1.openE q NX (f q)).1 ∧ (Up (R1.openE q NX (f q)).2 ∧ ∀ p ∈ (R1.openE q NX (f q)).2, p ∈ U) ∧ Kept [] w1 w9 ∧ Rw.opens f R1s [] N = Rw.opens f (R1.openE q NX (f q)).1 (R1.openE q NX (f q)).2 (N.drop (k + 1))) := hide ⟨hW9, HOP.out.1, HOP.out.2, hK9, by rw [HP.out.2.2.2.2, HDR.out]; rfl⟩
         clear h0 hopen hrq hrowS hK9 hW9 HP HOP HDR HRQ
         go_wp2
         go_roundw
         case rel => exact ⟨vq2, vn2, vb2, _, _, k + 1, by omega, by go_num, rfl, HNX⟩
         case measure => simp [intOf]; omega
        ·obtain rfl : k = nn := by omega
         have hlt1 : ¬ (k : Int) < (k : Int) := by omega
         have HE9 : Hid (Wk9 wr w1.heap.size g va vn1 vb1 (.slice none 0 0) vl R1 [] 0 z32 [(vq, NX)] ∧ Rok U R1 ∧ (Up NX ∧ ∀ p ∈ NX, p ∈ U) ∧ Kept [] w1 wr ∧ Rw.rounds f 6 ⟨[], [], [], []⟩ (canon (RL.map (·.root))) = Rw.rounds f (7 - (d + 1)) R1 NX) := hide (by
          have h := HP.out
          rw [HVD.out.1, HVD.out.2] at h
          have e1 : Rw.opens f R1s [] N = (R1, NX) := by rw [h.2.2.2.2, List.drop_of_length_le (by rw [HNN.out]; exact Nat.le_refl _)]; rfl
          refine ⟨h.1.with_ ((h.1.x (vq, NX) (by simp)).1) ((h.1.x (vq, NX) (by simp)).2) (fun p hp => .inl (by simpa using hp)), h.2.1, h.2.2.1, h.2.2.2.1, ?_⟩
          have hm := HD.out.1
          rw [show 7 - (d + 1) = m by omega, HD.out.2]
          simp only [Rw.rounds, HC9.out.2.2.2, e1])
         clear HP HC9
         go_wp2
         go_roundw
         case rel => exact ⟨vq, va, vn1, vb1, vl, R1, NX, d + 1, by omega, by omega, by go_num, rfl, HE9⟩
         case measure => simp [intOf]; omega
    ·have hd8 : d = 7 := by omega
     subst hd8
     have hd6 : ¬ ((7 : Nat) : Int) ≤ 6 := by omega
     have HRW0 : Hid (refW f (RL.map (·.root)) = ((Rw.asks f R0 R0.need).1, (Rw.asks f R0 R0.need).2, N)) := hide (by
      unfold refW
      rw [HP.out.2.2.2.2]
      rfl)
     have HS0 := hide HP.out
     clear HP
     have cD := HS0.out.1.cdd
     have fD := HS0.out.1.fz 3
     go_upto_region 23 with (fail)
     have hx := HS0.out.1.x (.slice na nn cn, N) (by simp)
     have hset := HS0.out.1.setD hx.1 hx.2
     have HKD : Hid (Kept [] w1 (wr.setCell ⟨g, 3, none⟩ (.slice na nn cn))) := hide (HS0.out.2.2.2.1.trans ((Kept.refl [g] wr).setCell (fun _ => by simp) _) (fun j hj hlt => by have h3 := HS0.out.1.gB; have : j = g := (by simpa using hj); omega))
     have HWD := hide hset.drop9
     clear cD fD hset hx
     generalize wr.setCell ⟨g, 3, none⟩ (.slice na nn cn) = w5 at HKD HWD ⊢
     obtain ⟨vd, hvd⟩ : ∃ v : Value, v = .slice na nn cn := ⟨_, rfl⟩
     rw [← hvd] at HWD
     obtain ⟨dp, rfl⟩ : ∃ v, v = N := ⟨_, rfl⟩
     obtain ⟨Rz, rfl⟩ : ∃ v, v = R0 := ⟨_, rfl⟩
     have HOZ := hide HS0.out.2.1
     clear HS0 hvd HNN HNU hnnm
     obtain ⟨na2, cn2, en, _⟩ := own_shape HWD.out.n.1.1
     obtain ⟨N, hN⟩ : ∃ N, Rz.need = N := ⟨_, rfl⟩
     have HRW : Hid (refW f (RL.map (·.root)) = ((Rw.asks f Rz N).1, (Rw.asks f Rz N).2, dp)) := hide (by rw [HRW0.out, hN])
     obtain ⟨nn2, hnn⟩ : ∃ n, N.length = n := ⟨_, rfl⟩
     have hen : vn = .slice na2 nn2 cn2 := by rw [← hnn, ← hN]; exact en
     have HNN := hide hnn
     have HNU : Hid (Up N ∧ ∀ q ∈ N, q ∈ U) := hide (by rw [← hN]; exact HOZ.out.n)
     have HNE := hide hN
     clear en hnn HRW0 hN
     subst hen
     have hnnm : nn2 ≤ 4611686018427387904 := by have h := nodup_le (up_nodupT HNU.out.1) HNU.out.2; have h2 := HU.out.2.2; have h3 := HNN.out; omega
     obtain ⟨na, rfl⟩ : ∃ r, r = na2 := ⟨_, rfl⟩
     obtain ⟨nn, rfl⟩ : ∃ r, r = nn2 := ⟨_, rfl⟩
     obtain ⟨cn, rfl⟩ : ∃ r, r = cn2 := ⟨_, rfl⟩
     go_wp2
     go_loopw [12] (fun y wr => ∃ (va1 vl1 : Value) (R1 : Rw) (k : Nat), k ≤ nn ∧ y = .int .i64 k ∧ Hid (Wk9 wr w1.heap.size g va1 (.slice na nn cn) vb vd vl1 R1 dp 0 z32 [] ∧ Rok U R1 ∧ R1.need = N ∧ Kept [] w1 wr ∧ Rw.asks f Rz N = Rw.asks f R1 (N.drop k))) (fun y wr => nn - (intOf y).toNat)
     case atStart => exact ⟨_, _, Rz, 0, Nat.zero_le _, rfl, hide ⟨HWD.out, HOZ.out, HNE.out, HKD.out, by rw [List.drop_zero]⟩⟩
     case round =>
      clear HWD HKD HOZ
      obtain ⟨va1, vl1, R1, k, hk, rfl, HP⟩ := hrel
      have cN := HP.out.1.cn
      by_cases hlt : k < nn
      ·as_aux_lemma =>
       have hlt1 : (k : Int) < (nn : Int) := by omega
       have hkl : k < N.length := by rw [HNN.out]; exact hlt
       have hoN : OwnI wr w1.heap.size (.slice na nn cn) N := (by have h := HP.out.1.n.1; rw [HP.out.2.2.1] at h; exact h)
       obtain ⟨gn, on, hao, hrq⟩ := hoN.ids.1.1 k hkl
       have hq : (N.getD k []).length = 32 := hoN.2 _ (gmem9 hkl)
       have hqin : N.getD k [] ∈ N := gmem9 hkl
       have hdr : N.drop k = N.getD k [] :: N.drop (k + 1) := by rw [List.drop_eq_getElem_cons hkl, List.getD_eq_getElem?_getD, List.getElem?_eq_getElem hkl]; rfl
       obtain ⟨q, hqe⟩ : ∃ q, N.getD k [] = q := ⟨_, rfl⟩
       rw [hqe] at hrq hq hqin hdr
       have hql := idl q hq
       subst hao
       have hqU : q ∈ U := HNU.out.2 q hqin
       have HRQ := hide hrq
       have HDR := hide hdr
       have hask := fun W (hW : Kept [] wr W) => ask9_ok (HP.out.1.kept hW) (HP.out.2.2.2.1.trans hW (by simp)) (HS.out.1.kept HK0.out) (HS.out.2.kept HK0.out) q hq HP.out.2.1.l.1 (HP.out.2.1.lenA HU.out.2.2) (HP.out.2.1.lenL HU.out.2.2) hn
       have hrowS : wr.rangeAt S 0 [si, sd, sc] := row_rangeK ((HP.out.2.2.2.1.block S HSR.out.1 (by simp)).trans HSR.out.2)
       have HO3 := hide (HP.out.2.1.ask (f := f) hqU)
       have HAS : Hid (Rw.asks f R1 (N.drop k) = if (R1.ask f q).1 = true then Rw.asks f (R1.ask f q).2 (N.drop (k + 1)) else (some q, (R1.ask f q).2)) := hide (by rw [HDR.out]; rfl)
       clear hdr hqe hqin hoN hkl HDR
       obtain ⟨b, hb⟩ : ∃ b, (R1.ask f q).1 = b := ⟨_, rfl⟩
       have HB := hide hb
       simp only [hb] at hask
       clear hb
       cases b with
       | true =>
        go_upto_region 26 with (fail)
        refine wp_region_late (fun w' => Kept [] wr w') (fun i => i == 9) (by kernel_rfl) ?_
        have h0 : Kept [] wr wr.drew := (Kept.refl [] wr).drew
        generalize World.drew wr = v0 at h0 ⊢
        refine wpAnyL_free (i := 0) (v := .pointer (some ⟨g, 0, none⟩)) rfl (by kernel_rfl) (by kernel_rfl) (by kernel_rfl) (fun _ _ _ h => h) (Or.inl ⟨by rfl, fun w _ => by go_simp⟩) ?_
        try simp only [zk1, zk2, zk3, zk4, zk5, zk6, zk7, zk8]
        refine wpAnyL_take (i := 1) (v := .agg #[si, sd, sc]) rfl (by kernel_rfl) (by kernel_rfl) (by kernel_rfl) (by kernel_rfl) (by kernel_rfl) (fun _ _ _ h => h) (yieldsIf_load_mid (by rfl) _ _ rfl S 0 rfl [si, sd, sc] _ (fun W h => fun jj u hu => Kept.cellOf h (hrowS jj u hu) (by simp)) Tryz.underlying39 rfl hial) h0 ?_
        try simp only [zk1, zk2, zk3, zk4, zk5, zk6, zk7, zk8]
        refine wpAnyL_free (i := 2) (v := .pointer (some ⟨g, 0, none⟩)) rfl (by kernel_rfl) (by kernel_rfl) (by kernel_rfl) (fun _ _ _ h => h) (Or.inl ⟨by rfl, fun w _ => by go_simp⟩) ?_
        try simp only [zk1, zk2, zk3, zk4, zk5, zk6, zk7, zk8]
        refine wpAnyL_free (i := 3) (v := .pointer (some ⟨g, 0, none⟩)) rfl (by kernel_rfl) (by kernel_rfl) (by kernel_rfl) (fun _ _ _ h => h) (Or.inl ⟨by rfl, fun w _ => by go_simp⟩) ?_
        try simp only [zk1, zk2, zk3, zk4, zk5, zk6, zk7, zk8]
        refine wpAnyL_free (i := 4) (v := .pointer (some ⟨g, 1, none⟩)) rfl (by kernel_rfl) (by kernel_rfl) (by kernel_rfl) (fun _ _ _ h => h) (Or.inl ⟨by rfl, fun w _ => by go_simp⟩) ?_
        try simp only [zk1, zk2, zk3, zk4, zk5, zk6, zk7, zk8]
        refine wpAnyL_take (i := 5) (v := .slice (some ⟨gn, on, none⟩) nn cn) rfl (by kernel_rfl) (by kernel_rfl) (by kernel_rfl) (by kernel_rfl) (by kernel_rfl) (fun _ _ _ h => h) (Or.inl ⟨by rfl, fun w hSw => by have c := Kept.cellOf hSw cN (by simp); go_simp⟩) h0 ?_
        try simp only [zk1, zk2, zk3, zk4, zk5, zk6, zk7, zk8]
        refine wpAnyL_free (i := 6) (v := .int .i64 k) rfl (by kernel_rfl) (by kernel_rfl) (by kernel_rfl) (fun _ _ _ h => h) (Or.inl ⟨by rfl, fun w _ => by go_simp⟩) ?_
        try simp only [zk1, zk2, zk3, zk4, zk5, zk6, zk7, zk8]
        refine wpAnyL_free (i := 7) (v := .pointer (some ⟨gn, on + k * 32, none⟩)) rfl (by kernel_rfl) (by kernel_rfl) (by kernel_rfl) (fun _ _ _ h => h) (Or.inl ⟨by rfl, fun w _ => by go_simp⟩) ?_
        try simp only [zk1, zk2, zk3, zk4, zk5, zk6, zk7, zk8]
        refine wpAnyL_take (i := 8) (v := .agg (bys q).toArray) rfl (by kernel_rfl) (by kernel_rfl) (by kernel_rfl) (by kernel_rfl) (by kernel_rfl) (fun _ _ _ h => h) (yieldsIf_load_mid (by rfl) _ _ rfl gn (on + k * 32) rfl (bys q) _ (fun W h => fun jj u hu => Kept.cellOf h (hrq jj u hu) (by simp)) Tryz.underlying25 rfl hql) h0 ?_
        try simp only [zk1, zk2, zk3, zk4, zk5, zk6, zk7, zk8]
        refine wpAnyL_one (i := 9) (by kernel_rfl) rfl (fun K' hK => ?_)
        rw [if_pos (by rfl)]
        go_simp
        refine (hask v0 h0).mono ?_
        rintro e w9 ⟨rfl, hK9, va2, vl2, cd2, ci2, hW9, hor⟩
        refine hK.out _ _ (fun _ h => by cases h) ?_
        clear hK K'
        try simp only [zk1, zk2, zk3, zk4, zk5, zk6, zk7, zk8]
        refine wpAnyL_free (i := 10) (v := .bool false) rfl (by kernel_rfl) (by kernel_rfl) (by kernel_rfl) (fun _ _ _ h => h) (Or.inl ⟨by rfl, fun w _ => by go_simp⟩) ?_
        try simp only [zk1, zk2, zk3, zk4, zk5, zk6, zk7, zk8]
        refine wpAnyL_done (by kernel_rfl) ?_ _
        rcases hor with ⟨_, rfl, rfl⟩ | ⟨hx, _⟩
        rotate_left
        ·cases hx
        have HNX : Hid (Wk9 w9 w1.heap.size g va2 (.slice (some ⟨gn, on, none⟩) nn cn) vb vd vl2 (R1.ask f q).2 dp 0 z32 [] ∧ Rok U (R1.ask f q).2 ∧ (R1.ask f q).2.need = N ∧ Kept [] w1 w9 ∧ Rw.asks f Rz N = Rw.asks f (R1.ask f q).2 (N.drop (k + 1))) := hide ⟨hW9, HO3.out, by rw [ask_need]; exact HP.out.2.2.1, hK9, by rw [HP.out.2.2.2.2, HAS.out, if_pos HB.out]⟩
        clear h0 hask hrq hrowS hK9 hW9 HP HAS HB HO3 cN
        go_wp2
        go_roundw
        case rel => exact ⟨va2, vl2, (R1.ask f q).2, k + 1, by omega, by go_num, HNX⟩
        case measure => simp [intOf]; omega
       | false =>
        go_upto_region 26 with (fail)
        refine wp_region_late (fun w' => Kept [] wr w') (fun i => i == 9) (by kernel_rfl) ?_
        have h0 : Kept [] wr wr.drew := (Kept.refl [] wr).drew
        generalize World.drew wr = v0 at h0 ⊢
        refine wpAnyL_free (i := 0) (v := .pointer (some ⟨g, 0, none⟩)) rfl (by kernel_rfl) (by kernel_rfl) (by kernel_rfl) (fun _ _ _ h => h) (Or.inl ⟨by rfl, fun w _ => by go_simp⟩) ?_
        try simp only [zk1, zk2, zk3, zk4, zk5, zk6, zk7, zk8]
        refine wpAnyL_take (i := 1) (v := .agg #[si, sd, sc]) rfl (by kernel_rfl) (by kernel_rfl) (by kernel_rfl) (by kernel_rfl) (by kernel_rfl) (fun _ _ _ h => h) (yieldsIf_load_mid (by rfl) _ _ rfl S 0 rfl [si, sd, sc] _ (fun W h => fun jj u hu => Kept.cellOf h (hrowS jj u hu) (by simp)) Tryz.underlying39 rfl hial) h0 ?_
        try simp only [zk1, zk2, zk3, zk4, zk5, zk6, zk7, zk8]
        refine wpAnyL_free (i := 2) (v := .pointer (some ⟨g, 0, none⟩)) rfl (by kernel_rfl) (by kernel_rfl) (by kernel_rfl) (fun _ _ _ h => h) (Or.inl ⟨by rfl, fun w _ => by go_simp⟩) ?_
        try simp only [zk1, zk2, zk3, zk4, zk5, zk6, zk7, zk8]
        refine wpAnyL_free (i := 3) (v := .pointer (some ⟨g, 0, none⟩)) rfl (by kernel_rfl) (by kernel_rfl) (by kernel_rfl) (fun _ _ _ h => h) (Or.inl ⟨by rfl, fun w _ => by go_simp⟩) ?_
        try simp only [zk1, zk2, zk3, zk4, zk5, zk6, zk7, zk8]
        refine wpAnyL_free (i := 4) (v := .pointer (some ⟨g, 1, none⟩)) rfl (by kernel_rfl) (by kernel_rfl) (by kernel_rfl) (fun _ _ _ h => h) (Or.inl ⟨by rfl, fun w _ => by go_simp⟩) ?_
        try simp only [zk1, zk2, zk3, zk4, zk5, zk6, zk7, zk8]
        refine wpAnyL_take (i := 5) (v := .slice (some ⟨gn, on, none⟩) nn cn) rfl (by kernel_rfl) (by kernel_rfl) (by kernel_rfl) (by kernel_rfl) (by kernel_rfl) (fun _ _ _ h => h) (Or.inl ⟨by rfl, fun w hSw => by have c := Kept.cellOf hSw cN (by simp); go_simp⟩) h0 ?_
        try simp only [zk1, zk2, zk3, zk4, zk5, zk6, zk7, zk8]
        refine wpAnyL_free (i := 6) (v := .int .i64 k) rfl (by kernel_rfl) (by kernel_rfl) (by kernel_rfl) (fun _ _ _ h => h) (Or.inl ⟨by rfl, fun w _ => by go_simp⟩) ?_
        try simp only [zk1, zk2, zk3, zk4, zk5, zk6, zk7, zk8]
        refine wpAnyL_free (i := 7) (v := .pointer (some ⟨gn, on + k * 32, none⟩)) rfl (by kernel_rfl) (by kernel_rfl) (by kernel_rfl) (fun _ _ _ h => h) (Or.inl ⟨by rfl, fun w _ => by go_simp⟩) ?_
        try simp only [zk1, zk2, zk3, zk4, zk5, zk6, zk7, zk8]
        refine wpAnyL_take (i := 8) (v := .agg (bys q).toArray) rfl (by kernel_rfl) (by kernel_rfl) (by kernel_rfl) (by kernel_rfl) (by kernel_rfl) (fun _ _ _ h => h) (yieldsIf_load_mid (by rfl) _ _ rfl gn (on + k * 32) rfl (bys q) _ (fun W h => fun jj u hu => Kept.cellOf h (hrq jj u hu) (by simp)) Tryz.underlying25 rfl hql) h0 ?_
        try simp only [zk1, zk2, zk3, zk4, zk5, zk6, zk7, zk8]
        refine wpAnyL_one (i := 9) (by kernel_rfl) rfl (fun K' hK => ?_)
        rw [if_pos (by rfl)]
        go_simp
        refine (hask v0 h0).mono ?_
        rintro e w9 ⟨rfl, hK9, va2, vl2, cd2, ci2, hW9, hor⟩
        refine hK.out _ _ (fun _ h => by cases h) ?_
        clear hK K'
        try simp only [zk1, zk2, zk3, zk4, zk5, zk6, zk7, zk8]
        refine wpAnyL_free (i := 10) (v := .bool true) rfl (by kernel_rfl) (by kernel_rfl) (by kernel_rfl) (fun _ _ _ h => h) (Or.inl ⟨by rfl, fun w _ => by go_simp⟩) ?_
        try simp only [zk1, zk2, zk3, zk4, zk5, zk6, zk7, zk8]
        refine wpAnyL_done (by kernel_rfl) ?_ _
        rcases hor with ⟨hx, _⟩ | ⟨_, hcd, hci⟩
        ·cases hx
        rw [hcd, hci] at hW9
        clear hcd hci
        have HNX : Hid (Ro9 w9 w.heap.size g f cf (refW f (RL.map (·.root))) ∧ Kept [] w w9) := hide ⟨⟨va2, _, vb, vd, vl2, dp, cf q, q, by
         have e1 : Rw.asks f Rz N = (some q, (R1.ask f q).2) := by rw [HP.out.2.2.2.2, HAS.out, if_neg (by rw [HB.out]; simp)]
         have e2 : refW f (RL.map (·.root)) = (some q, (R1.ask f q).2, dp) := by
          rw [HRW.out, e1]
         rw [e2]
         exact ⟨hW9.base9 (B2 := w.heap.size) (by have := HB1.out; omega), .inr ⟨q, rfl, rfl, rfl, ask_false HB.out⟩⟩⟩, HK0.out.trans hK9 (by simp)⟩
        clear h0 hask hrq hrowS hK9 hW9 HP HAS HB HO3 cN
        go_wp2
        go_ret
        exact ⟨g, rfl, HNX.out.1, HNX.out.2⟩
      ·obtain rfl : k = nn := by omega
       have hlt1 : ¬ (k : Int) < (k : Int) := by omega
       have HNX : Hid (Ro9 wr w.heap.size g f cf (refW f (RL.map (·.root))) ∧ Kept [] w wr) := hide ⟨⟨va1, _, vb, vd, vl1, dp, 0, z32, by
         have e1 : Rw.asks f Rz N = (none, R1) := by rw [HP.out.2.2.2.2, List.drop_of_length_le (by rw [HNN.out]; exact Nat.le_refl _)]; rfl
         have e2 : refW f (RL.map (·.root)) = (none, R1, dp) := by
          rw [HRW.out, e1]
         rw [e2]
         exact ⟨HP.out.1.base9 (B2 := w.heap.size) (by have := HB1.out; omega), .inl ⟨rfl, rfl, rfl, rfl⟩⟩⟩, HK0.out.trans HP.out.2.2.2.1 (by simp)⟩
       clear HP
       go_wp2
       go_ret
       exact ⟨g, rfl, HNX.out.1, HNX.out.2⟩
end

end Go.Proofs.YtngaimahhgmciaaGreatDoor
