import Derived.Test.YtodihkdmneihiaaGreatDoorFap
import Derived.Test.YtodihkdmneihiaaGreatDoorFohp
import Derived.Test.YtodihkdmneihiaaGreatDoorIep
import Derived.Test.YtodihkdmneihiaaGreatDoorFqdp
namespace Go.Proofs.YtodihkdmneihiaaGreatDoor
section
open Go.RowKit Dsk
set_option linter.unusedVariables false
set_option linter.unusedSimpArgs false
namespace Dsk
def dels (l : Nm) (ns : List By) : Nm := l.filter (fun p => !ns.contains p.1)
theorem dels_nil (l : Nm) : dels l [] = l := by simp [dels]
theorem dels_snoc (l : Nm) (ns : List By) (n : By) : (dels l ns).del n = dels l (ns ++ [n]) := by
 unfold dels Nm.del
 rw [List.filter_filter]
 apply List.filter_congr
 intro p _
 rw [Bool.eq_iff_iff]
 simp [and_comm]
theorem dels_get {l : Nm} {ns : List By} {n : By} (h : n ∈ l.keys) (hn : n ∉ ns) : ∃ k, (dels l ns).get n = some k := by
 obtain ⟨p, hp, rfl⟩ := List.mem_map.1 h
 unfold Nm.get
 cases hf : (dels l ns).find? (fun q => q.1 == p.1) with
 | some q => exact ⟨q.2, rfl⟩
 | none => exact absurd (List.find?_eq_none.1 hf p (List.mem_filter.2 ⟨hp, by simpa using hn⟩)) (by simp)
structure Cl (S : Ds) (ns : List By) (D : Ds) : Prop where
 on : D.on = true
 strokes : D.strokes = S.strokes + ns.length
 safe : D.safe = S.safe
 row : D.row = S.row ++ ns.map .tk
 shown : D.shown = dels S.shown ns
 th : D.th = S.th
 off : D.off = S.off
structure Ct (S : Ds) (ns : List By) (D : Ds) : Prop where
 on : D.on = false
 safe : D.safe = S.safe
 row : D.row = S.row ++ ns.map .tk
 th : D.th = S.th
 pos : 1 ≤ S.off
structure Dn (S : Ds) (ns : List By) (D : Ds) : Prop where
 strokes : D.strokes = S.strokes + ns.length + 1
 safe : D.safe = dels S.shown ns
 row : D.row = []
 th : D.th = S.th
 on : D.on = true
 shown : D.shown = dels S.shown ns
 off : D.off = S.off
theorem goes_at {D : Ds} (h : D.goesOff = true) : 1 ≤ D.off := by
 unfold Ds.goesOff at h
 have := of_decide_eq_true h
 omega
theorem Cl.start {S : Ds} (h : S.on = true) : Cl S [] S := ⟨h, rfl, rfl, by simp, (dels_nil _).symm, rfl, rfl⟩
theorem Cl.step {S D : Ds} {ns : List By} {n : By} (h : Cl S ns D) (hm : isNm n = true) (hk : n ∈ S.shown.keys) (hn : n ∉ ns) :
  ((D.remove n).1 = 0 ∧ Cl S (ns ++ [n]) (D.remove n).2) ∨ ((D.remove n).1 = 50 ∧ Ct S (ns ++ [n]) (D.remove n).2) := by
 obtain ⟨k, hg⟩ := dels_get hk hn
 rw [← h.shown] at hg
 have er : D.remove n = (D.ans 0, D.tick.addName (.tk n)) := by simp [Ds.remove, Ds.find, hm, h.on, hg]
 rw [er]
 by_cases g : D.goesOff = true
 ·exact .inr ⟨by simp [Ds.ans, g], by simp [Ds.addName, Ds.tick, g], h.safe, by show D.row ++ [.tk n] = _; rw [h.row]; simp, h.th, by rw [← h.off]; exact goes_at g⟩
 ·have g' : D.goesOff = false := by simpa using g
  exact .inl ⟨by simp [Ds.ans, g'], by simp [Ds.addName, Ds.tick, g', h.on], by show D.strokes + 1 = _; rw [h.strokes]; simp; omega, h.safe, by show D.row ++ [.tk n] = _; rw [h.row]; simp, by show D.shown.del n = _; rw [h.shown, dels_snoc], h.th, h.off⟩
theorem Cl.sync {S D : Ds} {ns : List By} (h : Cl S ns D) : (D.syncNames.1 = 0 ∧ Dn S ns D.syncNames.2) ∨ (D.syncNames.1 = 50 ∧ Ct S ns D.syncNames.2) := by
 by_cases g : D.goesOff = true
 ·have e : D.syncNames = (50, D.tick) := by simp [Ds.syncNames, h.on, g]
  rw [e]
  exact .inr ⟨rfl, by simp [Ds.tick, g], h.safe, h.row, h.th, by rw [← h.off]; exact goes_at g⟩
 ·have g' : D.goesOff = false := by simpa using g
  have e : D.syncNames = (0, { D.tick with safe := D.shown, row := [] }) := by simp [Ds.syncNames, h.on, g', Ds.tick]
  rw [e]
  exact .inl ⟨rfl, by show D.strokes + 1 = _; rw [h.strokes], h.shown, rfl, h.th, by show (D.on && !D.goesOff) = true; rw [h.on, g']; rfl, h.shown, h.off⟩
def rest (q : By) (l : List (By × By)) : List (By × By) := l.filter (fun f => !q.isPrefixOf f.1)
theorem list_mem {S : Ds} (hon : S.on = true) {q n : By} : n ∈ S.list q ↔ n ∈ S.shown.keys ∧ q.isPrefixOf n = true := by simp [Ds.list, hon]
theorem list_len {S : Ds} (hon : S.on = true) (q : By) : (S.list q).length + (rest q S.files).length = S.files.length := by
 have e : S.list q = (S.files.filter (fun f => q.isPrefixOf f.1)).map (·.1) := by
  have : S.shown.keys = S.files.map (·.1) := by simp [Nm.keys, Ds.files]
  simp only [Ds.list, hon, if_true, this]
  rw [List.filter_map]
  rfl
 rw [e, List.length_map]
 unfold rest
 generalize S.files = l
 induction l with
 | nil => rfl
 | cons f r ih =>
  simp only [List.filter_cons, List.length_cons]
  cases q.isPrefixOf f.1 <;> simp <;> omega
end Dsk
end

section
open Go.RowKit Dsk
set_option linter.unusedVariables false
set_option linter.unusedSimpArgs false
theorem list_ax {X : Nat → Prop} {wa w : World} {p : Nat} {S : Ds} {N : Nat} (h : Ax X wa w p S N) (hN : N ≤ 268435456) (q : By) (hq : q.length ≤ 4611686018427387904) : Calls Tryz.prog 65 #[.pointer (some ⟨p, 0, none⟩), encStr q] w fun e w' => ∃ v, e = .returned v ∧ w'.ownsRow 0 9 1 v (S.list q).length ((S.list q).map encStr) ∧ (∀ g, v.ownBlock = some g → w.heap.size ≤ g) ∧ Kept [] w w' := by
 obtain ⟨A, o, hP, ho, hw, hb⟩ := h
 exact list_ok hP hb hN q hq
namespace Dsk
theorem Nm.Up.nodup {l : Nm} (h : l.Up) : l.keys.Nodup := by
 unfold Nm.keys
 rw [List.nodup_iff_pairwise_ne, List.pairwise_map]
 exact h.imp (fun hb e => by rw [e, before_irrefl] at hb; cases hb)
theorem Ds.Wf.list_nodup {S : Ds} (h : S.Wf) (q : By) : (S.list q).Nodup := by
 unfold Ds.list
 split
 ·exact (Nm.Up.nodup (by rw [h.shown]; exact runN_up h.up _)).filter _
 ·exact List.nodup_nil
theorem Ds.Wf.list_nm {S : Ds} (h : S.Wf) (hon : S.on = true) {q n : By} (hn : n ∈ S.list q) : isNm n = true ∧ n ∈ S.shown.keys := by
 have h1 := ((list_mem hon).1 hn).1
 obtain ⟨p, hp, rfl⟩ := List.mem_map.1 h1
 exact ⟨h.snm p hp, h1⟩
theorem take_not {l : List By} (h : l.Nodup) {k : Nat} {n : By} (hk : l[k]? = some n) : n ∉ l.take k := by
 intro hm
 obtain ⟨i, hi, e⟩ := List.mem_iff_getElem.1 hm
 simp only [List.length_take] at hi
 have h1 : l[i]? = some n := by rw [← e, List.getElem_take]; exact List.getElem?_eq_getElem _
 have := (List.getElem?_inj (by omega : i < l.length) h).1 (h1.trans hk.symm)
 omega
theorem Ds.Bd.list_len {S : Ds} {N : Nat} (h : S.Bd N) (hw : S.Wf) (q : By) : (S.list q).length ≤ N := by
 unfold Ds.list
 split
 ·refine Nat.le_trans (List.length_filter_le _ _) ?_
  have := h.shown hw
  simpa [Nm.keys] using this
 ·simp
theorem isNm_len {n : By} (h : isNm n = true) : n.length ≤ 112 := by
 simp only [isNm, Bool.and_eq_true, decide_eq_true_eq] at h
 exact h.1.2
end Dsk
end

section
open Go.RowKit Dsk
set_option linter.unusedVariables false
set_option linter.unusedSimpArgs false
theorem Ax.back {X : Nat → Prop} {wa w w1 w3 : World} {p : Nat} {S D : Ds} {N M : Nat} (h : Ax X wa w p S N) (hk : Kept [] w w1) (h3 : Ax (More X w w1) w1 w3 p D M) : Ax X wa w3 p D M := by
 obtain ⟨A, o, _, ho, hw, _⟩ := h
 obtain ⟨A', o', hP, ho', hw', hb⟩ := h3
 exact ⟨A', o', hP, fun b hb => ⟨(ho' b (.inl hb)).1, (ho b hb).2⟩, (hw.kept hk).trans hw' (fun b hn _ hx => hn (.inl hx)), hb⟩
end

section
open Go.RowKit Dsk
set_option linter.unusedVariables false
set_option linter.unusedSimpArgs false
namespace Dsk
def Ds.rms (T : Ds) (ns : List By) : Int × Ds := ns.foldl (fun r n => bnd r fun T => T.remove n) (0, T)
def Ds.rclean (T : Ds) (p : By) : Int × Ds := if T.on = true then bnd (T.rms (T.list p)) (fun D => if T.list p = [] then (0, D) else D.syncNames) else (50, T)
theorem bnd_0 (T : Ds) (f : Ds → Int × Ds) : bnd (0, T) f = f T := rfl
theorem bnd_1 {r : Int × Ds} (h : r.1 ≠ 0) (f : Ds → Int × Ds) : bnd r f = r := by unfold bnd; rw [if_neg h]
theorem rms_snoc (T : Ds) (ns : List By) (n : By) : T.rms (ns ++ [n]) = bnd (T.rms ns) fun T => T.remove n := by unfold Ds.rms; rw [List.foldl_append]; rfl
theorem fold_cut (ns : List By) (r : Int × Ds) (h : r.1 ≠ 0) : ns.foldl (fun r n => bnd r fun T => T.remove n) r = r := by
 induction ns with
 | nil => rfl
 | cons n ns ih => rw [List.foldl_cons, bnd_1 h]; exact ih
theorem rms_cut {T D : Ds} {ns : List By} {k : Nat} {E : Int} (h : T.rms (ns.take k) = (E, D)) (hE : E ≠ 0 := by decide) : T.rms ns = (E, D) := by
 have e : ns = ns.take k ++ ns.drop k := (List.take_append_drop k ns).symm
 rw [e]
 unfold Ds.rms at h ⊢
 rw [List.foldl_append, h]
 exact fold_cut _ _ hE
theorem rclean_cut {T D : Ds} {p : By} {E : Int} (hon : T.on = true) (h : T.rms (T.list p) = (E, D)) (hE : E ≠ 0) : T.rclean p = (E, D) := by unfold Ds.rclean; rw [if_pos hon, h, bnd_1 hE]
theorem rclean_nil {T D : Ds} {p : By} (hon : T.on = true) (hl : T.list p = []) (h : T.rms [] = (0, D)) : T.rclean p = (0, D) := by unfold Ds.rclean; rw [if_pos hon, hl, h, bnd_0, if_pos rfl]
theorem rclean_all {T D : Ds} {p : By} (hon : T.on = true) (hl : T.list p ≠ []) (h : T.rms (T.list p) = (0, D)) : T.rclean p = D.syncNames := by unfold Ds.rclean; rw [if_pos hon, h, bnd_0, if_neg hl]
end Dsk
set_option maxHeartbeats 3200000 in
set_option maxRecDepth 100000 in
theorem clean_fun {X : Nat → Prop} {wa w : World} {p : Nat} {S : Ds} {N : Nat} (h : Ax X wa w p S N) (hN : N ≤ 80000000) (hon : S.on = true) (q : By) (hq : q.length ≤ 4611686018427387900) :
  Calls Tryz.prog 21 #[.pointer (some ⟨p, 0, none⟩), encStr q] w fun e w' => ∃ v w3 E D, e = .returned v ∧ ErrV w' v opClean q E ∧ S.rclean q = (E, D) ∧ Ax X wa w3 p D (N + 2 * (S.list q).length + 3) ∧ Kept [] w3 w' ∧ NewE w3 v := by
 have hof := off_ax h
 rw [hon] at hof
 have hls := list_ax h (by omega) q (by omega)
 have HA := hide h
 have HON := hide hon
 have HB : Hid ((S.list q).length ≤ N) := hide (h.bd.list_len h.wf q)
 have HND : Hid ((S.list q).Nodup) := hide (h.wf.list_nodup q)
 have HNM : Hid (∀ n ∈ S.list q, isNm n = true ∧ n ∈ S.shown.keys) := hide (fun n hn => h.wf.list_nm hon hn)
 obtain ⟨ns, hns⟩ : ∃ ns, S.list q = ns := ⟨_, rfl⟩
 rw [hns] at hls HB HND HNM
 have HNS := hide hns
 clear h hon hns
 go_enter Tryz.func21, Tryz.ntmps21
 go_wp2
 refine wp_scope_straight ?_
 go_wp2_with (go_at_call 41; refine hof.mono ?_; rintro e w' ⟨rfl, hww⟩; obtain rfl := hww.symm; clear hof)
 refine wp_label ?_
 go_upto_region 5 with (go_at_call 65; refine hls.mono ?_; rintro e w1 ⟨v, rfl, hr, hnew, hk1⟩; clear hls; obtain ⟨ro, rc, rfl, hrc⟩ := own_shape hr; have HR := hide hr; have HNW := hide hnew; have HK1 := hide hk1; clear hr hnew hk1)
 have HA1 := hide (HA.out.more HK1.out)
 have HROW : Hid (∀ k n, ns[k]? = some n → ∃ g, ro = some ⟨g, 0, none⟩ ∧ More X w w1 g ∧ w1.cell? ⟨g, k, none⟩ = some (encStr n)) := hide (fun k n hk => by
  have hi := (List.getElem?_eq_some_iff.1 hk).1
  rcases HR.out.2 with ⟨e, e2⟩ | ⟨g, cap, cur, e2, _⟩
  ·omega
  ·have hgl := HR.out.lt g (by rw [e2]; rfl)
   have hnw := HNW.out g (by rw [e2]; rfl)
   injection e2 with e2 _ _
   subst e2
   refine ⟨g, rfl, .inr ⟨hnw, hgl.2⟩, ?_⟩
   have := HR.out.cells (g := g) rfl k (encStr n) (by rw [List.getElem?_map, hk]; rfl)
   rwa [add0] at this)
 obtain ⟨m, hm⟩ : ∃ m, ns.length = m := ⟨_, rfl⟩
 rw [hm]
 have hmN : m ≤ N := by rw [← hm]; exact HB.out
 have HM := hide hm
 clear HR HNW HB hm hrc
 go_loopw [5, 6, 17] (fun y5 y6 y17 wr => ∃ (k : Nat) (D : Ds), k ≤ m ∧ y5 = .int .i64 0 ∧ y6 = .int .i64 k ∧ y17 = .int .i64 k ∧ Hid (Dsk.Cl S (ns.take k) D ∧ Ax (More X w w1) w1 wr p D (N + 2 * k) ∧ S.rms (ns.take k) = (0, D))) (fun y5 y6 y17 wr => m - (intOf y17).toNat)
 case atStart => exact ⟨0, S, Nat.zero_le _, rfl, rfl, rfl, hide ⟨Dsk.Cl.start HON.out, HA1.out, rfl⟩⟩
 case round =>
  clear HA1
  obtain ⟨k, D, hk, rfl, rfl, rfl, HL⟩ := hrel
  by_cases hlt : k < m
  ·have hkl : k < ns.length := by rw [HM.out]; exact hlt
   obtain ⟨nm, hnm⟩ : ∃ nm, ns[k]? = some nm := ⟨_, List.getElem?_eq_getElem hkl⟩
   obtain ⟨g, rfl, hYg, hc⟩ := HROW.out k nm hnm
   have c0 := HL.out.2.1.old.cellOf hc (fun hn => hn hYg)
   have hmem := HNM.out nm (List.mem_of_getElem? hnm)
   have hst := HL.out.1.step hmem.1 hmem.2 (take_not HND.out hnm)
   have htk : ns.take (k + 1) = ns.take k ++ [nm] := by rw [List.take_add_one, hnm]; rfl
   have hq2 : S.rms (ns.take (k + 1)) = ((D.remove nm).1, (D.remove nm).2) := by rw [htk, rms_snoc, HL.out.2.2, bnd_0]
   rw [← htk] at hst
   have hrm := remove_ax HL.out.2.1 (by omega) nm (by have := isNm_len hmem.1; omega)
   clear hc hYg hmem htk hkl hnm
   rcases hst with ⟨h1, h2⟩ | ⟨h1, h2⟩
   ·rw [h1] at hrm
    rw [h1] at hq2
    generalize (D.remove nm).2 = D2 at h2 hrm hq2
    have HQ2 := hide hq2
    clear hq2
    have H2 := hide h2
    clear h1 h2 HL
    go_wp2_with (go_at_call 31; refine hrm.mono ?_; rintro e w2 ⟨rfl, hA2⟩; have HA2 := hide hA2; clear hrm hA2 c0)
    go_roundw
    case rel => exact ⟨k + 1, D2, by omega, rfl, by go_num, by go_num, hide ⟨H2.out, HA2.out.mono (by omega), HQ2.out⟩⟩
    case measure => simp [intOf]; omega
   ·rw [h1] at hrm
    rw [h1] at hq2
    generalize (D.remove nm).2 = D2 at h2 hrm hq2
    have HQ2 := hide hq2
    clear hq2
    have H2 := hide h2
    clear h1 h2 HL
    go_wp2_with (first
     | (go_at_call 31; refine hrm.mono ?_; rintro e w2 ⟨rfl, hA2⟩; have HA2 := hide hA2; clear hrm hA2 c0)
     | (go_at_call 51; refine (fault_new opClean q _ _).mono ?_; rintro e w3 ⟨v, rfl, hv⟩; have HV := hide hv; clear hv))
    unfold Exit.noGoto
    refine bodyPost_ret (results_tmp rfl _ _ _) rfl ?_
    exact ⟨_, _, 50, D2, rfl, HV.out.1, rclean_cut HON.out (by rw [HNS.out]; exact rms_cut HQ2.out) (by decide), (HA.out.back HK1.out HA2.out).mono (by rw [HNS.out, HM.out]; omega), HV.out.2.1, HV.out.2.2⟩
  ·have hkm : k = m := by omega
   subst hkm
   have htk : ns.take k = ns := List.take_of_length_le (by rw [HM.out]; exact Nat.le_refl _)
   by_cases h0 : k = 0
   ·subst h0
    have hnil : S.list q = [] := by rw [HNS.out]; exact List.eq_nil_of_length_eq_zero HM.out
    have HNIL := hide hnil
    clear hnil htk
    go_wp2_with (go_at_call 51; refine (fault_new opClean q _ _).mono ?_; rintro e w3 ⟨v, rfl, hv⟩; have HV := hide hv; clear hv)
    unfold Exit.noGoto
    refine bodyPost_ret (results_tmp rfl _ _ _) rfl ?_
    exact ⟨_, _, 0, D, rfl, HV.out.1, rclean_nil HON.out HNIL.out (by have := HL.out.2.2; rwa [List.take_zero] at this), (HA.out.back HK1.out HL.out.2.1).mono (by rw [HNS.out, HM.out]; omega), HV.out.2.1, HV.out.2.2⟩
   ·have hpos : (0 : Int) < (k : Int) := by omega
    have hcs := HL.out.1.sync
    rw [htk] at hcs
    have hsn := syncNames_ax HL.out.2.1 (by omega)
    have HNE : Hid (S.list q ≠ []) := hide (by rw [HNS.out]; intro e; have := HM.out; rw [e] at this; simp at this; omega)
    have hq2 : S.rclean q = (D.syncNames.1, D.syncNames.2) := rclean_all HON.out HNE.out (by have := HL.out.2.2; rw [htk] at this; rw [HNS.out]; exact this)
    clear htk
    rcases hcs with ⟨h1, h2⟩ | ⟨h1, h2⟩
    ·rw [h1] at hsn
     rw [h1] at hq2
     generalize D.syncNames.2 = D2 at h2 hsn hq2
     have HQ2 := hide hq2
     clear hq2
     have H2 := hide h2
     clear h1 h2 HL
     go_wp2_with (first
      | (go_at_call 35; refine hsn.mono ?_; rintro e w2 ⟨rfl, hA2⟩; have HA2 := hide hA2; clear hsn hA2)
      | (go_at_call 51; refine (fault_new opClean q _ _).mono ?_; rintro e w3 ⟨v, rfl, hv⟩; have HV := hide hv; clear hv))
     unfold Exit.noGoto
     refine bodyPost_ret (results_tmp rfl _ _ _) rfl ?_
     exact ⟨_, _, 0, D2, rfl, HV.out.1, HQ2.out, (HA.out.back HK1.out HA2.out).mono (by rw [HNS.out, HM.out]; omega), HV.out.2.1, HV.out.2.2⟩
    ·rw [h1] at hsn
     rw [h1] at hq2
     generalize D.syncNames.2 = D2 at h2 hsn hq2
     have HQ2 := hide hq2
     clear hq2
     have H2 := hide h2
     clear h1 h2 HL
     go_wp2_with (first
      | (go_at_call 35; refine hsn.mono ?_; rintro e w2 ⟨rfl, hA2⟩; have HA2 := hide hA2; clear hsn hA2)
      | (go_at_call 51; refine (fault_new opClean q _ _).mono ?_; rintro e w3 ⟨v, rfl, hv⟩; have HV := hide hv; clear hv))
     unfold Exit.noGoto
     refine bodyPost_ret (results_tmp rfl _ _ _) rfl ?_
     exact ⟨_, _, 50, D2, rfl, HV.out.1, HQ2.out, (HA.out.back HK1.out HA2.out).mono (by rw [HNS.out, HM.out]; omega), HV.out.2.1, HV.out.2.2⟩
section
variable {X : Nat → Prop} {wa w w' : World} {q : Nat} {T : Ds} {M : Nat}
theorem Rx.more (h : Rx X wa w q T M) (hk : Kept [] w w') : Rx (More X w w') w' w' q T M := by
 obtain ⟨A, o, hP, ho, hw, hb⟩ := h
 refine ⟨A, o, hP.keep (Keep.ofNone (F := fun _ => False) hk) (fun _ _ h => h), fun b hx => ?_, Keep.refl _ _, hb⟩
 have hs := hk.size
 have hs2 := hw.size
 rcases hx with hx | hx
 ·exact ⟨(ho b hx).1, by have := (ho b hx).2; omega⟩
 ·refine ⟨Classical.byContradiction fun hn => ?_, hx.2⟩
  have := hP.lim b hn
  omega
theorem Rx.back2 {w1 w3 : World} {D : Ds} {K : Nat} (h : Rx X wa w q T M) (hk : Kept [] w w1) (h3 : Rx (More X w w1) w1 w3 q D K) : Rx X wa w3 q D K := by
 obtain ⟨A, o, _, ho, hw, _⟩ := h
 obtain ⟨A', o', hP, ho', hw', hb⟩ := h3
 exact ⟨A', o', hP, fun b hb => ⟨(ho' b (.inl hb)).1, (ho b hb).2⟩, (hw.kept hk).trans hw' (fun b hn _ hx => hn (.inl hx)), hb⟩
set_option maxHeartbeats 3200000 in
set_option maxRecDepth 100000 in
theorem rclean_rx (h : Rx X wa w q T M) (hM : M ≤ 80000000) (n : By) (hn : n.length ≤ 4611686018427387900) :
  Calls Tryz.prog 22 #[.pointer (some ⟨q, 0, none⟩), encStr n] w fun e w' => e = .returned (.int .i64 (T.rclean n).1) ∧ Rx X wa w' q (T.rclean n).2 (M + 2 * (T.list n).length + 3) := by
 have hof := roff_rx h
 by_cases hon : T.on = true
 ·rw [hon] at hof
  have hls := list_rx h (by omega) n (by omega)
  have HA := hide h
  have HON := hide hon
  have HB : Hid ((T.list n).length ≤ M) := hide (h.bd.list_len h.wf n)
  have HNM : Hid (∀ x ∈ T.list n, isNm x = true) := hide (fun x hx => (h.wf.list_nm hon hx).1)
  obtain ⟨ns, hns⟩ : ∃ ns, T.list n = ns := ⟨_, rfl⟩
  rw [hns] at hls HB HNM
  have HNS := hide hns
  clear h hon hns
  go_enter Tryz.func22, Tryz.ntmps22
  go_wp2_with (first
   | (go_at_call 42; refine hof.mono ?_; rintro e w' ⟨rfl, hww⟩; obtain rfl := hww.symm; clear hof)
   | (go_at_call 66; refine hls.mono ?_; rintro e w1 ⟨v, rfl, hT⟩; clear hls; obtain ⟨ro, rc, rfl, hrc⟩ := own_shape hT.row; have HT := hide hT; clear hT))
  have HK1 : Hid (Kept [] w w1) := hide HT.out.keep
  have HA1 := hide (HA.out.more HK1.out)
  have HROW : Hid (∀ k x, ns[k]? = some x → ∃ g, ro = some ⟨g, 0, none⟩ ∧ More X w w1 g ∧ w1.cell? ⟨g, k, none⟩ = some (encStr x)) := hide (fun k x hk => by
   have hi := (List.getElem?_eq_some_iff.1 hk).1
   rcases HT.out.row.2 with ⟨e, e2⟩ | ⟨g, cap, cur, e2, _⟩
   ·omega
   ·have hgl := HT.out.row.lt g (by rw [e2]; rfl)
    have hnw := HT.out.new g (by rw [e2]; rfl)
    have hr := HT.out.row
    injection e2 with e2 _ _
    subst e2
    refine ⟨g, rfl, .inr ⟨hnw, hgl.2⟩, ?_⟩
    have := hr.cells (g := g) rfl k (encStr x) (by rw [List.getElem?_map, hk]; rfl)
    rwa [add0] at this)
  obtain ⟨m, hm⟩ : ∃ m, ns.length = m := ⟨_, rfl⟩
  rw [hm]
  have hmN : m ≤ M := by rw [← hm]; exact HB.out
  have HM := hide hm
  clear HT HB hm hrc
  go_loopw [6] (fun v wr => ∃ (k : Nat) (D : Ds), k ≤ m ∧ v = .int .i64 k ∧ Hid (Rx (More X w w1) w1 wr q D (M + 2 * k) ∧ T.rms (ns.take k) = (0, D))) (fun v wr => m - (intOf v).toNat)
  case atStart => exact ⟨0, T, Nat.zero_le _, rfl, hide ⟨HA1.out, rfl⟩⟩
  case round =>
   clear HA1
   obtain ⟨k, D, hk, rfl, HL⟩ := hrel
   by_cases hlt : k < m
   ·have hq1 : (k : Int) < (m : Int) := by omega
    have hkl : k < ns.length := by rw [HM.out]; exact hlt
    obtain ⟨nm, hnm⟩ : ∃ nm, ns[k]? = some nm := ⟨_, List.getElem?_eq_getElem hkl⟩
    obtain ⟨g, rfl, hYg, hc⟩ := HROW.out k nm hnm
    have c0 := HL.out.1.old.cellOf hc (fun hn => hn hYg)
    have hmem := HNM.out nm (List.mem_of_getElem? hnm)
    have htk : ns.take (k + 1) = ns.take k ++ [nm] := by rw [List.take_add_one, hnm]; rfl
    obtain ⟨E2, D2, hr⟩ : ∃ E D', D.remove nm = (E, D') := ⟨_, _, rfl⟩
    have hq2 : T.rms (ns.take (k + 1)) = (E2, D2) := by rw [htk, rms_snoc, HL.out.2, bnd_0, hr]
    have hrm := rx_as (remove_rx HL.out.1 (by omega) nm (by have := isNm_len hmem; omega)) hr
    have HQ2 := hide hq2
    clear hc hYg hmem htk hkl hnm hq2 hr HL
    by_cases hE : E2 = 0
    ·subst hE
     go_wp2_with (go_at_call 32; refine hrm.mono ?_; rintro e w2 ⟨rfl, hA2⟩; have HA2 := hide hA2; clear hrm hA2 c0)
     go_roundw
     case rel => exact ⟨k + 1, D2, by omega, by go_num, hide ⟨HA2.out.mono (by omega), HQ2.out⟩⟩
     case measure => simp [intOf]; omega
    ·have e0 : (E2 == 0) = false := by simpa using hE
     have e1 : (E2 != 0) = true := by simpa using hE
     have HC : Hid (T.rclean n = (E2, D2)) := hide (rclean_cut HON.out (by rw [HNS.out]; exact rms_cut HQ2.out hE) hE)
     clear hE
     go_wp2_with (go_at_call 32; refine hrm.mono ?_; rintro e w2 ⟨rfl, hA2⟩; have HA2 := hide hA2; clear hrm hA2 c0)
     go_ret
     rw [HC.out]
     exact ⟨rfl, (HA.out.back2 HK1.out HA2.out).mono (by rw [HNS.out, HM.out]; omega)⟩
   ·have hq1 : ¬ (k : Int) < (m : Int) := by omega
    have hkm : k = m := by omega
    subst hkm
    have htk : ns.take k = ns := List.take_of_length_le (by rw [HM.out]; exact Nat.le_refl _)
    have hq2 := HL.out.2
    rw [htk] at hq2
    by_cases h0 : k = 0
    ·subst h0
     have hnil : T.list n = [] := by rw [HNS.out]; exact List.eq_nil_of_length_eq_zero HM.out
     have HC : Hid (T.rclean n = (0, D)) := hide (rclean_nil HON.out hnil (by rw [HNS.out] at hnil; rw [hnil] at hq2; exact hq2))
     clear hnil htk hq2
     go_wp2
     go_ret
     rw [HC.out]
     exact ⟨rfl, (HA.out.back2 HK1.out HL.out.1).mono (by rw [HNS.out, HM.out]; omega)⟩
    ·have hk0 : ((k : Int) == 0) = false := by simpa using h0
     have HNE : T.list n ≠ [] := by rw [HNS.out]; intro e; have := HM.out; rw [e] at this; simp at this; omega
     have HC : Hid (T.rclean n = D.syncNames) := hide (rclean_all HON.out HNE (by rw [HNS.out]; exact hq2))
     have hsn := syncNames_rx HL.out.1 (by omega)
     clear HNE htk hq2
     go_wp2_with (go_at_call 36; refine hsn.mono ?_; rintro e w2 ⟨rfl, hA2⟩; have HA2 := hide hA2; clear hsn hA2)
     go_ret
     rw [HC.out]
     exact ⟨rfl, (HA.out.back2 HK1.out HA2.out).mono (by rw [HNS.out, HM.out]; omega)⟩
 ·have ho' : T.on = false := by simpa using hon
  have HC : Hid (T.rclean n = (50, T)) := hide (by unfold Ds.rclean; rw [if_neg hon])
  have HA := hide h
  rw [ho'] at hof
  rw [HC.out]
  clear h hon
  go_enter Tryz.func22, Tryz.ntmps22
  go_wp2_with (go_at_call 42; refine hof.mono ?_; rintro e w' ⟨rfl, hww⟩; obtain rfl := hww.symm; clear hof)
  go_ret
  exact ⟨rfl, HA.out.mono (by omega)⟩
end
end

end Go.Proofs.YtodihkdmneihiaaGreatDoor
