import Derived.Test.YtoiogpcmndlpcaaGreatDoorFohp
import Derived.Test.YtoiogpcmndlpcaaGreatDoorIf0p
import Derived.Test.YtoiogpcmndlpcaaGreatDoorIep
namespace Go.Proofs.YtoiogpcmndlpcaaGreatDoor
section
open Go.RowKit Dsk
set_option linter.unusedVariables false
set_option linter.unusedSimpArgs false
set_option maxHeartbeats 800000 in
set_option maxRecDepth 100000 in
theorem starts_ok (s p : By) (w : World) (hs : s.length ≤ 4611686018427387904) (hp : p.length ≤ 4611686018427387904) : Calls Tryz.prog 12 #[.string ⟨s.toArray⟩, .string ⟨p.toArray⟩] w fun e w' => e = .returned (.bool (p.isPrefixOf s)) ∧ w' = w := by
  have hss : (ByteArray.mk s.toArray).size = s.length := by simp [ByteArray.size]
  have hsp : (ByteArray.mk p.toArray).size = p.length := by simp [ByteArray.size]
  by_cases h : p.length ≤ s.length
  · rw [isPrefix_take p s]
    have hE := ext_take s p.length
    go_enter Tryz.func12, Tryz.ntmps12
    go_wp2
    go_ret
    exact ⟨rfl, rfl⟩
  · rw [notPrefix_len p s h]
    go_enter Tryz.func12, Tryz.ntmps12
    go_wp2
    go_ret
    exact ⟨rfl, rfl⟩
theorem list_ax {X : Nat → Prop} {wa w : World} {p : Nat} {S : Ds} {N : Nat} (h : Ax X wa w p S N) (hN : N ≤ 268435456) (q : By) (hq : q.length ≤ 4611686018427387904) : Calls Tryz.prog 58 #[.pointer (some ⟨p, 0, none⟩), encStr q] w fun e w' => ∃ v, e = .returned v ∧ w'.ownsRow 0 9 1 v (S.list q).length ((S.list q).map encStr) ∧ (∀ g, v.ownBlock = some g → w.heap.size ≤ g) ∧ Kept [] w w' := by
  obtain ⟨A, o, hP, ho, hw, hb⟩ := h
  exact list_ok hP hb hN q hq
namespace Dsk
theorem Nm.Up.nodup {l : Nm} (h : l.Up) : l.keys.Nodup := by
  unfold Nm.keys
  rw [List.nodup_iff_pairwise_ne, List.pairwise_map]
  exact h.imp (fun hb e => by rw [e, before_irrefl] at hb; cases hb)
theorem Ds.Wf.list_nodup {S : Ds} (h : S.Wf) (q : By) : (S.list q).Nodup := by
  unfold Ds.list
  split
  · exact (Nm.Up.nodup (by rw [h.shown]; exact runN_up h.up _)).filter _
  · exact List.nodup_nil
theorem Ds.Wf.list_nm {S : Ds} (h : S.Wf) (hon : S.on = true) {q n : By} (hn : n ∈ S.list q) : isNm n = true ∧ n ∈ S.shown.keys := by
  have h1 := ((list_mem hon).1 hn).1
  obtain ⟨p, hp, rfl⟩ := List.mem_map.1 h1
  exact ⟨h.snm p hp, h1⟩
theorem take_not {l : List By} (h : l.Nodup) {k : Nat} {n : By} (hk : l[k]? = some n) : n ∉ l.take k := by
  intro hm
  obtain ⟨i, hi, e⟩ := List.mem_iff_getElem.1 hm
  simp only [List.length_take] at hi
  have h1 : l[i]? = some n := by rw [← e, List.getElem_take]; exact List.getElem?_eq_getElem _
  have := (List.getElem?_inj (by omega : i < l.length) h).1 (h1.trans hk.symm)
  omega
theorem Ds.Bd.list_len {S : Ds} {N : Nat} (h : S.Bd N) (hw : S.Wf) (q : By) : (S.list q).length ≤ N := by
  unfold Ds.list
  split
  · refine Nat.le_trans (List.length_filter_le _ _) ?_
    have := h.shown hw
    simpa [Nm.keys] using this
  · simp
theorem isNm_len {n : By} (h : isNm n = true) : n.length ≤ 112 := by
  simp only [isNm, Bool.and_eq_true, decide_eq_true_eq] at h
  exact h.1.2
end Dsk
end

section
open Go.RowKit Dsk
set_option linter.unusedVariables false
set_option linter.unusedSimpArgs false
theorem Ax.back {X : Nat → Prop} {wa w w1 w3 : World} {p : Nat} {S D : Ds} {N M : Nat} (h : Ax X wa w p S N) (hk : Kept [] w w1) (h3 : Ax (More X w w1) w1 w3 p D M) : Ax X wa w3 p D M := by
  obtain ⟨A, o, _, ho, hw, _⟩ := h
  obtain ⟨A', o', hP, ho', hw', hb⟩ := h3
  exact ⟨A', o', hP, fun b hb => ⟨(ho' b (.inl hb)).1, (ho b hb).2⟩, (hw.kept hk).trans hw' (fun b hn _ hx => hn (.inl hx)), hb⟩

set_option maxHeartbeats 3200000 in
set_option maxRecDepth 100000 in
theorem clean_new {X : Nat → Prop} {wa w : World} {p : Nat} {S : Ds} {N : Nat} (h : Ax X wa w p S N) (hN : N ≤ 80000000) (hon : S.on = true) (q : By) (hq : q.length ≤ 4611686018427387900) :
    Calls Tryz.prog 14 #[.pointer (some ⟨p, 0, none⟩), encStr q] w fun e w' => ∃ v w3 E D, e = .returned v ∧ ErrV w' v opClean q E ∧ CleanR S q E D ∧ Ax X wa w3 p D (3 * N + 3) ∧ Kept [] w3 w' ∧ NewE w3 v := by
  have hof := off_ax h
  rw [hon] at hof
  have hls := list_ax h (by omega) q (by omega)
  have HA := hide h
  have HON := hide hon
  have HB : Hid ((S.list q).length ≤ N) := hide (h.bd.list_len h.wf q)
  have HND : Hid ((S.list q).Nodup) := hide (h.wf.list_nodup q)
  have HNM : Hid (∀ n ∈ S.list q, isNm n = true ∧ n ∈ S.shown.keys) := hide (fun n hn => h.wf.list_nm hon hn)
  obtain ⟨ns, hns⟩ : ∃ ns, S.list q = ns := ⟨_, rfl⟩
  rw [hns] at hls HB HND HNM
  have HNS := hide hns
  clear h hon hns
  go_enter Tryz.func14, Tryz.ntmps14
  go_wp2
  refine wp_scope_straight ?_
  go_wp2_with (go_at_call 48; refine hof.mono ?_; rintro e w' ⟨rfl, hww⟩; obtain rfl := hww.symm; clear hof)
  refine wp_label ?_
  go_upto_region 5 with (go_at_call 58; refine hls.mono ?_; rintro e w1 ⟨v, rfl, hr, hnew, hk1⟩; clear hls; obtain ⟨ro, rc, rfl, hrc⟩ := own_shape hr; have HR := hide hr; have HNW := hide hnew; have HK1 := hide hk1; clear hr hnew hk1)
  have HA1 := hide (HA.out.more HK1.out)
  have HROW : Hid (∀ k n, ns[k]? = some n → ∃ g, ro = some ⟨g, 0, none⟩ ∧ More X w w1 g ∧ w1.cell? ⟨g, k, none⟩ = some (encStr n)) := hide (fun k n hk => by
    have hi := (List.getElem?_eq_some_iff.1 hk).1
    rcases HR.out.2 with ⟨e, e2⟩ | ⟨g, cap, cur, e2, _⟩
    · omega
    · have hgl := HR.out.lt g (by rw [e2]; rfl)
      have hnw := HNW.out g (by rw [e2]; rfl)
      injection e2 with e2 _ _
      subst e2
      refine ⟨g, rfl, .inr ⟨hnw, hgl.2⟩, ?_⟩
      have := HR.out.cells (g := g) rfl k (encStr n) (by rw [List.getElem?_map, hk]; rfl)
      rwa [add0] at this)
  obtain ⟨m, hm⟩ : ∃ m, ns.length = m := ⟨_, rfl⟩
  rw [hm]
  have hmN : m ≤ N := by rw [← hm]; exact HB.out
  have HM := hide hm
  clear HR HNW HB hm hrc
  go_loopw [5, 6, 17] (fun y5 y6 y17 wr => ∃ (k : Nat) (D : Ds), k ≤ m ∧ y5 = .int .i64 0 ∧ y6 = .int .i64 k ∧ y17 = .int .i64 k ∧ Hid (Dsk.Cl S (ns.take k) D ∧ Ax (More X w w1) w1 wr p D (N + 2 * k))) (fun y5 y6 y17 wr => m - (intOf y17).toNat)
  case atStart => exact ⟨0, S, Nat.zero_le _, rfl, rfl, rfl, hide ⟨Dsk.Cl.start HON.out, HA1.out⟩⟩
  case round =>
    clear HA1
    obtain ⟨k, D, hk, rfl, rfl, rfl, HL⟩ := hrel
    by_cases hlt : k < m
    · have hkl : k < ns.length := by rw [HM.out]; exact hlt
      obtain ⟨nm, hnm⟩ : ∃ nm, ns[k]? = some nm := ⟨_, List.getElem?_eq_getElem hkl⟩
      obtain ⟨g, rfl, hYg, hc⟩ := HROW.out k nm hnm
      have c0 := HL.out.2.old.cellOf hc (fun hn => hn hYg)
      have hmem := HNM.out nm (List.mem_of_getElem? hnm)
      have hst := HL.out.1.step hmem.1 hmem.2 (take_not HND.out hnm)
      have htk : ns.take (k + 1) = ns.take k ++ [nm] := by rw [List.take_add_one, hnm]; rfl
      rw [← htk] at hst
      have hrm := remove_ax HL.out.2 (by omega) nm (by have := isNm_len hmem.1; omega)
      clear hc hYg hmem htk hkl hnm
      rcases hst with ⟨h1, h2⟩ | ⟨h1, h2⟩
      · rw [h1] at hrm
        generalize (D.remove nm).2 = D2 at h2 hrm
        have H2 := hide h2
        clear h1 h2 HL
        go_wp2_with (go_at_call 40; refine hrm.mono ?_; rintro e w2 ⟨rfl, hA2⟩; have HA2 := hide hA2; clear hrm hA2 c0)
        go_roundw
        case rel => exact ⟨k + 1, D2, by omega, rfl, by go_num, by go_num, hide ⟨H2.out, HA2.out.mono (by omega)⟩⟩
        case measure => simp [intOf]; omega
      · rw [h1] at hrm
        generalize (D.remove nm).2 = D2 at h2 hrm
        have H2 := hide h2
        clear h1 h2 HL
        go_wp2_with (first
          | (go_at_call 40; refine hrm.mono ?_; rintro e w2 ⟨rfl, hA2⟩; have HA2 := hide hA2; clear hrm hA2 c0)
          | (go_at_call 57; refine (fault_new opClean q _ _).mono ?_; rintro e w3 ⟨v, rfl, hv⟩; have HV := hide hv; clear hv))
        unfold Exit.noGoto
        refine bodyPost_ret (results_tmp rfl _ _ _) rfl ?_
        refine ⟨_, _, 50, D2, rfl, HV.out.1, .inr (.inr ⟨?_, rfl, k + 1, ?_⟩), (HA.out.back HK1.out HA2.out).mono (by omega), HV.out.2.1, HV.out.2.2⟩
        · rw [HNS.out]; intro e; have := HM.out; rw [e] at this; simp at this; omega
        · rw [HNS.out]; exact H2.out
    · have hkm : k = m := by omega
      subst hkm
      have htk : ns.take k = ns := List.take_of_length_le (by rw [HM.out]; exact Nat.le_refl _)
      by_cases h0 : k = 0
      · subst h0
        have hnil : S.list q = [] := by rw [HNS.out]; exact List.eq_nil_of_length_eq_zero HM.out
        have hDS : Hid (Dsk.Cl S [] D) := hide (by have := HL.out.1; rwa [List.take_zero] at this)
        have HNIL := hide hnil
        clear hnil htk
        go_wp2_with (go_at_call 57; refine (fault_new opClean q _ _).mono ?_; rintro e w3 ⟨v, rfl, hv⟩; have HV := hide hv; clear hv)
        unfold Exit.noGoto
        refine bodyPost_ret (results_tmp rfl _ _ _) rfl ?_
        exact ⟨_, _, 0, D, rfl, HV.out.1, .inl ⟨HNIL.out, rfl, hDS.out⟩, (HA.out.back HK1.out HL.out.2).mono (by omega), HV.out.2.1, HV.out.2.2⟩
      · have hpos : (0 : Int) < (k : Int) := by omega
        have hcs := HL.out.1.sync
        rw [htk] at hcs
        have hsn := syncNames_ax HL.out.2 (by omega)
        have HNE : Hid (S.list q ≠ []) := hide (by rw [HNS.out]; intro e; have := HM.out; rw [e] at this; simp at this; omega)
        clear htk
        rcases hcs with ⟨h1, h2⟩ | ⟨h1, h2⟩
        · rw [h1] at hsn
          generalize D.syncNames.2 = D2 at h2 hsn
          have H2 := hide h2
          clear h1 h2 HL
          go_wp2_with (first
            | (go_at_call 44; refine hsn.mono ?_; rintro e w2 ⟨rfl, hA2⟩; have HA2 := hide hA2; clear hsn hA2)
            | (go_at_call 57; refine (fault_new opClean q _ _).mono ?_; rintro e w3 ⟨v, rfl, hv⟩; have HV := hide hv; clear hv))
          unfold Exit.noGoto
          refine bodyPost_ret (results_tmp rfl _ _ _) rfl ?_
          refine ⟨_, _, 0, D2, rfl, HV.out.1, .inr (.inl ⟨HNE.out, rfl, ?_⟩), (HA.out.back HK1.out HA2.out).mono (by omega), HV.out.2.1, HV.out.2.2⟩
          rw [HNS.out]; exact H2.out
        · rw [h1] at hsn
          generalize D.syncNames.2 = D2 at h2 hsn
          have H2 := hide h2
          clear h1 h2 HL
          go_wp2_with (first
            | (go_at_call 44; refine hsn.mono ?_; rintro e w2 ⟨rfl, hA2⟩; have HA2 := hide hA2; clear hsn hA2)
            | (go_at_call 57; refine (fault_new opClean q _ _).mono ?_; rintro e w3 ⟨v, rfl, hv⟩; have HV := hide hv; clear hv))
          unfold Exit.noGoto
          refine bodyPost_ret (results_tmp rfl _ _ _) rfl ?_
          refine ⟨_, _, 50, D2, rfl, HV.out.1, .inr (.inr ⟨HNE.out, rfl, ns.length, ?_⟩), (HA.out.back HK1.out HA2.out).mono (by omega), HV.out.2.1, HV.out.2.2⟩
          rw [HNS.out, List.take_length]; exact H2.out
end

end Go.Proofs.YtoiogpcmndlpcaaGreatDoor
