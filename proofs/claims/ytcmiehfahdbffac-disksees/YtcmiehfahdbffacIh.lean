/-
  DiskSees: the walk. (Written by tools/ih.py.).
-/
import Derived.Test.YtcmiehfahdbffacIf
import Derived.Deep.CutRange
namespace Go.Proofs.Ytcmiehfahdbffac
open Go.RowKit Dsk
set_option linter.unusedVariables false
set_option linter.unusedSimpArgs false

set_option maxHeartbeats 4000000 in
set_option maxRecDepth 100000 in
theorem sees_walk (r : Int) (ao : Option Addr) (n cap : Nat) (at_ m : Int) (L : List Stp) (q : By) (w : World) (hl : L.length = n) (hs : Scr w ao L) (hn : n ≤ 9223372036854775807) (hq : q.length ≤ 4611686018427387904) (hrw : (Lit.int .i64 r).wf = true) (wa : (Lit.int .i64 at_).wf = true) (wm : (Lit.int .i64 m).wf = true) :
    Calls Try.prog 6 #[.int .i64 r, .slice ao n cap, encStr q, .int .i64 at_, .int .i64 m] w fun e w' => e = .returned (.bool true) ∧ Below w.heap.size w w' := by
  have hlg := long_any ao n cap L w hl hn hs
  by_cases hr : r < 1 ∨ 1048576 < r
  · have hlg' : Calls Try.prog 24 #[.slice ao n cap] w fun e w' => (e = .returned (.bool true) ∨ e = .returned (.bool false)) ∧ Kept [] w w' := hlg.mono (fun e w' ⟨h1, h2⟩ => ⟨h1.elim .inl (fun h => .inr h.1), h2⟩)
    clear hlg hs
    rcases hr with hr | hr
    · go_enter Try.func6, Try.ntmps6
      go_wp2_with (go_at_call 24; refine hlg'.mono ?_; rintro e w1 ⟨rfl | rfl, hk⟩)
      all_goals (go_ret; exact ⟨rfl, hk.below (Nat.le_refl _) (by simp)⟩)
    · have hr2 : ¬ r < 1 := by omega
      go_enter Try.func6, Try.ntmps6
      go_wp2_with (go_at_call 24; refine hlg'.mono ?_; rintro e w1 ⟨rfl | rfl, hk⟩)
      all_goals (go_ret; exact ⟨rfl, hk.below (Nat.le_refl _) (by simp)⟩)
  obtain ⟨hr1, hr2⟩ : 1 ≤ r ∧ r ≤ 1048576 := by omega
  have hrE : roomE r = 0 := by unfold roomE; simp; omega
  have hnw := fun (v : World) => new_at r v hrw
  rw [hrE] at hnw
  have hr2' : ¬ 1048576 < r := by omega
  have hr1' : ¬ r < 1 := by omega
  have HS : Hid (Scr w ao L) := hs
  have HL : Hid (L.length = n) := hl
  clear hs hl hrE
  go_enter Try.func6, Try.ntmps6
  go_upto_region 7 with (first
    | (go_at_call 24; refine hlg.mono ?_; rintro e w1 ⟨he, hk1⟩; clear hlg; rcases he with rfl | ⟨rfl, hsh⟩)
    | (go_at_call 7; refine (hnw w1).mono ?_; rintro e w2 ⟨v, rfl, hk2, hn2, _⟩; obtain ⟨p, rfl, hat⟩ := hn2 (by first | trivial | rfl); have H2 := hide hat; clear hat hn2 hnw))
  all_goals (try (go_ret; exact ⟨rfl, hk1.below (Nat.le_refl _) (by simp)⟩))
  have hk12 : Hid (Kept [] w w2) := hide (hk1.trans hk2 (by simp))
  have HC : Hid (costs L ≤ 100000) := hide hsh.2
  have hn3 : n ≤ 300 := by rw [← HL.out]; exact hsh.1
  clear hsh
  go_loopw [13] (fun i wr => ∃ k : Nat, k ≤ n ∧ i = .int .i64 k ∧ Hid (At w1 wr p (playD (Ds.fresh r.toNat) (L.take k)) (costs (L.take k) + 3 * k))) (fun i wr => n - (intOf i).toNat)
  case atStart => exact ⟨0, Nat.zero_le _, rfl, by simpa [playD, costs] using H2⟩
  case round =>
    clear H2
    obtain ⟨k, hk, rfl, HA⟩ := hrel
    by_cases hlt : k < n
    · have hkL : k < L.length := by rw [HL.out]; exact hlt
      obtain ⟨b, off, rfl, _, hcs⟩ := HS.out.open (List.length_pos_iff.1 (by omega))
      obtain ⟨hc, hin⟩ := hcs k hkL
      have hkx : Kept [] w wr := hk1.trans HA.out.old (by simp)
      have hin' := hin.kept hkx
      have hcost := cost_at hkL
      have hcc := HC.out
      have hco : (L.getD k stp0).cost = (L.getD k stp0).dn + 8 * (L.getD k stp0).pn := rfl
      have hdo := do_ok HA.out (L.getD k stp0) hin' (by omega) (by omega)
      have HST : Hid (∀ v, At w1 v p (stepD (playD (Ds.fresh r.toNat) (L.take k)) (L.getD k stp0)).2 (costs (L.take k) + 3 * k + (L.getD k stp0).dn + 3) → At w1 v p (playD (Ds.fresh r.toNat) (L.take (k + 1))) (costs (L.take (k + 1)) + 3 * (k + 1))) := fun v hv => by
        rw [stp_snoc L k hkL, playD_snoc, costs_snoc]
        exact hv.mono (by omega)
      have c0 := hkx.cellOf (hc 0 _ rfl) (by simp)
      have c1 := hkx.cellOf (hc 1 _ rfl) (by simp)
      have c2 := hkx.cellOf (hc 2 _ rfl) (by simp)
      have c3 := hkx.cellOf (hc 3 _ rfl) (by simp)
      have c4 := hkx.cellOf (hc 4 _ rfl) (by simp)
      have c5 := hkx.cellOf (hc 5 _ rfl) (by simp)
      have c6 := hkx.cellOf (hc 6 _ rfl) (by simp)
      have c7 := hkx.cellOf (hc 7 _ rfl) (by simp)
      have c8 := hkx.cellOf (hc 8 _ rfl) (by simp)
      have c9 := hkx.cellOf (hc 9 _ rfl) (by simp)
      rw [Nat.mul_comm 10 k] at c0 c1 c2 c3 c4 c5 c6 c7 c8 c9
      rw [Nat.add_zero] at c0
      generalize L.getD k stp0 = s at *
      have hdo' : Calls Try.prog 25 #[.pointer (some ⟨p, 0, none⟩), .agg #[.int .i64 s.kind, encStr s.name, encStr s.to, .int .i64 s.at_, .int .i64 s.n, .slice s.da s.dn s.dc, .int .i64 s.po, .int .i64 s.pf, .int .i64 s.pt, .slice s.pa s.pn s.pc]] wr fun e w' => ∃ E, e = .returned (.int .i64 E) ∧ Hid (At w1 w' p (playD (Ds.fresh r.toNat) (L.take (k + 1))) (costs (L.take (k + 1)) + 3 * (k + 1))) := hdo.mono (fun e w' ⟨h1, h2⟩ => ⟨_, h1, hide (HST.out _ h2)⟩)
      clear hdo HST hin hin' hcs hc hcost hcc hco HA hkx hkL
      go_wp2_with (go_at_call 25; refine hdo'.mono ?_; rintro e w3 ⟨E, rfl, HA3⟩; clear hdo')
      go_roundw
      case rel => exact ⟨k + 1, by omega, by go_num, HA3⟩
      case measure => simp [intOf]; omega
    · have hkn : k = n := by omega
      subst hkn
      have HA1 : Hid (At w1 wr p (playD (Ds.fresh r.toNat) L) 100900) := hide (by
        have := HA.out
        rw [List.take_of_length_le (by rw [HL.out]; omega)] at this
        exact this.mono (by have := HC.out; omega))
      have hrm : ((playD (Ds.fresh r.toNat) L).room : Int) = r := by
        rw [playD_room]
        show ((r.toNat : Nat) : Int) = r
        omega
      clear HA
      generalize playD (Ds.fresh r.toNat) L = S at HA1 hrm
      have hfl := files_at HA1.out (by omega)
      have HM : Hid (S.files.length ≤ 100900 ∧ totalOf S.files ≤ 100900 * 100900) := hide (by
        have hb := HA1.out.bd
        have h1 := hb.shown HA1.out.wf
        have h2 := used_le hb HA1.out.wf
        refine ⟨by simpa [Ds.files] using h1, Nat.le_trans h2 (Nat.mul_le_mul_right _ h1)⟩)
      go_upto_region 13 with (first
        | (go_at_call 19; refine hfl.mono ?_; rintro e w3 ⟨lv, vs, rfl, hF, hk3⟩; clear hfl; obtain ⟨lo, lc, rfl, _⟩ := own_shape hF.row; have hFi := (Fis.of hF).1; have HF := hide (And.intro hF hk3); have h3 := HA1.out.kept hk3; have hus := used_at h3 (by omega); clear hF hk3)
        | (go_at_call 31; refine hus.mono ?_; rintro e w4 ⟨rfl, hk4⟩; have h4 := h3.kept hk4; have htt := total_ok lo S.files.length lc S.files w4 rfl (by have := HM.out; omega) (by have := HM.out; omega) (hFi.kept hk4); rw [used_total] at htt; have hro := room_at h4; rw [hrm] at hro; clear hus h3 hFi)
        | (go_at_call 32; refine htt.mono ?_; rintro e w' ⟨rfl, hw⟩; obtain rfl := hw.symm; clear htt)
        | (go_at_call 33; refine hro.mono ?_; rintro e w' ⟨rfl, hw⟩; obtain rfl := hw.symm; clear hro))
      have hoff := off_at h4
      obtain ⟨hF, hk3⟩ := HF.out
      clear HF hr hr1 hr2 hr1' hr2' hn hk hlt hrm HS HL HC hk12
      by_cases hon : S.on = true
      · rw [hon] at hoff
        have hlk := sees_look HA1.out hF hk3 hk4
        have HWF := hide HA1.out.wf
        have HON := hide hon
        have HMM := hide HM.out.1
        clear hF hk3 hk4 h4 hon HA1 HM
        go_upto_region 19 with (first
          | (go_at_call 15; refine hoff.mono ?_; rintro e w' ⟨rfl, hw⟩; obtain rfl := hw.symm; clear hoff)
          | (go_at_call 35; refine hlk.mono ?_; rintro e w5 ⟨rfl, A5, o5, hSv⟩; have H5 : Hid (∃ A o, Sv w1 w5 p S 100900 [] [] (.slice lo S.files.length lc) vs (.slice none 0 0) [] (.slice none 0 0) A o) := hide ⟨A5, o5, hSv⟩; clear hSv hlk A5 o5))
        have hMM : S.files.length ≤ 100900 := HMM.out
        clear HMM
        generalize hLe : S.files.length = M at *
        have HL := hide hLe
        clear hLe
        go_loopw [17, 15, 16, 18, 19, 20, 21, 22] (fun i wv sv _ _ _ _ _ wr => ∃ k : Nat, k ≤ M ∧ i = .int .i64 k ∧ ∃ (wo : Option Addr) (wk : Nat) (so : Option Addr) (sc b a : Nat), wv = .slice wo b wk ∧ sv = .slice so a sc ∧ b ≤ k ∧ a ≤ k ∧ Hid (∃ A o, Sv w1 wr p S (100900 + k) (rdOf at_ m (S.files.take k)) (rdOf at_ m (S.files.take k)) (.slice lo M lc) vs sv (pre q (S.shown.keys.take k)) wv A o ∧ (rdOf at_ m (S.files.take k)).length = b ∧ (pre q (S.shown.keys.take k)).length = a)) (fun i _ _ _ _ _ _ _ wr => M - (intOf i).toNat)
        case atStart =>
          obtain ⟨A5, o5, h5⟩ := H5.out
          exact ⟨0, by omega, rfl, none, 0, none, 0, 0, 0, rfl, rfl, by omega, by omega, hide ⟨A5, o5, by simpa [rdOf, pre] using h5, by simp [rdOf], by simp [pre]⟩⟩
        case round =>
          clear H5
          obtain ⟨k, hk, rfl, wo, wk, so, sc, b, a, rfl, rfl, hbk, hak, HR⟩ := hrel
          obtain ⟨A, o, hR, hb2, ha2⟩ := HR.out
          clear HR
          by_cases hlt : k < M
          · have hshl : S.files.length = S.shown.length := by simp [Ds.files]
            have hlt2 : k < S.shown.length := by rw [← hshl, HL.out]; exact hlt
            obtain ⟨⟨n, id⟩, hqk⟩ : ∃ q, S.shown[k]? = some q := ⟨S.shown[k], List.getElem?_eq_getElem hlt2⟩
            have hmem : (n, id) ∈ S.shown := List.mem_of_getElem? hqk
            have hfk : S.files[k]? = some (n, (S.th id).shown) := by simp [Ds.files, hqk]
            have hkk : S.shown.keys[k]? = some n := by simp [Nm.keys, hqk]
            have hnl : n.length ≤ 112 := isNm_len (HWF.out.snm _ hmem)
            obtain ⟨lb, rfl⟩ := hR.lo (by rw [HL.out]; omega)
            obtain ⟨u, hu⟩ : ∃ u, vs[k]? = some u := ⟨vs[k]'(by rw [hR.fl.len, HL.out]; exact hlt), List.getElem?_eq_getElem _⟩
            obtain ⟨bo, bc, rfl, _⟩ := (hR.fl.own k _ u hfk hu).shape
            have AT : Hid (∀ {v N R Q sv ss wv A o}, Sv w1 v p S N R Q (.slice (some ⟨lb, 0, none⟩) M lc) vs sv ss wv A o → v.cell? ⟨lb, k * 2, none⟩ = some (encStr n) ∧ v.cell? ⟨lb, k * 2 + 1, none⟩ = some (.slice bo (S.th id).shown.length bc) ∧ Sl v bo (S.th id).shown ∧ (S.th id).shown.length = (S.th id).shown.length ∧ (S.th id).shown.length ≤ bc ∧ (bo = none → bc = 0)) := fun h => h.at hfk hu
            have hps := pre_snoc q S.shown.keys k n hkk
            have hrs := rdOf_snoc at_ m S.files k _ hfk
            obtain ⟨c1, c2, hsl0, _, hlbc, _⟩ := AT.out hR
            have hlm : (S.th id).shown.length ≤ 100900 + k := by
              have h1 := hR.bd.len (S := { S with reads := rdOf at_ m (S.files.take k) }) (by obtain ⟨_, _, _, _, hx⟩ := hR.pd; exact hx.wf) (k := id) (HWF.out.slt hmem)
              exact h1
            go_upto_region 21 with (fail)
            go_cut [101] from 80 to 241 (fun c wx => c = .bool false ∧ ∃ j, wx = wr.drewN j)
            case first =>
              by_cases hz : k = 0
              · subst hz
                go_quiet (fail)
                go_wp2
                go_meet
                case rel => exact ⟨rfl, nq, rfl⟩
              · obtain ⟨j, hjk⟩ : ∃ j, k = j + 1 := ⟨k - 1, by omega⟩
                obtain ⟨⟨n', id'⟩, hqj⟩ : ∃ q, S.shown[j]? = some q := ⟨S.shown[j]'(by omega), List.getElem?_eq_getElem _⟩
                have hfj : S.files[j]? = some (n', (S.th id').shown) := by simp [Ds.files, hqj]
                have hbf := less_of (up_at HWF.out.sup hqj (by rw [← hjk]; exact hqk))
                obtain ⟨u', hu'⟩ : ∃ u, vs[j]? = some u := ⟨vs[j]'(by rw [hR.fl.len, HL.out]; omega), List.getElem?_eq_getElem _⟩
                have cj : wr.cell? ⟨lb, j * 2, none⟩ = some (encStr n') := by
                  obtain ⟨bo', bc', e', _⟩ := (hR.fl.own j _ u' hfj hu').shape
                  subst e'
                  exact (hR.at hfj hu').1
                have hj1 : (k : Int) - 1 = (j : Int) := by omega
                have hk0 : 0 < k := by omega
                have hjM : j < M := by omega
                simp only at hbf
                clear hjk hqj hfj hu' hz hR AT hps hrs hqk hmem hfk hkk hu hsl0
                go_quiet (fail)
                go_wp2
                go_meet
                case rel => exact ⟨rfl, nq, rfl⟩
            case rest =>
              obtain ⟨rfl, j, hj⟩ := hcut
              have hR6 := hR.kept (w' := wc) (by rw [hj]; exact (Kept.refl [] wr).drewN _)
              clear hj hR c1 c2 hsl0 j
              obtain ⟨c1, c2, hsl0, _⟩ := AT.out hR6
              have hnl2 : n.length ≤ 4611686018427387904 := by omega
              have hszn : (ByteArray.mk n.toArray).size = n.length := by simp [ByteArray.size]
              have hszq : (ByteArray.mk q.toArray).size = q.length := by simp [ByteArray.size]
              have hE := ext_take n q.length
              have hkM : k ≤ 100900 := by omega
              clear hszq hszn
              have hszn : (ByteArray.mk n.toArray).size = n.length := by simp [ByteArray.size]
              have hszq : (ByteArray.mk q.toArray).size = q.length := by simp [ByteArray.size]
              go_upto_region 23 with (fail)
              go_cut [122] from 80 to 241 (fun c wx => c = .bool (q.isPrefixOf n) ∧ wx = wc)
              case first =>
                clear hR6 hps hrs AT hqk hmem hfk hkk hu hsl0 ha2 hb2
                by_cases hql : q.length ≤ n.length
                · go_wp2
                  go_meet
                  case rel => exact ⟨congrArg Value.bool (isPrefix_take q n).symm, rfl⟩
                · have HQ := hide (notPrefix_len q n hql)
                  go_wp2
                  go_meet
                  case rel => exact ⟨congrArg Value.bool HQ.out.symm, rfl⟩
              case rest =>
              obtain ⟨rfl, hwc⟩ := hcut
              subst hwc
              clear hE hszn hszq
              go_upto_if 122 with (fail)
              go_cut [16] from 80 to 241 (fun sv wx => ∃ (so : Option Addr) (sc a : Nat), sv = .slice so a sc ∧ a ≤ k + 1 ∧ Hid (∃ A o, Sv w1 wx p S (100900 + k) (rdOf at_ m (S.files.take k)) (rdOf at_ m (S.files.take k)) (.slice (some ⟨lb, 0, none⟩) M lc) vs sv (pre q (S.shown.keys.take (k + 1))) (.slice wo b wk) A o ∧ (pre q (S.shown.keys.take (k + 1))).length = a))
              case first =>
                by_cases hp : q.isPrefixOf n = true
                · rw [if_pos hp] at hps
                  obtain ⟨ga, gc, w7, hap, ho7, hK7, hl7⟩ : ∃ g c w', (Builtin.append_ #[48, 48] 48 #[.slice so a sc, .slice (some ⟨wc.heap.size, 0, none⟩) 1 1]).run Try.prog (wc.alloc (.cells #[encStr n] 9)) = .ok (.slice (some ⟨g, 0, none⟩) (a + 1) c) w' ∧ w'.ownsRow 0 9 1 (.slice (some ⟨g, 0, none⟩) (a + 1) c) (a + 1) ((pre q (S.shown.keys.take k)).map encStr ++ [encStr n]) ∧ (∀ F : Nat → Prop, (∀ j, (Value.slice so a sc).ownBlock = some j → F j) → Keep F wc w') ∧ (∀ g', (Value.slice (some ⟨g, 0, none⟩) (a + 1) c).ownBlock = some g' → (Value.slice so a sc).ownBlock = some g' ∨ wc.heap.size ≤ g') := by
                    have hr4 := hR6.so
                    rw [ha2] at hr4
                    obtain ⟨g, c, w', e1, e2, e3, e4, _⟩ := run_app (P := Try.prog) wc 48 48 9 Try.underlying48 Try.infoStr rfl (by decide) _ a _ hr4 [encStr n] rfl (fun z hz => by simp only [List.mem_singleton] at hz; rw [hz]; rfl) (by unfold maxLen; omega) (by omega)
                    refine ⟨g, c, w', e1, e2, e3, fun g' hg' => ?_⟩
                    simp only [Value.ownBlock, Option.some.injEq] at hg'
                    subst hg'
                    rcases e4 with e | e
                    · exact .inl e.symm
                    · exact .inr e
                  have H7 : Hid (∃ A o, Sv w1 w7 p S (100900 + k) (rdOf at_ m (S.files.take k)) (rdOf at_ m (S.files.take k)) (.slice (some ⟨lb, 0, none⟩) M lc) vs (.slice (some ⟨ga, 0, none⟩) (a + 1) gc) (pre q (S.shown.keys.take (k + 1))) (.slice wo b wk) A o ∧ (pre q (S.shown.keys.take (k + 1))).length = a + 1) := hide (by
                    rw [hps]
                    exact ⟨A, o, hR6.some1 (by rw [ha2]; exact ho7) hK7 hl7, by simp [ha2]⟩)
                  clear hR6 ho7 hK7 hl7 hps hrs AT hqk hmem hfk hkk hu hsl0 ha2 hb2
                  rw [hp]
                  go_wp2_with (at_builtin; refine wpList_app_run rfl _ _ 48 48 rfl _ _ rfl rfl _ _ hap ?_)
                  go_meet
                  case rel => exact ⟨_, _, _, rfl, by omega, H7⟩
                · simp only [Bool.not_eq_true] at hp
                  rw [if_neg (by simp [hp]), List.append_nil] at hps
                  have H7 : Hid (∃ A o, Sv w1 wc p S (100900 + k) (rdOf at_ m (S.files.take k)) (rdOf at_ m (S.files.take k)) (.slice (some ⟨lb, 0, none⟩) M lc) vs (.slice so a sc) (pre q (S.shown.keys.take (k + 1))) (.slice wo b wk) A o ∧ (pre q (S.shown.keys.take (k + 1))).length = a) := hide (by
                    rw [hps]
                    exact ⟨A, o, hR6, ha2⟩)
                  clear hR6 hps hrs AT hqk hmem hfk hkk hu hsl0 ha2 hb2
                  rw [hp]
                  go_wp2
                  go_meet
                  case rel => exact ⟨_, _, _, rfl, by omega, H7⟩
              case rest =>
                clear hR6 ha2 hak c1 c2 hsl0 hps
                obtain ⟨so2, sc2, a2, rfl, ha2, H7⟩ := hcut
                obtain ⟨A7, o7, hR7, hl7⟩ := H7.out
                clear H7
                obtain ⟨c1, c2, hsl7, _⟩ := AT.out hR7
                have hsz := sees_size hR7 HWF.out HON.out hmem
                have HP := hide hl7
                have HB := hide hb2
                clear hl7 hb2
                by_cases hf : fitB (S.th id).shown at_ m = true
                · as_aux_lemma =>
                    have hrd := sees_read hR7 (by omega) HWF.out HON.out hmem at_ m hf
                    rw [if_pos hf] at hrs
                    have hfit := hf
                    simp only [fitB, Bool.and_eq_true, decide_eq_true_eq] at hfit
                    obtain ⟨⟨⟨f1, f2⟩, f3⟩, f4⟩ := hfit
                    obtain ⟨x, rfl⟩ := Int.eq_ofNat_of_zero_le f1
                    obtain ⟨y, rfl⟩ := Int.eq_ofNat_of_zero_le f2
                    simp only [Int.toNat_natCast] at hrd hrs
                    have hlen2 : (((S.th id).shown.drop x).take y).length = y := by simp only [List.length_take, List.length_drop]; omega
                    have HLN := hide hlen2
                    clear hR7 hsl7 hlen2
                    go_wp2_with (first
                      | (go_at_call 36; refine hsz.mono ?_; rintro e w' ⟨rfl, hw⟩; obtain rfl := hw.symm; clear hsz)
                      | (go_at_call 37; refine hrd.mono ?_; rintro e w8 ⟨v8, A8, o8, rfl, hR8, hv8⟩; obtain ⟨vo, vk, rfl, _⟩ := hv8.shape; obtain ⟨d1, d2, hs8, _, hlb8, hn8⟩ := AT.out hR8; obtain ⟨ao8, hcut8, hsl8, _⟩ := Try.cutMid w8 bo (S.th id).shown.length bc x y (S.th id).shown hs8 rfl hlb8 (by omega) hn8; have hby := bytes_yes vo ao8 y vk (bc - x) _ w8 HLN.out (by omega) hv8.sl hsl8; have HR8 := hide hR8; clear hrd hR8 hv8 hs8 hsl8 c1 c2)
                      | (go_at_call 20; refine hby.mono ?_; rintro e w9 ⟨rfl, jj, hw9⟩; have hR9 := HR8.out.kept (w' := w9) (by rw [hw9]; exact (Kept.refl [] w8).drewN _); clear hw9; obtain ⟨d1, d2, _⟩ := AT.out hR9; obtain ⟨ga, gc, w10, hap, hR10⟩ := hR9.span HB.out (by omega) n x y; have H10 : Hid (∃ A o, Sv w1 w10 p S (100900 + (k + 1)) (rdOf (x : Int) (y : Int) (S.files.take (k + 1))) (rdOf (x : Int) (y : Int) (S.files.take (k + 1))) (.slice (some ⟨lb, 0, none⟩) M lc) vs (.slice so2 a2 sc2) (pre q (S.shown.keys.take (k + 1))) (.slice (some ⟨ga, 0, none⟩) (b + 1) gc) A o ∧ (rdOf (x : Int) (y : Int) (S.files.take (k + 1))).length = b + 1 ∧ (pre q (S.shown.keys.take (k + 1))).length = a2) := hide ⟨_, _, by rw [← Nat.add_assoc, hrs]; exact hR10, by rw [hrs]; simp [HB.out], HP.out⟩; clear hR10 hR9 HR8 hby)
                      | (at_builtin; refine wpList_app_run rfl _ _ 76 76 rfl _ _ rfl rfl _ _ hap ?_))
                    refine ⟨⟨k + 1, by omega, by go_num, some ⟨ga, 0, none⟩, gc, so2, sc2, b + 1, a2, rfl, rfl, by omega, by omega, H10⟩, by simp [intOf]; omega⟩
                · simp only [Bool.not_eq_true] at hf
                  have hrd := sees_miss hR7 (by omega) HWF.out HON.out hmem at_ m hf
                  rw [if_neg (by simp [hf]), List.append_nil] at hrs
                  have HF0 := hide hf
                  have hlm2 : (S.th id).shown.length ≤ 201800 := by omega
                  clear hR7 hsl7 hf
                  go_upto_region 27 with (first
                    | (go_at_call 36; refine hsz.mono ?_; rintro e w' ⟨rfl, hw⟩; obtain rfl := hw.symm; clear hsz)
                    | (go_at_call 37; refine hrd.mono ?_; rintro e w8 ⟨vo, vk, A8, o8, rfl, hR8⟩; obtain ⟨d1, d2, _⟩ := AT.out hR8; have H10 : Hid (∃ A o, Sv w1 w8 p S (100900 + (k + 1)) (rdOf at_ m (S.files.take (k + 1))) (rdOf at_ m (S.files.take (k + 1))) (.slice (some ⟨lb, 0, none⟩) M lc) vs (.slice so2 a2 sc2) (pre q (S.shown.keys.take (k + 1))) (.slice wo b wk) A o ∧ (rdOf at_ m (S.files.take (k + 1))).length = b ∧ (pre q (S.shown.keys.take (k + 1))).length = a2) := hide ⟨_, _, by rw [← Nat.add_assoc, hrs]; exact hR8, by rw [hrs]; exact HB.out, HP.out⟩; clear hrd hR8 c1 c2))
                  go_cut [22] from 80 to 241 (fun c wx => c = .bool false ∧ wx = w8)
                  case first =>
                    as_aux_lemma =>
                      have hf0 := HF0.out
                      simp only [fitB, Bool.and_eq_false_iff, decide_eq_false_iff_not] at hf0
                      clear H10 hrs AT hqk hmem hfk hkk hu HF0
                      by_cases g1 : 0 ≤ at_
                      · by_cases g2 : 0 ≤ m
                        · by_cases g3 : at_ ≤ ((S.th id).shown.length : Int)
                          · have g4 : ¬ m ≤ ((S.th id).shown.length : Int) - at_ := by omega
                            clear hf0
                            go_wp2
                            go_meet
                            case rel => exact ⟨rfl, rfl⟩
                          · clear hf0
                            go_wp2
                            go_meet
                            case rel => exact ⟨rfl, rfl⟩
                        · clear hf0
                          go_wp2
                          go_meet
                          case rel => exact ⟨rfl, rfl⟩
                      · clear hf0
                        go_wp2
                        go_meet
                        case rel => exact ⟨rfl, rfl⟩
                  case rest =>
                    obtain ⟨rfl, hwc⟩ := hcut
                    subst hwc
                    go_wp2
                    refine ⟨⟨k + 1, by omega, by go_num, wo, wk, so2, sc2, b, a2, rfl, rfl, by omega, by omega, H10⟩, by simp [intOf]; omega⟩
          · as_aux_lemma =>
              have hkM : k = M := by omega
              have hfull : S.files.take k = S.files := List.take_of_length_le (by rw [HL.out]; omega)
              have hfull2 : S.shown.keys.take k = S.shown.keys := List.take_of_length_le (by
                have : S.shown.keys.length = S.files.length := by simp [Nm.keys, Ds.files]
                rw [this, HL.out]
                omega)
              rw [hfull] at hR hb2
              rw [hfull2] at hR ha2
              have hli := sees_list hR (by omega) HON.out q hq ha2
              have HFL : Hid (∀ f ∈ S.files, f.2.length ≤ 4611686018427387904) := hide (fun f hf => by
                obtain ⟨i, hi, e1⟩ := List.mem_iff_getElem.1 hf
                have hv : i < vs.length := by rw [hR.fl.len]; exact hi
                have ho := hR.fl.own i f _ (by rw [List.getElem?_eq_getElem hi, e1]) (List.getElem?_eq_getElem hv)
                obtain ⟨bo, bc, _, h1, h2, _⟩ := ho.shape
                have hid := hR.bd
                have h3 : ∃ x ∈ S.shown, f = (x.1, (S.th x.2).shown) := by
                  simp only [Ds.files, List.mem_map] at hf
                  obtain ⟨x, hx, e⟩ := hf
                  exact ⟨x, hx, e.symm⟩
                obtain ⟨x, hx, rfl⟩ := h3
                have h4 := hR.bd.len (S := { S with reads := rdOf at_ m S.files }) (by obtain ⟨_, _, _, _, hx⟩ := hR.pd; exact hx.wf) (k := x.2) (HWF.out.slt (n := x.1) hx)
                have h5 : (S.th x.2).shown.length ≤ 100900 + k := h4
                show (S.th x.2).shown.length ≤ _
                omega)
              have HR := hide hR
              have HB := hide hb2
              have HA2 := hide ha2
              clear hR hb2 ha2 hfull hfull2
              go_wp2_with (first
                | (go_at_call 34; refine hli.mono ?_; rintro e w6 ⟨vo6, vk6, rfl, ht6, hk6⟩; have hR6 := HR.out.kept hk6; have hnm := names_yes vo6 so a vk6 sc (pre q S.shown.keys) w6 HA2.out (by omega) ht6 (Txs.of (n := a) (c := sc) (by have := hR6.so; rw [HA2.out] at this; exact this)); have HR6 := hide hR6; clear hli ht6 hk6 hR6 HR)
                | (go_at_call 38; refine hnm.mono ?_; rintro e w7 ⟨rfl, j7, hw7⟩; have hR7 := HR6.out.kept (w' := w7) (by rw [hw7]; exact (Kept.refl [] w6).drewN _); clear hw7 hnm; have hrd := sees_reads hR7 (by omega) HB.out; have HR7 := hide hR7; clear hR7 HR6)
                | (go_at_call 40; have Ha := HR7; refine hrd.mono ?_; rintro e w8 ⟨vo8, vk8, rfl, ht8, hk8⟩; have hR8 := HR7.out.kept hk8; have hsp := spans_yes vo8 wo b vk8 wk (rdOf at_ m S.files) w8 HB.out (by omega) ht8 (Sps.of (n := b) (c := wk) (by have := hR8.wo; rw [HB.out] at this; exact this)); have HR8 := hide hR8; clear hrd ht8 hk8 hR8 HR7 Ha)
                | (go_at_call 39; refine hsp.mono ?_; rintro e w9 ⟨rfl, j9, hw9⟩; have hR9 := HR8.out.kept (w' := w9) (by rw [hw9]; exact (Kept.refl [] w8).drewN _); clear hw9 hsp; have hlk := sees_look2 hR9; clear hR9 HR8)
                | (go_at_call 35; refine hlk.mono ?_; rintro e w10 ⟨rfl, A10, o10, hR10⟩; have hrd2 := sees_reads hR10 (by omega) (b := 0) rfl; have HR10 := hide hR10; clear hlk hR10)
                | (go_at_call 40; have Ha := HR10; refine hrd2.mono ?_; rintro e w11 ⟨vo11, vk11, rfl, _, hk11⟩; have hR11 := HR10.out.kept hk11; have hfl := sees_files hR11 (by omega) HL.out; have HR11 := hide hR11; clear hrd2 hk11 hR11 HR10 Ha)
                | (go_at_call 19; refine hfl.mono ?_; rintro e w12 ⟨vo12, vk12, rfl, ht12, hk12⟩; have hR12 := HR11.out.kept hk12; have hfy := files_yes vo12 lo M vk12 lc S.files w12 HL.out (by omega) HFL.out ht12 (Fis.of hR12.fl).1; have HR12 := hide hR12; clear hfl ht12 hk12 hR12 HR11)
                | (go_at_call 23; refine hfy.mono ?_; rintro e w13 ⟨rfl, j13, hw13⟩; have hR13 := HR12.out.kept (w' := w13) (by rw [hw13]; exact (Kept.refl [] w12).drewN _); clear hw13 hfy; have HR13 := hide hR13; clear hR13 HR12)
                | (go_at_call 21; refine (known_ok _).mono ?_; rintro e w14 ⟨rfl, hk14⟩; have HK14 := hide hk14; clear hk14))
              go_ret
              exact ⟨rfl, ((hk1.trans HR13.out.keep (by simp)).trans HK14.out (by simp)).below (Nat.le_refl _) (by simp)⟩
      · simp only [Bool.not_eq_true] at hon
        rw [hon] at hoff
        have hlz : S.list [] = [] := by simp [Ds.list, hon]
        have hls : Calls Try.prog 34 #[.pointer (some ⟨p, 0, none⟩), .string ⟨#[]⟩] w4 fun e w' => ∃ (xo : Option Addr) (xc : Nat), e = .returned (.slice xo 0 xc) ∧ Kept [] w4 w' := by
          have := list_at h4 (by omega) [] (by simp)
          rw [hlz] at this
          refine this.mono ?_
          rintro e w' ⟨v, rfl, h1, _, h2⟩
          obtain ⟨xo, xc, rfl, _⟩ := own_shape h1
          exact ⟨xo, xc, rfl, h2⟩
        have HK4 := hide (hk1.trans h4.old (by simp))
        clear hF hk3 hk4 h4 hon HA1 HM hlz
        go_wp2_with (first
          | (go_at_call 15; refine hoff.mono ?_; rintro e w' ⟨rfl, hw⟩; obtain rfl := hw.symm; clear hoff)
          | (go_at_call 34; refine hls.mono ?_; rintro e w5 ⟨xo, xc, rfl, hk5⟩; have HK5 := hide hk5; clear hk5 hls)
          | (go_at_call 21; refine (known_ok _).mono ?_; rintro e w6 ⟨rfl, hk6⟩; have HK6 := hide hk6; clear hk6))
        go_ret
        exact ⟨rfl, ((HK4.out.trans HK5.out (by simp)).trans HK6.out (by simp)).below (Nat.le_refl _) (by simp)⟩
end Go.Proofs.Ytcmiehfahdbffac
