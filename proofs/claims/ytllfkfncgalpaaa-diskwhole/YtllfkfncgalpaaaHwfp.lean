/-
  DiskWhole: the walk. (Written by tools/hwf.py.)
-/
import Derived.Test.YtllfkfncgalpaaaRbp
import Derived.Test.YtllfkfncgalpaaaIa
namespace Go.Proofs.Ytllfkfncgalpaaa
open Go.RowKit Dsk
set_option linter.unusedVariables false
set_option linter.unusedSimpArgs false

set_option maxHeartbeats 8000000 in
set_option maxRecDepth 100000 in
theorem whole_walk (r : Int) (ao : Option Addr) (n cap : Nat) (times : Int) (L : List Stp) (w : World) (hl : L.length = n) (hs : Scr w ao L) (hn : n ≤ 9223372036854775807) (hrw : (Lit.int .i64 r).wf = true) (htw : (Lit.int .i64 times).wf = true) :
    Calls Try.prog 3 #[.int .i64 r, .slice ao n cap, .int .i64 times] w fun e w' => e = .returned (.bool true) ∧ Below w.heap.size w w' := by
  clear htw
  have hlg := long_any ao n cap L w hl hn hs
  have hlg' : Calls Try.prog 4 #[.slice ao n cap] w fun e w' => (e = .returned (.bool true) ∨ e = .returned (.bool false)) ∧ Kept [] w w' := hlg.mono (fun e w' ⟨h1, h2⟩ => ⟨h1.elim .inl (fun h => .inr h.1), h2⟩)
  by_cases e0 : 60 < n
  · clear hlg hs
    as_aux_lemma =>
      go_enter Try.func3, Try.ntmps3
      go_wp2_with (go_at_call 4; refine hlg'.mono ?_; rintro e w1 ⟨rfl | rfl, hk⟩)
      all_goals (go_ret; exact ⟨rfl, hk.below (Nat.le_refl _) (by simp)⟩)
  by_cases e1 : times < -1000
  · clear hlg hs
    as_aux_lemma =>
      go_enter Try.func3, Try.ntmps3
      go_wp2_with (go_at_call 4; refine hlg'.mono ?_; rintro e w1 ⟨rfl | rfl, hk⟩)
      all_goals (go_ret; exact ⟨rfl, hk.below (Nat.le_refl _) (by simp)⟩)
  by_cases e2 : 1000 < times
  · clear hlg hs
    as_aux_lemma =>
      go_enter Try.func3, Try.ntmps3
      go_wp2_with (go_at_call 4; refine hlg'.mono ?_; rintro e w1 ⟨rfl | rfl, hk⟩)
      all_goals (go_ret; exact ⟨rfl, hk.below (Nat.le_refl _) (by simp)⟩)
  by_cases e3 : r < 1
  · clear hlg hs
    as_aux_lemma =>
      go_enter Try.func3, Try.ntmps3
      go_wp2_with (go_at_call 4; refine hlg'.mono ?_; rintro e w1 ⟨rfl | rfl, hk⟩)
      all_goals (go_ret; exact ⟨rfl, hk.below (Nat.le_refl _) (by simp)⟩)
  by_cases e4 : 1048576 < r
  · clear hlg hs
    as_aux_lemma =>
      go_enter Try.func3, Try.ntmps3
      go_wp2_with (go_at_call 4; refine hlg'.mono ?_; rintro e w1 ⟨rfl | rfl, hk⟩)
      all_goals (go_ret; exact ⟨rfl, hk.below (Nat.le_refl _) (by simp)⟩)
  have hrE : roomE r = 0 := by unfold roomE; simp; omega
  have hnw := fun (v : World) => new_at r v hrw
  rw [hrE] at hnw
  have HS : Hid (Scr w ao L) := hs
  have HL : Hid (L.length = n) := hl
  have HTI : Hid (-1000 ≤ times ∧ times ≤ 1000) := hide ⟨by omega, by omega⟩
  have hn60 : n ≤ 60 := by omega
  have d0 : decide ((60 : Int) < (n : Int)) = false := by simp; omega
  have d1 : decide (times < -1000) = false := by simp; omega
  have d2 : decide (1000 < times) = false := by simp; omega
  have d3 : decide (r < 1) = false := by simp; omega
  have d4 : decide (1048576 < r) = false := by simp; omega
  clear hs hl hrE hlg'
  go_enter Try.func3, Try.ntmps3
  go_upto_region 6 with (first
    | (go_at_call 4; refine hlg.mono ?_; rintro e w1 ⟨he, hk1⟩; clear hlg; rcases he with rfl | ⟨rfl, hsh⟩)
    | (go_at_call 5; refine (hnw w1).mono ?_; rintro e w2 ⟨v, rfl, hk2, hn2, _⟩; obtain ⟨p, rfl, hat⟩ := hn2 (by first | trivial | rfl); have H2 := hide hat; clear hat hn2 hnw))
  all_goals (try (go_ret; exact ⟨rfl, hk1.below (Nat.le_refl _) (by simp)⟩))
  have HC : Hid (costs L ≤ 100000) := hide hsh.2
  clear hsh e0 e1 e2 e3 e4 d0 d1 d2 d3 d4
  have HB : Hid (Wst w1 (w2.alloc (.cells #[.slice none 0 0, .int .i64 0] 31)) p (playD (Ds.fresh r.toNat) (L.take 0)) (costs (L.take 0) + 3 * 0) w2.heap.size (.slice none 0 0) [] 0 ∧ Whl (playD (Ds.fresh r.toNat) (L.take 0)) [] 0) := hide ⟨by simpa [playD, costs] using Wst.begin H2.out, by simpa [playD] using whl_fresh _⟩
  clear H2
  go_upto_region 8 with (fail)
  generalize w2.alloc (.cells #[.slice none 0 0, .int .i64 0] 31) = w3 at HB ⊢
  generalize w2.heap.size = q0 at HB ⊢
  go_loopw [9, 10] (fun y9 y10 wr => ∃ (k q : Nat) (v : Value) (H : Nm) (t : Nat), k ≤ n ∧ y9 = .pointer (some ⟨q, 0, none⟩) ∧ y10 = .int .i64 k ∧ Hid (Wst w1 wr p (playD (Ds.fresh r.toNat) (L.take k)) (costs (L.take k) + 3 * k) q v H t ∧ Whl (playD (Ds.fresh r.toNat) (L.take k)) H t)) (fun y9 y10 wr => n - (intOf y10).toNat)
  case atStart => exact ⟨0, q0, _, _, _, Nat.zero_le _, rfl, rfl, HB⟩
  case round =>
    clear HB
    obtain ⟨k, q, v, H, t, hk, rfl, rfl, HR⟩ := hrel
    by_cases hlt : k < n
    · have hkL : k < L.length := by rw [HL.out]; exact hlt
      obtain ⟨b, off, rfl, _, hcs⟩ := HS.out.open (List.length_pos_iff.1 (by omega))
      obtain ⟨hc, hin⟩ := hcs k hkL
      have hkx : Kept [] w wr := hk1.trans HR.out.1.old (by simp)
      have hcost := cost_at hkL
      have hcc := HC.out
      have hco : (L.getD k stp0).cost = (L.getD k stp0).dn + 8 * (L.getD k stp0).pn := rfl
      have HNX : Hid (∀ (wx : World) (q' : Nat) (v' : Value) (H' : Nm) (t' : Nat), Wst w1 wx p (stepD (playD (Ds.fresh r.toNat) (L.take k)) (L.getD k stp0)).2 (costs (L.take k) + 3 * k + (L.getD k stp0).dn + 3) q' v' H' t' → Whl (stepD (playD (Ds.fresh r.toNat) (L.take k)) (L.getD k stp0)).2 H' t' → Hid (Wst w1 wx p (playD (Ds.fresh r.toNat) (L.take (k + 1))) (costs (L.take (k + 1)) + 3 * (k + 1)) q' v' H' t' ∧ Whl (playD (Ds.fresh r.toNat) (L.take (k + 1))) H' t')) := fun wx q' v' H' t' h1 h2 => by
        rw [stp_snoc L k hkL, playD_snoc, costs_snoc]
        exact hide ⟨h1.mono (by omega), h2⟩
      have c0 := hkx.cellOf (hc 0 _ rfl) (by simp)
      have c1 := hkx.cellOf (hc 1 _ rfl) (by simp)
      have c2 := hkx.cellOf (hc 2 _ rfl) (by simp)
      have c3 := hkx.cellOf (hc 3 _ rfl) (by simp)
      have c4 := hkx.cellOf (hc 4 _ rfl) (by simp)
      have c5 := hkx.cellOf (hc 5 _ rfl) (by simp)
      have c6 := hkx.cellOf (hc 6 _ rfl) (by simp)
      have c7 := hkx.cellOf (hc 7 _ rfl) (by simp)
      have c8 := hkx.cellOf (hc 8 _ rfl) (by simp)
      have c9 := hkx.cellOf (hc 9 _ rfl) (by simp)
      rw [Nat.mul_comm 10 k] at c0 c1 c2 c3 c4 c5 c6 c7 c8 c9
      rw [Nat.add_zero] at c0
      have hNb : costs (L.take k) + 3 * k + (L.getD k stp0).dn ≤ 100180 ∧ (L.getD k stp0).pn ≤ 100000 := ⟨by omega, by omega⟩
      generalize L.getD k stp0 = s at *
      generalize playD (Ds.fresh r.toNat) (L.take k) = S at HR HNX
      generalize costs (L.take k) + 3 * k = N at HR HNX hNb
      have HIN := hide (hin.kept hkx)
      have HNB := hide hNb
      clear hc hin hcs hcost hcc hco hkL hNb
      go_upto_region 11 with (fail)
      have hx2 : (wr.alloc (.cells #[.int .i64 s.kind, .string { data := List.toArray s.name }, .string { data := List.toArray s.to }, .int .i64 s.at_, .int .i64 s.n, .slice s.da s.dn s.dc, .int .i64 s.po, .int .i64 s.pf, .int .i64 s.pt, .slice s.pa s.pn s.pc] 37)).heap[wr.heap.size]? = some (.cells #[.int .i64 s.kind, .string { data := List.toArray s.name }, .string { data := List.toArray s.to }, .int .i64 s.at_, .int .i64 s.n, .slice s.da s.dn s.dc, .int .i64 s.po, .int .i64 s.pf, .int .i64 s.pt, .slice s.pa s.pn s.pc] 37 (0, 0)) := (MapKept.heap_alloc wr _).1
      have hk2' : Kept [] wr (wr.alloc (.cells #[.int .i64 s.kind, .string { data := List.toArray s.name }, .string { data := List.toArray s.to }, .int .i64 s.at_, .int .i64 s.n, .slice s.da s.dn s.dc, .int .i64 s.po, .int .i64 s.pf, .int .i64 s.pt, .slice s.pa s.pn s.pc] 37)) := (Kept.refl [] wr).alloc _
      clear c0 c1 c2 c3 c4 c5 c6 c7 c8 c9
      generalize wr.alloc (.cells #[.int .i64 s.kind, .string { data := List.toArray s.name }, .string { data := List.toArray s.to }, .int .i64 s.at_, .int .i64 s.n, .slice s.da s.dn s.dc, .int .i64 s.po, .int .i64 s.pf, .int .i64 s.pt, .slice s.pa s.pn s.pc] 37) = wb at hx2 hk2' ⊢
      have hx2' : wb.heap[wr.heap.size]? = some (.cells (sct s) 37 (0, 0)) := hx2
      clear hx2
      obtain ⟨gx, hgx⟩ : ∃ gx, wr.heap.size = gx := ⟨_, rfl⟩
      rw [hgx] at hx2'
      rw [hgx]
      have HGX := hide hgx
      have HX2 := hide hx2'
      have HKB := hide hk2'
      have hfl := ws_files (HR.out.1.kept hk2') (by have := HNB.out; omega)
      have hof := fun (v : World) (hv : Kept [] wr v) => ws_off (HR.out.1.kept hv)
      clear hgx hx2' hk2'
      go_upto_region 13 with (first
        | (go_at_call 6; refine hfl.mono ?_; rintro e wd ⟨wo, wc0, rfl, hST, hkd⟩; have HST := hide hST; have HKD := hide hkd; have hof := hof wd (HKB.out.trans hkd (by simp)); clear hfl hST hkd)
        | (go_at_call 7; refine hof.mono ?_; rintro e w' ⟨rfl, hww⟩; obtain rfl := hww.symm; clear hof))
      have hkd : Kept [] wr wd := HKB.out.trans HKD.out (by simp)
      have hax := HR.out.1.ax.more hkd
      have hxd := (Keep.ofNone (F := fun _ => False) HKD.out).heapOf HX2.out (fun h => h)
      have hdo := dx_ok hax s (HIN.out.kept hkd) (by have := HNB.out; omega) (by have := HNB.out; omega)
      obtain ⟨j0, j1, j2, j3, j4, j5, j6, j7, j8, j9⟩ := (MidP.mk (lo := none) (wo := none) (LT := []) (LS := []) (fun i hi => absurd hi (by simp)) (fun i hi => absurd hi (by simp)) hxd : MidP none none [] [] gx s wd).cells
      have hwf := HR.out.1.ax.wf
      have hbd := HR.out.1.ax.bd
      have HWC : Hid (s.kind = 12 → (stepD S s).1 = 0 ∧ Whl (stepD S s).2 (zeroH (stepD S s).2.files) 0) := hide (whd_crash hwf s)
      have HWD : Hid (s.kind ≠ 12 → Whd S s H t (stepD S s).1 (stepD S s).2) := hide (whd_ok hwf HR.out.2 s HIN.out.inb.len)
      have HSM : Hid (Sml H t s.dn) := hide (whl_sml HR.out.2 hwf hbd (by have := HNB.out; omega) (by have := HNB.out; omega))
      have HFS := hide (files_sml hbd hwf (by have := HNB.out; omega))
      have HXD := hide hxd
      obtain ⟨ob, hob⟩ : ∃ ob, (!S.on) = ob := ⟨_, rfl⟩
      have HOB := hide hob
      rw [hob]
      have HAX := hide hax
      clear hax hxd hwf hbd hob
      generalize hT : (stepD S s).2 = T at *
      generalize hf : (stepD S s).1 = f at *
      clear hT hf
      go_upto_region 14 with (go_at_call 8; refine hdo.mono ?_; rintro e we ⟨rfl, hx4⟩; have HX4 := hide hx4; clear hdo hx4)
      clear j0 j1 j2 j3 j4 j5 j6 j7 j8 j9
      have h3 := HR.out.1.kept hkd
      have h4 := h3.next (HX4.out.less (fun b hb => .inl hb))
      have hfl := ws_files h4 (by have := HNB.out; omega)
      have HW4 := hide h4
      clear h3 h4
      go_upto_region 15 with (go_at_call 6; refine hfl.mono ?_; rintro e wf ⟨lo, lc, rfl, hSTl, hkf⟩; have HSTl := hide hSTl; have HKF := hide hkf; clear hfl hSTl hkf)
      have HCAR : Hid (Car (fun b => gx ≤ b ∧ b < wf.heap.size) w1 wf p T (N + s.dn + 3) q v H t lo wo T.files S.files gx s) := by
        have hq := HR.out.1.rws.qlt
        have hv : ∀ g, v.ownBlock = some g → g < wr.heap.size := fun g hg => HR.out.1.rws.row.lt hg
        have hgx := HGX.out
        have hkeep : Keep (fun b => ¬ (More (fun b => b < w1.heap.size ∨ b = q ∨ v.ownBlock = some b) wr wd) b) wd we := HX4.out.old
        have s1 := hkd.size
        have s2 := hkeep.size
        have s3 := HKF.out.size
        have s4 := HKB.out.size
        refine hide ⟨HW4.out.kept HKF.out, fun u hu => ⟨?_, ?_, ?_⟩, fun hY => by omega, fun g hg hY => by have := hv g hg; omega, fun b hb => hb.2⟩
        · exact (HSTl.out.wide (Y := fun b => gx ≤ b ∧ b < wf.heap.size) (fun b hb => ⟨by omega, hb.2⟩)) u hu
        · have z1 := (HST.out.keep (hkeep.mono (fun b hb _ hz => hb (.inr ⟨by omega, hz.2⟩)))).kept HKF.out
          exact (z1.wide (Y := fun b => gx ≤ b ∧ b < wf.heap.size) (fun b hb => ⟨by omega, by omega⟩)) u hu
        · have gxl : gx < wd.heap.size := (Array.getElem?_eq_some_iff.1 HXD.out).1
          have z1 := hkeep.heapOf HXD.out (fun hn => hn (.inr ⟨by omega, gxl⟩))
          have z2 := (Keep.ofNone (F := fun _ => False) HKF.out).heapOf z1 (fun h => h)
          exact hu.heapOf z2 (fun hn => hn ⟨Nat.le_refl _, by omega⟩)
      have hlw : S.files.length ≤ 1000000 := by have := HR.out.1.ax.bd.shown HR.out.1.ax.wf; have := HNB.out; simp only [Ds.files, List.length_map]; omega
      have hTw := HX4.out.wf
      have hTb := HX4.out.bd
      have HTW := hide hTw
      have HTB := hide hTb
      have HTS := hide (files_sml hTb hTw (by have := HNB.out; omega))
      have hlT : T.files.length ≤ 1000000 := by have := hTb.shown hTw; have := HNB.out; simp only [Ds.files, List.length_map]; omega
      clear hTw hTb HST HSTl HKF HX4 HW4 HKD HKB HX2 HXD HAX hkd HGX HR HIN
      generalize hYY : (fun b => gx ≤ b ∧ b < wf.heap.size) = Y at HCAR
      clear hYY
      generalize hN2 : N + s.dn + 3 = N2 at HCAR HTB HNX
      have HN2 : Hid (N2 ≤ 100190) := hide (by have := HNB.out; omega)
      clear hN2
      generalize hLT : T.files = LT at HCAR HTS hlT
      have HLT := hide hLT
      try rw [hLT]
      generalize hLS : S.files = LS at HCAR HFS hlw
      have HLS := hide hLS
      try rw [hLS]
      clear hLT hLS
      obtain ⟨lT, hlT2⟩ : ∃ lT, LT.length = lT := ⟨_, rfl⟩
      have HLl := hide hlT2
      obtain ⟨lS, hlS2⟩ : ∃ lS, LS.length = lS := ⟨_, rfl⟩
      have HLs := hide hlS2
      rw [hlT2] at hlT
      rw [hlS2] at hlw
      try rw [hlT2]
      try rw [hlS2]
      clear hlT2 hlS2
      obtain ⟨K, hK⟩ : ∃ K, s.kind = K := ⟨_, rfl⟩
      have HK := hide hK
      clear hK
      obtain ⟨m0, _⟩ := HCAR.out.mid.now.cells
      rw [HK.out] at m0
      go_upto_if 77 with (fail)
      clear m0
      obtain ⟨b12, hb12⟩ : ∃ b12, (K == 12) = b12 := ⟨_, rfl⟩
      rw [hb12]
      have HB12 := hide hb12
      clear hb12
      go_cut [9] from 56 to 203 (fun y wx => ∃ (q1 : Nat) (v1 : Value) (H1 : Nm) (t1 : Nat), y = .pointer (some ⟨q1, 0, none⟩) ∧ Hid (Car Y w1 wx p T N2 q1 v1 H1 t1 lo wo LT LS gx s ∧ Sml H1 t1 s.dn ∧ Whd S s H1 t1 f T))
      case first =>
        cases b12 with
        | true =>
          have h12 : K = 12 := by have := HB12.out; simpa using this
          obtain ⟨hf0, hwc⟩ := HWC.out (by rw [HK.out]; exact h12)
          have HWC2 := hide hwc
          have HF0 := hide hf0
          have HH12 := hide h12
          have HCC := hide HCAR.out.crashed
          clear hwc hf0 HCAR HWC HWD HSM h12
          go_upto_region 18 with (fail)
          generalize wf.alloc (.cells #[.slice none 0 0, .int .i64 0] 31) = wg at HCC ⊢
          generalize wf.heap.size = q1 at HCC ⊢
          go_loopw [16] (fun y wx => ∃ (j : Nat) (v1 : Value), j ≤ lT ∧ y = .int .i64 j ∧ Hid (Car Y w1 wx p T N2 q1 v1 (zeroH (LT.take j)) 0 lo wo LT LS gx s)) (fun y wx => lT - (intOf y).toNat)
          case atStart => exact ⟨0, _, Nat.zero_le _, rfl, HCC⟩
          case round =>
            clear HCC
            obtain ⟨j, v1, hj, rfl, HCC⟩ := hrel
            by_cases hjl : j < lT
            · as_aux_lemma =>
                obtain ⟨b2, hb2, fx, hfx, n1, _⟩ := HCC.out.mid.now.l j (by rw [HLl.out]; exact hjl)
                subst hb2
                obtain ⟨fn, hfn⟩ : ∃ fn, fx.1 = fn := ⟨_, rfl⟩
                rw [hfn] at n1
                obtain ⟨bo, bc, hv1, _⟩ := HCC.out.st.rws.row.shape
                have hzl : (zeroH (LT.take j)).length = j := by have := HLl.out; simp [zeroH]; omega
                have hzs : zeroH (LT.take j) ++ [(fn, 0)] = zeroH (LT.take (j + 1)) := by
                  rw [List.take_add_one, hfx]
                  simp [zeroH, hfn]
                rw [hzl] at hv1
                have k0 : wr.cell? ⟨q1, 0, none⟩ = some (.slice bo j bc) := by rw [← hv1]; exact HCC.out.st.rws.cell0
                have HP : Hid (∀ v0, Kept [] wr v0 → ∃ g c w2, (Builtin.append_ #[29, 29] 29 #[.slice bo j bc, .slice (some ⟨v0.heap.size, 0, none⟩) 1 1]).run Try.prog (v0.alloc (.cells #[encStr fn, .int .i64 0] 45)) = .ok (.slice (some ⟨g, 0, none⟩) (j + 1) c) w2 ∧ w2.heap[q1]? = some (.cells #[.slice bo j bc, .int .i64 0] 31 (0, 0)) ∧ Car Y w1 (w2.setCell ⟨q1, 0, none⟩ (.slice (some ⟨g, 0, none⟩) (j + 1) c)) p T N2 q1 (.slice (some ⟨g, 0, none⟩) (j + 1) c) (zeroH (LT.take (j + 1))) 0 (some ⟨b2, 0, none⟩) wo LT LS gx s) := hide (fun v0 hk0 => by
                  have := HCC.out.push (by rw [hzl]; omega) fn hk0
                  rw [hzl, hzs, hv1] at this
                  exact this)
                clear hv1 hzl hzs hfn hfx HCC
                go_upto_region 20 with (fail)
                refine wp_region_late (fun w' => Kept [] wr w') (fun i => i == 12 || i == 15) (by kernel_rfl) ?_
                have h0 : Kept [] wr wr.drew := (Kept.refl [] wr).drew
                generalize World.drew wr = v0 at h0 ⊢
                refine wpAnyL_free (i := 0) (v := .pointer (some ⟨q1, 0, none⟩)) rfl (by kernel_rfl) (by kernel_rfl) (by kernel_rfl) (fun _ _ _ h => h) (Or.inl ⟨by rfl, fun w _ => by go_simp⟩) ?_
                try simp only [List.getElem_toArray, List.getElem_cons_zero, List.getElem_cons_succ, Act.put, List.setIfInBounds_toArray, List.set_cons_zero, List.set_cons_succ]
                refine wpAnyL_free (i := 1) (v := .pointer (some ⟨q1, 0, none⟩)) rfl (by kernel_rfl) (by kernel_rfl) (by kernel_rfl) (fun _ _ _ h => h) (Or.inl ⟨by rfl, fun w _ => by go_simp⟩) ?_
                try simp only [List.getElem_toArray, List.getElem_cons_zero, List.getElem_cons_succ, Act.put, List.setIfInBounds_toArray, List.set_cons_zero, List.set_cons_succ]
                refine wpAnyL_free (i := 2) (v := .pointer (some ⟨q1, 0, none⟩)) rfl (by kernel_rfl) (by kernel_rfl) (by kernel_rfl) (fun _ _ _ h => h) (Or.inl ⟨by rfl, fun w _ => by go_simp⟩) ?_
                try simp only [List.getElem_toArray, List.getElem_cons_zero, List.getElem_cons_succ, Act.put, List.setIfInBounds_toArray, List.set_cons_zero, List.set_cons_succ]
                refine wpAnyL_free (i := 3) (v := .pointer (some ⟨q1, 0, none⟩)) rfl (by kernel_rfl) (by kernel_rfl) (by kernel_rfl) (fun _ _ _ h => h) (Or.inl ⟨by rfl, fun w _ => by go_simp⟩) ?_
                try simp only [List.getElem_toArray, List.getElem_cons_zero, List.getElem_cons_succ, Act.put, List.setIfInBounds_toArray, List.set_cons_zero, List.set_cons_succ]
                refine wpAnyL_take (i := 4) (v := (.slice bo j bc)) rfl (by kernel_rfl) (by kernel_rfl) (by kernel_rfl) (by kernel_rfl) (by kernel_rfl) (fun _ _ _ h => h) (Or.inl ⟨by rfl, fun w hSw => by have c := Kept.cellOf hSw k0 (by simp); go_simp⟩) h0 ?_
                try simp only [List.getElem_toArray, List.getElem_cons_zero, List.getElem_cons_succ, Act.put, List.setIfInBounds_toArray, List.set_cons_zero, List.set_cons_succ]
                refine wpAnyL_free (i := 5) (v := .slice (some ⟨b2, 0, none⟩) lT lc) rfl (by kernel_rfl) (by kernel_rfl) (by kernel_rfl) (fun _ _ _ h => h) (Or.inl ⟨by rfl, fun w _ => by go_simp⟩) ?_
                try simp only [List.getElem_toArray, List.getElem_cons_zero, List.getElem_cons_succ, Act.put, List.setIfInBounds_toArray, List.set_cons_zero, List.set_cons_succ]
                refine wpAnyL_free (i := 6) (v := .int .i64 (j : Nat)) rfl (by kernel_rfl) (by kernel_rfl) (by kernel_rfl) (fun _ _ _ h => h) (Or.inl ⟨by rfl, fun w _ => by go_simp⟩) ?_
                try simp only [List.getElem_toArray, List.getElem_cons_zero, List.getElem_cons_succ, Act.put, List.setIfInBounds_toArray, List.set_cons_zero, List.set_cons_succ]
                refine wpAnyL_free (i := 7) (v := .pointer (some ⟨b2, j * 2, none⟩)) rfl (by kernel_rfl) (by kernel_rfl) (by kernel_rfl) (fun _ _ _ h => h) (Or.inl ⟨by rfl, fun w _ => by go_simp⟩) ?_
                try simp only [List.getElem_toArray, List.getElem_cons_zero, List.getElem_cons_succ, Act.put, List.setIfInBounds_toArray, List.set_cons_zero, List.set_cons_succ]
                refine wpAnyL_free (i := 8) (v := .pointer (some ⟨b2, j * 2, none⟩)) rfl (by kernel_rfl) (by kernel_rfl) (by kernel_rfl) (fun _ _ _ h => h) (Or.inl ⟨by rfl, fun w _ => by go_simp⟩) ?_
                try simp only [List.getElem_toArray, List.getElem_cons_zero, List.getElem_cons_succ, Act.put, List.setIfInBounds_toArray, List.set_cons_zero, List.set_cons_succ]
                refine wpAnyL_take (i := 9) (v := encStr fn) rfl (by kernel_rfl) (by kernel_rfl) (by kernel_rfl) (by kernel_rfl) (by kernel_rfl) (fun _ _ _ h => h) (Or.inl ⟨by rfl, fun w hSw => by have c := Kept.cellOf hSw n1 (by simp); go_simp⟩) h0 ?_
                try simp only [List.getElem_toArray, List.getElem_cons_zero, List.getElem_cons_succ, Act.put, List.setIfInBounds_toArray, List.set_cons_zero, List.set_cons_succ]
                refine wpAnyL_free (i := 10) (v := .agg #[encStr fn, .int .i64 0]) rfl (by kernel_rfl) (by kernel_rfl) (by kernel_rfl) (fun _ _ _ h => h) (Or.inl ⟨by rfl, fun w _ => by go_simp⟩) ?_
                try simp only [List.getElem_toArray, List.getElem_cons_zero, List.getElem_cons_succ, Act.put, List.setIfInBounds_toArray, List.set_cons_zero, List.set_cons_succ]
                obtain ⟨g5, c5, w5, hrun, hq2, hR⟩ := HP.out v0 h0
                have k2 : w5.cell? ⟨q1, 0, none⟩ = some (.slice bo j bc) := by rw [cell_of_row _ _ _ _ _ _ hq2]; rfl
                have f2 : w5.frozen? ⟨q1, 0, none⟩ = false := frozen_of_row _ _ _ _ _ hq2
                have HRR := hide hR
                clear hR hq2 HP
                refine wpAnyL_one (i := 11) (by kernel_rfl) rfl (fun K' hK => ?_)
                rw [if_pos (by rfl)]
                go_simp
                refine hK.out _ _ (fun _ _ => h0.alloc _) ?_
                clear hK K'
                try simp only [List.getElem_toArray, List.getElem_cons_zero, List.getElem_cons_succ, Act.put, List.setIfInBounds_toArray, List.set_cons_zero, List.set_cons_succ]
                refine wpAnyL_one (i := 12) (by kernel_rfl) rfl (fun K' hK => ?_)
                rw [if_pos (by rfl)]
                refine wp_append_run (.tmp 90) (.tmp 97) 29 29 rfl (.slice bo j bc) (.slice (some ⟨v0.heap.size, 0, none⟩) 1 1) rfl rfl (.slice (some ⟨g5, 0, none⟩) (j + 1) c5) w5 hrun ?_
                refine hK.out _ _ (fun _ h => by cases h) ?_
                clear hK K' hrun
                try simp only [List.getElem_toArray, List.getElem_cons_zero, List.getElem_cons_succ, Act.put, List.setIfInBounds_toArray, List.set_cons_zero, List.set_cons_succ]
                refine wpAnyL_free (i := 13) (v := .pointer (some ⟨q1, 0, none⟩)) rfl (by kernel_rfl) (by kernel_rfl) (by kernel_rfl) (fun _ _ _ h => h) (Or.inl ⟨by rfl, fun w _ => by go_simp⟩) ?_
                try simp only [List.getElem_toArray, List.getElem_cons_zero, List.getElem_cons_succ, Act.put, List.setIfInBounds_toArray, List.set_cons_zero, List.set_cons_succ]
                refine wpAnyL_free (i := 14) (v := .pointer (some ⟨q1, 0, none⟩)) rfl (by kernel_rfl) (by kernel_rfl) (by kernel_rfl) (fun _ _ _ h => h) (Or.inl ⟨by rfl, fun w _ => by go_simp⟩) ?_
                try simp only [List.getElem_toArray, List.getElem_cons_zero, List.getElem_cons_succ, Act.put, List.setIfInBounds_toArray, List.set_cons_zero, List.set_cons_succ]
                refine wpAnyL_one (i := 15) (by kernel_rfl) rfl (fun K' hK => ?_)
                rw [if_pos (by rfl)]
                go_simp
                refine hK.out _ _ (fun _ h => by cases h) ?_
                clear hK K'
                try simp only [List.getElem_toArray, List.getElem_cons_zero, List.getElem_cons_succ, Act.put, List.setIfInBounds_toArray, List.set_cons_zero, List.set_cons_succ]
                refine wpAnyL_done (by kernel_rfl) ?_ _
                clear k0 n1 k2 f2 h0
                go_wp2
                go_roundw
                case rel =>
                  repeat (first | exact ⟨j + 1, _, by omega, by go_num, HRR⟩ | exact ⟨⟨j + 1, _, by omega, by go_num, HRR⟩, rfl⟩ | apply Exists.intro)
                case measure => simp [intOf]; omega
            · as_aux_lemma =>
                obtain rfl : j = lT := by omega
                have hzz : LT.take j = LT := List.take_of_length_le (by rw [HLl.out]; omega)
                go_wp2
                go_meet
                case rel =>
                  have hw := HWC2.out
                  rw [HLT.out] at hw
                  have hc := HCC.out
                  rw [hzz] at hc
                  refine ⟨q1, _, _, _, rfl, hide ⟨hc, whl_sml hw HTW.out HTB.out (by have := HN2.out; omega) (by have := HNB.out; omega), Whd.same ?_ ?_ hw⟩⟩
                  · rintro ⟨h1, _⟩
                    have := HF0.out
                    omega
                  · rintro ⟨_, h1, h2⟩
                    have := HH12.out
                    have := HK.out
                    omega
        | false =>
          have h12 : ¬ K = 12 := by have := HB12.out; simpa using this
          as_aux_lemma =>
            go_wp2
            go_meet
            case rel => exact ⟨q, v, H, t, rfl, hide ⟨HCAR.out, HSM.out, HWD.out (by rw [HK.out]; exact h12)⟩⟩
      case rest =>
        clear HCAR HSM HWD HWC
        obtain ⟨q1, v1, H1, t1, rfl, HC1⟩ := hcut
        have hof := off_ax HC1.out.1.st.ax
        obtain ⟨tb, htb⟩ : ∃ tb, (!T.on) = tb := ⟨_, rfl⟩
        rw [htb] at hof
        have HTB2 := hide htb
        clear htb
        go_upto_region 21 with (fail)
        go_cut [110] from 56 to 203 (fun y wx => ∃ bt : Bool, y = .bool bt ∧ Hid (bt = true ↔ (f = 50 ∧ ob = false ∧ tb = true)) ∧ wx = wc)
        case first =>
          by_cases h50 : f = 50
          · have hb50 : (f == 50) = true := by simp [h50]
            cases ob with
            | true =>
              as_aux_lemma =>
                go_wp2
                go_meet
                case rel => exact ⟨false, rfl, hide (by simp), rfl⟩
            | false =>
              as_aux_lemma =>
                have HB : Hid (tb = true ↔ (f = 50 ∧ false = false ∧ tb = true)) := hide (by simp [h50])
                clear h50
                go_wp2_with (go_at_call 7; refine hof.mono ?_; rintro e w' ⟨rfl, hww⟩; obtain rfl := hww.symm; clear hof)
                go_meet
                case rel => exact ⟨tb, rfl, HB, rfl⟩
          · have hb50 : (f == 50) = false := by simpa using h50
            as_aux_lemma =>
              go_wp2
              go_meet
              case rel => exact ⟨false, rfl, hide (by simp [h50]), rfl⟩
        case rest =>
          obtain ⟨bt, rfl, HBT, hww⟩ := hcut
          obtain rfl := hww.symm
          clear hof
          go_upto_if 110 with (fail)
          go_cut [9] from 56 to 203 (fun y wx => ∃ (v2 : Value) (H2 : Nm) (t2 : Nat), y = .pointer (some ⟨q1, 0, none⟩) ∧ Hid (Car Y w1 wx p T N2 q1 v2 H2 t2 lo wo LT LS gx s ∧ Left T s f H2 t2))
          case first =>
            obtain ⟨m0, m1, m2, m3, m4, m5, m6, m7, m8, m9⟩ := HC1.out.1.mid.now.cells
            rw [HK.out] at m0
            cases bt with
            | false =>
              have HLF : Hid (Left T s f H1 t1) := hide (by
                have hA : ¬ (f = 50 ∧ ob = false ∧ tb = true) := by have := HBT.out; simpa using this
                have e1 := HOB.out
                have e2 := HTB2.out
                rcases HC1.out.2.2 with ⟨a, b, h⟩ | ⟨k, e, h⟩ | ⟨k, e, o, o', c, h⟩ | ⟨k, e, o, o', c, h⟩ | ⟨k, e, o, o', d, c⟩
                · exact .inr ⟨b, h⟩
                · exact .inl ⟨e, k.1, k.2, HC1.out.2.1, h⟩
                · exact absurd ⟨e, by rw [← e1, o]; rfl, by rw [← e2, o']; rfl⟩ hA
                · exact absurd ⟨e, by rw [← e1, o]; rfl, by rw [← e2, o']; rfl⟩ hA
                · exact absurd ⟨e, by rw [← e1, o]; rfl, by rw [← e2, o']; rfl⟩ hA)
              as_aux_lemma =>
                go_wp2
                go_meet
                case rel => exact ⟨v1, H1, t1, rfl, hide ⟨HC1.out.1, HLF.out⟩⟩
            | true =>
              obtain ⟨hf50, hob0, htb1⟩ := HBT.out.1 rfl
              have e1 := HOB.out
              have e2 := HTB2.out
              have hb0 : (f == 0) = false := by rw [hf50]; rfl
              have hwd := HC1.out.2.2
              clear HBT
              rcases hwd with ⟨a, b, h⟩ | ⟨k, e, h⟩ | ⟨k, e, o, o', c, h⟩ | ⟨k, e, o, o', c, h⟩ | ⟨k, e, o, o', d, c⟩
              · exact absurd ⟨hf50, by rw [hob0] at e1; simpa using e1, by rw [htb1] at e2; simpa using e2⟩ a
              · omega
              · clear e1 e2 hob0 htb1 e o o'
                have HF50 := hide hf50
                clear hf50
                rw [HK.out] at k c
                rw [HLS.out, HLT.out, HLs.out, HLl.out] at c
                have HWL := hide h
                clear h
                by_cases k2 : K = 2 ∨ K = 3
                · by_cases hd0 : s.dn = 0
                  · have hdn : ¬ (0 : Int) < (s.dn : Int) := by omega
                    clear hd0
                    rcases k2 with rfl | rfl
                    · skip
                      as_aux_lemma =>
                        have hmd := made_ok HC1.out.1.st.rws HC1.out.2.1.nd HC1.out.2.1.len HC1.out.2.1.t s (by have := HK.out; omega) HC1.out.2.1.u
                        simp only [Stp.cells, HK.out] at hmd
                        go_wp2_with (go_at_call 11; refine hmd.mono ?_; rintro e wz ⟨rfl, v5, hR5, hT5⟩; have HR5 := hide hR5; have HT5 := hide hT5; clear hmd hR5 hT5)
                        go_meet
                        case rel => exact ⟨v5, _, _, rfl, hide ⟨HC1.out.1.turn HR5.out HT5.out, .inr ⟨by rintro ⟨h1, _⟩; have := HF50.out; omega, HWL.out⟩⟩⟩
                    · skip
                      as_aux_lemma =>
                        have hmd := made_ok HC1.out.1.st.rws HC1.out.2.1.nd HC1.out.2.1.len HC1.out.2.1.t s (by have := HK.out; omega) HC1.out.2.1.u
                        simp only [Stp.cells, HK.out] at hmd
                        go_wp2_with (go_at_call 11; refine hmd.mono ?_; rintro e wz ⟨rfl, v5, hR5, hT5⟩; have HR5 := hide hR5; have HT5 := hide hT5; clear hmd hR5 hT5)
                        go_meet
                        case rel => exact ⟨v5, _, _, rfl, hide ⟨HC1.out.1.turn HR5.out HT5.out, .inr ⟨by rintro ⟨h1, _⟩; have := HF50.out; omega, HWL.out⟩⟩⟩
                  · have hdn : (0 : Int) < (s.dn : Int) := by omega
                    rcases k2 with rfl | rfl
                    · skip
                      have hfs := files_some lo wo lT lS lc wc0 LT LS wc HLl.out HLs.out (by omega) HTS.out.2 HC1.out.1.mid.now.l HC1.out.1.mid.now.was
                      as_aux_lemma =>
                        have HMD : Hid (∀ wz, Kept [] wc wz → Calls Try.prog 11 #[.pointer (some ⟨q1, 0, none⟩), .agg s.cells.toArray] wz fun e w' => e = .returned (.tuple #[]) ∧ ∃ v', Rws w' q1 v' (madeH s H1 t1).1 (madeH s H1 t1).2 ∧ RwsTo wz w' q1 v1 v') := hide (fun wz hz => made_ok (HC1.out.1.kept hz).st.rws HC1.out.2.1.nd HC1.out.2.1.len HC1.out.2.1.t s (by have := HK.out; omega) HC1.out.2.1.u)
                        go_upto_if 129 with (go_at_call 9; refine hfs.mono ?_; rintro e wz ⟨bz, rfl, jz, hww⟩; have HKZ : Hid (Kept [] wc wz) := hide (by rw [hww]; exact (Kept.refl [] wc).drewN _); clear hfs hww jz m0 m1 m2 m3 m4 m5 m6 m7 m8 m9)
                        have hcz := HC1.out.1.kept HKZ.out
                        have HCZ := hide hcz
                        obtain ⟨m0, m1, m2, m3, m4, m5, m6, m7, m8, m9⟩ := hcz.mid.now.cells
                        rw [HK.out] at m0
                        have hmd := HMD.out wz HKZ.out
                        simp only [Stp.cells, HK.out] at hmd
                        clear hcz HMD
                        cases bz with
                        | true =>
                          go_wp2_with (go_at_call 10; refine (known_ok _).mono ?_; rintro e w26 ⟨rfl, hk26⟩; have K26 := hide hk26; clear hk26)
                          go_ret
                          exact ⟨rfl, ((hk1.trans HCZ.out.st.old (by simp)).trans K26.out (by simp)).below (Nat.le_refl _) (by simp)⟩
                        | false =>
                          go_wp2_with (go_at_call 11; refine hmd.mono ?_; rintro e wz ⟨rfl, v5, hR5, hT5⟩; have HR5 := hide hR5; have HT5 := hide hT5; clear hmd hR5 hT5)
                          go_meet
                          case rel => exact ⟨v5, _, _, rfl, hide ⟨HCZ.out.turn HR5.out HT5.out, .inr ⟨by rintro ⟨h1, _⟩; have := HF50.out; omega, HWL.out⟩⟩⟩
                    · skip
                      have hfs := files_some lo wo lT lS lc wc0 LT LS wc HLl.out HLs.out (by omega) HTS.out.2 HC1.out.1.mid.now.l HC1.out.1.mid.now.was
                      as_aux_lemma =>
                        have HMD : Hid (∀ wz, Kept [] wc wz → Calls Try.prog 11 #[.pointer (some ⟨q1, 0, none⟩), .agg s.cells.toArray] wz fun e w' => e = .returned (.tuple #[]) ∧ ∃ v', Rws w' q1 v' (madeH s H1 t1).1 (madeH s H1 t1).2 ∧ RwsTo wz w' q1 v1 v') := hide (fun wz hz => made_ok (HC1.out.1.kept hz).st.rws HC1.out.2.1.nd HC1.out.2.1.len HC1.out.2.1.t s (by have := HK.out; omega) HC1.out.2.1.u)
                        go_upto_if 129 with (go_at_call 9; refine hfs.mono ?_; rintro e wz ⟨bz, rfl, jz, hww⟩; have HKZ : Hid (Kept [] wc wz) := hide (by rw [hww]; exact (Kept.refl [] wc).drewN _); clear hfs hww jz m0 m1 m2 m3 m4 m5 m6 m7 m8 m9)
                        have hcz := HC1.out.1.kept HKZ.out
                        have HCZ := hide hcz
                        obtain ⟨m0, m1, m2, m3, m4, m5, m6, m7, m8, m9⟩ := hcz.mid.now.cells
                        rw [HK.out] at m0
                        have hmd := HMD.out wz HKZ.out
                        simp only [Stp.cells, HK.out] at hmd
                        clear hcz HMD
                        cases bz with
                        | true =>
                          go_wp2_with (go_at_call 10; refine (known_ok _).mono ?_; rintro e w26 ⟨rfl, hk26⟩; have K26 := hide hk26; clear hk26)
                          go_ret
                          exact ⟨rfl, ((hk1.trans HCZ.out.st.old (by simp)).trans K26.out (by simp)).below (Nat.le_refl _) (by simp)⟩
                        | false =>
                          go_wp2_with (go_at_call 11; refine hmd.mono ?_; rintro e wz ⟨rfl, v5, hR5, hT5⟩; have HR5 := hide hR5; have HT5 := hide hT5; clear hmd hR5 hT5)
                          go_meet
                          case rel => exact ⟨v5, _, _, rfl, hide ⟨HCZ.out.turn HR5.out HT5.out, .inr ⟨by rintro ⟨h1, _⟩; have := HF50.out; omega, HWL.out⟩⟩⟩
                · have b2 : (K == 2) = false := by simp; omega
                  have b3 : (K == 3) = false := by simp; omega
                  have b7 : (K != 7) = true := by simp; omega
                  have b8 : (K != 8) = true := by simp; omega
                  by_cases k1 : K = 1
                  · have hll : (lS : Int) < (lT : Int) := by have := c k1; omega
                    subst k1
                    as_aux_lemma =>
                      clear b2 b3 b7 b8 k2 k c
                      have hmd := made_ok HC1.out.1.st.rws HC1.out.2.1.nd HC1.out.2.1.len HC1.out.2.1.t s (by have := HK.out; omega) HC1.out.2.1.u
                      simp only [Stp.cells, HK.out] at hmd
                      go_wp2_with (go_at_call 11; refine hmd.mono ?_; rintro e wz ⟨rfl, v5, hR5, hT5⟩; have HR5 := hide hR5; have HT5 := hide hT5; clear hmd hR5 hT5)
                      go_meet
                      case rel => exact ⟨v5, _, _, rfl, hide ⟨HC1.out.1.turn HR5.out HT5.out, .inr ⟨by rintro ⟨h1, _⟩; have := HF50.out; omega, HWL.out⟩⟩⟩
                  · have b1 : (K != 1) = true := by simpa using k1
                    as_aux_lemma =>
                      clear c
                      have hmd := made_ok HC1.out.1.st.rws HC1.out.2.1.nd HC1.out.2.1.len HC1.out.2.1.t s (by have := HK.out; omega) HC1.out.2.1.u
                      simp only [Stp.cells, HK.out] at hmd
                      go_wp2_with (go_at_call 11; refine hmd.mono ?_; rintro e wz ⟨rfl, v5, hR5, hT5⟩; have HR5 := hide hR5; have HT5 := hide hT5; clear hmd hR5 hT5)
                      go_meet
                      case rel => exact ⟨v5, _, _, rfl, hide ⟨HC1.out.1.turn HR5.out HT5.out, .inr ⟨by rintro ⟨h1, _⟩; have := HF50.out; omega, HWL.out⟩⟩⟩
              · clear e1 e2 hob0 htb1 e o o'
                have HF50 := hide hf50
                clear hf50
                rw [HK.out] at k c
                rw [HLS.out, HLT.out, HLs.out, HLl.out] at c
                have HWL := hide h
                clear h
                rcases k with rfl | rfl | rfl
                · have hll : ¬ (lS : Int) < (lT : Int) := by have := c rfl; omega
                  as_aux_lemma =>
                    go_wp2
                    go_meet
                    case rel => exact ⟨v1, _, _, rfl, hide ⟨HC1.out.1, .inr ⟨by rintro ⟨h1, _⟩; have := HF50.out; omega, HWL.out⟩⟩⟩
                · as_aux_lemma =>
                    go_wp2
                    go_meet
                    case rel => exact ⟨v1, _, _, rfl, hide ⟨HC1.out.1, .inr ⟨by rintro ⟨h1, _⟩; have := HF50.out; omega, HWL.out⟩⟩⟩
                · as_aux_lemma =>
                    go_wp2
                    go_meet
                    case rel => exact ⟨v1, _, _, rfl, hide ⟨HC1.out.1, .inr ⟨by rintro ⟨h1, _⟩; have := HF50.out; omega, HWL.out⟩⟩⟩
              · clear e1 e2 hob0 htb1 e o o'
                have HF50 := hide hf50
                clear hf50
                rw [HK.out] at k
                have hdn : (0 : Int) < (s.dn : Int) := by omega
                have hfs := files_yes lo wo lT lc wc0 LT wc HLl.out (by omega) HTS.out.2 HC1.out.1.mid.now.l (by rw [← HLT.out, c, HLS.out]; exact HC1.out.1.mid.now.was)
                have hlst : lS = lT := by rw [← HLs.out, ← HLl.out, ← HLS.out, ← HLT.out, c]
                have HKP : Hid (Kept [] w1 wc) := hide HC1.out.1.st.old
                subst hlst
                clear c
                rcases k with rfl | rfl
                · as_aux_lemma =>
                    go_wp2_with (first | (go_at_call 9; refine hfs.mono ?_; rintro e wz ⟨rfl, jz, hww⟩; have HKZ : Hid (Kept [] wc wz) := hide (by rw [hww]; exact (Kept.refl [] wc).drewN _); clear hfs hww jz) | (go_at_call 10; refine (known_ok _).mono ?_; rintro e w26 ⟨rfl, hk26⟩; have K26 := hide hk26; clear hk26))
                    go_ret
                    exact ⟨rfl, (((hk1.trans HKP.out (by simp)).trans HKZ.out (by simp)).trans K26.out (by simp)).below (Nat.le_refl _) (by simp)⟩
                · as_aux_lemma =>
                    go_wp2_with (first | (go_at_call 9; refine hfs.mono ?_; rintro e wz ⟨rfl, jz, hww⟩; have HKZ : Hid (Kept [] wc wz) := hide (by rw [hww]; exact (Kept.refl [] wc).drewN _); clear hfs hww jz) | (go_at_call 10; refine (known_ok _).mono ?_; rintro e w26 ⟨rfl, hk26⟩; have K26 := hide hk26; clear hk26))
                    go_ret
                    exact ⟨rfl, (((hk1.trans HKP.out (by simp)).trans HKZ.out (by simp)).trans K26.out (by simp)).below (Nat.le_refl _) (by simp)⟩
          case rest =>
            clear HC1 HBT
            obtain ⟨v2, H2, t2, rfl, HC2⟩ := hcut
            obtain ⟨m0, m1, m2, m3, m4, m5, m6, m7, m8, m9⟩ := HC2.out.1.mid.now.cells
            have hsk := fun v => strokeL_ok s.kind (encStr s.name) (encStr s.to) (.int .i64 s.at_) (.int .i64 s.n) (.slice s.da s.dn s.dc) (.int .i64 s.po) (.int .i64 s.pf) (.int .i64 s.pt) (.slice s.pa s.pn s.pc) v
            obtain ⟨sb, hsb⟩ : ∃ sb, (decide (1 ≤ s.kind) && decide (s.kind ≤ 8)) = sb := ⟨_, rfl⟩
            rw [hsb] at hsk
            rw [HK.out] at hsk m0
            have HSB := hide hsb
            clear hsb
            go_upto_region 26 with (fail)
            go_cut [159] from 56 to 203 (fun y wx => ∃ bt : Bool, y = .bool bt ∧ Hid (bt = true ↔ (f = 0 ∧ sb = true)) ∧ Hid (Kept [] wc wx))
            case first =>
              by_cases h0 : f = 0
              · have hb0 : (f == 0) = true := by simp [h0]
                as_aux_lemma =>
                  have HB : Hid (sb = true ↔ (f = 0 ∧ sb = true)) := hide (by simp [h0])
                  clear h0
                  go_wp2_with (go_at_call 12; refine (hsk _).mono ?_; rintro e wz ⟨rfl, hkz⟩; have HKZ := hide hkz; clear hsk hkz)
                  go_meet
                  case rel => exact ⟨sb, rfl, HB, HKZ⟩
              · have hb0 : (f == 0) = false := by simpa using h0
                as_aux_lemma =>
                  go_wp2
                  go_meet
                  case rel => exact ⟨false, rfl, hide (by simp [h0]), hide (Kept.refl [] wc)⟩
            case rest =>
              obtain ⟨bt2, rfl, HBT2, HKW⟩ := hcut
              have HC3 := hide (HC2.out.1.kept HKW.out)
              have HLE := hide HC2.out.2
              clear HC2 m0 m1 m2 m3 m4 m5 m6 m7 m8 m9 hsk HKW
              obtain ⟨m0, m1, m2, m3, m4, m5, m6, m7, m8, m9⟩ := HC3.out.mid.now.cells
              rw [HK.out] at m0
              go_upto_if 159 with (fail)
              go_cut [9] from 56 to 203 (fun y wx => ∃ (v2 : Value) (H2 : Nm) (t2 : Nat), y = .pointer (some ⟨q1, 0, none⟩) ∧ Hid (Car Y w1 wx p T N2 q1 v2 H2 t2 lo wo LT LS gx s ∧ Whl T H2 t2))
              case first =>
                cases bt2 with
                | false =>
                  have HW : Hid (Whl T H2 t2) := hide (by
                    have hA : ¬ (f = 0 ∧ sb = true) := by have := HBT2.out; simpa using this
                    have e1 := HSB.out
                    rcases HLE.out with ⟨a, b, c, _⟩ | ⟨_, h⟩
                    · exact absurd ⟨a, by rw [← e1]; simp [b, c]⟩ hA
                    · exact h)
                  as_aux_lemma =>
                    go_wp2
                    go_meet
                    case rel => exact ⟨v2, H2, t2, rfl, hide ⟨HC3.out, HW.out⟩⟩
                | true =>
                  obtain ⟨hf0, hsb1⟩ := HBT2.out.1 rfl
                  have e1 := HSB.out
                  rw [hsb1] at e1
                  simp only [Bool.and_eq_true, decide_eq_true_eq] at e1
                  have hL := HLE.out.resolve_right (fun h => h.1 ⟨hf0, e1⟩)
                  have HWL := hide hL.2.2.2.2
                  have hmd := made_ok HC3.out.st.rws hL.2.2.2.1.nd hL.2.2.2.1.len hL.2.2.2.1.t s e1 hL.2.2.2.1.u
                  simp only [Stp.cells, HK.out] at hmd
                  clear hL e1 hsb1 hf0 HLE HBT2
                  as_aux_lemma =>
                    go_wp2_with (go_at_call 11; refine hmd.mono ?_; rintro e wz ⟨rfl, v5, hR5, hT5⟩; have HR5 := hide hR5; have HT5 := hide hT5; clear hmd hR5 hT5)
                    go_meet
                    case rel => exact ⟨v5, _, _, rfl, hide ⟨HC3.out.turn HR5.out HT5.out, HWL.out⟩⟩
              case rest =>
                clear HC3 HLE m0 m1 m2 m3 m4 m5 m6 m7 m8 m9
                obtain ⟨v4, H4, t4, rfl, HC4⟩ := hcut
                have hwl := HC4.out.2
                obtain ⟨U, hUl, hU, hPK⟩ := picks_all hwl HTW.out HTB.out (by have := HN2.out; omega) times
                have hS4 := HC4.out.1.st
                have hal := all_ok hS4.rws hwl.nodup times HTI.out (by rw [hwl.turns]; have := HTB.out.nm; have := HN2.out; omega) lo lT lc LT HLl.out (by rw [hwl.len HTW.out, ← HLl.out, ← HLT.out]; simp [Ds.files]) hlT HC4.out.1.mid.now.l U (by rw [HLT.out] at hU; exact hU) (by rw [hUl, HLT.out, HLl.out])
                rw [hPK] at hal
                have HNXT := hide (fun wx h => HNX.out wx q1 v4 H4 t4 h hwl)
                have HS4 := hide hS4
                have HF4 := hide HC4.out.1.mid.now.l
                have HPW := hide (picks_wf HTW.out HTB.out (by have := HN2.out; omega) times HTI.out)
                have HPL : Hid ((picksOf T times).length = lT + 1) := hide (by rw [← HLl.out, ← HLT.out]; simp [picksOf, Ds.files])
                have hcw := HTW.out
                have e1f : (T.compact.crash (picksOf T times)).files = LT := by rw [(Ds.compact_crash _).1, crash_all hcw, HLT.out]
                have e1s : (T.compact.crash (picksOf T times)).safeFiles = LT := by rw [crash_safe, e1f]
                have e1u : (T.compact.crash (picksOf T times)).used = totalOf LT := by rw [← used_total, e1f]
                have HE := hide (And.intro e1f (And.intro e1s e1u))
                have HTT : Hid (totalOf LT ≤ 4611686018427387904) := hide (by
                  have := used_le HTB.out hcw
                  rw [HLT.out] at this
                  have h2 := HTB.out.shown hcw
                  have h3 := HN2.out
                  have h4 : T.shown.length * N2 ≤ 100190 * 100190 := Nat.mul_le_mul (by omega) h3
                  omega)
                clear hwl hUl hU hPK hS4 hcw e1f e1s e1u HC4 HNX HTW HTB HOB HTB2 HSB HFS HLs HLS
                generalize picksOf T times = P at *
                go_wp2_with (first
                  | (go_at_call 13; refine hal.mono ?_; rintro e x1 ⟨po, pc, rfl, hp⟩; have HP1 := hide hp; have hs5 := HS4.out.kept hp.old; have htw := ws_twin hs5 (by have := HN2.out; omega); have HS5 := hide hs5; clear hal hp hs5)
                  | (go_at_call 14; refine htw.mono ?_; rintro e x2 ⟨bt0, rfl, ht2⟩; have hcr := crash_at ht2 (Kept.refl [] x2) (by have := HN2.out; omega) (n := lT + 1) (c := pc) (ps := P) HPL.out ((HP1.out.kept ht2.old).ints.1) HPW.out (by omega) (fun _ a ha => .inr (by
                        have h1 := HP1.out.ints.1 0 (by rw [HPL.out]; omega)
                        obtain ⟨b3, off3, e3, hc3⟩ := h1
                        rw [e3] at ha
                        cases ha
                        exact World.block_lt_of_cell? _ _ hc3)); clear htw ht2)
                  | (go_at_call 15; refine hcr.mono ?_; rintro e x3 ⟨rfl, ht3⟩; have hf1 := filesL_at ht3 (by have := HN2.out; omega) HE.out.1; have T3 := hide ht3; clear hcr ht3)
                  | (go_at_call 6; refine hf1.mono ?_; rintro e x4 ⟨lo4, lc4, rfl, hi4, hk4⟩; have ht4 := T3.out.kept hk4; have hl := HLl.out; have hcf := files_yes lo4 lo lT lc4 lc LT x4 HLl.out (by omega) HTS.out.2 hi4 (HF4.out.kept (HP1.out.old.trans ht4.old (by simp))); rw [hl]; have T4 := hide ht4; clear hf1 hi4 hk4 ht4 T3 hl)
                  | (go_at_call 9; refine hcf.mono ?_; rintro e x5 ⟨rfl, j5, hw5⟩; have hk5 : Kept [] x4 x5 := (by rw [hw5]; exact (Kept.refl [] x4).drewN _); have ht5 := T4.out.kept hk5; have hsf := safeL_at ht5 (by have := HN2.out; omega) HE.out.2.1; have T5 := hide ht5; clear hcf hw5 hk5 ht5 T4 j5)
                  | (go_at_call 16; refine hsf.mono ?_; rintro e x6 ⟨lo6, lc6, rfl, hi6, hk6⟩; have ht6 := T5.out.kept hk6; have hl := HLl.out; have hcf2 := files_yes lo6 lo lT lc6 lc LT x6 HLl.out (by omega) HTS.out.2 hi6 (HF4.out.kept (HP1.out.old.trans ht6.old (by simp))); rw [hl]; have T6 := hide ht6; clear hsf hi6 hk6 ht6 T5 hl)
                  | (go_at_call 9; refine hcf2.mono ?_; rintro e x7 ⟨rfl, j7, hw7⟩; have hk7 : Kept [] x6 x7 := (by rw [hw7]; exact (Kept.refl [] x6).drewN _); have ht7 := T6.out.kept hk7; have hof := off_at ht7; have hus := used_at ht7 (by have := HN2.out; omega); rw [HE.out.2.2] at hus; have T7 := hide ht7; clear hcf2 hw7 hk7 ht7 T6 j7)
                  | (go_at_call 7; refine hof.mono ?_; rintro e w' ⟨rfl, hww⟩; obtain rfl := hww.symm; clear hof)
                  | (go_at_call 17; refine hus.mono ?_; rintro e x8 ⟨rfl, hk8⟩; have ht8 := T7.out.kept hk8; have hto := total_ok lo lT lc LT x8 HLl.out (by omega) HTT.out (HF4.out.kept (HP1.out.old.trans ht8.old (by simp))); have HE8 := HNXT.out x8 (HS5.out.kept ht8.old); clear hus hk8 ht8 T7)
                  | (go_at_call 18; refine hto.mono ?_; rintro e w' ⟨rfl, hww⟩; obtain rfl := hww.symm; clear hto))
                go_roundw
                case rel => repeat (first | exact ⟨k + 1, q1, v4, H4, t4, by omega, rfl, by go_num, HE8⟩ | exact ⟨⟨k + 1, q1, v4, H4, t4, by omega, rfl, by go_num, HE8⟩, rfl⟩ | apply Exists.intro)
                case measure => simp [intOf]; omega
    · obtain rfl : k = n := by omega
      have HO := hide HR.out.1.old
      clear HR
      as_aux_lemma =>
        go_wp2_with (go_at_call 10; refine (known_ok _).mono ?_; rintro e w26 ⟨rfl, hk26⟩; have K26 := hide hk26; clear hk26)
        go_ret
        exact ⟨rfl, ((hk1.trans HO.out (by simp)).trans K26.out (by simp)).below (Nat.le_refl _) (by simp)⟩
end Go.Proofs.Ytllfkfncgalpaaa
