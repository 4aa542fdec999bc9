/-
  Contract: freightref4.Unpack.
-/
import Derived.Test.YtdnbpklnkmgmkaaUg
namespace Go.Proofs.Ytdnbpklnkmgmkaa
open Go.RowKit
set_option linter.unusedVariables false
set_option linter.unusedSimpArgs false

theorem drop_cons (xs : List UInt8) (j : Nat) (h : j < xs.length) : xs.drop j = xs.getD j 0 :: xs.drop (j + 1) := by
  rw [List.drop_eq_getElem_cons h]
  simp [List.getElem?_eq_getElem h]
theorem unp_head (n : Nat) (xs out : List UInt8) (j : Nat) (h : j + 1 < xs.length) : Prs.unp n 0 0 (xs.drop j) out = Prs.unp n 8 (xs.getD j 0).toNat (xs.drop (j + 1)) out := by
  rw [drop_cons xs j (by omega), drop_cons xs (j + 1) h, Prs.unp_flag]

/-- How far it has come. -/
def Rv (w wr : World) (n N j : Nat) (bo : Option Addr) (bc : Nat) (out : List UInt8) : Prop := j ≤ N ∧ out.length ≤ n ∧ Ow w wr (.slice bo out.length bc) out

set_option maxHeartbeats 4000000 in
set_option maxRecDepth 100000 in
theorem refunpack_in (pa : Option Addr) (pc n N : Nat) (xs : List UInt8) (w : World) (hn : n ≤ 4096) (hN : xs.length = N) (hmax : N ≤ 140737488355328) (hs : Sl w pa xs) :
    Calls Try.prog 36 #[.slice pa N pc, .int .i64 n] w (Ans w (Prs.unp n 0 0 xs [])) := by
  have hq1 : ¬ ((n : Int) < 0) := by omega
  have hq2 : ¬ ((4096 : Int) < (n : Int)) := by omega
  obtain ⟨R, hR⟩ : ∃ R, Prs.unp n 0 0 xs [] = R := ⟨_, rfl⟩
  have HR := hide hR
  have HS := hide hs
  have HN := hide hN
  rw [hR]
  clear hR hs hN
  go_enter Try.func36, Try.ntmps36
  go_wp2
  go_loopw [6, 7] (fun v i wr => ∃ (j : Nat) (out : List UInt8) (bo : Option Addr) (bc : Nat), i = .int .i64 j ∧ v = .slice bo out.length bc ∧ Hid (Rv w wr n N j bo bc out ∧ Prs.unp n 0 0 (xs.drop j) out = R)) (fun _ i _ => N - (intOf i).toNat)
  case atStart => exact ⟨0, [], none, 0, rfl, rfl, ⟨Nat.zero_le _, Nat.zero_le _, Ow.nil w⟩, by simpa using HR.out⟩
  case round =>
    obtain ⟨j0, out, bo, bc, rfl, rfl, HV⟩ := hrel
    by_cases hj : j0 < N
    · have hj1 : (j0 : Int) < (N : Int) := by omega
      obtain ⟨pb, po, hpa, hpb, hcell⟩ := HS.out.open (by rintro rfl; have := HN.out; simp at this; omega)
      subst hpa
      obtain ⟨hv1, hr⟩ := HV.out
      have hB := hv1.2.2.2
      have cx : wr.cell? ⟨pb, po + j0, none⟩ = some (.int .u8 (xs.getD j0 0).toNat) := (hB.cell (by exact hpb)).trans (hcell j0 (by have := HN.out; omega))
      have hx8 := UInt8.toNat_lt (xs.getD j0 0)
      have HP : Hid (pb < w.heap.size ∧ ∀ i, i < xs.length → w.cell? ⟨pb, po + i, none⟩ = some (.int .u8 (xs.getD i 0).toNat)) := ⟨hpb, hcell⟩
      have HV1 := hide hv1
      have HJ := hide hj
      clear hB hcell hpb HV hv1 HS
      by_cases hlast : j0 + 1 = N
      · have hq5 : (((j0 : Int) + 1) == (N : Int)) = true := by simp; omega
        rw [drop_cons xs j0 (by have := HN.out; omega), show xs.drop (j0 + 1) = [] by rw [hlast, ← HN.out]; simp, Prs.unp_one] at hr
        have HRR := hide hr
        clear hr hlast
        generalize (xs.getD j0 0).toNat = fl at cx hx8
        go_wp2
        go_ret2
        have := HRR.out
        subst this
        exact ans_none 40 HV1.out.2.2.2
      · have hq5 : (((j0 : Int) + 1) == (N : Int)) = false := by simp; omega
        rw [unp_head n xs out j0 (by have := HN.out; omega)] at hr
        have HRR := hide hr
        clear hr hlast
        generalize (xs.getD j0 0).toNat = fl at cx hx8 HRR
        go_wp2
        obtain ⟨W0, hW0⟩ : ∃ W0, W0 = wr := ⟨_, rfl⟩
        have hW := hide hW0
        clear hW0
        go_loopw [6, 7, 8, 9] (fun v i f bt wr => ∃ (j fl b : Nat) (out : List UInt8) (bo : Option Addr) (bc : Nat), i = .int .i64 j ∧ f = .int .i64 fl ∧ bt = .int .i64 b ∧ v = .slice bo out.length bc ∧ Hid (b ≤ 8 ∧ fl < 256 ∧ j0 < j ∧ Rv w wr n N j bo bc out ∧ Prs.unp n (8 - b) fl (xs.drop j) out = R)) (fun _ _ _ bt _ => 8 - (intOf bt).toNat)
        case atStart => exact ⟨j0 + 1, fl, 0, out, bo, bc, by simp, rfl, rfl, rfl, by omega, hx8, by omega, ⟨by have := HJ.out; omega, HV1.out.2⟩, HRR.out⟩
        case round =>
          clear cx hq5 hx8 HRR HV1 hj1
          obtain ⟨j, fl, b, out, bo, bc, rfl, rfl, rfl, rfl, HI⟩ := hrel
          by_cases hb : b < 8
          · have hq6 : ((b : Int) < 8) := by omega
            obtain ⟨_, hfl, hj0, hv, hr⟩ := HI.out
            obtain ⟨k8, hk8⟩ : ∃ k8, 8 - b = k8 + 1 := ⟨7 - b, by omega⟩
            have hk8' : 8 - (b + 1) = k8 := by omega
            rw [hk8] at hr
            have e2 : Int.tdiv (fl : Int) 2 = ((fl / 2 : Nat) : Int) := by rw [Int.tdiv_eq_ediv_of_nonneg (by omega)]; omega
            have e3 : Int.tmod (fl : Int) 2 = ((fl % 2 : Nat) : Int) := by rw [Int.tmod_eq_emod_of_nonneg (by omega)]; omega
            have HV := hide hv
            have HF : Hid (j0 < j ∧ fl / 2 < 256 ∧ 8 - (b + 1) = k8 ∧ b < 8) := ⟨hj0, by omega, hk8', hb⟩
            have hjN := hv.1
            clear HI hv hj0 hk8 hk8' hb
            rcases Nat.mod_two_eq_zero_or_one fl with hz | hz
            · rw [hz] at e3
              by_cases hjl : j = N
              · subst hjl
                rw [show xs.drop j = [] by rw [← HN.out]; simp, Prs.unp_gap0 _ _ _ _ hz] at hr
                have HRR := hide hr
                clear hr
                go_wp2
                go_roundw
                case rel => exact ⟨j, fl / 2, b + 1, out, bo, bc, rfl, by simp, by go_num, rfl, by have := HF.out.2.2.2; omega, HF.out.2.1, HF.out.1, HV.out, by rw [HF.out.2.2.1, show xs.drop j = [] by rw [← HN.out]; simp]; exact HRR.out⟩
                case measure => simp [intOf]; have := HF.out.2.2.2; omega
              · have hq7 : ((j : Int) == (N : Int)) = false := by simp; omega
                have hq8 : ((j : Int) < (N : Int)) := by omega
                rw [drop_cons xs j (by have := HN.out; omega)] at hr
                have cx : wr.cell? ⟨pb, po + j, none⟩ = some (.int .u8 (xs.getD j 0).toNat) := (HV.out.2.2.2.cell (by exact HP.out.1)).trans (HP.out.2 j (by have := HN.out; omega))
                obtain ⟨x, hx⟩ : ∃ x, x = xs.getD j 0 := ⟨_, rfl⟩
                rw [← hx] at hr cx
                clear hx
                by_cases hfull : out.length = n
                · rw [Prs.unp_full _ _ _ _ _ _ hz hfull] at hr
                  have HRR := hide hr
                  have hq9 : ((out.length : Int) == (n : Int)) = true := by simp; omega
                  clear hr hfull
                  go_wp2
                  go_ret2
                  have := HRR.out
                  subst this
                  exact ans_none 41 HV.out.2.2.2
                · rw [Prs.unp_lit _ _ _ _ _ _ hz hfull] at hr
                  have HRR := hide hr
                  have hq9 : ((out.length : Int) == (n : Int)) = false := by simp; omega
                  have hol : out.length < n := by have := HV.out.2.1; omega
                  clear hr hfull
                  go_wp2_with (first | (at_builtin; refine wpList_app1 wr w rfl _ _ rfl rfl bo bc out x rfl rfl HV.out.2.2 (by omega) ?_; intro g c w2 hO2 hG2) | go_in)
                  go_roundw
                  case rel => exact ⟨j + 1, fl / 2, b + 1, out ++ [x], some ⟨g, 0, none⟩, c, by go_num, by simp, by go_num, by simp, by have := HF.out.2.2.2; omega, HF.out.2.1, by have := HF.out.1; omega, ⟨by omega, by simp; omega, by simpa using hO2⟩, by rw [HF.out.2.2.1]; exact HRR.out⟩
                  case measure => simp [intOf]; have := HF.out.2.2.2; omega
            · rw [hz] at e3
              by_cases hjl : j = N
              · subst hjl
                rw [show xs.drop j = [] by rw [← HN.out]; simp, Prs.unp_gap1 _ _ _ _ hz] at hr
                have HRR := hide hr
                clear hr
                go_wp2
                go_ret2
                have := HRR.out
                subst this
                exact ans_none 40 HV.out.2.2.2
              · have hq7 : ((j : Int) == (N : Int)) = false := by simp; omega
                have hq8 : ((j : Int) < (N : Int)) := by omega
                rw [drop_cons xs j (by have := HN.out; omega)] at hr
                by_cases hlast : j + 1 = N
                · have hq9 : (((j : Int) + 1) == (N : Int)) = true := by simp; omega
                  rw [show xs.drop (j + 1) = [] by rw [hlast, ← HN.out]; simp, Prs.unp_half _ _ _ _ _ hz] at hr
                  have HRR := hide hr
                  clear hr hlast
                  go_wp2
                  go_ret2
                  have := HRR.out
                  subst this
                  exact ans_none 40 HV.out.2.2.2
                · have hq9 : (((j : Int) + 1) == (N : Int)) = false := by simp; omega
                  rw [drop_cons xs (j + 1) (by have := HN.out; omega)] at hr
                  have cx : wr.cell? ⟨pb, po + j, none⟩ = some (.int .u8 (xs.getD j 0).toNat) := (HV.out.2.2.2.cell (by exact HP.out.1)).trans (HP.out.2 j (by have := HN.out; omega))
                  have cy : wr.cell? ⟨pb, po + (j + 1), none⟩ = some (.int .u8 (xs.getD (j + 1) 0).toNat) := (HV.out.2.2.2.cell (by exact HP.out.1)).trans (HP.out.2 (j + 1) (by have := HN.out; omega))
                  have hx8 := UInt8.toNat_lt (xs.getD j 0)
                  have hy8 := UInt8.toNat_lt (xs.getD (j + 1) 0)
                  obtain ⟨x, hx⟩ : ∃ x, x = xs.getD j 0 := ⟨_, rfl⟩
                  obtain ⟨y, hy⟩ : ∃ y, y = xs.getD (j + 1) 0 := ⟨_, rfl⟩
                  rw [← hx, ← hy] at hr
                  rw [← hx] at cx hx8
                  rw [← hy] at cy hy8
                  clear hx hy
                  obtain ⟨p, hp⟩ : ∃ p, p = x.toNat := ⟨_, rfl⟩
                  obtain ⟨q, hq⟩ : ∃ q, q = y.toNat := ⟨_, rfl⟩
                  obtain ⟨vv, hvv⟩ : ∃ vv, vv = 256 * p + q := ⟨_, rfl⟩
                  have HRR : Hid (vv = 256 * x.toNat + y.toNat ∧ Prs.unp n (k8 + 1) fl (x :: y :: xs.drop (j + 1 + 1)) out = R) := ⟨by rw [hvv, hp, hq], hr⟩
                  rw [← hp] at cx hx8
                  rw [← hq] at cy hy8
                  have hw1 : IntKind.i64.wrap (256 * (p : Int)) = 256 * (p : Int) := by simp [IntKind.wrap, IntKind.bits, IntKind.signed]; omega
                  have hw2 : IntKind.i64.wrap (256 * (p : Int) + (q : Int)) = (vv : Int) := by simp [IntKind.wrap, IntKind.bits, IntKind.signed]; omega
                  have hw3 : IntKind.i64.wrap ((j : Int) + 1) = ((j + 1 : Nat) : Int) := by simp [IntKind.wrap, IntKind.bits, IntKind.signed]; omega
                  have hjj : ((j + 1 : Nat) : Int) < (N : Int) := by omega
                  have hv6 : vv < 65536 := by omega
                  clear hr hp hq hvv
                  go_wp2
                  go_quiet (fail)
                  have HV2 : Hid (Rv w (wr.drewN nq) n N j bo bc out) := ⟨HV.out.1, HV.out.2.1, HV.out.2.2.drewN nq⟩
                  clear cx cy hw1 hw2 hw3 hjj HV e2 e3 hq6
                  generalize wr.drewN nq = w2 at HV2 ⊢
                  obtain ⟨dq, hdq⟩ : ∃ dq, dq = vv / 64 := ⟨_, rfl⟩
                  obtain ⟨rm, hrm⟩ : ∃ rm, rm = vv % 64 := ⟨_, rfl⟩
                  have hdq2 : dq < 1024 := by omega
                  have hrm2 : rm < 64 := by omega
                  have e4 : Int.tdiv (vv : Int) 64 = (dq : Int) := by rw [Int.tdiv_eq_ediv_of_nonneg (by omega)]; omega
                  have e5 : Int.tmod (vv : Int) 64 = (rm : Int) := by rw [Int.tmod_eq_emod_of_nonneg (by omega)]; omega
                  obtain ⟨D, hD⟩ : ∃ D, D = dq + 1 := ⟨_, rfl⟩
                  obtain ⟨L, hL⟩ : ∃ L, L = rm + 3 := ⟨_, rfl⟩
                  have hol := HV2.out.2.1
                  obtain ⟨hvx, hr⟩ := HRR.out
                  by_cases h1 : out.length < D
                  · rw [Prs.unp_far _ _ _ _ _ _ _ hz (by rw [← hvx]; omega)] at hr
                    have HR2 := hide hr
                    have hc1 : ((out.length : Int) < (dq : Int) + 1) := by omega
                    clear hr hvx h1 HRR e5 hdq hrm hD hL
                    go_wp2
                    go_ret2
                    have := HR2.out
                    subst this
                    exact ans_none 40 HV2.out.2.2.2
                  · by_cases h2 : n < out.length + L
                    · rw [Prs.unp_long _ _ _ _ _ _ _ hz (by rw [← hvx]; omega) (by rw [← hvx]; omega)] at hr
                      have HR2 := hide hr
                      have hc1 : ¬ ((out.length : Int) < (dq : Int) + 1) := by omega
                      have hc2 : ((n : Int) < (out.length : Int) + (rm : Int) + 3) := by omega
                      clear hr hvx h1 h2 HRR hdq hrm hD hL
                      go_wp2
                      go_ret2
                      have := HR2.out
                      subst this
                      exact ans_none 41 HV2.out.2.2.2
                    · rw [Prs.unp_mat _ _ _ _ _ _ _ hz (by rw [← hvx]; omega) (by rw [← hvx]; omega), ← hvx, ← hdq, ← hrm, ← hD, ← hL] at hr
                      have HR2 : Hid (Prs.unp n k8 (fl / 2) (xs.drop (j + 1 + 1)) (Prs.copied D L out) = R ∧ D ≤ out.length ∧ out.length + L ≤ n ∧ 1 ≤ D ∧ L ≤ 66 ∧ D = dq + 1 ∧ j + 2 ≤ N) := ⟨hr, by omega, by omega, by omega, by omega, hD, by omega⟩
                      have hc1 : ¬ ((out.length : Int) < (dq : Int) + 1) := by omega
                      have hc2 : ¬ ((n : Int) < (out.length : Int) + (rm : Int) + 3) := by omega
                      have hL3 : (rm : Int) = (L : Int) - 3 := by omega
                      have HL := hide hL3
                      clear hr hvx h1 h2 HRR hD hL hL3 hdq hrm
                      go_wp2
                      go_loopw [6, 12] (fun v kk wr => ∃ (k : Nat) (o2 : List UInt8) (bo : Option Addr) (bc : Nat), k ≤ L ∧ kk = .int .i64 ((L - k : Nat) : Int) ∧ v = .slice bo o2.length bc ∧ Hid (o2 = Prs.copied D k out ∧ Ow w wr (.slice bo o2.length bc) o2)) (fun _ kk _ => (intOf kk).toNat)
                      case atStart => exact ⟨0, out, bo, bc, Nat.zero_le _, by simp; have := HL.out; omega, rfl, rfl, HV2.out.2.2⟩
                      case round =>
                        clear HV2 hc1 hc2 e5
                        obtain ⟨k, o2, bo2, bc2, hkL, rfl, rfl, HO⟩ := hrel
                        obtain ⟨hc1, hc2, hc3, hc4, hc5, hc6, hc7⟩ := HR2.out
                        have hlen : o2.length = out.length + k := by rw [HO.out.1, Prs.copied_len]
                        by_cases hk : k < L
                        · obtain ⟨r0, hr0⟩ : ∃ r0, r0 = L - k := ⟨_, rfl⟩
                          rw [← hr0]
                          have hk1 : (0 : Int) < (r0 : Int) := by omega
                          have hk2 : r0 ≤ 66 := by omega
                          have HR0 := hide hr0
                          obtain ⟨jx, hjx⟩ : ∃ jx, jx = o2.length - D := ⟨_, rfl⟩
                          have hjx1 : jx < o2.length := by omega
                          have hjx2 : (o2.length : Int) - (dq : Int) - 1 = (jx : Int) := by omega
                          have hjx3 : (jx : Int) < (o2.length : Int) := by omega
                          have HS : Hid (Prs.copied D (k + 1) out = o2 ++ [o2.getD jx 0]) := by
                            show _ = _
                            rw [Prs.copied_snoc, ← HO.out.1, ← hjx]
                          obtain ⟨hosl, hocap, honil, hoab⟩ := own_slc HO.out.2.1
                          obtain ⟨gb, go, hbo, _, hcl⟩ := hosl.open (by rintro rfl; simp at hjx1)
                          have hgo : go = 0 := by
                            rcases HO.out.2.1.2 with ⟨e, _⟩ | ⟨g1, c1, cur, e, _⟩
                            · rw [hbo] at e; cases e
                            · rw [hbo] at e; injection e with e _ _; injection e with e; injection e with _ e _
                          subst hgo
                          subst hbo
                          have cz := hcl jx hjx1
                          simp only [Nat.zero_add] at cz
                          generalize hz2 : o2.getD jx 0 = z at cz HS
                          have hol2 : o2.length ≤ 4096 := by omega
                          clear hz2 hcl hosl hocap honil hoab hc1 hc2 hc3 hc4 hc5 hc6 hc7 hjx hlen hr0
                          go_wp2_with (first | (at_builtin; refine wpList_app1 wr w rfl _ _ rfl rfl (some ⟨gb, 0, none⟩) bc2 o2 z rfl rfl HO.out.2 (by omega) ?_; intro g c w3 hO3 hG3) | go_in)
                          go_roundw
                          case rel => exact ⟨k + 1, o2 ++ [z], some ⟨g, 0, none⟩, c, by omega, by have := HR0.out; go_num, by simp, HS.out.symm, by simpa using hO3⟩
                          case measure => simp [intOf]; omega
                        · have hkL2 : k = L := by omega
                          subst hkL2
                          have hk1 : ¬ ((0 : Int) < ((k - k : Nat) : Int)) := by omega
                          have HO2 := HO.out
                          have hl2 : o2.length ≤ n := by omega
                          rw [← HO2.1] at hc1
                          have HFIN : Hid (Prs.unp n k8 (fl / 2) (xs.drop (j + 1 + 1)) o2 = R ∧ j + 2 ≤ N ∧ o2.length ≤ n) := ⟨hc1, hc7, hl2⟩
                          clear hc1 hc2 hc3 hc4 hc5 hc6 hc7 hlen HO2
                          go_wp2
                          go_roundw
                          case rel => exact ⟨j + 2, fl / 2, b + 1, o2, bo2, bc2, by go_num, by simp, by go_num, rfl, by have := HF.out.2.2.2; omega, HF.out.2.1, by have := HF.out.1; omega, ⟨HFIN.out.2.1, HFIN.out.2.2, HO.out.2⟩, by rw [HF.out.2.2.1]; exact HFIN.out.1⟩
                          case measure => simp [intOf]; have := HF.out.2.2.2; omega
          · have hb8 : b = 8 := by have := HI.out.1; omega
            subst hb8
            clear hb
            go_wp2
            go_roundw
            case rel => exact ⟨j, out, bo, bc, rfl, rfl, HI.out.2.2.2.1, by rw [← Prs.unp_zeroFlag n fl]; exact HI.out.2.2.2.2⟩
            case measure => simp [intOf]; have := HI.out.2.2; have := HJ.out; omega
    · have hjN : j0 = N := by have := HV.out.1.1; omega
      have hr := HV.out.2
      rw [show xs.drop j0 = [] by rw [hjN, ← HN.out]; simp, Prs.unp_end] at hr
      have hq3 : ¬ ((j0 : Int) < (N : Int)) := by omega
      by_cases hl : out.length < n
      · rw [if_pos hl] at hr
        have HRR := hide hr
        have hq4 : ((out.length : Int) < (n : Int)) := by omega
        clear hr
        go_wp2
        go_ret2
        have := HRR.out
        subst this
        exact ans_none 41 HV.out.1.2.2.2
      · rw [if_neg hl] at hr
        have HRR := hide hr
        have hq4 : ¬ ((out.length : Int) < (n : Int)) := by omega
        clear hr
        go_wp2
        go_ret2
        have := HRR.out
        subst this
        exact HV.out.1.2.2.ans 0

set_option maxHeartbeats 1000000 in
set_option maxRecDepth 100000 in
theorem refunpack_bad (pa : Option Addr) (pn pc : Nat) (n : Int) (w : World) (hn : n < 0 ∨ 4096 < n) :
    Calls Try.prog 36 #[.slice pa pn pc, .int .i64 n] w (Ans w ([], 1)) := by
  by_cases h0 : n < 0
  · clear hn
    go_enter Try.func36, Try.ntmps36
    go_wp2
    go_ret2
    exact ans_none 1 (Below.refl _ _)
  · have h1 : 4096 < n := by omega
    clear hn
    go_enter Try.func36, Try.ntmps36
    go_wp2
    go_ret2
    exact ans_none 1 (Below.refl _ _)

theorem refunpack_any (pa : Option Addr) (pn pc : Nat) (n : Int) (xs : List UInt8) (w : World) (hxs : xs.length = pn) (hmax : pn ≤ 140737488355328) (hs : Sl w pa xs) :
    Calls Try.prog 36 #[.slice pa pn pc, .int .i64 n] w (Ans w (Prs.unpack xs n)) := by
  unfold Prs.unpack
  by_cases h : n < 0 ∨ 4096 < n
  · rw [if_pos h]
    exact refunpack_bad pa pn pc n w h
  · rw [if_neg h]
    obtain ⟨k, rfl⟩ : ∃ k : Nat, n = k := ⟨n.toNat, by omega⟩
    exact refunpack_in pa pc k pn xs w (by omega) hxs hmax hs

end Go.Proofs.Ytdnbpklnkmgmkaa
