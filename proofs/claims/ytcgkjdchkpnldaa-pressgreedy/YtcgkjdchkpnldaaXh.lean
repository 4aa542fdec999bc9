/-
  The walk: freightlaw4.PressGreedy. (Written by tools/xh.py.)
-/
import Derived.Test.YtcgkjdchkpnldaaXg
namespace Go.Proofs.Ytcgkjdchkpnldaa
open Go.RowKit
set_option linter.unusedVariables false
set_option linter.unusedSimpArgs false

theorem Prs.mat_facts {ds p : List UInt8} {t k ml md fl il : Nat} {it : Prs.Item} {tail : List UInt8} (ht : t < ds.length) (hres : Prs.mtch ds t = (ml, md)) (h3 : 3 ≤ ml) (hi : Prs.itemAt ds t = (it, il)) (hb : fl % 2 = Prs.bitOf it) (hp : p.drop k = Prs.bodyOf it ++ tail) :
    it = .mat md ml ∧ il = ml ∧ fl % 2 = 1 ∧ t + ml ≤ ds.length ∧ ml ≤ 66 ∧ 1 ≤ md ∧ md ≤ 1024 ∧ k + 1 < p.length ∧ ∃ x1 x2 : Nat, (p.getD k 0).toNat = x1 ∧ (p.getD (k + 1) 0).toNat = x2 ∧ 256 * x1 + x2 = (md - 1) * 64 + (ml - 3) ∧ x1 < 256 ∧ x2 < 256 := by
  have hit2 := hi
  unfold Prs.itemAt at hit2
  rw [hres] at hit2
  simp only at hit2
  rw [if_pos h3] at hit2
  injection hit2 with hit hil
  have hit : it = .mat md ml := hit.symm
  have hil : il = ml := hil.symm
  have hmi := Prs.mtch_is ds t (by rw [hres]; exact Nat.lt_of_lt_of_le (by decide) h3)
  rw [hres] at hmi
  simp only at hmi
  have hl66 : ml ≤ 66 := by have := Prs.alike_le ds 66 (t - md) t; omega
  have hmd1' : 1 ≤ md ∧ md ≤ 1024 := ⟨hmi.1, hmi.2.1⟩
  have html : t + ml ≤ ds.length := by have := (Prs.item_made ds t ht).2.2; rw [hi, hil] at this; exact this
  rw [hit] at hp hb
  simp only [Prs.bodyOf, List.cons_append, List.nil_append] at hp
  have hcv := Prs.code_lt hmd1'.1 hmd1'.2 h3 hl66
  have hcn := coded_num _ hcv
  have hkM2 : k + 1 < p.length := by
    have : (p.drop k).length = p.length - k := by rw [List.length_drop]
    rw [hp] at this
    simp at this
    omega
  have hpA : (p.getD k 0).toNat = Prs.code md ml / 256 := by
    have e := drop_cons p k (by omega)
    rw [hp] at e
    injection e with e _
    rw [← e]; exact hcn.1
  have hpB : (p.getD (k + 1) 0).toNat = Prs.code md ml % 256 := by
    have e := drop_cons p k (by omega)
    rw [hp, drop_cons p (k + 1) (by omega)] at e
    injection e with _ e
    injection e with e _
    rw [← e]; exact hcn.2
  have hcc : Prs.code md ml = (md - 1) * 64 + (ml - 3) := rfl
  refine ⟨hit, hil, hb, html, hl66, hmd1'.1, hmd1'.2, hkM2, _, _, hpA, hpB, ?_⟩
  rw [hcc] at hcv ⊢
  omega

theorem Prs.lit_facts {ds p : List UInt8} {t k ml md fl il : Nat} {it : Prs.Item} {tail : List UInt8} (ht : t < ds.length) (hres : Prs.mtch ds t = (ml, md)) (h3 : ¬ 3 ≤ ml) (hi : Prs.itemAt ds t = (it, il)) (hb : fl % 2 = Prs.bitOf it) (hp : p.drop k = Prs.bodyOf it ++ tail) :
    it = .lit (ds.getD t 0) ∧ il = 1 ∧ fl % 2 = 0 ∧ k < p.length ∧ (p.getD k 0).toNat = (ds.getD t 0).toNat := by
  have hit2 := hi
  unfold Prs.itemAt at hit2
  rw [hres] at hit2
  simp only at hit2
  rw [if_neg h3] at hit2
  injection hit2 with hit hil
  have hit : it = .lit (ds.getD t 0) := hit.symm
  have hil : il = 1 := hil.symm
  rw [hit] at hp hb
  simp only [Prs.bodyOf, List.cons_append, List.nil_append] at hp
  have hkM2 : k < p.length := by
    have : (p.drop k).length = p.length - k := by rw [List.length_drop]
    rw [hp] at this
    simp at this
    omega
  have e := drop_cons p k hkM2
  rw [hp] at e
  injection e with e _
  exact ⟨hit, hil, hb, hkM2, by rw [← e]⟩

set_option maxHeartbeats 4000000 in
set_option maxRecDepth 100000 in
theorem greedy_in (ao : Option Addr) (N cap : Nat) (ds : List UInt8) (w : World) (hs : Sl w ao ds) (hN : ds.length = N) (hN4 : N ≤ 4096) :
    Calls Try.prog 7 #[.slice ao N cap] w fun e w' => e = .returned (.bool true) ∧ Below w.heap.size w w' := by
  have hq0 : ¬ ((4096 : Int) < (N : Int)) := by omega
  obtain ⟨p, hp⟩ : ∃ p, Prs.pack ds = p := ⟨_, rfl⟩
  have HPK : Hid (Calls Try.prog 10 #[.slice ao N cap] w fun e w' => ∃ bo bc, e = .returned (.tuple #[.slice bo p.length bc, .int .i64 0]) ∧ w'.ownsRow w.heap.size 5 1 (.slice bo p.length bc) p.length (bys p) ∧ Below w.heap.size w w') := pack_at hN hs w (Below.refl _ _) p 0 (by unfold Prs.packed; rw [if_neg (by omega), hp])
  have HD : Hid (Sl w ao ds ∧ ds.length = N) := ⟨hs, hN⟩
  have HG0 : Hid (Prs.GO ds p 0 0) := by rw [← hp]; exact Prs.GO.start ds
  have hpl := Prs.pack_len ds
  rw [hp, hN] at hpl
  obtain ⟨M, hM⟩ : ∃ M, p.length = M := ⟨_, rfl⟩
  rw [hM] at hpl HPK
  have hM8 : M ≤ 8192 := by omega
  have HM := hide hM
  clear hp hs hN hpl hM
  go_enter Try.func7, Try.ntmps7
  go_wp2_with (first
    | (go_at_call 10; refine HPK.out.mono ?_; rintro e w1 ⟨bo, bc, rfl, ho1, hb1⟩; have HP : Hid (Sl w1 bo p ∧ p.length = M) := ⟨(own_slc (by rw [← HM.out] at ho1; exact ho1)).1, HM.out⟩; have HB1 := hide hb1; have HW1 : Hid (Kept [] w w1) := Kept.of_below hb1; clear ho1 hb1 HPK)
    | go_in)
  go_loopw [5, 6] (fun i kk wr => ∃ (t k : Nat), t ≤ N ∧ k ≤ M ∧ i = .int .i64 t ∧ kk = .int .i64 k ∧ Hid (Prs.GO ds p k t ∧ Kept [] w1 wr)) (fun _ kk _ => M - (intOf kk).toNat)
  case atStart => exact ⟨0, 0, Nat.zero_le _, Nat.zero_le _, rfl, rfl, HG0.out, Kept.refl _ _⟩
  case round =>
    clear HG0
    obtain ⟨t0, k0, ht0, hk0, rfl, rfl, HO⟩ := hrel
    by_cases hkM : k0 < M
    · have hq1 : (k0 : Int) < (M : Int) := by omega
      obtain ⟨pb, po, hbo, _, hpc⟩ := HP.out.1.open (by rintro rfl; have := HP.out.2; simp at this; omega)
      subst hbo
      have HPC := hide hpc
      clear hpc
      have c0 : wr.cell? ⟨pb, po + k0, none⟩ = some (.int .u8 (p.getD k0 0).toNat) := HO.out.2.cellOf (HPC.out k0 (by have := HP.out.2; omega)) (by simp)
      obtain ⟨hf0, hgi⟩ := HO.out.1.open (by have := HP.out.2; omega)
      generalize (p.getD k0 0).toNat = f0 at c0 hf0 hgi
      have HGI : Hid (Prs.GI ds p (k0 + 1) t0 0 f0 ∧ Kept [] w1 wr) := ⟨hgi, HO.out.2⟩
      have HKM := hide hkM
      clear hgi HO
      go_wp2
      go_loopw [5, 6, 7, 8] (fun i kk f b wr => ∃ (t k fl bt : Nat), t ≤ N ∧ k ≤ M ∧ fl < 256 ∧ i = .int .i64 t ∧ kk = .int .i64 k ∧ f = .int .i64 fl ∧ b = .int .i64 bt ∧ bt ≤ 8 ∧ Hid (k0 < k ∧ Prs.GI ds p k t bt fl ∧ Kept [] w1 wr)) (fun _ _ _ b _ => 8 - (intOf b).toNat)
      case atStart => exact ⟨t0, k0 + 1, f0, 0, ht0, by omega, hf0, rfl, by simp, rfl, rfl, by omega, by omega, HGI.out⟩
      case round =>
        clear c0 HGI hf0 hq1
        obtain ⟨t, k, fl, bt, ht, hk, hfl, rfl, rfl, rfl, rfl, hbt, HI⟩ := hrel
        by_cases hb8 : bt < 8
        · have hqb : (bt : Int) < 8 := by omega
          have e2 : Int.tdiv (fl : Int) 2 = ((fl / 2 : Nat) : Int) := by rw [Int.tdiv_eq_ediv_of_nonneg (by omega)]; omega
          have e3 : Int.tmod (fl : Int) 2 = ((fl % 2 : Nat) : Int) := by rw [Int.tmod_eq_emod_of_nonneg (by omega)]; omega
          by_cases htN : t = N
          · subst htN
            obtain ⟨hz, hgi2⟩ := HI.out.2.1.gap hb8 (by have := HD.out.2; omega)
            subst hz
            have HG2 := hide hgi2
            clear hgi2 e2 e3
            go_wp2
            go_roundw
            case rel => exact ⟨t, k, 0, bt + 1, Nat.le_refl _, hk, by omega, rfl, rfl, by simp, by go_num, by omega, HI.out.1, HG2.out, HI.out.2.2⟩
            case measure => simp [intOf]; omega
          · have hqt : ((t : Int) == (N : Int)) = false := by simp; omega
            have htN2 : t < N := by omega
            obtain ⟨db, dof, hdo, _, hdc⟩ := HD.out.1.open (by rintro rfl; have := HD.out.2; simp at this; omega)
            subst hdo
            have HDC : Hid (∀ i, i < ds.length → w1.cell? ⟨db, dof + i, none⟩ = some (.int .u8 (ds.getD i 0).toNat)) := fun i hi => HW1.out.cellOf (hdc i hi) (by simp)
            clear hdc
            obtain ⟨it, il, hitem⟩ : ∃ it il, Prs.itemAt ds t = (it, il) := ⟨_, _, rfl⟩
            obtain ⟨hbit, ⟨tail, htail⟩, hgi2⟩ := HI.out.2.1.item hb8 (by have := HD.out.2; omega) it il hitem
            have HG2 := hide hgi2
            have HBT : Hid (fl % 2 = Prs.bitOf it ∧ p.drop k = Prs.bodyOf it ++ tail ∧ Prs.itemAt ds t = (it, il)) := ⟨hbit, htail, hitem⟩
            obtain ⟨q, hq⟩ : ∃ q, fl % 2 = q := ⟨_, rfl⟩
            have hq2 : q < 2 := by omega
            have HQ := hide hq
            obtain ⟨b, hbb⟩ : ∃ b : Bool, ((q : Int) == 1) = b := ⟨_, rfl⟩
            have HQB := hide hbb
            rw [hq] at e3
            clear hgi2 hbit htail hitem hq
            have hfh : fl / 2 < 256 := by omega
            generalize hfe : fl / 2 = fh at e2 hfh HG2
            clear hfe
            go_wp2
            go_loopw [10, 11, 12] (fun l d i wr => ∃ (D ml md : Nat), D ≤ Prs.far t ∧ l = .int .i64 ml ∧ d = .int .i64 md ∧ i = .int .i64 ((D + 1 : Nat) : Int) ∧ Hid (Prs.best ds t D = (ml, md) ∧ Kept [] w1 wr)) (fun _ _ i _ => 1026 - (intOf i).toNat)
            case atStart => exact ⟨0, 0, 0, Nat.zero_le _, rfl, rfl, rfl, rfl, HI.out.2.2⟩
            case round =>
              obtain ⟨D, ml, md, hD, rfl, rfl, rfl, HK⟩ := hrel
              have hfar : Prs.far t ≤ 1024 ∧ Prs.far t ≤ t := by unfold Prs.far; omega
              by_cases hlt : D < Prs.far t
              · have hr1 : (((D + 1 : Nat) : Int) ≤ 1024) := by omega
                have hr2 : (((D + 1 : Nat) : Int) ≤ (t : Int)) := by omega
                have hA := run_ok db dof N cap (t - (D + 1)) t (D + 1) ds wr HD.out.2 hN4 (by omega) (by omega) ht (fun i hi => HK.out.2.cellOf (HDC.out i hi) (by simp))
                rw [show ((D + 1 : Nat) : Int) = (D : Int) + 1 by omega] at hA
                have hbs := Prs.best_succ ds t D
                rw [HK.out.1] at hbs
                have hal := Prs.alike_le ds 66 (t - (D + 1)) t
                generalize Prs.alike ds (t - (D + 1)) t 66 = A at hA hbs hal
                have HA := hide hA
                clear hA
                by_cases hml : ml < A
                · rw [if_pos hml] at hbs
                  have HB := hide hbs
                  have hr3 : ((ml : Int) < (A : Int)) := by omega
                  clear hbs
                  go_wp2_with (go_at_call 17; refine HA.out.mono ?_; rintro e w2 ⟨rfl, hk2⟩)
                  go_roundw
                  case rel => exact ⟨D + 1, A, D + 1, by omega, rfl, by go_num, by go_num, HB.out, HK.out.2.trans hk2 (by simp)⟩
                  case measure => simp [intOf]; omega
                · rw [if_neg hml] at hbs
                  have HB := hide hbs
                  have hr3 : ¬ ((ml : Int) < (A : Int)) := by omega
                  clear hbs
                  go_wp2_with (go_at_call 17; refine HA.out.mono ?_; rintro e w2 ⟨rfl, hk2⟩)
                  go_roundw
                  case rel => exact ⟨D + 1, ml, md, by omega, rfl, rfl, by go_num, HB.out, HK.out.2.trans hk2 (by simp)⟩
                  case measure => simp [intOf]; omega
              · have hDf : D = Prs.far t := by omega
                have hres : Prs.mtch ds t = (ml, md) := by unfold Prs.mtch; rw [← hDf]; exact HK.out.1
                have hcond : (((D + 1 : Nat) : Int) ≤ 1024 → ¬ (((D + 1 : Nat) : Int) ≤ (t : Int))) := by unfold Prs.far at hDf; omega
                by_cases h3 : 3 ≤ ml
                · obtain ⟨hit, hil, hbq, html, hl66, hmd1, hmd2, hkM2, x1, x2, hpA, hpB, hxx⟩ := Prs.mat_facts (by have := HD.out.2; omega) hres h3 HBT.out.2.2 HBT.out.1 HBT.out.2.1
                  rw [HD.out.2] at html
                  rw [HP.out.2] at hkM2
                  have HG3 : Hid (Prs.GI ds p (k + 2) (t + ml) (bt + 1) fh) := by have := HG2.out; rw [hit, hil] at this; exact this
                  have HXA := hide hpA
                  have HXB := hide hpB
                  have hbb2 : b = true := by rw [← HQB.out, ← HQ.out, hbq]; rfl
                  subst hbb2
                  obtain ⟨cv, hcvx⟩ : ∃ cv, cv = (md - 1) * 64 + (ml - 3) := ⟨_, rfl⟩
                  rw [← hcvx] at hxx
                  have HXX : Hid (256 * x1 + x2 = cv ∧ cv = (md - 1) * 64 + (ml - 3)) := ⟨hxx.1, hcvx⟩
                  have hx1 : x1 < 256 := hxx.2.1
                  have hx2 : x2 < 256 := hxx.2.2
                  have hr4 : (3 : Int) ≤ (ml : Int) := by omega
                  have gA' : ¬ ((M : Int) ≤ (k : Int)) := by omega
                  have HDF : Hid (D = Prs.far t) := hDf
                  clear hit hil hbq hpA hpB hcvx hxx hres hlt HBT HQ HQB HG2
                  by_cases h1024 : D < 1024
                  · have hr5 : (((D + 1 : Nat) : Int) ≤ 1024) := by omega
                    have hr6 := hcond hr5
                    clear hcond hDf hfar
                    go_wp2
                    obtain ⟨k1, hk1⟩ : ∃ k1, k1 = k + 1 := ⟨_, rfl⟩
                    have cA : wr.cell? ⟨pb, po + k, none⟩ = some (.int .u8 x1) := by have := HK.out.2.cellOf (HPC.out k (by have := HP.out.2; omega)) (by simp); rw [HXA.out] at this; exact this
                    have cB : wr.cell? ⟨pb, po + k1, none⟩ = some (.int .u8 x2) := by rw [hk1]; have := HK.out.2.cellOf (HPC.out (k + 1) (by have := HP.out.2; omega)) (by simp); rw [HXB.out] at this; exact this
                    obtain ⟨md1, hmd1⟩ : ∃ md1 : Nat, md1 = md - 1 := ⟨_, rfl⟩
                    obtain ⟨e64, he64⟩ : ∃ e64 : Nat, e64 = md1 * 64 := ⟨_, rfl⟩
                    obtain ⟨e65, he65⟩ : ∃ e65 : Nat, e65 = e64 + ml := ⟨_, rfl⟩
                    have hw1 : IntKind.i64.wrap ((k : Int) + 1) = (k1 : Int) := by simp [IntKind.wrap, IntKind.bits, IntKind.signed]; omega
                    have hwA : IntKind.i64.wrap (256 * (x1 : Int)) = 256 * (x1 : Int) := by simp [IntKind.wrap, IntKind.bits, IntKind.signed]; omega
                    have hwB : IntKind.i64.wrap (256 * (x1 : Int) + (x2 : Int)) = (cv : Int) := by have := HXX.out; simp [IntKind.wrap, IntKind.bits, IntKind.signed]; omega
                    have hwC : IntKind.i64.wrap ((md : Int) - 1) = (md1 : Int) := by simp [IntKind.wrap, IntKind.bits, IntKind.signed]; omega
                    have hwD : IntKind.i64.wrap ((md1 : Int) * 64) = (e64 : Int) := by simp [IntKind.wrap, IntKind.bits, IntKind.signed]; omega
                    have hwE : IntKind.i64.wrap ((e64 : Int) + (ml : Int)) = (e65 : Int) := by simp [IntKind.wrap, IntKind.bits, IntKind.signed]; omega
                    have hwF : IntKind.i64.wrap ((e65 : Int) - 3) = (cv : Int) := by have := HXX.out; simp [IntKind.wrap, IntKind.bits, IntKind.signed]; omega
                    have gA : (k : Int) < (M : Int) := by omega
                    have gB : (k1 : Int) < (M : Int) := by omega
                    have gC : ¬ ((M : Int) ≤ (k1 : Int)) := by omega
                    have gD : ¬ (M ≤ k1) := by omega
                    clear hk1 hmd1 he64 he65
                    go_quiet (fail)
                    have HK6 := hide (HK.out.2.drewN nq)
                    clear cA cB hw1 hwA hwB hwC hwD hwE hwF
                    generalize wr.drewN nq = w6 at HK6 ⊢
                    go_wp2
                    go_roundw
                    case rel => exact ⟨t + ml, k + 2, fh, bt + 1, html, by omega, hfh, by go_num, by go_num, rfl, by go_num, by omega, by have := HI.out.1; omega, HG3.out, HK6.out⟩
                    case measure => simp [intOf]; omega
                  · have hr5 : ¬ (((D + 1 : Nat) : Int) ≤ 1024) := by omega
                    clear hcond hDf hfar
                    go_wp2
                    obtain ⟨k1, hk1⟩ : ∃ k1, k1 = k + 1 := ⟨_, rfl⟩
                    have cA : wr.cell? ⟨pb, po + k, none⟩ = some (.int .u8 x1) := by have := HK.out.2.cellOf (HPC.out k (by have := HP.out.2; omega)) (by simp); rw [HXA.out] at this; exact this
                    have cB : wr.cell? ⟨pb, po + k1, none⟩ = some (.int .u8 x2) := by rw [hk1]; have := HK.out.2.cellOf (HPC.out (k + 1) (by have := HP.out.2; omega)) (by simp); rw [HXB.out] at this; exact this
                    obtain ⟨md1, hmd1⟩ : ∃ md1 : Nat, md1 = md - 1 := ⟨_, rfl⟩
                    obtain ⟨e64, he64⟩ : ∃ e64 : Nat, e64 = md1 * 64 := ⟨_, rfl⟩
                    obtain ⟨e65, he65⟩ : ∃ e65 : Nat, e65 = e64 + ml := ⟨_, rfl⟩
                    have hw1 : IntKind.i64.wrap ((k : Int) + 1) = (k1 : Int) := by simp [IntKind.wrap, IntKind.bits, IntKind.signed]; omega
                    have hwA : IntKind.i64.wrap (256 * (x1 : Int)) = 256 * (x1 : Int) := by simp [IntKind.wrap, IntKind.bits, IntKind.signed]; omega
                    have hwB : IntKind.i64.wrap (256 * (x1 : Int) + (x2 : Int)) = (cv : Int) := by have := HXX.out; simp [IntKind.wrap, IntKind.bits, IntKind.signed]; omega
                    have hwC : IntKind.i64.wrap ((md : Int) - 1) = (md1 : Int) := by simp [IntKind.wrap, IntKind.bits, IntKind.signed]; omega
                    have hwD : IntKind.i64.wrap ((md1 : Int) * 64) = (e64 : Int) := by simp [IntKind.wrap, IntKind.bits, IntKind.signed]; omega
                    have hwE : IntKind.i64.wrap ((e64 : Int) + (ml : Int)) = (e65 : Int) := by simp [IntKind.wrap, IntKind.bits, IntKind.signed]; omega
                    have hwF : IntKind.i64.wrap ((e65 : Int) - 3) = (cv : Int) := by have := HXX.out; simp [IntKind.wrap, IntKind.bits, IntKind.signed]; omega
                    have gA : (k : Int) < (M : Int) := by omega
                    have gB : (k1 : Int) < (M : Int) := by omega
                    have gC : ¬ ((M : Int) ≤ (k1 : Int)) := by omega
                    have gD : ¬ (M ≤ k1) := by omega
                    clear hk1 hmd1 he64 he65
                    go_quiet (fail)
                    have HK6 := hide (HK.out.2.drewN nq)
                    clear cA cB hw1 hwA hwB hwC hwD hwE hwF
                    generalize wr.drewN nq = w6 at HK6 ⊢
                    go_wp2
                    go_roundw
                    case rel => exact ⟨t + ml, k + 2, fh, bt + 1, html, by omega, hfh, by go_num, by go_num, rfl, by go_num, by omega, by have := HI.out.1; omega, HG3.out, HK6.out⟩
                    case measure => simp [intOf]; omega
                · obtain ⟨hit, hil, hbq, hkM2, hpd⟩ := Prs.lit_facts (by have := HD.out.2; omega) hres h3 HBT.out.2.2 HBT.out.1 HBT.out.2.1
                  rw [HP.out.2] at hkM2
                  have HG3 : Hid (Prs.GI ds p (k + 1) (t + 1) (bt + 1) fh) := by have := HG2.out; rw [hit, hil] at this; exact this
                  obtain ⟨x1, hdx⟩ : ∃ x1, (ds.getD t 0).toNat = x1 := ⟨_, rfl⟩
                  rw [hdx] at hpd
                  have HXA := hide hpd
                  have HXB := hide hdx
                  have hbb2 : b = false := by rw [← HQB.out, ← HQ.out, hbq]; rfl
                  subst hbb2
                  have hr4 : ¬ ((3 : Int) ≤ (ml : Int)) := by omega
                  have gA : (k : Int) < (M : Int) := by omega
                  have gA' : ¬ ((M : Int) ≤ (k : Int)) := by omega
                  have HDF : Hid (D = Prs.far t) := hDf
                  clear hit hil hbq hpd hdx hres hlt HBT HQ HQB HG2
                  by_cases h1024 : D < 1024
                  · have hr5 : (((D + 1 : Nat) : Int) ≤ 1024) := by omega
                    have hr6 := hcond hr5
                    clear hcond hDf hfar
                    go_wp2
                    have cA : wr.cell? ⟨pb, po + k, none⟩ = some (.int .u8 x1) := by have := HK.out.2.cellOf (HPC.out k (by have := HP.out.2; omega)) (by simp); rw [HXA.out] at this; exact this
                    have cB : wr.cell? ⟨db, dof + t, none⟩ = some (.int .u8 x1) := by have := HK.out.2.cellOf (HDC.out t (by have := HD.out.2; omega)) (by simp); rw [HXB.out] at this; exact this
                    have gB : (t : Int) < (N : Int) := by omega
                    go_quiet (fail)
                    have HK6 := hide (HK.out.2.drewN nq)
                    clear cA cB
                    generalize wr.drewN nq = w6 at HK6 ⊢
                    go_wp2
                    go_roundw
                    case rel => exact ⟨t + 1, k + 1, fh, bt + 1, by omega, by omega, hfh, by go_num, by go_num, rfl, by go_num, by omega, by have := HI.out.1; omega, HG3.out, HK6.out⟩
                    case measure => simp [intOf]; omega
                  · have hr5 : ¬ (((D + 1 : Nat) : Int) ≤ 1024) := by omega
                    clear hcond hDf hfar
                    go_wp2
                    have cA : wr.cell? ⟨pb, po + k, none⟩ = some (.int .u8 x1) := by have := HK.out.2.cellOf (HPC.out k (by have := HP.out.2; omega)) (by simp); rw [HXA.out] at this; exact this
                    have cB : wr.cell? ⟨db, dof + t, none⟩ = some (.int .u8 x1) := by have := HK.out.2.cellOf (HDC.out t (by have := HD.out.2; omega)) (by simp); rw [HXB.out] at this; exact this
                    have gB : (t : Int) < (N : Int) := by omega
                    go_quiet (fail)
                    have HK6 := hide (HK.out.2.drewN nq)
                    clear cA cB
                    generalize wr.drewN nq = w6 at HK6 ⊢
                    go_wp2
                    go_roundw
                    case rel => exact ⟨t + 1, k + 1, fh, bt + 1, by omega, by omega, hfh, by go_num, by go_num, rfl, by go_num, by omega, by have := HI.out.1; omega, HG3.out, HK6.out⟩
                    case measure => simp [intOf]; omega
        · have hb8' : bt = 8 := by omega
          subst hb8'
          go_wp2
          go_roundw
          case rel => exact ⟨t, k, ht, hk, rfl, rfl, HI.out.2.1.done, HI.out.2.2⟩
          case measure => simp [intOf]; have := HI.out.1; have := HKM.out; omega
    · have hq1 : ¬ ((k0 : Int) < (M : Int)) := by omega
      have htN : t0 = N := by have := HO.out.1.stop (by have := HP.out.2; omega); have := HD.out.2; omega
      subst htN
      have hqe : ((t0 : Int) == (t0 : Int)) = true := by simp
      go_wp2_with (go_at_call 14; refine (awake_ok _).mono ?_; rintro e w9 ⟨rfl, hb9⟩)
      go_ret
      exact ⟨rfl, (HB1.out.trans (HO.out.2.below HB1.out.size (by simp))).trans (Below.less hb9 (Nat.le_trans HB1.out.size HO.out.2.size))⟩

end Go.Proofs.Ytcgkjdchkpnldaa
