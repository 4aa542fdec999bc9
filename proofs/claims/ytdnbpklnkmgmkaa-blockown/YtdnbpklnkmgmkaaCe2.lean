/-
  BlockOwn: Book.still. (Written by tools/ce.py.)
-/
import Derived.Test.YtdnbpklnkmgmkaaCd2
import Derived.Test.YtdnbpklnkmgmkaaCc2
import Derived.Deep.QuietTactic
import Derived.BigQuiet
import Derived.Laws.StructEq
import Derived.ChangeKeysEq
import Derived.Deep.MidRow
namespace Go.Proofs.Ytdnbpklnkmgmkaa
open Go.RowKit
set_option linter.unusedVariables false
set_option linter.unusedSimpArgs false

theorem Try.aggInt11 (W : World) : (isAgg 3).run Try.prog W = .ok false W := by kernel_rfl
theorem Try.underBlk : Try.prog.underlying 45 = some (.struct (Try.prog.fieldsOf 45)) := by kernel_rfl
theorem Try.partB0 (a b c d : Int) (W : World) : (part 3 #[.int .i64 a, .int .i64 b, .int .i64 c, .int .i64 d] 0).run Try.prog W = .ok (.int .i64 a) W := by
  simp only [part, Sem.run_bind, Try.aggInt11, Result.andThen_ok, Bool.false_eq_true, if_false, List.getElem?_toArray, List.getElem?_cons_succ, List.getElem?_cons_zero, Sem.run_pure]
theorem Try.partB1 (a b c d : Int) (W : World) : (part 3 #[.int .i64 a, .int .i64 b, .int .i64 c, .int .i64 d] 1).run Try.prog W = .ok (.int .i64 b) W := by
  simp only [part, Sem.run_bind, Try.aggInt11, Result.andThen_ok, Bool.false_eq_true, if_false, List.getElem?_toArray, List.getElem?_cons_succ, List.getElem?_cons_zero, Sem.run_pure]
theorem Try.partB2 (a b c d : Int) (W : World) : (part 3 #[.int .i64 a, .int .i64 b, .int .i64 c, .int .i64 d] 2).run Try.prog W = .ok (.int .i64 c) W := by
  simp only [part, Sem.run_bind, Try.aggInt11, Result.andThen_ok, Bool.false_eq_true, if_false, List.getElem?_toArray, List.getElem?_cons_succ, List.getElem?_cons_zero, Sem.run_pure]
theorem Try.partB3 (a b c d : Int) (W : World) : (part 3 #[.int .i64 a, .int .i64 b, .int .i64 c, .int .i64 d] 3).run Try.prog W = .ok (.int .i64 d) W := by
  simp only [part, Sem.run_bind, Try.aggInt11, Result.andThen_ok, Bool.false_eq_true, if_false, List.getElem?_toArray, List.getElem?_cons_succ, List.getElem?_cons_zero, Sem.run_pure]
theorem Try.eqlBlk (a b c d : Int) (W : World) : (Op.equalIn 10000 45 (.agg #[.int .i64 a, .int .i64 b, .int .i64 c, .int .i64 d]) (.agg #[.int .i64 a, .int .i64 b, .int .i64 c, .int .i64 d])).run Try.prog W = .ok true W := by
  rw [run_equalIn_struct (P := Try.prog) W 9999 45 _ _ Try.underBlk (by kernel_rfl)]
  simp (config := { decide := true }) only [Program.fieldsOf, Try.underlying45, Op.eqFields, Sem.run_bind, Sem.run_ite, ne_eq, not_false_eq_true, if_true, Try.partB0, Try.partB1, Try.partB2, Try.partB3, Result.andThen_ok, run_equalIn_int W 9998 3 .i64 .i64 _ _ Try.underlying3, beq_self_eq_true, Bool.not_true, Bool.false_eq_true, if_false, Sem.run_pure]
/-- What the rows of a Book hold. -/
structure ConB (h lf : Nat → Rw) (en : Nat → Nat) (E : Nat) : Prop where
  l : ∀ k, k < E → ∀ i, i < (h (en k)).n → (h (en k)).vs[i]? = some (.int .u8 (mkB k : Nat))
  g : ∀ k, k < E → ∀ i, i < (lf (en k)).n → (lf (en k)).vs[i]? = some (.int .u8 ((if i < (h (en k)).n then mkB k else mkB k + 1 : Nat) : Nat))
structure ConL (h lf : Nat → Rw) (en : Nat → Nat) (E : Nat) : Prop where
  l : ∀ k, k < E → ∀ i, i < (h (en k)).n → ∀ j v, (yL (mkL k))[j]? = some v → (h (en k)).vs[i * 4 + j]? = some v
  g : ∀ k, k < E → ∀ i, i < (lf (en k)).n → ∀ j v, (yL (if i < (h (en k)).n then mkL k else mkL k + 1))[j]? = some v → (lf (en k)).vs[i * 4 + j]? = some v
theorem rw_cellB {B : Nat} {w : World} {r : Rw} (hr : r.At 5 1 B w) {i : Nat} {v : Value} (hi : i < r.n) (hv : r.vs[i]? = some v) : ∃ g, r.o = some ⟨g, 0, none⟩ ∧ w.cell? ⟨g, i, none⟩ = some v := by
  obtain ⟨g, hg, _, _, _⟩ := hr.there (by omega)
  have h2 : w.ownsRow B 5 1 r.val r.n r.vs := hr
  have hval : r.val = .slice (some ⟨g, 0, none⟩) r.n r.c := by unfold Rw.val; rw [hg]
  rw [hval] at h2
  exact ⟨g, hg, by rw [h2.cellAt i (by rw [Nat.mul_one]; exact hi)]; exact hv⟩
theorem rw_cellL {B : Nat} {w : World} {r : Rw} (hr : r.At 45 4 B w) {i x : Nat} (hi : i < r.n) (hv : ∀ j v, (yL x)[j]? = some v → r.vs[i * 4 + j]? = some v) : ∃ g, r.o = some ⟨g, 0, none⟩ ∧ ∀ j v, (yL x)[j]? = some v → w.cell? ⟨g, i * 4 + j, none⟩ = some v := by
  obtain ⟨g, hg, _, _, _⟩ := hr.there (by omega)
  have h2 : w.ownsRow B 45 4 r.val r.n r.vs := hr
  have hval : r.val = .slice (some ⟨g, 0, none⟩) r.n r.c := by unfold Rw.val; rw [hg]
  rw [hval] at h2
  refine ⟨g, hg, fun j v hj => ?_⟩
  have hj4 : j < 4 := (List.getElem?_eq_some_iff.1 hj).1
  rw [h2.cellAt (i * 4 + j) (by omega)]
  exact hv j v hj
theorem Half.at {e te : TypeId} {s B : Nat} {w : World} {m : Nat} {h lf : Nat → Rw} {en : Nat → Nat} {E : Nat} {mk : Nat → Value} {R : Rw} (H : Half e te s B w m h lf en E mk R) {k : Nat} (hk : k < E) :
    ∃ rg, R.o = some ⟨rg, 0, none⟩ ∧ w.cell? ⟨rg, k * 3, none⟩ = some (h (en k)).val ∧ w.cell? ⟨rg, k * 3 + 1, none⟩ = some (lf (en k)).val ∧ w.cell? ⟨rg, k * 3 + 2, none⟩ = some (mk k) := by
  obtain ⟨g, hg, _, _, _⟩ := H.row.there (by rw [H.rn]; omega)
  have h2 : w.ownsRow B te 3 R.val R.n R.vs := H.row
  have hval : R.val = .slice (some ⟨g, 0, none⟩) R.n R.c := by unfold Rw.val; rw [hg]
  rw [hval, H.rn, H.rv] at h2
  refine ⟨g, hg, ?_, ?_, ?_⟩
  · rw [h2.cellAt (k * 3) (by omega)]
    exact ents_at h lf en mk E k 0 hk (by omega)
  · rw [h2.cellAt (k * 3 + 1) (by omega)]
    exact ents_at h lf en mk E k 1 hk (by omega)
  · rw [h2.cellAt (k * 3 + 2) (by omega)]
    exact ents_at h lf en mk E k 2 hk (by omega)

set_option maxHeartbeats 8000000 in
set_option maxRecDepth 100000 in
theorem still_ok {w : World} {B K m1 : Nat} {h lf : Nat → Rw} {en : Nat → Nat} {E : Nat} {R1 R2 : Rw} {m2 : Nat} {h2 lf2 : Nat → Rw} {en2 : Nat → Nat} {E2 : Nat} (hb : Bok w B K R1 R2) (H1 : Half 5 74 1 B w m1 h lf en E mkvB R1) (H2 : Half 45 76 4 B w m2 h2 lf2 en2 E2 mkvL R2) (hC1 : ConB h lf en E) (hC2 : ConL h2 lf2 en2 E2) (hE : E ≤ 100000000) (hE2 : E2 ≤ 100000000) (hM1 : ∀ i, i < m1 → (lf i).n ≤ 1000000000) (hM2 : ∀ i, i < m2 → (lf2 i).n ≤ 1000000000) :
    Calls Try.prog 24 #[.pointer (some ⟨K, 0, none⟩)] w fun e w' => e = .returned (.bool true) ∧ Kept [] w w' := by
  obtain ⟨ro, hro⟩ : ∃ ro, R1.o = ro := ⟨_, rfl⟩
  obtain ⟨rc, hrc⟩ : ∃ rc, R1.c = rc := ⟨_, rfl⟩
  obtain ⟨so, hso⟩ : ∃ so, R2.o = so := ⟨_, rfl⟩
  obtain ⟨sc, hsc⟩ : ∃ sc, R2.c = sc := ⟨_, rfl⟩
  have hv1 : R1.val = .slice ro E rc := by unfold Rw.val; rw [hro, hrc, H1.rn]
  have hv2 : R2.val = .slice so E2 sc := by unfold Rw.val; rw [hso, hsc, H2.rn]
  have k0 : w.cell? ⟨K, 0, none⟩ = some (.slice ro E rc) := by rw [cell_of_row _ _ _ _ _ _ hb.cell, ← hv1]; rfl
  have k1 : w.cell? ⟨K, 1, none⟩ = some (.slice so E2 sc) := by rw [cell_of_row _ _ _ _ _ _ hb.cell, ← hv2]; rfl
  have HRB : Hid (R1.o = ro) := hro
  have HRL : Hid (R2.o = so) := hso
  have HHB := hide H1
  have HHL := hide H2
  have HCB := hide hC1
  have HCL := hide hC2
  have HMB := hide hM1
  have HML := hide hM2
  have hz := Try.zeroRow11
  have hz2 := Try.zeroList11
  have hzb := Try.zeroBlk11
  clear hb H1 H2 hC1 hC2 hM1 hM2 hro hrc hso hsc hv1 hv2
  go_enter Try.func24, Try.ntmps24
  go_wp2
  go_loopw [3] (fun y wr => ∃ k : Nat, k ≤ E ∧ y = .int .i64 k ∧ Hid (Kept [] w wr)) (fun y wr => E - (intOf y).toNat)
  case atStart => exact ⟨0, Nat.zero_le _, rfl, Kept.refl _ _⟩
  case round =>
    obtain ⟨k, hk, rfl, HK⟩ := hrel
    have h1 := HK.out.cellOf k0 (by simp)
    by_cases hlt : k < E
    · as_aux_lemma =>
      obtain ⟨rg, hro, a0, a1, a2⟩ := HHB.out.at hlt
      rw [HRB.out] at hro
      subst hro
      have b0 := HK.out.cellOf a0 (by simp)
      have b1 := HK.out.cellOf a1 (by simp)
      have b2 := HK.out.cellOf a2 (by simp)
      have hen := HHB.out.lt k hlt
      obtain ⟨lo, hlo⟩ : ∃ lo, (h (en k)).o = lo := ⟨_, rfl⟩
      obtain ⟨n, hn⟩ : ∃ n, (h (en k)).n = n := ⟨_, rfl⟩
      obtain ⟨lc, hlc⟩ : ∃ lc, (h (en k)).c = lc := ⟨_, rfl⟩
      obtain ⟨go, hgo⟩ : ∃ go, (lf (en k)).o = go := ⟨_, rfl⟩
      obtain ⟨m, hm⟩ : ∃ m, (lf (en k)).n = m := ⟨_, rfl⟩
      obtain ⟨gc, hgc⟩ : ∃ gc, (lf (en k)).c = gc := ⟨_, rfl⟩
      obtain ⟨c, hc⟩ : ∃ c, mkB k = c := ⟨_, rfl⟩
      have v1 : (h (en k)).val = .slice lo n lc := by unfold Rw.val; rw [hlo, hn, hlc]
      have v2 : (lf (en k)).val = .slice go m gc := by unfold Rw.val; rw [hgo, hm, hgc]
      have v3 : mkvB k = .int .u8 (c : Nat) := by unfold mkvB; rw [hc]
      rw [v1] at b0
      rw [v2] at b1
      rw [v3] at b2
      have HL : Hid (∀ i, i < n → _) := fun i hi => HCB.out.l k hlt i (by rw [hn]; exact hi)
      have HG : Hid (∀ i, i < m → _) := fun i hi => HCB.out.g k hlt i (by rw [hm]; exact hi)
      rw [hc, hn] at HG
      rw [hc] at HL
      have HRL := hide (And.intro (HHB.out.fam.fam.own _ hen) (And.intro hn hlo))
      have HRG := hide (And.intro (HHB.out.fam.own _ hen) (And.intro hm hgo))
      have hnm : n ≤ m := by have := HHB.out.fam.len _ hen; rw [hn, hm] at this; exact this
      have hmx : m ≤ 1000000000 := by rw [← hm]; exact HMB.out _ hen
      have hlow : c ≤ 199 := by rw [← hc]; exact mkB_lt k
      clear a0 a1 a2 v1 v2 v3 hlo hn hlc hgo hm hgc hc hen
      obtain ⟨xb, hxb⟩ : ∃ xb, xb = wr.heap.size := ⟨_, rfl⟩
      have HKA : Hid (Kept [] w (wr.alloc (.cells #[.slice lo n lc, .slice go m gc, .int .u8 (c : Nat)] 74))) := HK.out.alloc _
      have x0 : (wr.alloc (.cells #[.slice lo n lc, .slice go m gc, .int .u8 (c : Nat)] 74)).cell? ⟨xb, 0, none⟩ = some (.slice lo n lc) := by rw [hxb]; simp
      have x1 : (wr.alloc (.cells #[.slice lo n lc, .slice go m gc, .int .u8 (c : Nat)] 74)).cell? ⟨xb, 1, none⟩ = some (.slice go m gc) := by rw [hxb]; simp
      have x2 : (wr.alloc (.cells #[.slice lo n lc, .slice go m gc, .int .u8 (c : Nat)] 74)).cell? ⟨xb, 2, none⟩ = some (.int .u8 (c : Nat)) := by rw [hxb]; simp
      go_wp2
      try rw [← hxb]
      generalize wr.alloc _ = w1 at HKA x0 x1 x2 ⊢
      clear hxb b0 b1 b2
      go_loopw [5] (fun y wr => ∃ i : Nat, i ≤ m ∧ y = .int .i64 i ∧ Hid (Kept [] w1 wr)) (fun y wr => m - (intOf y).toNat)
      case atStart => exact ⟨0, Nat.zero_le _, rfl, Kept.refl _ _⟩
      case round =>
        obtain ⟨i, hi, rfl, HK2⟩ := hrel
        have HKw := (show Hid _ from HKA.out.trans HK2.out (by simp))
        have y0 := HK2.out.cellOf x0 (by simp)
        have y1 := HK2.out.cellOf x1 (by simp)
        have y2 := HK2.out.cellOf x2 (by simp)
        by_cases hlt2 : i < m
        · have i0 : (0 : Int) ≤ (i : Int) := by omega
          have i2 : (i : Int) < (m : Int) := by omega
          by_cases hin : i < n
          · as_aux_lemma =>
            have z1 := HG.out i hlt2
            rw [if_pos hin] at z1
            obtain ⟨lb, hlo, z0⟩ := rw_cellB HRL.out.1 (by rw [HRL.out.2.1]; exact hin) (HL.out i hin)
            rw [HRL.out.2.2] at hlo
            subst hlo
            obtain ⟨gb, hgo, z1⟩ := rw_cellB HRG.out.1 (by rw [HRG.out.2.1]; exact hlt2) z1
            rw [HRG.out.2.2] at hgo
            subst hgo
            replace z0 := HKw.out.cellOf z0 (by simp)
            replace z1 := HKw.out.cellOf z1 (by simp)
            have d1 : decide ((n : Int) ≤ (i : Int)) = false := by simp; omega
            have d2 : decide ((i : Int) < (n : Int)) = true := by simp; omega
            have d3 : decide (n ≤ i) = false := by simp; omega
            have d4 : decide (i < n) = true := by simp; omega
            have i1 : (i : Int) < (n : Int) := by omega
            have hcc : ((c : Int) != (c : Int)) = false := by simp
            clear x0 x1 x2
            go_wp2
            go_quiet (fail)
            go_wp2
            go_roundw
            case rel => exact ⟨i + 1, by omega, by go_num, HK2.out.drewN _⟩
            case measure => simp [intOf]; omega
          · as_aux_lemma =>
            have z1 := HG.out i hlt2
            rw [if_neg hin] at z1
            obtain ⟨gb, hgo, z1⟩ := rw_cellB HRG.out.1 (by rw [HRG.out.2.1]; exact hlt2) z1
            rw [HRG.out.2.2] at hgo
            subst hgo
            replace z1 := HKw.out.cellOf z1 (by simp)
            rw [show ((c + 1 : Nat) : Int) = (c : Int) + 1 by push_cast; rfl] at z1
            have hw : IntKind.u8.wrap ((c : Int) + 1) = (c : Int) + 1 := by rw [IntKind.wrap_u8]; omega
            have d1 : decide ((n : Int) ≤ (i : Int)) = true := by simp; omega
            have d2 : decide ((i : Int) < (n : Int)) = false := by simp; omega
            have d3 : decide (n ≤ i) = true := by simp; omega
            have d4 : decide (i < n) = false := by simp; omega
            have hcc : ((c : Int) + 1 != (c : Int) + 1) = false := by simp
            clear x0 x1 x2
            go_wp2
            go_quiet (fail)
            go_wp2
            go_roundw
            case rel => exact ⟨i + 1, by omega, by go_num, HK2.out.drewN _⟩
            case measure => simp [intOf]; omega
        · as_aux_lemma =>
          go_wp2
          go_roundw
          case rel => exact ⟨k + 1, by omega, by go_num, HKw⟩
          case measure => simp [intOf]; omega
    · obtain ⟨wv, hwv⟩ : ∃ wv, wv = wr := ⟨_, rfl⟩
      go_upto_region 11 with (fail)
      have HK0 := hide HK.out
      go_loopw [6] (fun y wr => ∃ k : Nat, k ≤ E2 ∧ y = .int .i64 k ∧ Hid (Kept [] w wr)) (fun y wr => E2 - (intOf y).toNat)
      case atStart => exact ⟨0, Nat.zero_le _, rfl, HK0⟩
      case round =>
        obtain ⟨k, hk, rfl, HK⟩ := hrel
        have h1 := HK.out.cellOf k1 (by simp)
        by_cases hlt : k < E2
        · as_aux_lemma =>
          obtain ⟨rg, hro, a0, a1, a2⟩ := HHL.out.at hlt
          rw [HRL.out] at hro
          subst hro
          have b0 := HK.out.cellOf a0 (by simp)
          have b1 := HK.out.cellOf a1 (by simp)
          have b2 := HK.out.cellOf a2 (by simp)
          have hen := HHL.out.lt k hlt
          obtain ⟨lo, hlo⟩ : ∃ lo, (h2 (en2 k)).o = lo := ⟨_, rfl⟩
          obtain ⟨n, hn⟩ : ∃ n, (h2 (en2 k)).n = n := ⟨_, rfl⟩
          obtain ⟨lc, hlc⟩ : ∃ lc, (h2 (en2 k)).c = lc := ⟨_, rfl⟩
          obtain ⟨go, hgo⟩ : ∃ go, (lf2 (en2 k)).o = go := ⟨_, rfl⟩
          obtain ⟨m, hm⟩ : ∃ m, (lf2 (en2 k)).n = m := ⟨_, rfl⟩
          obtain ⟨gc, hgc⟩ : ∃ gc, (lf2 (en2 k)).c = gc := ⟨_, rfl⟩
          obtain ⟨c, hc⟩ : ∃ c, mkL k = c := ⟨_, rfl⟩
          have v1 : (h2 (en2 k)).val = .slice lo n lc := by unfold Rw.val; rw [hlo, hn, hlc]
          have v2 : (lf2 (en2 k)).val = .slice go m gc := by unfold Rw.val; rw [hgo, hm, hgc]
          have v3 : mkvL k = .int .i64 (c : Nat) := by unfold mkvL; rw [hc]
          rw [v1] at b0
          rw [v2] at b1
          rw [v3] at b2
          have HL : Hid (∀ i, i < n → _) := fun i hi => HCL.out.l k hlt i (by rw [hn]; exact hi)
          have HG : Hid (∀ i, i < m → _) := fun i hi => HCL.out.g k hlt i (by rw [hm]; exact hi)
          rw [hc, hn] at HG
          rw [hc] at HL
          have HRL := hide (And.intro (HHL.out.fam.fam.own _ hen) (And.intro hn hlo))
          have HRG := hide (And.intro (HHL.out.fam.own _ hen) (And.intro hm hgo))
          have hnm : n ≤ m := by have := HHL.out.fam.len _ hen; rw [hn, hm] at this; exact this
          have hmx : m ≤ 1000000000 := by rw [← hm]; exact HML.out _ hen
          have hlow : c ≤ 300000000 := by rw [← hc]; unfold mkL; omega
          clear a0 a1 a2 v1 v2 v3 hlo hn hlc hgo hm hgc hc hen
          obtain ⟨xb, hxb⟩ : ∃ xb, xb = wr.heap.size := ⟨_, rfl⟩
          have HKA : Hid (Kept [] w (wr.alloc (.cells #[.slice lo n lc, .slice go m gc, .int .i64 (c : Nat)] 76))) := HK.out.alloc _
          have x0 : (wr.alloc (.cells #[.slice lo n lc, .slice go m gc, .int .i64 (c : Nat)] 76)).cell? ⟨xb, 0, none⟩ = some (.slice lo n lc) := by rw [hxb]; simp
          have x1 : (wr.alloc (.cells #[.slice lo n lc, .slice go m gc, .int .i64 (c : Nat)] 76)).cell? ⟨xb, 1, none⟩ = some (.slice go m gc) := by rw [hxb]; simp
          have x2 : (wr.alloc (.cells #[.slice lo n lc, .slice go m gc, .int .i64 (c : Nat)] 76)).cell? ⟨xb, 2, none⟩ = some (.int .i64 (c : Nat)) := by rw [hxb]; simp
          go_wp2
          try rw [← hxb]
          generalize wr.alloc _ = w1 at HKA x0 x1 x2 ⊢
          clear hxb b0 b1 b2
          go_loopw [8] (fun y wr => ∃ i : Nat, i ≤ m ∧ y = .int .i64 i ∧ Hid (Kept [] w1 wr)) (fun y wr => m - (intOf y).toNat)
          case atStart => exact ⟨0, Nat.zero_le _, rfl, Kept.refl _ _⟩
          case round =>
            obtain ⟨i, hi, rfl, HK2⟩ := hrel
            have HKw := (show Hid _ from HKA.out.trans HK2.out (by simp))
            have y0 := HK2.out.cellOf x0 (by simp)
            have y1 := HK2.out.cellOf x1 (by simp)
            have y2 := HK2.out.cellOf x2 (by simp)
            by_cases hlt2 : i < m
            · have i0 : (0 : Int) ≤ (i : Int) := by omega
              have i2 : (i : Int) < (m : Int) := by omega
              by_cases hin : i < n
              · as_aux_lemma =>
                have z1 := HG.out i hlt2
                rw [if_pos hin] at z1
                obtain ⟨lb, hlo, z0⟩ := rw_cellL HRL.out.1 (by rw [HRL.out.2.1]; exact hin) (HL.out i hin)
                rw [HRL.out.2.2] at hlo
                subst hlo
                obtain ⟨gb, hgo, z1⟩ := rw_cellL HRG.out.1 (by rw [HRG.out.2.1]; exact hlt2) z1
                rw [HRG.out.2.2] at hgo
                subst hgo
                replace z0 := HKw.out.cellOf (z0 0 _ rfl) (by simp)
                replace z1 := HKw.out.cellOf (z1 0 _ rfl) (by simp)
                rw [Nat.add_zero] at z0 z1
                have d1 : decide ((n : Int) ≤ (i : Int)) = false := by simp; omega
                have d2 : decide ((i : Int) < (n : Int)) = true := by simp; omega
                have d3 : decide (n ≤ i) = false := by simp; omega
                have d4 : decide (i < n) = true := by simp; omega
                have i1 : (i : Int) < (n : Int) := by omega
                have hcc : ((c : Int) != (c : Int)) = false := by simp
                clear x0 x1 x2
                go_upto_region 17 with (fail)
                refine wp_region_held_drew (S := fun w' => Kept [] wr w') (by kernel_rfl) ((Kept.refl [] wr).drew) (fun h0 => ?_)
                generalize World.drew wr = v0 at h0 ⊢
                refine wpAnyH_take (i := 0) (v := .int .i64 i) rfl (by kernel_rfl) (by kernel_rfl) (by kernel_rfl) (fun _ _ _ h => h) (Or.inl ⟨by rfl, fun w hSw => by go_simp⟩) h0 ?_
                try simp only [List.getElem_toArray, List.getElem_cons_zero, List.getElem_cons_succ, Act.put, List.setIfInBounds_toArray, List.set_cons_zero, List.set_cons_succ]
                refine wpAnyH_take (i := 1) (v := .pointer (some ⟨xb, 0, none⟩)) rfl (by kernel_rfl) (by kernel_rfl) (by kernel_rfl) (fun _ _ _ h => h) (Or.inl ⟨by rfl, fun w hSw => by go_simp⟩) h0 ?_
                try simp only [List.getElem_toArray, List.getElem_cons_zero, List.getElem_cons_succ, Act.put, List.setIfInBounds_toArray, List.set_cons_zero, List.set_cons_succ]
                refine wpAnyH_take (i := 2) (v := .slice (some ⟨lb, 0, none⟩) n lc) rfl (by kernel_rfl) (by kernel_rfl) (by kernel_rfl) (fun _ _ _ h => h) (Or.inl ⟨by rfl, fun w hSw => by have c0 := Kept.cellOf hSw y0 (by simp); go_simp⟩) h0 ?_
                try simp only [List.getElem_toArray, List.getElem_cons_zero, List.getElem_cons_succ, Act.put, List.setIfInBounds_toArray, List.set_cons_zero, List.set_cons_succ]
                refine wpAnyH_take (i := 3) (v := .int .i64 n) rfl (by kernel_rfl) (by kernel_rfl) (by kernel_rfl) (fun _ _ _ h => h) (Or.inl ⟨by rfl, fun w hSw => by go_simp⟩) h0 ?_
                try simp only [List.getElem_toArray, List.getElem_cons_zero, List.getElem_cons_succ, Act.put, List.setIfInBounds_toArray, List.set_cons_zero, List.set_cons_succ]
                refine wpAnyH_take (i := 4) (v := .bool true) rfl (by kernel_rfl) (by kernel_rfl) (by kernel_rfl) (fun _ _ _ h => h) (Or.inl ⟨by rfl, fun w hSw => by have c0 := d2; go_simp⟩) h0 ?_
                try simp only [List.getElem_toArray, List.getElem_cons_zero, List.getElem_cons_succ, Act.put, List.setIfInBounds_toArray, List.set_cons_zero, List.set_cons_succ]
                refine wpAnyH_take (i := 5) (v := .bool true) rfl (by kernel_rfl) (by kernel_rfl) (by kernel_rfl) (fun _ _ _ h => h) (Or.inl ⟨by rfl, fun w hSw => by go_simp⟩) h0 ?_
                try simp only [List.getElem_toArray, List.getElem_cons_zero, List.getElem_cons_succ, Act.put, List.setIfInBounds_toArray, List.set_cons_zero, List.set_cons_succ]
                refine wpAnyH_take (i := 6) (v := .pointer (some ⟨xb, 0, none⟩)) rfl (by kernel_rfl) (by kernel_rfl) (by kernel_rfl) (fun _ _ _ h => h) (Or.inl ⟨by rfl, fun w hSw => by go_simp⟩) h0 ?_
                try simp only [List.getElem_toArray, List.getElem_cons_zero, List.getElem_cons_succ, Act.put, List.setIfInBounds_toArray, List.set_cons_zero, List.set_cons_succ]
                refine wpAnyH_take (i := 7) (v := .slice (some ⟨lb, 0, none⟩) n lc) rfl (by kernel_rfl) (by kernel_rfl) (by kernel_rfl) (fun _ _ _ h => h) (Or.inl ⟨by rfl, fun w hSw => by have c0 := Kept.cellOf hSw y0 (by simp); go_simp⟩) h0 ?_
                try simp only [List.getElem_toArray, List.getElem_cons_zero, List.getElem_cons_succ, Act.put, List.setIfInBounds_toArray, List.set_cons_zero, List.set_cons_succ]
                refine wpAnyH_take (i := 8) (v := .int .i64 i) rfl (by kernel_rfl) (by kernel_rfl) (by kernel_rfl) (fun _ _ _ h => h) (Or.inl ⟨by rfl, fun w hSw => by go_simp⟩) h0 ?_
                try simp only [List.getElem_toArray, List.getElem_cons_zero, List.getElem_cons_succ, Act.put, List.setIfInBounds_toArray, List.set_cons_zero, List.set_cons_succ]
                refine wpAnyH_take (i := 9) (v := .pointer (some ⟨lb, i * 4, none⟩)) rfl (by kernel_rfl) (by kernel_rfl) (by kernel_rfl) (fun _ _ _ h => h) (Or.inl ⟨by rfl, fun w hSw => by have c0 := i1; go_simp⟩) h0 ?_
                try simp only [List.getElem_toArray, List.getElem_cons_zero, List.getElem_cons_succ, Act.put, List.setIfInBounds_toArray, List.set_cons_zero, List.set_cons_succ]
                refine wpAnyH_take (i := 10) (v := .pointer (some ⟨lb, i * 4, none⟩)) rfl (by kernel_rfl) (by kernel_rfl) (by kernel_rfl) (fun _ _ _ h => h) (Or.inl ⟨by rfl, fun w hSw => by go_simp⟩) h0 ?_
                try simp only [List.getElem_toArray, List.getElem_cons_zero, List.getElem_cons_succ, Act.put, List.setIfInBounds_toArray, List.set_cons_zero, List.set_cons_succ]
                refine wpAnyH_take (i := 11) (v := .int .i64 (c : Nat)) rfl (by kernel_rfl) (by kernel_rfl) (by kernel_rfl) (fun _ _ _ h => h) (Or.inl ⟨by rfl, fun w hSw => by have c0 := Kept.cellOf hSw z0 (by simp); go_simp⟩) h0 ?_
                try simp only [List.getElem_toArray, List.getElem_cons_zero, List.getElem_cons_succ, Act.put, List.setIfInBounds_toArray, List.set_cons_zero, List.set_cons_succ]
                refine wpAnyH_take (i := 12) (v := .pointer (some ⟨xb, 2, none⟩)) rfl (by kernel_rfl) (by kernel_rfl) (by kernel_rfl) (fun _ _ _ h => h) (Or.inl ⟨by rfl, fun w hSw => by go_simp⟩) h0 ?_
                try simp only [List.getElem_toArray, List.getElem_cons_zero, List.getElem_cons_succ, Act.put, List.setIfInBounds_toArray, List.set_cons_zero, List.set_cons_succ]
                refine wpAnyH_take (i := 13) (v := .int .i64 (c : Nat)) rfl (by kernel_rfl) (by kernel_rfl) (by kernel_rfl) (fun _ _ _ h => h) (Or.inl ⟨by rfl, fun w hSw => by have c0 := Kept.cellOf hSw y2 (by simp); go_simp⟩) h0 ?_
                try simp only [List.getElem_toArray, List.getElem_cons_zero, List.getElem_cons_succ, Act.put, List.setIfInBounds_toArray, List.set_cons_zero, List.set_cons_succ]
                refine wpAnyH_take (i := 14) (v := .bool false) rfl (by kernel_rfl) (by kernel_rfl) (by kernel_rfl) (fun _ _ _ h => h) (Or.inl ⟨by rfl, fun w hSw => by have c0 := hcc; go_simp⟩) h0 ?_
                try simp only [List.getElem_toArray, List.getElem_cons_zero, List.getElem_cons_succ, Act.put, List.setIfInBounds_toArray, List.set_cons_zero, List.set_cons_succ]
                refine wpAnyH_take (i := 15) (v := .bool false) rfl (by kernel_rfl) (by kernel_rfl) (by kernel_rfl) (fun _ _ _ h => h) (Or.inl ⟨by rfl, fun w hSw => by go_simp⟩) h0 ?_
                try simp only [List.getElem_toArray, List.getElem_cons_zero, List.getElem_cons_succ, Act.put, List.setIfInBounds_toArray, List.set_cons_zero, List.set_cons_succ]
                refine wpAnyH_take (i := 16) (v := .pointer (some ⟨xb, 1, none⟩)) rfl (by kernel_rfl) (by kernel_rfl) (by kernel_rfl) (fun _ _ _ h => h) (Or.inl ⟨by rfl, fun w hSw => by go_simp⟩) h0 ?_
                try simp only [List.getElem_toArray, List.getElem_cons_zero, List.getElem_cons_succ, Act.put, List.setIfInBounds_toArray, List.set_cons_zero, List.set_cons_succ]
                refine wpAnyH_take (i := 17) (v := .slice (some ⟨gb, 0, none⟩) m gc) rfl (by kernel_rfl) (by kernel_rfl) (by kernel_rfl) (fun _ _ _ h => h) (Or.inl ⟨by rfl, fun w hSw => by have c0 := Kept.cellOf hSw y1 (by simp); go_simp⟩) h0 ?_
                try simp only [List.getElem_toArray, List.getElem_cons_zero, List.getElem_cons_succ, Act.put, List.setIfInBounds_toArray, List.set_cons_zero, List.set_cons_succ]
                refine wpAnyH_take (i := 18) (v := .int .i64 i) rfl (by kernel_rfl) (by kernel_rfl) (by kernel_rfl) (fun _ _ _ h => h) (Or.inl ⟨by rfl, fun w hSw => by go_simp⟩) h0 ?_
                try simp only [List.getElem_toArray, List.getElem_cons_zero, List.getElem_cons_succ, Act.put, List.setIfInBounds_toArray, List.set_cons_zero, List.set_cons_succ]
                refine wpAnyH_take (i := 19) (v := .pointer (some ⟨gb, i * 4, none⟩)) rfl (by kernel_rfl) (by kernel_rfl) (by kernel_rfl) (fun _ _ _ h => h) (Or.inl ⟨by rfl, fun w hSw => by have c0 := i2; go_simp⟩) h0 ?_
                try simp only [List.getElem_toArray, List.getElem_cons_zero, List.getElem_cons_succ, Act.put, List.setIfInBounds_toArray, List.set_cons_zero, List.set_cons_succ]
                refine wpAnyH_take (i := 20) (v := .pointer (some ⟨gb, i * 4, none⟩)) rfl (by kernel_rfl) (by kernel_rfl) (by kernel_rfl) (fun _ _ _ h => h) (Or.inl ⟨by rfl, fun w hSw => by go_simp⟩) h0 ?_
                try simp only [List.getElem_toArray, List.getElem_cons_zero, List.getElem_cons_succ, Act.put, List.setIfInBounds_toArray, List.set_cons_zero, List.set_cons_succ]
                refine wpAnyH_take (i := 21) (v := .int .i64 (c : Nat)) rfl (by kernel_rfl) (by kernel_rfl) (by kernel_rfl) (fun _ _ _ h => h) (Or.inl ⟨by rfl, fun w hSw => by have c0 := Kept.cellOf hSw z1 (by simp); go_simp⟩) h0 ?_
                try simp only [List.getElem_toArray, List.getElem_cons_zero, List.getElem_cons_succ, Act.put, List.setIfInBounds_toArray, List.set_cons_zero, List.set_cons_succ]
                refine wpAnyH_take (i := 22) (v := .pointer (some ⟨xb, 2, none⟩)) rfl (by kernel_rfl) (by kernel_rfl) (by kernel_rfl) (fun _ _ _ h => h) (Or.inl ⟨by rfl, fun w hSw => by go_simp⟩) h0 ?_
                try simp only [List.getElem_toArray, List.getElem_cons_zero, List.getElem_cons_succ, Act.put, List.setIfInBounds_toArray, List.set_cons_zero, List.set_cons_succ]
                refine wpAnyH_take (i := 23) (v := .int .i64 (c : Nat)) rfl (by kernel_rfl) (by kernel_rfl) (by kernel_rfl) (fun _ _ _ h => h) (Or.inl ⟨by rfl, fun w hSw => by have c0 := Kept.cellOf hSw y2 (by simp); go_simp⟩) h0 ?_
                try simp only [List.getElem_toArray, List.getElem_cons_zero, List.getElem_cons_succ, Act.put, List.setIfInBounds_toArray, List.set_cons_zero, List.set_cons_succ]
                refine wpAnyH_take (i := 24) (v := .bool false) rfl (by kernel_rfl) (by kernel_rfl) (by kernel_rfl) (fun _ _ _ h => h) (Or.inl ⟨by rfl, fun w hSw => by have c0 := hcc; go_simp⟩) h0 ?_
                try simp only [List.getElem_toArray, List.getElem_cons_zero, List.getElem_cons_succ, Act.put, List.setIfInBounds_toArray, List.set_cons_zero, List.set_cons_succ]
                refine wpAnyH_take (i := 25) (v := .bool false) rfl (by kernel_rfl) (by kernel_rfl) (by kernel_rfl) (fun _ _ _ h => h) (Or.inl ⟨by rfl, fun w hSw => by go_simp⟩) h0 ?_
                try simp only [List.getElem_toArray, List.getElem_cons_zero, List.getElem_cons_succ, Act.put, List.setIfInBounds_toArray, List.set_cons_zero, List.set_cons_succ]
                refine wpAnyH_take (i := 26) (v := .bool false) rfl (by kernel_rfl) (by kernel_rfl) (by kernel_rfl) (fun _ _ _ h => h) (Or.inl ⟨by rfl, fun w hSw => by go_simp⟩) h0 ?_
                try simp only [List.getElem_toArray, List.getElem_cons_zero, List.getElem_cons_succ, Act.put, List.setIfInBounds_toArray, List.set_cons_zero, List.set_cons_succ]
                refine wpAnyH_take (i := 27) (v := .bool false) rfl (by kernel_rfl) (by kernel_rfl) (by kernel_rfl) (fun _ _ _ h => h) (Or.inl ⟨by rfl, fun w hSw => by go_simp⟩) h0 ?_
                try simp only [List.getElem_toArray, List.getElem_cons_zero, List.getElem_cons_succ, Act.put, List.setIfInBounds_toArray, List.set_cons_zero, List.set_cons_succ]
                refine wpAnyH_take (i := 28) (v := .int .i64 i) rfl (by kernel_rfl) (by kernel_rfl) (by kernel_rfl) (fun _ _ _ h => h) (Or.inl ⟨by rfl, fun w hSw => by go_simp⟩) h0 ?_
                try simp only [List.getElem_toArray, List.getElem_cons_zero, List.getElem_cons_succ, Act.put, List.setIfInBounds_toArray, List.set_cons_zero, List.set_cons_succ]
                refine wpAnyH_take (i := 29) (v := .pointer (some ⟨xb, 0, none⟩)) rfl (by kernel_rfl) (by kernel_rfl) (by kernel_rfl) (fun _ _ _ h => h) (Or.inl ⟨by rfl, fun w hSw => by go_simp⟩) h0 ?_
                try simp only [List.getElem_toArray, List.getElem_cons_zero, List.getElem_cons_succ, Act.put, List.setIfInBounds_toArray, List.set_cons_zero, List.set_cons_succ]
                refine wpAnyH_take (i := 30) (v := .slice (some ⟨lb, 0, none⟩) n lc) rfl (by kernel_rfl) (by kernel_rfl) (by kernel_rfl) (fun _ _ _ h => h) (Or.inl ⟨by rfl, fun w hSw => by have c0 := Kept.cellOf hSw y0 (by simp); go_simp⟩) h0 ?_
                try simp only [List.getElem_toArray, List.getElem_cons_zero, List.getElem_cons_succ, Act.put, List.setIfInBounds_toArray, List.set_cons_zero, List.set_cons_succ]
                refine wpAnyH_take (i := 31) (v := .int .i64 n) rfl (by kernel_rfl) (by kernel_rfl) (by kernel_rfl) (fun _ _ _ h => h) (Or.inl ⟨by rfl, fun w hSw => by go_simp⟩) h0 ?_
                try simp only [List.getElem_toArray, List.getElem_cons_zero, List.getElem_cons_succ, Act.put, List.setIfInBounds_toArray, List.set_cons_zero, List.set_cons_succ]
                refine wpAnyH_take (i := 32) (v := .bool false) rfl (by kernel_rfl) (by kernel_rfl) (by kernel_rfl) (fun _ _ _ h => h) (Or.inl ⟨by rfl, fun w hSw => by have c0 := d1; go_simp⟩) h0 ?_
                try simp only [List.getElem_toArray, List.getElem_cons_zero, List.getElem_cons_succ, Act.put, List.setIfInBounds_toArray, List.set_cons_zero, List.set_cons_succ]
                refine wpAnyH_take (i := 33) (v := .bool false) rfl (by kernel_rfl) (by kernel_rfl) (by kernel_rfl) (fun _ _ _ h => h) (Or.inl ⟨by rfl, fun w hSw => by go_simp⟩) h0 ?_
                try simp only [List.getElem_toArray, List.getElem_cons_zero, List.getElem_cons_succ, Act.put, List.setIfInBounds_toArray, List.set_cons_zero, List.set_cons_succ]
                refine wpAnyH_take (i := 34) (v := undef) rfl (by kernel_rfl) (by kernel_rfl) (by kernel_rfl) (fun _ _ _ h => h) (Or.inr ⟨by rfl, rfl⟩) h0 ?_
                try simp only [List.getElem_toArray, List.getElem_cons_zero, List.getElem_cons_succ, Act.put, List.setIfInBounds_toArray, List.set_cons_zero, List.set_cons_succ]
                refine wpAnyH_take (i := 35) (v := undef) rfl (by kernel_rfl) (by kernel_rfl) (by kernel_rfl) (fun _ _ _ h => h) (Or.inr ⟨by rfl, rfl⟩) h0 ?_
                try simp only [List.getElem_toArray, List.getElem_cons_zero, List.getElem_cons_succ, Act.put, List.setIfInBounds_toArray, List.set_cons_zero, List.set_cons_succ]
                refine wpAnyH_take (i := 36) (v := undef) rfl (by kernel_rfl) (by kernel_rfl) (by kernel_rfl) (fun _ _ _ h => h) (Or.inr ⟨by rfl, rfl⟩) h0 ?_
                try simp only [List.getElem_toArray, List.getElem_cons_zero, List.getElem_cons_succ, Act.put, List.setIfInBounds_toArray, List.set_cons_zero, List.set_cons_succ]
                refine wpAnyH_take (i := 37) (v := undef) rfl (by kernel_rfl) (by kernel_rfl) (by kernel_rfl) (fun _ _ _ h => h) (Or.inr ⟨by rfl, rfl⟩) h0 ?_
                try simp only [List.getElem_toArray, List.getElem_cons_zero, List.getElem_cons_succ, Act.put, List.setIfInBounds_toArray, List.set_cons_zero, List.set_cons_succ]
                refine wpAnyH_take (i := 38) (v := undef) rfl (by kernel_rfl) (by kernel_rfl) (by kernel_rfl) (fun _ _ _ h => h) (Or.inr ⟨by rfl, rfl⟩) h0 ?_
                try simp only [List.getElem_toArray, List.getElem_cons_zero, List.getElem_cons_succ, Act.put, List.setIfInBounds_toArray, List.set_cons_zero, List.set_cons_succ]
                refine wpAnyH_take (i := 39) (v := undef) rfl (by kernel_rfl) (by kernel_rfl) (by kernel_rfl) (fun _ _ _ h => h) (Or.inr ⟨by rfl, rfl⟩) h0 ?_
                try simp only [List.getElem_toArray, List.getElem_cons_zero, List.getElem_cons_succ, Act.put, List.setIfInBounds_toArray, List.set_cons_zero, List.set_cons_succ]
                refine wpAnyH_take (i := 40) (v := undef) rfl (by kernel_rfl) (by kernel_rfl) (by kernel_rfl) (fun _ _ _ h => h) (Or.inr ⟨by rfl, rfl⟩) h0 ?_
                try simp only [List.getElem_toArray, List.getElem_cons_zero, List.getElem_cons_succ, Act.put, List.setIfInBounds_toArray, List.set_cons_zero, List.set_cons_succ]
                refine wpAnyH_take (i := 41) (v := undef) rfl (by kernel_rfl) (by kernel_rfl) (by kernel_rfl) (fun _ _ _ h => h) (Or.inr ⟨by rfl, rfl⟩) h0 ?_
                try simp only [List.getElem_toArray, List.getElem_cons_zero, List.getElem_cons_succ, Act.put, List.setIfInBounds_toArray, List.set_cons_zero, List.set_cons_succ]
                refine wpAnyH_take (i := 42) (v := undef) rfl (by kernel_rfl) (by kernel_rfl) (by kernel_rfl) (fun _ _ _ h => h) (Or.inr ⟨by rfl, rfl⟩) h0 ?_
                try simp only [List.getElem_toArray, List.getElem_cons_zero, List.getElem_cons_succ, Act.put, List.setIfInBounds_toArray, List.set_cons_zero, List.set_cons_succ]
                refine wpAnyH_take (i := 43) (v := undef) rfl (by kernel_rfl) (by kernel_rfl) (by kernel_rfl) (fun _ _ _ h => h) (Or.inr ⟨by rfl, rfl⟩) h0 ?_
                try simp only [List.getElem_toArray, List.getElem_cons_zero, List.getElem_cons_succ, Act.put, List.setIfInBounds_toArray, List.set_cons_zero, List.set_cons_succ]
                refine wpAnyH_take (i := 44) (v := .bool false) rfl (by kernel_rfl) (by kernel_rfl) (by kernel_rfl) (fun _ _ _ h => h) (Or.inl ⟨by rfl, fun w hSw => by go_simp⟩) h0 ?_
                try simp only [List.getElem_toArray, List.getElem_cons_zero, List.getElem_cons_succ, Act.put, List.setIfInBounds_toArray, List.set_cons_zero, List.set_cons_succ]
                refine wpAnyH_take (i := 45) (v := .bool false) rfl (by kernel_rfl) (by kernel_rfl) (by kernel_rfl) (fun _ _ _ h => h) (Or.inl ⟨by rfl, fun w hSw => by go_simp⟩) h0 ?_
                try simp only [List.getElem_toArray, List.getElem_cons_zero, List.getElem_cons_succ, Act.put, List.setIfInBounds_toArray, List.set_cons_zero, List.set_cons_succ]
                refine wpAnyH_done (by kernel_rfl) ?_ _
                go_wp2
                go_roundw
                case rel => exact ⟨i + 1, by omega, by go_num, HK2.out.trans h0 (by simp)⟩
                case measure => simp [intOf]; omega
              · as_aux_lemma =>
                have z1 := HG.out i hlt2
                rw [if_neg hin] at z1
                obtain ⟨gb, hgo, z1⟩ := rw_cellL HRG.out.1 (by rw [HRG.out.2.1]; exact hlt2) z1
                rw [HRG.out.2.2] at hgo
                subst hgo
                have zr : wr.rangeAt gb (i * 4) [.int .i64 ((c : Int) + 1), .int .i64 0, .int .i64 0, .int .i64 0] := fun j v hv => HKw.out.cellOf (z1 j v (by rw [yL, show ((c + 1 : Nat) : Int) = (c : Int) + 1 by push_cast; rfl]; exact hv)) (by simp)
                have hw : IntKind.i64.wrap ((c : Int) + 1) = (c : Int) + 1 := by rw [IntKind.wrap_i64]; omega
                have heq := Try.eqlBlk ((c : Int) + 1) 0 0 0
                clear z1
                have d1 : decide ((n : Int) ≤ (i : Int)) = true := by simp; omega
                have d2 : decide ((i : Int) < (n : Int)) = false := by simp; omega
                have d3 : decide (n ≤ i) = true := by simp; omega
                have d4 : decide (i < n) = false := by simp; omega
                have hcc : ((c : Int) + 1 != (c : Int) + 1) = false := by simp
                clear x0 x1 x2
                go_upto_region 17 with (fail)
                refine wp_region_held_drew (S := fun w' => Kept [] wr w') (by kernel_rfl) ((Kept.refl [] wr).drew) (fun h0 => ?_)
                generalize World.drew wr = v0 at h0 ⊢
                refine wpAnyH_take (i := 0) (v := .int .i64 i) rfl (by kernel_rfl) (by kernel_rfl) (by kernel_rfl) (fun _ _ _ h => h) (Or.inl ⟨by rfl, fun w hSw => by go_simp⟩) h0 ?_
                try simp only [List.getElem_toArray, List.getElem_cons_zero, List.getElem_cons_succ, Act.put, List.setIfInBounds_toArray, List.set_cons_zero, List.set_cons_succ]
                refine wpAnyH_take (i := 1) (v := .pointer (some ⟨xb, 0, none⟩)) rfl (by kernel_rfl) (by kernel_rfl) (by kernel_rfl) (fun _ _ _ h => h) (Or.inl ⟨by rfl, fun w hSw => by go_simp⟩) h0 ?_
                try simp only [List.getElem_toArray, List.getElem_cons_zero, List.getElem_cons_succ, Act.put, List.setIfInBounds_toArray, List.set_cons_zero, List.set_cons_succ]
                refine wpAnyH_take (i := 2) (v := .slice lo n lc) rfl (by kernel_rfl) (by kernel_rfl) (by kernel_rfl) (fun _ _ _ h => h) (Or.inl ⟨by rfl, fun w hSw => by have c0 := Kept.cellOf hSw y0 (by simp); go_simp⟩) h0 ?_
                try simp only [List.getElem_toArray, List.getElem_cons_zero, List.getElem_cons_succ, Act.put, List.setIfInBounds_toArray, List.set_cons_zero, List.set_cons_succ]
                refine wpAnyH_take (i := 3) (v := .int .i64 n) rfl (by kernel_rfl) (by kernel_rfl) (by kernel_rfl) (fun _ _ _ h => h) (Or.inl ⟨by rfl, fun w hSw => by go_simp⟩) h0 ?_
                try simp only [List.getElem_toArray, List.getElem_cons_zero, List.getElem_cons_succ, Act.put, List.setIfInBounds_toArray, List.set_cons_zero, List.set_cons_succ]
                refine wpAnyH_take (i := 4) (v := .bool false) rfl (by kernel_rfl) (by kernel_rfl) (by kernel_rfl) (fun _ _ _ h => h) (Or.inl ⟨by rfl, fun w hSw => by have c0 := d2; go_simp⟩) h0 ?_
                try simp only [List.getElem_toArray, List.getElem_cons_zero, List.getElem_cons_succ, Act.put, List.setIfInBounds_toArray, List.set_cons_zero, List.set_cons_succ]
                refine wpAnyH_take (i := 5) (v := .bool false) rfl (by kernel_rfl) (by kernel_rfl) (by kernel_rfl) (fun _ _ _ h => h) (Or.inl ⟨by rfl, fun w hSw => by go_simp⟩) h0 ?_
                try simp only [List.getElem_toArray, List.getElem_cons_zero, List.getElem_cons_succ, Act.put, List.setIfInBounds_toArray, List.set_cons_zero, List.set_cons_succ]
                refine wpAnyH_take (i := 6) (v := undef) rfl (by kernel_rfl) (by kernel_rfl) (by kernel_rfl) (fun _ _ _ h => h) (Or.inr ⟨by rfl, rfl⟩) h0 ?_
                try simp only [List.getElem_toArray, List.getElem_cons_zero, List.getElem_cons_succ, Act.put, List.setIfInBounds_toArray, List.set_cons_zero, List.set_cons_succ]
                refine wpAnyH_take (i := 7) (v := undef) rfl (by kernel_rfl) (by kernel_rfl) (by kernel_rfl) (fun _ _ _ h => h) (Or.inr ⟨by rfl, rfl⟩) h0 ?_
                try simp only [List.getElem_toArray, List.getElem_cons_zero, List.getElem_cons_succ, Act.put, List.setIfInBounds_toArray, List.set_cons_zero, List.set_cons_succ]
                refine wpAnyH_take (i := 8) (v := undef) rfl (by kernel_rfl) (by kernel_rfl) (by kernel_rfl) (fun _ _ _ h => h) (Or.inr ⟨by rfl, rfl⟩) h0 ?_
                try simp only [List.getElem_toArray, List.getElem_cons_zero, List.getElem_cons_succ, Act.put, List.setIfInBounds_toArray, List.set_cons_zero, List.set_cons_succ]
                refine wpAnyH_take (i := 9) (v := undef) rfl (by kernel_rfl) (by kernel_rfl) (by kernel_rfl) (fun _ _ _ h => h) (Or.inr ⟨by rfl, rfl⟩) h0 ?_
                try simp only [List.getElem_toArray, List.getElem_cons_zero, List.getElem_cons_succ, Act.put, List.setIfInBounds_toArray, List.set_cons_zero, List.set_cons_succ]
                refine wpAnyH_take (i := 10) (v := undef) rfl (by kernel_rfl) (by kernel_rfl) (by kernel_rfl) (fun _ _ _ h => h) (Or.inr ⟨by rfl, rfl⟩) h0 ?_
                try simp only [List.getElem_toArray, List.getElem_cons_zero, List.getElem_cons_succ, Act.put, List.setIfInBounds_toArray, List.set_cons_zero, List.set_cons_succ]
                refine wpAnyH_take (i := 11) (v := undef) rfl (by kernel_rfl) (by kernel_rfl) (by kernel_rfl) (fun _ _ _ h => h) (Or.inr ⟨by rfl, rfl⟩) h0 ?_
                try simp only [List.getElem_toArray, List.getElem_cons_zero, List.getElem_cons_succ, Act.put, List.setIfInBounds_toArray, List.set_cons_zero, List.set_cons_succ]
                refine wpAnyH_take (i := 12) (v := undef) rfl (by kernel_rfl) (by kernel_rfl) (by kernel_rfl) (fun _ _ _ h => h) (Or.inr ⟨by rfl, rfl⟩) h0 ?_
                try simp only [List.getElem_toArray, List.getElem_cons_zero, List.getElem_cons_succ, Act.put, List.setIfInBounds_toArray, List.set_cons_zero, List.set_cons_succ]
                refine wpAnyH_take (i := 13) (v := undef) rfl (by kernel_rfl) (by kernel_rfl) (by kernel_rfl) (fun _ _ _ h => h) (Or.inr ⟨by rfl, rfl⟩) h0 ?_
                try simp only [List.getElem_toArray, List.getElem_cons_zero, List.getElem_cons_succ, Act.put, List.setIfInBounds_toArray, List.set_cons_zero, List.set_cons_succ]
                refine wpAnyH_take (i := 14) (v := undef) rfl (by kernel_rfl) (by kernel_rfl) (by kernel_rfl) (fun _ _ _ h => h) (Or.inr ⟨by rfl, rfl⟩) h0 ?_
                try simp only [List.getElem_toArray, List.getElem_cons_zero, List.getElem_cons_succ, Act.put, List.setIfInBounds_toArray, List.set_cons_zero, List.set_cons_succ]
                refine wpAnyH_take (i := 15) (v := undef) rfl (by kernel_rfl) (by kernel_rfl) (by kernel_rfl) (fun _ _ _ h => h) (Or.inr ⟨by rfl, rfl⟩) h0 ?_
                try simp only [List.getElem_toArray, List.getElem_cons_zero, List.getElem_cons_succ, Act.put, List.setIfInBounds_toArray, List.set_cons_zero, List.set_cons_succ]
                refine wpAnyH_take (i := 16) (v := undef) rfl (by kernel_rfl) (by kernel_rfl) (by kernel_rfl) (fun _ _ _ h => h) (Or.inr ⟨by rfl, rfl⟩) h0 ?_
                try simp only [List.getElem_toArray, List.getElem_cons_zero, List.getElem_cons_succ, Act.put, List.setIfInBounds_toArray, List.set_cons_zero, List.set_cons_succ]
                refine wpAnyH_take (i := 17) (v := undef) rfl (by kernel_rfl) (by kernel_rfl) (by kernel_rfl) (fun _ _ _ h => h) (Or.inr ⟨by rfl, rfl⟩) h0 ?_
                try simp only [List.getElem_toArray, List.getElem_cons_zero, List.getElem_cons_succ, Act.put, List.setIfInBounds_toArray, List.set_cons_zero, List.set_cons_succ]
                refine wpAnyH_take (i := 18) (v := undef) rfl (by kernel_rfl) (by kernel_rfl) (by kernel_rfl) (fun _ _ _ h => h) (Or.inr ⟨by rfl, rfl⟩) h0 ?_
                try simp only [List.getElem_toArray, List.getElem_cons_zero, List.getElem_cons_succ, Act.put, List.setIfInBounds_toArray, List.set_cons_zero, List.set_cons_succ]
                refine wpAnyH_take (i := 19) (v := undef) rfl (by kernel_rfl) (by kernel_rfl) (by kernel_rfl) (fun _ _ _ h => h) (Or.inr ⟨by rfl, rfl⟩) h0 ?_
                try simp only [List.getElem_toArray, List.getElem_cons_zero, List.getElem_cons_succ, Act.put, List.setIfInBounds_toArray, List.set_cons_zero, List.set_cons_succ]
                refine wpAnyH_take (i := 20) (v := undef) rfl (by kernel_rfl) (by kernel_rfl) (by kernel_rfl) (fun _ _ _ h => h) (Or.inr ⟨by rfl, rfl⟩) h0 ?_
                try simp only [List.getElem_toArray, List.getElem_cons_zero, List.getElem_cons_succ, Act.put, List.setIfInBounds_toArray, List.set_cons_zero, List.set_cons_succ]
                refine wpAnyH_take (i := 21) (v := undef) rfl (by kernel_rfl) (by kernel_rfl) (by kernel_rfl) (fun _ _ _ h => h) (Or.inr ⟨by rfl, rfl⟩) h0 ?_
                try simp only [List.getElem_toArray, List.getElem_cons_zero, List.getElem_cons_succ, Act.put, List.setIfInBounds_toArray, List.set_cons_zero, List.set_cons_succ]
                refine wpAnyH_take (i := 22) (v := undef) rfl (by kernel_rfl) (by kernel_rfl) (by kernel_rfl) (fun _ _ _ h => h) (Or.inr ⟨by rfl, rfl⟩) h0 ?_
                try simp only [List.getElem_toArray, List.getElem_cons_zero, List.getElem_cons_succ, Act.put, List.setIfInBounds_toArray, List.set_cons_zero, List.set_cons_succ]
                refine wpAnyH_take (i := 23) (v := undef) rfl (by kernel_rfl) (by kernel_rfl) (by kernel_rfl) (fun _ _ _ h => h) (Or.inr ⟨by rfl, rfl⟩) h0 ?_
                try simp only [List.getElem_toArray, List.getElem_cons_zero, List.getElem_cons_succ, Act.put, List.setIfInBounds_toArray, List.set_cons_zero, List.set_cons_succ]
                refine wpAnyH_take (i := 24) (v := undef) rfl (by kernel_rfl) (by kernel_rfl) (by kernel_rfl) (fun _ _ _ h => h) (Or.inr ⟨by rfl, rfl⟩) h0 ?_
                try simp only [List.getElem_toArray, List.getElem_cons_zero, List.getElem_cons_succ, Act.put, List.setIfInBounds_toArray, List.set_cons_zero, List.set_cons_succ]
                refine wpAnyH_take (i := 25) (v := undef) rfl (by kernel_rfl) (by kernel_rfl) (by kernel_rfl) (fun _ _ _ h => h) (Or.inr ⟨by rfl, rfl⟩) h0 ?_
                try simp only [List.getElem_toArray, List.getElem_cons_zero, List.getElem_cons_succ, Act.put, List.setIfInBounds_toArray, List.set_cons_zero, List.set_cons_succ]
                refine wpAnyH_take (i := 26) (v := .bool false) rfl (by kernel_rfl) (by kernel_rfl) (by kernel_rfl) (fun _ _ _ h => h) (Or.inl ⟨by rfl, fun w hSw => by go_simp⟩) h0 ?_
                try simp only [List.getElem_toArray, List.getElem_cons_zero, List.getElem_cons_succ, Act.put, List.setIfInBounds_toArray, List.set_cons_zero, List.set_cons_succ]
                refine wpAnyH_take (i := 27) (v := .bool false) rfl (by kernel_rfl) (by kernel_rfl) (by kernel_rfl) (fun _ _ _ h => h) (Or.inl ⟨by rfl, fun w hSw => by go_simp⟩) h0 ?_
                try simp only [List.getElem_toArray, List.getElem_cons_zero, List.getElem_cons_succ, Act.put, List.setIfInBounds_toArray, List.set_cons_zero, List.set_cons_succ]
                refine wpAnyH_take (i := 28) (v := .int .i64 i) rfl (by kernel_rfl) (by kernel_rfl) (by kernel_rfl) (fun _ _ _ h => h) (Or.inl ⟨by rfl, fun w hSw => by go_simp⟩) h0 ?_
                try simp only [List.getElem_toArray, List.getElem_cons_zero, List.getElem_cons_succ, Act.put, List.setIfInBounds_toArray, List.set_cons_zero, List.set_cons_succ]
                refine wpAnyH_take (i := 29) (v := .pointer (some ⟨xb, 0, none⟩)) rfl (by kernel_rfl) (by kernel_rfl) (by kernel_rfl) (fun _ _ _ h => h) (Or.inl ⟨by rfl, fun w hSw => by go_simp⟩) h0 ?_
                try simp only [List.getElem_toArray, List.getElem_cons_zero, List.getElem_cons_succ, Act.put, List.setIfInBounds_toArray, List.set_cons_zero, List.set_cons_succ]
                refine wpAnyH_take (i := 30) (v := .slice lo n lc) rfl (by kernel_rfl) (by kernel_rfl) (by kernel_rfl) (fun _ _ _ h => h) (Or.inl ⟨by rfl, fun w hSw => by have c0 := Kept.cellOf hSw y0 (by simp); go_simp⟩) h0 ?_
                try simp only [List.getElem_toArray, List.getElem_cons_zero, List.getElem_cons_succ, Act.put, List.setIfInBounds_toArray, List.set_cons_zero, List.set_cons_succ]
                refine wpAnyH_take (i := 31) (v := .int .i64 n) rfl (by kernel_rfl) (by kernel_rfl) (by kernel_rfl) (fun _ _ _ h => h) (Or.inl ⟨by rfl, fun w hSw => by go_simp⟩) h0 ?_
                try simp only [List.getElem_toArray, List.getElem_cons_zero, List.getElem_cons_succ, Act.put, List.setIfInBounds_toArray, List.set_cons_zero, List.set_cons_succ]
                refine wpAnyH_take (i := 32) (v := .bool true) rfl (by kernel_rfl) (by kernel_rfl) (by kernel_rfl) (fun _ _ _ h => h) (Or.inl ⟨by rfl, fun w hSw => by have c0 := d1; go_simp⟩) h0 ?_
                try simp only [List.getElem_toArray, List.getElem_cons_zero, List.getElem_cons_succ, Act.put, List.setIfInBounds_toArray, List.set_cons_zero, List.set_cons_succ]
                refine wpAnyH_take (i := 33) (v := .bool true) rfl (by kernel_rfl) (by kernel_rfl) (by kernel_rfl) (fun _ _ _ h => h) (Or.inl ⟨by rfl, fun w hSw => by go_simp⟩) h0 ?_
                try simp only [List.getElem_toArray, List.getElem_cons_zero, List.getElem_cons_succ, Act.put, List.setIfInBounds_toArray, List.set_cons_zero, List.set_cons_succ]
                refine wpAnyH_take (i := 34) (v := .pointer (some ⟨xb, 1, none⟩)) rfl (by kernel_rfl) (by kernel_rfl) (by kernel_rfl) (fun _ _ _ h => h) (Or.inl ⟨by rfl, fun w hSw => by go_simp⟩) h0 ?_
                try simp only [List.getElem_toArray, List.getElem_cons_zero, List.getElem_cons_succ, Act.put, List.setIfInBounds_toArray, List.set_cons_zero, List.set_cons_succ]
                refine wpAnyH_take (i := 35) (v := .slice (some ⟨gb, 0, none⟩) m gc) rfl (by kernel_rfl) (by kernel_rfl) (by kernel_rfl) (fun _ _ _ h => h) (Or.inl ⟨by rfl, fun w hSw => by have c0 := Kept.cellOf hSw y1 (by simp); go_simp⟩) h0 ?_
                try simp only [List.getElem_toArray, List.getElem_cons_zero, List.getElem_cons_succ, Act.put, List.setIfInBounds_toArray, List.set_cons_zero, List.set_cons_succ]
                refine wpAnyH_take (i := 36) (v := .int .i64 i) rfl (by kernel_rfl) (by kernel_rfl) (by kernel_rfl) (fun _ _ _ h => h) (Or.inl ⟨by rfl, fun w hSw => by go_simp⟩) h0 ?_
                try simp only [List.getElem_toArray, List.getElem_cons_zero, List.getElem_cons_succ, Act.put, List.setIfInBounds_toArray, List.set_cons_zero, List.set_cons_succ]
                refine wpAnyH_take (i := 37) (v := .pointer (some ⟨gb, i * 4, none⟩)) rfl (by kernel_rfl) (by kernel_rfl) (by kernel_rfl) (fun _ _ _ h => h) (Or.inl ⟨by rfl, fun w hSw => by have c0 := i2; go_simp⟩) h0 ?_
                try simp only [List.getElem_toArray, List.getElem_cons_zero, List.getElem_cons_succ, Act.put, List.setIfInBounds_toArray, List.set_cons_zero, List.set_cons_succ]
                refine wpAnyH_take (i := 38) (v := .agg #[.int .i64 ((c : Int) + 1), .int .i64 0, .int .i64 0, .int .i64 0]) rfl (by kernel_rfl) (by kernel_rfl) (by kernel_rfl) (fun _ _ _ h => h) (yieldsIf_load_mid (by rfl) _ _ rfl gb (i * 4) rfl _ _ (fun w h j v hv => Kept.cellOf h (zr j v hv) (by simp)) Try.underlying45 rfl Try.infoBlk4) h0 ?_
                try simp only [List.getElem_toArray, List.getElem_cons_zero, List.getElem_cons_succ, Act.put, List.setIfInBounds_toArray, List.set_cons_zero, List.set_cons_succ]
                refine wpAnyH_take (i := 39) (v := .pointer (some ⟨xb, 2, none⟩)) rfl (by kernel_rfl) (by kernel_rfl) (by kernel_rfl) (fun _ _ _ h => h) (Or.inl ⟨by rfl, fun w hSw => by go_simp⟩) h0 ?_
                try simp only [List.getElem_toArray, List.getElem_cons_zero, List.getElem_cons_succ, Act.put, List.setIfInBounds_toArray, List.set_cons_zero, List.set_cons_succ]
                refine wpAnyH_take (i := 40) (v := .int .i64 (c : Nat)) rfl (by kernel_rfl) (by kernel_rfl) (by kernel_rfl) (fun _ _ _ h => h) (Or.inl ⟨by rfl, fun w hSw => by have c0 := Kept.cellOf hSw y2 (by simp); go_simp⟩) h0 ?_
                try simp only [List.getElem_toArray, List.getElem_cons_zero, List.getElem_cons_succ, Act.put, List.setIfInBounds_toArray, List.set_cons_zero, List.set_cons_succ]
                refine wpAnyH_take (i := 41) (v := .int .i64 ((c : Int) + 1)) rfl (by kernel_rfl) (by kernel_rfl) (by kernel_rfl) (fun _ _ _ h => h) (Or.inl ⟨by rfl, fun w hSw => by have c0 := hw; go_simp⟩) h0 ?_
                try simp only [List.getElem_toArray, List.getElem_cons_zero, List.getElem_cons_succ, Act.put, List.setIfInBounds_toArray, List.set_cons_zero, List.set_cons_succ]
                refine wpAnyH_take (i := 42) (v := .agg #[.int .i64 ((c : Int) + 1), .int .i64 0, .int .i64 0, .int .i64 0]) rfl (by kernel_rfl) (by kernel_rfl) (by kernel_rfl) (fun _ _ _ h => h) (Or.inl ⟨by rfl, fun w hSw => by have c0 := hzb; go_simp⟩) h0 ?_
                try simp only [List.getElem_toArray, List.getElem_cons_zero, List.getElem_cons_succ, Act.put, List.setIfInBounds_toArray, List.set_cons_zero, List.set_cons_succ]
                refine wpAnyH_take (i := 43) (v := .bool false) rfl (by kernel_rfl) (by kernel_rfl) (by kernel_rfl) (fun _ _ _ h => h) (Or.inl ⟨by rfl, fun w hSw => by have c0 := heq w; go_simp⟩) h0 ?_
                try simp only [List.getElem_toArray, List.getElem_cons_zero, List.getElem_cons_succ, Act.put, List.setIfInBounds_toArray, List.set_cons_zero, List.set_cons_succ]
                refine wpAnyH_take (i := 44) (v := .bool false) rfl (by kernel_rfl) (by kernel_rfl) (by kernel_rfl) (fun _ _ _ h => h) (Or.inl ⟨by rfl, fun w hSw => by go_simp⟩) h0 ?_
                try simp only [List.getElem_toArray, List.getElem_cons_zero, List.getElem_cons_succ, Act.put, List.setIfInBounds_toArray, List.set_cons_zero, List.set_cons_succ]
                refine wpAnyH_take (i := 45) (v := .bool false) rfl (by kernel_rfl) (by kernel_rfl) (by kernel_rfl) (fun _ _ _ h => h) (Or.inl ⟨by rfl, fun w hSw => by go_simp⟩) h0 ?_
                try simp only [List.getElem_toArray, List.getElem_cons_zero, List.getElem_cons_succ, Act.put, List.setIfInBounds_toArray, List.set_cons_zero, List.set_cons_succ]
                refine wpAnyH_done (by kernel_rfl) ?_ _
                go_wp2
                go_roundw
                case rel => exact ⟨i + 1, by omega, by go_num, HK2.out.trans h0 (by simp)⟩
                case measure => simp [intOf]; omega
            · as_aux_lemma =>
              go_wp2
              go_roundw
              case rel => exact ⟨k + 1, by omega, by go_num, HKw⟩
              case measure => simp [intOf]; omega
        · as_aux_lemma =>
          go_wp2
          go_ret
          exact ⟨rfl, HK.out⟩

end Go.Proofs.Ytdnbpklnkmgmkaa
