/-
  Contracts: the statements' own Book: still.
-/
import Derived.Test.YtjmameknbnflaabBo1
namespace Go.Proofs.Ytjmameknbnflaab
open Go.RowKit
set_option linter.unusedVariables false
set_option linter.unusedSimpArgs false

def en0 : En := ⟨none, 0, 0, none, 0, 0, 0⟩
theorem enRow_get (es : List En) (k j : Nat) (hk : k < es.length) (hj : j < 3) : (enRow es)[k * 3 + j]? = (es.getD k en0).cells[j]? := by
  induction es generalizing k with
  | nil => simp at hk
  | cons e es ih =>
    have hc : e.cells.length = 3 := rfl
    cases k with
    | zero =>
      simp only [enRow, List.flatMap_cons, Nat.zero_mul, Nat.zero_add, List.getD_cons_zero]
      rw [List.getElem?_append_left (by omega)]
    | succ k =>
      simp only [enRow, List.flatMap_cons, List.getD_cons_succ]
      rw [List.getElem?_append_right (by omega), hc, show (k + 1) * 3 + j - 3 = k * 3 + j by omega]
      exact ih k (by simpa using hk)

/-- A row of the book as it should be. -/
structure EnR (w : World) (e : En) : Prop where
  sl : Sl w e.lo (List.replicate e.n e.mc)
  sg : Sl w e.go e.row
  le : e.n ≤ e.m
  low : e.mc.toNat ≤ 199
  max : e.m ≤ 1000000000000

theorem En.row_len {e : En} (h : e.n ≤ e.m) : e.row.length = e.m := by simp [En.row]; omega

/-- The cells of a row of the book. -/
theorem Bk.at {w : World} {base B : Nat} {ro : Option Addr} {L rc : Nat} {es : List En} (h : Bk w base B (.slice ro L rc) es) {k : Nat} (hk : k < es.length) :
    ∃ rg, ro = some ⟨rg, 0, none⟩ ∧ w.cell? ⟨rg, k * 3, none⟩ = some (.slice (es.getD k en0).lo (es.getD k en0).n (es.getD k en0).lc) ∧ w.cell? ⟨rg, k * 3 + 1, none⟩ = some (.slice (es.getD k en0).go (es.getD k en0).m (es.getD k en0).gc) ∧ w.cell? ⟨rg, k * 3 + 2, none⟩ = some (.int .u8 (es.getD k en0).mc.toNat) := by
  obtain ⟨rg, rc', hrv, _, _⟩ := h.own.form (by omega)
  have hro : ro = some ⟨rg, 0, none⟩ := by injection hrv
  subst hro
  have hc := h.own.cells (g := rg) rfl
  refine ⟨rg, rfl, ?_, ?_, ?_⟩
  · have := hc (k * 3 + 0) _ (enRow_get es k 0 hk (by omega))
    rw [Addr.add_mid, Nat.zero_add] at this
    exact this
  · have := hc (k * 3 + 1) _ (enRow_get es k 1 hk (by omega))
    rw [Addr.add_mid, Nat.zero_add] at this
    exact this
  · have := hc (k * 3 + 2) _ (enRow_get es k 2 hk (by omega))
    rw [Addr.add_mid, Nat.zero_add] at this
    exact this

set_option maxHeartbeats 1500000 in
set_option maxRecDepth 100000 in
theorem bkstill_ok {w : World} {base B : Nat} {rv : Value} {es : List En} (h : Bk w base B rv es) (hes : es.length ≤ 1000) (hall : ∀ i, i < es.length → EnR w (es.getD i en0)) :
    Calls Try.prog 32 #[.pointer (some ⟨B, 0, none⟩)] w fun e w' => e = .returned (.bool true) ∧ Kept [] w w' := by
  obtain ⟨ro, rc, rfl⟩ := own_shape h.own
  obtain ⟨L, hL⟩ : ∃ L, L = es.length := ⟨_, rfl⟩
  have HLE : Hid (L = es.length) := hL
  rw [← hL] at h hes
  clear hL
  have HBK : Hid (Bk w base B (.slice ro L rc) es) := h
  have HALL : Hid (∀ i, i < L → EnR w (es.getD i en0)) := fun i hi => hall i (by rw [← HLE.out]; exact hi)
  have hz := Try.zeroRow
  have h0 := h.c0
  clear h hall
  go_enter Try.func32, Try.ntmps32
  go_wp2
  go_loopw [3] (fun y wr => ∃ k : Nat, k ≤ L ∧ y = .int .i64 k ∧ Hid (Kept [] w wr)) (fun y wr => L - (intOf y).toNat)
  case atStart => exact ⟨0, Nat.zero_le _, rfl, Kept.refl _ _⟩
  case round =>
    obtain ⟨k, hk, rfl, HK⟩ := hrel
    have h1 := HK.out.cellOf h0 (by simp)
    by_cases hlt : k < L
    · obtain ⟨rg, hro, a0, a1, a2⟩ := HBK.out.at (k := k) (by rw [← HLE.out]; exact hlt)
      subst hro
      have b0 := HK.out.cellOf a0 (by simp)
      have b1 := HK.out.cellOf a1 (by simp)
      have b2 := HK.out.cellOf a2 (by simp)
      have HE := (show Hid _ from HALL.out k hlt)
      generalize es.getD k en0 = e at b0 b1 b2 HE
      obtain ⟨lo, n, lc, go, m, gc, mc⟩ := e
      simp only at b0 b1 b2
      clear a0 a1 a2
      have HKA : Hid (Kept [] w (wr.alloc (.cells #[.slice lo n lc, .slice go m gc, .int .u8 mc.toNat] 92))) := HK.out.alloc _
      obtain ⟨xb, hxb⟩ : ∃ xb, xb = wr.heap.size := ⟨_, rfl⟩
      have x0 : (wr.alloc (.cells #[.slice lo n lc, .slice go m gc, .int .u8 mc.toNat] 92)).cell? ⟨xb, 0, none⟩ = some (.slice lo n lc) := by rw [hxb]; simp
      have x1 : (wr.alloc (.cells #[.slice lo n lc, .slice go m gc, .int .u8 mc.toNat] 92)).cell? ⟨xb, 1, none⟩ = some (.slice go m gc) := by rw [hxb]; simp
      have x2 : (wr.alloc (.cells #[.slice lo n lc, .slice go m gc, .int .u8 mc.toNat] 92)).cell? ⟨xb, 2, none⟩ = some (.int .u8 mc.toNat) := by rw [hxb]; simp
      go_wp2
      try rw [← hxb]
      generalize wr.alloc _ = w1 at HKA x0 x1 x2 ⊢
      clear hxb b0 b1 b2 hz
      have hnm := HE.out.le
      have hmx := HE.out.max
      have hlow := HE.out.low
      simp only at hnm hmx hlow
      go_loopw [5] (fun y wr => ∃ i : Nat, i ≤ m ∧ y = .int .i64 i ∧ Hid (Kept [] w1 wr)) (fun y wr => m - (intOf y).toNat)
      case atStart => exact ⟨0, Nat.zero_le _, rfl, Kept.refl _ _⟩
      case round =>
        obtain ⟨i, hi, rfl, HK2⟩ := hrel
        have HKw := (show Hid _ from HKA.out.trans HK2.out (by simp))
        have y0 := HK2.out.cellOf x0 (by simp)
        have y1 := HK2.out.cellOf x1 (by simp)
        have y2 := HK2.out.cellOf x2 (by simp)
        by_cases hlt2 : i < m
        · obtain ⟨gb, gof, hgo, hgb, hgc⟩ := (HE.out.sg.kept HKw.out (by simp)).open (by intro h; have := En.row_len HE.out.le; rw [h] at this; simp at this; omega)
          simp only at hgo
          subst hgo
          have z1 := hgc i (by rw [En.row_len HE.out.le]; exact hlt2)
          by_cases hin : i < n
          · obtain ⟨lb, lof, hlo, hlb, hlc⟩ := (HE.out.sl.kept HKw.out (by simp)).open (by intro h; have := congrArg List.length h; simp at this; omega)
            simp only at hlo
            subst hlo
            have z0 := hlc i (by simpa using hin)
            simp only [List.getD_eq_getElem?_getD] at z0 z1
            rw [List.getElem?_replicate, if_pos hin] at z0
            rw [En.row, List.getElem?_append_left (by simpa using hin), List.getElem?_replicate, if_pos hin] at z1
            simp only [Option.getD_some] at z0 z1
            have d1 : decide ((n : Int) ≤ (i : Int)) = false := by simp; omega
            have d2 : decide ((i : Int) < (n : Int)) = true := by simp; omega
            have d3 : decide (n ≤ i) = false := by simp; omega
            have d4 : decide (i < n) = true := by simp; omega
            have i0 : (0 : Int) ≤ (i : Int) := by omega
            have i1 : (i : Int) < (n : Int) := by omega
            have i2 : (i : Int) < (m : Int) := by omega
            generalize mc.toNat = c at y2 z0 z1 hlow
            have hcc : ((c : Int) != (c : Int)) = false := by simp
            clear hgc hlc x0 x1 x2
            go_wp2
            go_quiet (fail)
            go_wp2
            go_roundw
            case rel => exact ⟨i + 1, by omega, by go_num, HK2.out.drewN _⟩
            case measure => simp [intOf]; omega
          · simp only [List.getD_eq_getElem?_getD] at z1
            rw [En.row, List.getElem?_append_right (by simpa using Nat.le_of_not_lt hin), List.getElem?_replicate, if_pos (by simp; omega)] at z1
            simp only [Option.getD_some] at z1
            have e1 : (mc + 1).toNat = mc.toNat + 1 := by rw [UInt8.toNat_add]; simp; omega
            have e2 : (((mc + 1).toNat : Nat) : Int) = (mc.toNat : Int) + 1 := by rw [e1]; omega
            rw [e2] at z1
            have d1 : decide ((n : Int) ≤ (i : Int)) = true := by simp; omega
            have d2 : decide ((i : Int) < (n : Int)) = false := by simp; omega
            have hw : IntKind.u8.wrap ((mc.toNat : Int) + 1) = (mc.toNat : Int) + 1 := by rw [IntKind.wrap_u8]; omega
            have d3 : decide (n ≤ i) = true := by simp; omega
            have d4 : decide (i < n) = false := by simp; omega
            have i0 : (0 : Int) ≤ (i : Int) := by omega
            have i2 : (i : Int) < (m : Int) := by omega
            generalize mc.toNat = c at y2 z1 hlow hw
            have hcc : ((c : Int) + 1 != (c : Int) + 1) = false := by simp
            clear hgc e1 e2 x0 x1 x2
            go_wp2
            go_quiet (fail)
            go_wp2
            go_roundw
            case rel => exact ⟨i + 1, by omega, by go_num, HK2.out.drewN _⟩
            case measure => simp [intOf]; omega
        · go_wp2
          go_roundw
          case rel => exact ⟨k + 1, by omega, by go_num, HKw⟩
          case measure => simp [intOf]; omega
    · go_wp2
      go_ret
      exact ⟨rfl, HK.out⟩

end Go.Proofs.Ytjmameknbnflaab
