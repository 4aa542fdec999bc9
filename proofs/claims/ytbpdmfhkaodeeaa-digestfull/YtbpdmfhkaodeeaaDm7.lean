/-
  Contract: freightlaw2.untouched.
-/
import Derived.Test.YtbpdmfhkaodeeaaDm6
namespace Go.Proofs.Ytbpdmfhkaodeeaa
open Go.RowKit
set_option linter.unusedVariables false
set_option linter.unusedSimpArgs false

/-- The roomy rows, the list of them. -/
structure Rt (w wr : World) (G : Nat) (R : List Rm) (H : List Nat) : Prop where
  rms : Rms w wr G R H
  top : wr.heap[G]? = some (.cells (vals R H).toArray 29 (0, 0))
  three : H.length = 3
theorem Rt.rowCell {w wr : World} {G : Nat} {R : List Rm} {H : List Nat} (h : Rt w wr G R H) (k : Nat) (hk : k < R.length) :
    wr.cell? ⟨G, k, none⟩ = some (.slice (some ⟨(R.getD k rm0).g, 0, none⟩) (R.getD k rm0).ds.length ((R.getD k rm0).ds.length + 160)) ∧ (R.getD k rm0).At wr := by
  have e : R.getD k rm0 = R[k] := by simp [List.getElem?_eq_getElem hk]
  rw [e]
  refine ⟨?_, (h.rms.rows _ (List.getElem_mem hk)).1⟩
  rw [cell_of_row _ _ _ _ _ _ h.top, List.getElem?_toArray, vals, List.getElem?_append_left (by simpa using hk), List.getElem?_map, List.getElem?_eq_getElem hk]
  rfl
theorem Rt.markCell {w wr : World} {G : Nat} {R : List Rm} {H : List Nat} (h : Rt w wr G R H) (j : Nat) (hj : j < 3) :
    wr.cell? ⟨G, R.length + j, none⟩ = some (.slice (some ⟨H.getD j 0, 0, none⟩) 1 1) ∧ wr.cell? ⟨H.getD j 0, 0, none⟩ = some (.int .u8 99) := by
  have hl : j < H.length := by rw [h.three]; exact hj
  have e : H.getD j 0 = H[j] := by simp [List.getElem?_eq_getElem hl]
  rw [e]
  refine ⟨?_, ?_⟩
  · rw [cell_of_row _ _ _ _ _ _ h.top, List.getElem?_toArray, vals, List.getElem?_append_right (by simp), List.getElem?_map, List.length_map, Nat.add_sub_cancel_left, List.getElem?_eq_getElem hl]
    rfl
  · rw [cell_of_row _ _ _ _ _ _ (h.rms.mks _ (List.getElem_mem hl)).1]; rfl
theorem Rt.drewN {w wr : World} {G : Nat} {R : List Rm} {H : List Nat} (h : Rt w wr G R H) (m : Nat) : Rt w (wr.drewN m) G R H :=
  ⟨⟨h.rms.rows, h.rms.asc, h.rms.mks, h.rms.geG, h.rms.ltG, h.rms.kept.drewN m⟩, h.top, h.three⟩
theorem Pcs.drewN {w : World} {ao : Option Addr} {L : List Pc} (h : Pcs w ao L) (m : Nat) : Pcs (w.drewN m) ao L := fun i hi => by
  obtain ⟨b, off, e, hc, hp⟩ := h i hi
  exact ⟨b, off, e, hc, hp.sl.drewN m, hp.le⟩

set_option maxHeartbeats 1000000 in
set_option maxRecDepth 100000 in
theorem untouched_ok (G : Nat) (R : List Rm) (H : List Nat) (wo : Option Addr) (wc : Nat) (L : List Pc) (w0 w : World) (hr : Rt w0 w G R H) (hp : Pcs w wo L) (hd : R.map Rm.ds = L.map Pc.ds) (hm : L.length + (joined L).length ≤ 3000000) (n : Nat) (hn : L.length = n) :
    Calls Try.prog 15 #[.slice (some ⟨G, 0, none⟩) n (n + 3), .slice wo n wc] w fun e w' => e = .returned (.bool true) ∧ ∃ k, w' = w.drewN k := by
  have HR : Hid (∀ m, Rt w0 (w.drewN m) G R H) := fun m => hr.drewN m
  have HP : Hid (∀ m, Pcs (w.drewN m) wo L) := fun m => hp.drewN m
  have hrn : R.length = n := by
    have := congrArg List.length hd
    simp only [List.length_map] at this
    omega
  have HN : Hid (L.length = n ∧ R.length = n) := ⟨hn, hrn⟩
  have hm2 : n ≤ 3000000 := by omega
  have HL : Hid (∀ k, k < n → (R.getD k rm0).ds = (L.getD k pc0).ds ∧ (L.getD k pc0).ds.length ≤ 3000000) := fun k hk => by
    have h1 := joined_take L k (by omega)
    have h2 := joined_take_le L (k + 1)
    rw [h1, List.length_append] at h2
    refine ⟨?_, by omega⟩
    have h3 := congrArg (fun l => l[k]?) hd
    simp only [List.getElem?_map] at h3
    rw [List.getElem?_eq_getElem (by omega), List.getElem?_eq_getElem (by omega)] at h3
    simp [List.getElem?_eq_getElem (show k < R.length by omega), List.getElem?_eq_getElem (show k < L.length by omega)]
    simpa using h3
  clear hr hp hd hm hn hrn
  go_enter Try.func15, Try.ntmps15
  go_wp2
  go_loopw [5] (fun i wr => ∃ k : Nat, k ≤ n ∧ i = .int .i64 k ∧ Hid (∃ m, wr = w.drewN m)) (fun i wr => n - (intOf i).toNat)
  case atStart => exact ⟨0, by omega, rfl, 0, rfl⟩
  case round =>
    obtain ⟨k, hk, rfl, HE⟩ := hrel
    have HRr : Hid (Rt w0 wr G R H) := by obtain ⟨m, hm⟩ := HE.out; rw [hm]; exact HR.out m
    have HPr : Hid (Pcs wr wo L) := by obtain ⟨m, hm⟩ := HE.out; rw [hm]; exact HP.out m
    have HE1 : Hid (∀ q, Hid (∃ m, wr.drewN q = w.drewN m)) := fun q => by obtain ⟨m, hm⟩ := HE.out; exact ⟨m + q, by rw [hm, World.drewN_drewN]⟩
    by_cases hlt : k < n
    · obtain ⟨hc1, hat⟩ := HRr.out.rowCell k (by rw [HN.out.2]; exact hlt)
      obtain ⟨b, off, rfl, hc2, hpc⟩ := HPr.out k (by rw [HN.out.1]; exact hlt)
      obtain ⟨hds, hl⟩ := HL.out k hlt
      have hs := hpc.sl
      rw [← hds] at hc2 hs hl
      generalize R.getD k rm0 = r at hc1 hat hc2 hs hl
      generalize (L.getD k pc0).da = da at hc2 hs
      generalize (L.getD k pc0).dc = dc at hc2
      have HU : Hid (∀ m, Calls Try.prog 34 #[.slice (some ⟨r.g, 0, none⟩) r.ds.length (r.ds.length + 160), .slice da r.ds.length dc] (wr.drewN m) fun e w' => e = .returned (.bool true) ∧ ∃ k, w' = (wr.drewN m).drewN k) :=
        fun m => untouchedRow_ok r da dc (wr.drewN m) hat (hs.drewN m) _ rfl hl
      clear hat hs hpc hds hl
      generalize r.g = g at hc1 HU
      generalize r.ds.length = d at hc1 hc2 HU
      go_wp2
      go_quiet ((go_at_call 34; exact Calls.quiet_of (HU.out _)))
      go_wp2
      go_roundw
      case rel => exact ⟨k + 1, by omega, by go_num, HE1.out _⟩
      case measure => simp [intOf]; omega
    · obtain rfl : k = n := by omega
      go_wp2
      go_loopw [7] (fun i wr' => ∃ j : Nat, j ≤ 3 ∧ i = .int .i64 (k + j : Nat) ∧ wr' = wr) (fun i wr => k + 3 - (intOf i).toNat)
      case atStart => exact ⟨0, by omega, rfl, rfl⟩
      case round =>
        obtain ⟨j, hj, rfl, rfl⟩ := hrel
        by_cases hlt3 : j < 3
        · obtain ⟨hc1, hc2⟩ := HRr.out.markCell j hlt3
          rw [HN.out.2] at hc1
          generalize H.getD j 0 = h at hc1 hc2
          have hx : ((k + j : Nat) : Int) = (k : Int) + (j : Int) := by omega
          go_wp2
          go_roundw
          case rel => exact ⟨j + 1, by omega, by go_num, by first | trivial | rfl⟩
          case measure => simp [intOf]; omega
        · obtain rfl : j = 3 := by omega
          go_wp2
          go_ret
          exact ⟨rfl, HE.out⟩
end Go.Proofs.Ytbpdmfhkaodeeaa
