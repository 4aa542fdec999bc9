/-
  What the walks of DigestFull and DigestOf lean on.
-/
import Derived.Test.YtbpdmfhkaodeeaaDm9
import Derived.Test.YtbpdmfhkaodeeaaDm3
import Derived.Test.YtbpdmfhkaodeeaaDr4
import Derived.Test.YtbpdmfhkaodeeaaDk
import Derived.Test.YtbpdmfhkaodeeaaAd
namespace Go.Proofs.Ytbpdmfhkaodeeaa
open Go.RowKit
set_option linter.unusedVariables false
set_option linter.unusedSimpArgs false

theorem Pcs.kept0 {w w2 : World} {ao : Option Addr} {L : List Pc} (h : Pcs w ao L) (hk : Kept [] w w2) : Pcs w2 ao L := fun i hi => by
  obtain ⟨b, off, e, hc, hp⟩ := h i hi
  exact ⟨b, off, e, hk.cellOf hc (by simp), hp.kept hk (by simp)⟩
theorem Rt.later {w wr w2 : World} {G : Nat} {R : List Rm} {H : List Nat} (h : Rt w wr G R H) (hb : Below wr.heap.size wr w2) : Rt w w2 G R H :=
  ⟨h.rms.later ((Kept.of_below hb).mono (by simp)), (hb.block G h.rms.ltG).trans h.top, h.three⟩
theorem Rt.below {w wr : World} {G : Nat} {R : List Rm} {H : List Nat} (h : Rt w wr G R H) : Below w.heap.size w wr := h.rms.kept.below (Nat.le_refl _) (by simp)
def toPc (r : Rm) : Pc := ⟨some ⟨r.g, 0, none⟩, r.ds.length + 160, r.ds⟩
theorem joined_flat (L : List Pc) : joined L = (L.map Pc.ds).flatten := by simp [joined, List.flatMap]
theorem joined_rooms {R : List Rm} {L : List Pc} (h : R.map Rm.ds = L.map Pc.ds) : joined (R.map toPc) = joined L := by
  rw [joined_flat, joined_flat, ← h, List.map_map]; rfl
theorem Rt.pcs {w wr : World} {G : Nat} {R : List Rm} {H : List Nat} (h : Rt w wr G R H) : Pcs wr (some ⟨G, 0, none⟩) (R.map toPc) := fun i hi => by
  have hi' : i < R.length := by simpa using hi
  obtain ⟨h1, h2⟩ := h.rowCell i hi'
  have e : (R.map toPc).getD i pc0 = toPc (R.getD i rm0) := by simp [List.getElem?_eq_getElem hi']
  rw [e]
  exact ⟨G, 0, rfl, by rw [Nat.zero_add]; exact h1, h2.sl, by show (R.getD i rm0).ds.length ≤ (R.getD i rm0).ds.length + 160; omega⟩
/-- The turned pieces, as a list of pieces that lie behind all that was there. -/
theorem TRel.now {w wr : World} {L : List Pc} {n : Nat} {v : Value} {Q : List Pc} (h : TRel w wr L n v Q) (hn : L.length = n) :
    ∃ ao cap, v = .slice ao n cap ∧ Now w.heap.size wr ao Q ∧ PcN Q ∧ Q.length = n ∧ Q.map Pc.ds = L.map (fun c => xr c.ds) := by
  have hl : Q.length = n := by have := h.own.1; simpa using this
  have hds := h.dss
  rw [List.take_of_length_le (by omega)] at hds
  have hat : ∀ i, i < Q.length → QAt w wr (Q.getD i pc0) := fun i hi => by
    have e : Q.getD i pc0 = Q[i] := by simp [List.getElem?_eq_getElem hi]
    rw [e]; exact h.at_ _ (List.getElem_mem hi)
  have heach : ∀ i, i < Q.length → ∃ g, (Q.getD i pc0).da = some ⟨g, 0, none⟩ ∧ w.heap.size ≤ g := fun i hi => by
    obtain ⟨g, h1, h2⟩ := hat i hi
    exact ⟨g, h1, (h2.lt g rfl).1⟩
  have hnil : PcN Q := fun i hi hda => by
    obtain ⟨g, h1, _⟩ := heach i hi
    rw [h1] at hda; cases hda
  rcases h.own.2 with ⟨rfl, hz⟩ | ⟨g, cap, cur, rfl, hb, _⟩
  · subst hz
    exact ⟨none, 0, rfl, ⟨fun i hi => by omega, by simp, heach⟩, hnil, hl, hds⟩
  · refine ⟨_, cap, rfl, ⟨fun i hi => ?_, fun a ha => by cases ha; exact hb, heach⟩, hnil, hl, hds⟩
    obtain ⟨gq, h1, h2⟩ := hat i hi
    obtain ⟨g', c', hv, _, _, hle, hsl⟩ := own_sl h2 (by simp)
    refine ⟨g, 0, rfl, ?_, ?_, ?_⟩
    · rw [Nat.zero_add, h.own.cellAt i (by omega), List.getElem?_map, List.getElem?_eq_getElem hi]
      have e : Q.getD i pc0 = Q[i] := by simp [List.getElem?_eq_getElem hi]
      rw [e]; rfl
    · rw [h1]; cases hv; exact hsl
    · cases hv; exact hle
theorem now_len {Q L : List Pc} (h : Q.map Pc.ds = L.map (fun c => xr c.ds)) : (joined Q).length = (joined L).length := by
  rw [joined_flat, joined_flat, h, List.length_flatten, List.length_flatten, List.map_map, List.map_map]
  congr 1
  apply List.map_congr_left
  intro c _
  simp [xr_len]
theorem ds_at {R : List Rm} {Q L : List Pc} (hr : R.map Rm.ds = L.map Pc.ds) (hq : Q.map Pc.ds = L.map (fun c => xr c.ds)) (n : Nat) (hR : R.length = n) (hQ : Q.length = n) (hL : L.length = n) :
    ∀ i, i < n → (Q.getD i pc0).ds.length = (R.getD i rm0).ds.length := fun i hi => by
  have h1 := congrArg (fun l => (l[i]?).map List.length) hr
  have h2 := congrArg (fun l => (l[i]?).map List.length) hq
  simp only [List.getElem?_map, List.getElem?_eq_getElem (show i < R.length by omega), List.getElem?_eq_getElem (show i < L.length by omega), List.getElem?_eq_getElem (show i < Q.length by omega), Option.map_some] at h1 h2
  simp [List.getElem?_eq_getElem (show i < R.length by omega), List.getElem?_eq_getElem (show i < Q.length by omega)]
  simp [xr_len] at h1 h2
  omega
theorem rooms_len {R : List Rm} {L : List Pc} (h : R.map Rm.ds = L.map Pc.ds) : R.length = L.length := by
  have := congrArg List.length h
  simpa using this
/-- What came in, as pieces. -/
theorem pcs_of {w : World} {ao : Option Addr} {L : List Bx} (h : RowsAt w ao L) : Pcs w ao (L.map fun b => ⟨b.da, b.dc, b.ds⟩) ∧ PcN (L.map fun b => ⟨b.da, b.dc, b.ds⟩) := by
  have e : ∀ i, i < L.length → (L.map fun b => (⟨b.da, b.dc, b.ds⟩ : Pc)).getD i pc0 = ⟨(L.getD i bx0).da, (L.getD i bx0).dc, (L.getD i bx0).ds⟩ := fun i hi => by simp [List.getElem?_eq_getElem hi]
  refine ⟨fun i hi => ?_, fun i hi => ?_⟩
  · have hi' : i < L.length := by simpa using hi
    obtain ⟨b, off, h1, h2, h3⟩ := h i hi'
    rw [e i hi']
    exact ⟨b, off, h1, by rw [h2, h3.len], h3.sl, by rw [h3.len]; exact h3.le⟩
  · have hi' : i < L.length := by simpa using hi
    obtain ⟨b, off, h1, h2, h3⟩ := h i hi'
    rw [e i hi']
    exact fun hn => h3.nil hn
end Go.Proofs.Ytbpdmfhkaodeeaa
