/-
  Contract: freightlaw2.writeOver.
-/
import Derived.Test.YtbpdmfhkaodeeaaDm8
import Derived.Test.YtbpdmfhkaodeeaaDf2
namespace Go.Proofs.Ytbpdmfhkaodeeaa
open Go.RowKit
set_option linter.unusedVariables false
set_option linter.unusedSimpArgs false

/-- Pieces that lie behind S. -/
structure Now (S : Nat) (wr : World) (ao : Option Addr) (Q : List Pc) : Prop where
  pcs : Pcs wr ao Q
  top : ∀ a, ao = some a → S ≤ a.block
  each : ∀ i, i < Q.length → ∃ g, (Q.getD i pc0).da = some ⟨g, 0, none⟩ ∧ S ≤ g
theorem Now.later {S : Nat} {wr w2 : World} {ao : Option Addr} {Q : List Pc} (h : Now S wr ao Q) {l : List Nat} (hk : Kept l wr w2) (hl : ∀ i ∈ l, i < S) : Now S w2 ao Q :=
  ⟨fun i hi => by
    obtain ⟨b, off, e, hc, hp⟩ := h.pcs i hi
    obtain ⟨g, hg, hS⟩ := h.each i hi
    exact ⟨b, off, e, hk.cellOf hc (fun hm => by have h1 : b < S := hl _ hm; have h2 : S ≤ b := h.top _ e; omega), hp.kept hk (fun _ a ha hm => by rw [hg] at ha; cases ha; have h1 : g < S := hl _ hm; omega)⟩, h.top, h.each⟩

theorem set_kept (l : List Nat) (w : World) (g : Nat) (C : Array Value) (hg : g ∈ l) : Kept l w (w.setRow g C) :=
  ⟨rfl, rfl, rfl, by simp, fun k _ hn => setRow_other _ _ _ _ (fun e => hn (e ▸ hg))⟩

theorem Rt.put {w0 wr : World} {G : Nat} {R : List Rm} {H : List Nat} (h : Rt w0 wr G R H) (k : Nat) (hk : k < R.length) (ys : List UInt8) (hl : ys.length = (R.getD k rm0).ds.length) :
    Rt w0 (wr.setRow (R.getD k rm0).g (bys (ys ++ marks 160)).toArray) G (R.set k ⟨(R.getD k rm0).g, ys⟩) H := by
  have e : R.getD k rm0 = R[k] := by simp [List.getElem?_eq_getElem hk]
  rw [e] at hl ⊢
  obtain ⟨hat, hGk⟩ := h.rms.rows _ (List.getElem_mem hk)
  have hasc := List.pairwise_iff_getElem.1 h.rms.asc
  have hne : ∀ j (hj : j < R.length), j ≠ k → R[j].g ≠ R[k].g := fun j hj hjk => by
    rcases Nat.lt_or_gt_of_ne hjk with h1 | h1
    · have := hasc j k hj hk h1; omega
    · have := hasc k j hk hj h1; omega
  have hset : ∀ j (hj : j < (R.set k ⟨R[k].g, ys⟩).length), (R.set k ⟨R[k].g, ys⟩)[j].g = (R[j]'(by simpa using hj)).g := fun j hj => by
    rw [List.getElem_set]; split
    · rename_i hjk; subst hjk; rfl
    · rfl
  refine ⟨⟨?_, ?_, ?_, h.rms.geG, by simpa using h.rms.ltG, ?_⟩, ?_, h.three⟩
  · intro r hr
    obtain ⟨j, hj, rfl⟩ := List.getElem_of_mem hr
    have hj' : j < R.length := by simpa using hj
    refine ⟨?_, by rw [hset]; exact (h.rms.rows _ (List.getElem_mem hj')).2⟩
    by_cases hjk : j = k
    · subst hjk
      rw [List.getElem_set_self]
      exact setRow_heap _ _ _ _ _ _ hat
    · rw [List.getElem_set_ne (by omega)]
      have h1 := (h.rms.rows _ (List.getElem_mem hj')).1
      exact (setRow_other _ _ _ _ (hne j hj' hjk)).trans h1
  · refine List.pairwise_iff_getElem.2 fun i j hi hj hij => ?_
    rw [hset, hset]
    exact hasc i j (by simpa using hi) (by simpa using hj) hij
  · intro x hx
    obtain ⟨h1, h2, h3⟩ := h.rms.mks x hx
    refine ⟨(setRow_other _ _ _ _ (by have := h3 _ (List.getElem_mem hk); omega)).trans h1, h2, fun r hr => ?_⟩
    obtain ⟨j, hj, rfl⟩ := List.getElem_of_mem hr
    rw [hset]
    exact h3 _ (List.getElem_mem _)
  · exact h.rms.kept.trans (set_kept [R[k].g] wr _ _ (by simp)) (fun i hi hlt => by have := h.rms.geG; simp at hi; omega)
  · rw [setRow_other _ _ _ _ (by omega), h.top]
    congr 3
    rw [vals, vals, List.map_set]
    congr 1
    have : (R.map Rm.val)[k]'(by simpa using hk) = (⟨R[k].g, ys⟩ : Rm).val := by simp [Rm.val, hl]
    rw [← this, List.set_getElem_self]

set_option maxHeartbeats 1000000 in
set_option maxRecDepth 100000 in
theorem writeOver_ok (G : Nat) (R : List Rm) (H : List Nat) (ao : Option Addr) (cap S : Nat) (Q : List Pc) (w0 w : World) (hr : Rt w0 w G R H) (hS : ∀ r ∈ R, r.g < S) (hq : Now S w ao Q) (n : Nat) (hn : Q.length = n) (hrn : R.length = n) (hm : n ≤ 3000000)
    (hd : ∀ i, i < n → (Q.getD i pc0).ds.length = (R.getD i rm0).ds.length) :
    Calls Try.prog 17 #[.slice (some ⟨G, 0, none⟩) n (n + 3), .slice ao n cap] w fun e w' => e = .returned (.tuple #[]) ∧ ∃ R', Rt w0 w' G R' H ∧ R'.map Rm.ds = Q.map Pc.ds ∧ Now S w' ao Q := by
  have HR : Hid (∃ R', Rt w0 w G R' H ∧ R'.length = n ∧ (∀ r ∈ R', r.g < S) ∧ (∀ i, i < n → (R'.getD i rm0).ds.length = (Q.getD i pc0).ds.length) ∧ ∀ i, i < 0 → (R'.getD i rm0).ds = (Q.getD i pc0).ds) := ⟨R, hr, hrn, hS, fun i hi => (hd i hi).symm, by simp⟩
  have HQ : Hid (Now S w ao Q) := hq
  have HN : Hid (Q.length = n) := hn
  clear hr hS hq hn hrn hd
  go_enter Try.func17, Try.ntmps17
  go_wp2
  go_loopw [4] (fun i wr => ∃ k : Nat, k ≤ n ∧ i = .int .i64 k ∧ Hid (∃ R', Rt w0 wr G R' H ∧ R'.length = n ∧ (∀ r ∈ R', r.g < S) ∧ (∀ i, i < n → (R'.getD i rm0).ds.length = (Q.getD i pc0).ds.length) ∧ ∀ i, i < k → (R'.getD i rm0).ds = (Q.getD i pc0).ds) ∧ Hid (Now S wr ao Q)) (fun i wr => n - (intOf i).toNat)
  case atStart => exact ⟨0, by omega, rfl, HR, HQ⟩
  case round =>
    clear HR HQ
    obtain ⟨k, hk, rfl, HR, HQ⟩ := hrel
    by_cases hlt : k < n
    · obtain ⟨R', hr, hrn, hS, hd, hsame⟩ := HR.out
      have hkR : k < R'.length := by rw [hrn]; exact hlt
      obtain ⟨hc1, hat⟩ := hr.rowCell k hkR
      obtain ⟨b, off, rfl, hc2, hpc⟩ := HQ.out.pcs k (by rw [HN.out]; exact hlt)
      obtain ⟨gq, hgq, hSq⟩ := HQ.out.each k (by rw [HN.out]; exact hlt)
      have hdk := hd k hlt
      have hgk : (R'.getD k rm0).g < S := by
        have e : R'.getD k rm0 = R'[k] := by simp [List.getElem?_eq_getElem hkR]
        rw [e]; exact hS _ (List.getElem_mem hkR)
      have HP : Hid (Rt w0 ((wr.drewN 1).setRow (R'.getD k rm0).g (bys ((Q.getD k pc0).ds ++ marks 160)).toArray) G (R'.set k ⟨(R'.getD k rm0).g, (Q.getD k pc0).ds⟩) H) := (hr.drewN 1).put k hkR _ hdk.symm
      have HX : Hid (∃ R'', Rt w0 ((wr.drewN 1).setRow (R'.getD k rm0).g (bys ((Q.getD k pc0).ds ++ marks 160)).toArray) G R'' H ∧ R''.length = n ∧ (∀ r ∈ R'', r.g < S) ∧ (∀ i, i < n → (R''.getD i rm0).ds.length = (Q.getD i pc0).ds.length) ∧ ∀ i, i < k + 1 → (R''.getD i rm0).ds = (Q.getD i pc0).ds) := by
        refine ⟨_, HP.out, by simpa using hrn, fun r hr' => ?_, fun i hi => ?_, fun i hi => ?_⟩
        · rcases List.mem_or_eq_of_mem_set hr' with h | rfl
          · exact hS r h
          · exact hgk
        · by_cases hik : i = k
          · subst hik; simp [hkR]
          · simp only [List.getD_eq_getElem?_getD, List.getElem?_set_ne (Ne.symm hik)]
            simpa using hd i hi
        · by_cases hik : i = k
          · subst hik; simp [hkR]
          · simp only [List.getD_eq_getElem?_getD, List.getElem?_set_ne (Ne.symm hik)]
            simpa using hsame i (by omega)
      have HQ2 : Hid (∀ C, Now S ((wr.drewN 1).setRow (R'.getD k rm0).g C) (some ⟨b, off, none⟩) Q) := fun C => HQ.out.later (l := [(R'.getD k rm0).g]) (((Kept.refl [(R'.getD k rm0).g] wr).drewN 1).trans (l2 := [(R'.getD k rm0).g]) (set_kept [(R'.getD k rm0).g] _ _ _ (by simp)) (fun i hi _ => hi)) (by simpa using hgk)
      have hsl := hpc.sl
      generalize (Q.getD k pc0).dc = dc at hc2
      rw [hgq] at hc2 hsl
      generalize (Q.getD k pc0).ds = ys at hc2 hsl hdk HX
      generalize R'.getD k rm0 = r at hc1 hat hdk HX HQ2
      obtain ⟨g, ds⟩ := r
      dsimp only at hc1 hat hdk HX HQ2
      have hat2 : (wr.drewN 1).heap[g]? = some (.cells (bys (ds ++ marks 160)).toArray 5 (0, 0)) := hat
      have hsrc := src_of (hsl.drewN 1)
      rw [← hdk] at hc2
      have HROW : Hid ((List.take 0 (bys (ds ++ marks 160)).toArray.toList ++ (bys ys ++ List.drop (0 + (bys ys).length) (bys (ds ++ marks 160)).toArray.toList)) = bys (ys ++ marks 160)) := by
        show _ = _
        rw [List.take_zero, List.nil_append, Nat.zero_add, bys_length, ← hdk, bys_append, bys_append, List.toList_toArray]
        congr 1
        exact List.drop_left' (bys_length ds)
      have HD : Hid (ds.length = ys.length) := hdk
      have HDS : Hid (ys.length = ds.length) := hdk.symm
      generalize ds.length = d at hc1 hc2 HD
      clear HP hr hrn hS hd hsame hat hpc hgq hgk HR HQ hkR hsl hdk
      go_wp2
      go_still_tail 8, Try.follows
      have ed : ({ heap := wr.heap, tape := wr.tape, drawn := wr.drawn + 1, os := wr.os, output := wr.output } : World) = wr.drewN 1 := rfl
      rw [ed]
      clear ed
      refine wpList_copy_own rfl (.tmp 14) (.tmp 18) 29 29 rfl 5 Try.underlying29 Try.sizeByte g 0 d (d + 160) ⟨gq, 0, none⟩ d dc rfl rfl _ 5 hat2 (bys ys) (by rw [bys_length, HD.out]; simp) hsrc ?hfit (bys_oneCell _) ?_
      case hfit =>
        have h1 : (bys (ds ++ marks 160)).toArray.size = ds.length + 160 := by rw [List.size_toArray, bys_length, List.length_append, marks, List.length_replicate]
        rw [h1, bys_length, HDS.out]; omega
      rw [HROW.out]
      have HQ3 := HQ2.out (bys (ys ++ marks 160)).toArray
      have HQ4 : Hid (Now S ((wr.drewN 1).setRow g (bys (ys ++ marks 160)).toArray) (some ⟨b, off, none⟩) Q) := HQ3
      clear HQ2 HQ3 hat2 hsrc HROW hc1 hc2
      generalize (wr.drewN 1).setRow _ _ = w5 at HX HQ4 ⊢
      go_wp2
      go_roundw
      case rel => exact ⟨k + 1, by omega, by go_num, HX, HQ4⟩
      case measure => simp [intOf]; omega
    · obtain rfl : k = n := by omega
      go_wp2
      refine bodyPost_end (results_none rfl _ _ _) rfl ?_
      obtain ⟨R', hr, hrn, hS, hd, hsame⟩ := HR.out
      refine ⟨rfl, R', hr, ?_, HQ.out⟩
      apply List.ext_getElem
      · simp [hrn, HN.out]
      · intro i h1 h2
        have h3 : i < k := by simpa [hrn] using h1
        have := hsame i h3
        simpa [List.getElem?_eq_getElem (show i < R'.length by omega), List.getElem?_eq_getElem (show i < Q.length by rw [HN.out]; omega)] using this
end Go.Proofs.Ytbpdmfhkaodeeaa
