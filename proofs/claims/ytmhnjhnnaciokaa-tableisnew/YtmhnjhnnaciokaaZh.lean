/-
  Contracts: slices.SortFunc at results, by compare; table.inOrder, Valid.
-/
import Derived.Test.YtmhnjhnnaciokaaZg
import Derived.Shelf.SlSortFuncK.RowK2
namespace Go.Proofs.Ytmhnjhnnaciokaa
open Go.Shelf Go.RowKit Go.Lib Go.Sort
set_option linter.unusedVariables false
set_option linter.unusedSimpArgs false

theorem kept_sorted (w : World) (g m : Nat) (d : Array Res) (os : Array Obj) : Kept [g] w (sortWorldK Res.cells 65 w g 0 m d os) := by
  refine ⟨rfl, rfl, rfl, ?_, fun k hk hn => ?_⟩
  · show w.heap.size ≤ ((putRowK Res.cells 65 (Sort.ahead w m) g 0 d).heap ++ os).size
    rw [Array.size_append, size_putRowK]
    show w.heap.size ≤ w.heap.size + os.size
    omega
  · show ((putRowK Res.cells 65 (Sort.ahead w m) g 0 d).heap ++ os)[k]? = _
    rw [Array.getElem?_append_left (by rw [size_putRowK]; exact hk)]
    show (w.heap.modify g _)[k]? = _
    rw [Array.getElem?_modify]
    have : ¬ g = k := fun e => hn (by simp [e])
    simp [this]
theorem OwnR.row {w : World} {base g n cap : Nat} {L : List Res} (h : OwnR w base (.slice (some ⟨g, 0, none⟩) n cap) L) : ∃ cur, w.heap[g]? = some (.cells cur 26 (0, 0)) ∧ n = L.length ∧ n ≤ cap ∧ cap ≤ maxLen ∧ cur.size = cap * 65 ∧ base ≤ g ∧ cur.toList.take (L.length * 65) = rows L := by
  rcases h.2 with ⟨h0, _⟩ | ⟨g', cap', cur, hv, hb, hg, hn, hc, hs, ht⟩
  · cases h0
  · cases hv
    exact ⟨cur, hg, rfl, hn, hc, hs, hb, ht⟩
theorem holds_row {w : World} {b : Nat} {L : List Res} (h : Ress w (some ⟨b, 0, none⟩) L) (ht : w.there b 0 (L.length * 65)) : HoldsK Res.cells 65 w b 0 L.toArray := by
  intro j hj
  rw [size_flatK, List.size_toArray] at hj
  refine ⟨?_, (ht j hj).2⟩
  rw [get_flatK _ _ _ _ (by simpa using hj)]
  have h1 : j / 65 < L.length := Nat.div_lt_of_lt_mul (by omega)
  have e1 : L.toArray[j / 65]! = L.getD (j / 65) res0 := by
    rw [getElem!_pos _ _ (by simpa using h1)]
    simp [List.getElem?_eq_getElem h1]
  rw [e1]
  obtain ⟨b', o', e, hc⟩ := h _ h1
  cases e
  have h2 : j % 65 < (L.getD (j / 65) res0).cells.length := by rw [Res.len]; omega
  have := hc (j % 65) _ (List.getElem?_eq_getElem h2)
  rw [show 0 + j / 65 * 65 + j % 65 = 0 + j by omega] at this
  show _ = some ((L.getD (j / 65) res0).cells[j % 65]!)
  rw [getElem!_pos (L.getD (j / 65) res0).cells (j % 65) h2]
  exact this
theorem row_holds {w : World} {b : Nat} {d : Array Res} (h : HoldsK Res.cells 65 w b 0 d) : Ress w (some ⟨b, 0, none⟩) d.toList ∧ w.there b 0 (d.size * 65) := by
  constructor
  · intro i hi
    refine ⟨b, 0, rfl, fun j v hv => ?_⟩
    have hj : j < 65 := by have := (List.getElem?_eq_some_iff.1 hv).1; rwa [Res.len] at this
    have := (HoldsK.cell h (i := i) (c := j) (by simpa using hi) hj).1
    rw [this]
    have e1 : d[i]! = d.toList.getD i res0 := by
      rw [getElem!_pos d i (by simpa using hi)]
      simp [Array.getElem?_eq_getElem (show i < d.size by simpa using hi)]
    rw [e1, getElem!_pos (d.toList.getD i res0).cells j (List.getElem?_eq_some_iff.1 hv).1]
    rw [List.getElem?_eq_getElem (List.getElem?_eq_some_iff.1 hv).1] at hv
    exact hv
  · intro j hj
    have := h j (by rw [size_flatK]; exact hj)
    exact ⟨by rw [this.1]; rfl, this.2⟩
theorem sort_ok (b cap n : Nat) (L : List Res) (w : World) (hn : L.length = n) (hL : Ress w (some ⟨b, 0, none⟩) L) (ht : w.there b 0 (n * 65)) (hb : b < w.heap.size) (hm : n < 4611686018427387904) :
    Calls Try.prog 47 #[.slice (some ⟨b, 0, none⟩) n cap, .func (.func 34) #[] #[]] w fun e w' => e = .returned (.tuple #[]) ∧ ∃ M : List Res, M.Perm L ∧ (∀ i j, i < j → j < M.length → Tb.cf (M.getD i res0) (M.getD j res0) ≤ 0) ∧ Ress w' (some ⟨b, 0, none⟩) M ∧ w'.there b 0 (n * 65) ∧ Kept [b] w w' := by
  subst hn
  have hH := holds_row hL ht
  have h := AnyQ.slices_SortFunc laySort 65 Try.isAgg26 Try.sizeOf26 Res.cells Res.len res_one Tb.cf Tb.swo 34 #[] b 0 cap L.toArray w Try.eCompare
    (fun m os dk _ x y => by
      show Calls Try.prog 34 #[.agg x.cells.toArray, .agg y.cells.toArray] _ _
      exact compare_ok x y _) hH hb (by simpa using hm)
  rw [List.size_toArray] at h
  refine h.mono ?_
  rintro e w' ⟨he, d', m, os, hp, hs, hw⟩
  have hsz : d'.size = L.length := by have := hp.1; simpa using this
  have hH' : HoldsK Res.cells 65 w' b 0 d' := by
    rw [hw]
    exact holdsK_grow Res.cells 65 _ os b 0 d' (by rw [size_putRowK]; exact hb) (holdsK_putRowK Res.cells 65 _ b 0 L.toArray d' (holdsK_ahead Res.cells 65 w m b 0 L.toArray hH) (by simpa using hsz))
  obtain ⟨hR, hT⟩ := row_holds hH'
  refine ⟨he, d'.toList, ?_, fun i j hij hj => ?_, hR, by rw [← hsz]; exact hT, by rw [hw]; exact kept_sorted w b m d' os⟩
  · have := hp.2.2
    rw [Array.extract_eq_self_of_le (by omega)] at this
    rw [show (L.toArray.extract 0 L.length).toList = L by simp] at this
    exact this
  · have hj' : j < d'.size := by simpa using hj
    have h1 := hs i j (Nat.zero_le _) hij (by omega)
    simp only [ltOf, decide_eq_false_iff_not, Int.not_lt] at h1
    have e1 : ∀ k, k < d'.size → d'[k]! = d'.toList.getD k res0 := fun k hk => by
      rw [getElem!_pos d' k hk]; simp [Array.getElem?_eq_getElem hk]
    rw [e1 i (by omega), e1 j hj'] at h1
    have := Tb.cf_swap (d'.toList.getD i res0) (d'.toList.getD j res0)
    omega
end Go.Proofs.Ytmhnjhnnaciokaa
