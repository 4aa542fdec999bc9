/-
  What With sets: mathematics.
-/
import Derived.Test.YtdeneflgldagpabT8w
import Derived.Test.YtdeneflgldagpabZw2
namespace Go.Proofs.Ytdeneflgldagpab
open Go.RowKit Go.Sort
set_option linter.unusedVariables false
set_option linter.unusedSimpArgs false

namespace Tb
theorem pair_rise {L : List Res} : L.Pairwise (fun a b => cf a b < 0) ↔ rise L = true := by
  constructor
  · intro h
    rw [rise_iff]
    intro i hi
    rw [List.pairwise_iff_getElem] at h
    have := h i (i + 1) (by omega) hi (by omega)
    simpa [List.getD, List.getElem?_eq_getElem (show i < L.length by omega), List.getElem?_eq_getElem hi] using this
  · intro h
    exact pairwise_getD (fun i j hij hj => rise_pair h hij hj)
theorem mem_getD {L : List Res} {x : Res} (h : x ∈ L) : ∃ i, i < L.length ∧ L.getD i res0 = x := by
  obtain ⟨i, hi, rfl⟩ := List.getElem_of_mem h
  exact ⟨i, hi, by simp [List.getD, List.getElem?_eq_getElem hi]⟩
theorem find_mem {L : List Res} (hr : rise L = true) {x : Res} (hx : x ∈ L) : find L x.action = some x := by
  obtain ⟨k, hk, rfl⟩ := mem_getD hx
  refine find_at hk rfl (fun j hj e => ?_)
  have := rise_pair hr hj hk
  rw [cf_zero.2 e] at this
  omega
theorem withR_rise {L : List Res} (hr : rise L = true) (e : Res) : rise (withR L e) = true := by
  rw [← pair_rise]
  have hp := pair_rise.2 hr
  unfold withR
  rw [List.pairwise_append, List.pairwise_cons]
  have hs := step_le hr e
  have hrs : rank L e.action ≤ step L e := by unfold step; omega
  have hrl := rank_le L e.action
  have hlt : ∀ a ∈ L.take (rank L e.action), cf a e < 0 := fun a ha => by
    obtain ⟨i, hi, rfl⟩ := List.getElem_of_mem ha
    have hi' : i < rank L e.action := by simp at hi; omega
    have := (rank_facts hr e.action).1 i hi'
    simp only [List.getElem_take]
    have e1 : L[i]'(by omega) = L.getD i res0 := by simp [List.getD, List.getElem?_eq_getElem (show i < L.length by omega)]
    rw [e1]
    exact this
  have hgt : ∀ b ∈ L.drop (step L e), cf e b < 0 := fun b hb => by
    obtain ⟨i, hi, rfl⟩ := List.getElem_of_mem hb
    simp only [List.length_drop] at hi
    rw [List.getElem_drop]
    have hi' : step L e + i < L.length := by omega
    have e1 : L[step L e + i]'hi' = L.getD (step L e + i) res0 := by simp [List.getD, List.getElem?_eq_getElem hi']
    rw [e1]
    have h0 : 0 < Lib.compareBytes (L.getD (step L e + i) res0).action e.action := by
      rcases way hr e hi' with ⟨h1, _⟩ | ⟨h1, h2, _⟩ | ⟨_, _, h3⟩ | ⟨_, h3⟩
      · omega
      · have : step L e = rank L e.action + 1 := by unfold step; rw [h2]; rfl
        omega
      · exact h3
      · exact h3
    have := cf_swap (L.getD (step L e + i) res0) e
    have h4 : cf (L.getD (step L e + i) res0) e = Lib.compareBytes (L.getD (step L e + i) res0).action e.action := rfl
    omega
  refine ⟨hp.sublist (List.take_sublist _ _), ⟨hgt, hp.sublist (List.drop_sublist _ _)⟩, fun a ha b hb => ?_⟩
  rcases List.mem_cons.1 hb with rfl | hb
  · exact hlt a ha
  · exact cf_trans (hlt a ha) (hgt b hb)
theorem withR_mem {L : List Res} {e x : Res} (h : x ∈ withR L e) : x = e ∨ x ∈ L := by
  unfold withR at h
  rcases List.mem_append.1 h with h | h
  · exact .inr (List.mem_of_mem_take h)
  · rcases List.mem_cons.1 h with h | h
    · exact .inl h
    · exact .inr (List.mem_of_mem_drop h)
theorem withR_self (L : List Res) (e : Res) : e ∈ withR L e := by unfold withR; simp
theorem withR_keep {L : List Res} (hr : rise L = true) {e : Res} {i : Nat} (hi : i < L.length) (hne : (L.getD i res0).action ≠ e.action) : L.getD i res0 ∈ withR L e := by
  unfold withR
  rw [List.mem_append, List.mem_cons]
  have e1 : L.getD i res0 = L[i] := by simp [List.getD, List.getElem?_eq_getElem hi]
  have hmt : i < rank L e.action → L.getD i res0 ∈ L.take (rank L e.action) := fun h => by
    rw [e1, List.mem_take_iff_getElem]
    exact ⟨i, by omega, rfl⟩
  have hmd : step L e ≤ i → L.getD i res0 ∈ L.drop (step L e) := fun h => by
    rw [e1, List.mem_drop_iff_getElem]
    exact ⟨i - step L e, by omega, by congr 1; omega⟩
  rcases way hr e hi with ⟨h1, _⟩ | ⟨_, _, h3⟩ | ⟨h1, h2, _⟩ | ⟨h1, _⟩
  · exact .inl (hmt h1)
  · exact absurd (cmp_zero h3) hne
  · exact .inr (.inr (hmd (by unfold step; rw [h2]; simp; omega)))
  · exact .inr (.inr (hmd (by unfold step; split <;> omega)))
theorem with_valid {L : List Res} {e : Res} (hV : valid L = true) (hN : noCode e = false) (hl : (withR L e).length ≤ 32) : valid (withR L e) = true := by
  rw [valid_iff]
  have hr := withR_rise (valid_rise hV) e
  refine ⟨hl, fun i hi => ?_, fun i hi => rise_iff.1 hr i hi⟩
  rcases withR_mem (getD_mem hi) with h | h
  · rw [h]; exact hN
  · obtain ⟨k, hk, h2⟩ := mem_getD h
    rw [← h2]
    exact ((valid_iff L).1 hV).2.1 k hk
theorem find_has (L : List Res) (A : List UInt8) : (find L A).isSome = has L A := by
  unfold find has
  rw [Bool.eq_iff_iff, List.find?_isSome, List.any_eq_true]
theorem with_again {L : List Res} {e : Res} (hr : rise L = true) (he : e ∈ L) : has L e.action = true ∧ withR L e = L := by
  have hh : has L e.action = true := by
    unfold has
    rw [List.any_eq_true]
    exact ⟨e, he, by simp⟩
  refine ⟨hh, ?_⟩
  have h2 := hh
  rw [has_iff hr] at h2
  simp only [Bool.and_eq_true, decide_eq_true_eq] at h2
  have h3 : L.getD (rank L e.action) res0 = e := by
    have h4 := find_mem hr (getD_mem h2.1)
    rw [h2.2, find_mem hr he] at h4
    injection h4 with h5
    exact h5.symm
  unfold withR step
  rw [hh, if_pos rfl]
  have h5 := List.drop_eq_getElem_cons h2.1
  have e1 : L[rank L e.action]'h2.1 = L.getD (rank L e.action) res0 := by simp [List.getD, List.getElem?_eq_getElem h2.1]
  rw [e1, h3] at h5
  conv => rhs; rw [← List.take_append_drop (rank L e.action) L, h5]
/-- All that TableSets asks of a With that is OK. -/
structure Sets (L : List Res) (e : Res) (Z : List Res) : Prop where
  vL : valid L = true
  vZ : valid Z = true
  lo : L.length ≤ Z.length
  hi : Z.length ≤ L.length + 1
  eq : (Z.length = L.length) ↔ has L e.action = true
  self : find Z e.action = some e
  keep : ∀ i, i < L.length → (L.getD i res0).action ≠ e.action → find Z (L.getD i res0).action = some (L.getD i res0)
  againE : withE Z e = 0
  againL : withL Z e = Z
theorem sets_ok {L : List Res} {e : Res} (h : withE L e = 0) : Sets L e (withL L e) := by
  have hL : withL L e = withR L e := by unfold withL; rw [if_pos h]
  rw [hL]
  have h0 := h
  unfold withE at h0
  by_cases hv : valid L = false ∨ noCode e = true
  · rw [if_pos hv] at h0; cases h0
  · rw [if_neg hv] at h0
    have hV : valid L = true := by
      cases hq : valid L with
      | true => rfl
      | false => exact absurd (.inl hq) hv
    have hN : noCode e = false := by
      cases hq : noCode e with
      | false => rfl
      | true => exact absurd (.inr hq) hv
    have hr := valid_rise hV
    have hlen := withR_len hr e
    have h32 := valid_len hV
    have hl32 : (withR L e).length ≤ 32 := by
      by_cases hc : has L e.action = false ∧ L.length = 32
      · rw [if_pos hc] at h0; cases h0
      · rw [hlen]
        cases hh : has L e.action with
        | true => simp; exact h32
        | false =>
          have : L.length ≠ 32 := fun h => hc ⟨hh, h⟩
          simp; omega
    have hZ := with_valid hV hN hl32
    have hrZ := valid_rise hZ
    have hag := with_again hrZ (withR_self L e)
    have hE : withE (withR L e) e = 0 := by
      unfold withE
      rw [if_neg (by rw [hZ, hN]; simp), if_neg (by rw [hag.1]; simp)]
    refine ⟨hV, hZ, by rw [hlen]; omega, by rw [hlen]; split <;> omega, ?_, find_mem hrZ (withR_self L e), fun i hi hne => find_mem hrZ (withR_keep hr hi hne), hE, by unfold withL; rw [if_pos hE]; exact hag.2⟩
    rw [hlen]
    cases has L e.action <;> simp
end Tb
end Go.Proofs.Ytdeneflgldagpab
