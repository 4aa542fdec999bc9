/-
  TreeOnly: what is read is written again. The walk.
-/
import Derived.Test.YthjknkkjjpjhmaaDoorNr
import Derived.Test.YthjknkkjjpjhmaaDoorNv
import Derived.Test.YthjknkkjjpjhmaaDoorNu
namespace Go.Proofs.YthjknkkjjpjhmaaDoor
open Go.RowKit
set_option linter.unusedVariables false
set_option linter.unusedSimpArgs false

namespace Tn
theorem by_back {xs : List UInt8} {a : Nat} (h : a < xs.length) : UInt8.ofNat (by' xs a) = xs[a] := by
  simp [by', List.getD, List.getElem?_eq_getElem h]
theorem ent_bytes {xs : List UInt8} {a : Nat} {e : Ent} {a' : Nat} (h : entAt xs a = some (e, a')) : xs.take a' = xs.take a ++ encE e ∧ a ≤ a' ∧ a' ≤ xs.length := by
  unfold entAt at h
  split at h
  · cases h
  · split at h
    · cases h
    · rename_i h1 h2
      simp only [Option.some.injEq, Prod.mk.injEq] at h
      obtain ⟨rfl, rfl⟩ := h
      refine ⟨?_, by omega, by omega⟩
      obtain ⟨n, hn⟩ : ∃ n, by' xs (a + 1) = n := ⟨_, rfl⟩
      rw [hn] at h2 ⊢
      have e1 : xs.drop a = xs[a] :: xs[a + 1] :: xs.drop (a + 2) := by
        rw [List.drop_eq_getElem_cons (show a < xs.length by omega), List.drop_eq_getElem_cons (show a + 1 < xs.length by omega)]
      have e2 : xs.take (a + 2 + n + 32) = xs.take a ++ (xs.drop a).take (2 + n + 32) := by
        rw [show a + 2 + n + 32 = a + (2 + n + 32) by omega, List.take_add]
      have e3 : (xs.drop (a + 2)).take (n + 32) = (xs.drop (a + 2)).take n ++ (xs.drop (a + 2 + n)).take 32 := by
        rw [List.take_add, List.drop_drop]
      rw [e2, e1, show 2 + n + 32 = (n + 32) + 1 + 1 by omega, List.take_succ_cons, List.take_succ_cons, e3]
      have hlen : ((xs.drop (a + 2)).take n).length = n := by simp; omega
      simp only [encE, hlen]
      have b0 := by_back (show a < xs.length by omega)
      have b1 := by_back (show a + 1 < xs.length by omega)
      rw [hn] at b1
      rw [← b0, ← b1]
      simp
theorem upto_bytes {xs : List UInt8} {a : Nat} (ha : a ≤ xs.length) : ∀ {k : Nat} {L : List Ent} {at_ : Nat}, upto xs a k = some (L, at_) → xs.take at_ = xs.take a ++ L.flatMap encE ∧ at_ ≤ xs.length
  | 0, L, at_, h => by
    simp only [upto, Option.some.injEq, Prod.mk.injEq] at h
    obtain ⟨rfl, rfl⟩ := h
    exact ⟨by simp, ha⟩
  | k + 1, L, at_, h => by
    simp only [upto, Option.bind_eq_some_iff, Option.map_eq_some_iff] at h
    obtain ⟨⟨L0, a0⟩, h1, ⟨e, a1⟩, h2, h3⟩ := h
    cases h3
    obtain ⟨q1, _⟩ := upto_bytes ha h1
    obtain ⟨q2, _, q3⟩ := ent_bytes h2
    refine ⟨?_, q3⟩
    rw [q2, q1]
    simp
theorem parse_inv {xs : List UInt8} {L : List Ent} (h : parse xs = some L) : 2 ≤ xs.length ∧ by' xs 0 = 84 ∧ by' xs 1 ≤ 32 ∧ upto xs 2 (by' xs 1) = some (L, xs.length) ∧ isTree L = true := by
  by_cases hh : xs.length < 2 ∨ by' xs 0 ≠ 84 ∨ 32 < by' xs 1
  · rw [parse_head hh] at h; cases h
  · rw [parse_count hh] at h
    rcases hq : upto xs 2 (by' xs 1) with _ | ⟨L', a⟩
    · rw [hq] at h; cases h
    · rw [hq] at h
      simp only [Option.bind_some] at h
      split at h
      · rename_i hc
        cases h
        exact ⟨by omega, by omega, by omega, by rw [hc.1], hc.2⟩
      · cases h
/-- P7.4, P7.6: what is read is written again. -/
theorem parse_enc {xs : List UInt8} {L : List Ent} (h : parse xs = some L) : encT L = xs ∧ isTree L = true := by
  obtain ⟨h0, h1, h2, h3, h4⟩ := parse_inv h
  obtain ⟨q, _⟩ := upto_bytes h0 h3
  have hl := upto_len h3
  rw [List.take_of_length_le (Nat.le_refl _)] at q
  refine ⟨?_, h4⟩
  have e1 : xs.take 2 = [xs[0], xs[1]] := by
    match xs, h0 with
    | x :: y :: r, _ => rfl
  unfold encT
  rw [hl, by_back (show 1 < xs.length by omega)]
  have b0 : (84 : UInt8) = xs[0] := by
    have := by_back (show 0 < xs.length by omega)
    rw [h1] at this
    exact this
  rw [b0]
  rw [e1] at q
  exact q.symm
theorem upto_ok {xs : List UInt8} {a : Nat} : ∀ {k : Nat} {L : List Ent} {at_ : Nat}, upto xs a k = some (L, at_) → ∀ e ∈ L, EntOk e
  | 0, L, at_, h => by simp only [upto, Option.some.injEq, Prod.mk.injEq] at h; rw [← h.1]; simp
  | k + 1, L, at_, h => by
    simp only [upto, Option.bind_eq_some_iff, Option.map_eq_some_iff] at h
    obtain ⟨⟨L0, a0⟩, h1, ⟨e, a1⟩, h2, h3⟩ := h
    cases h3
    intro x hx
    simp only [List.mem_append, List.mem_singleton] at hx
    rcases hx with hx | rfl
    · exact upto_ok h1 x hx
    · exact (rd_some (p := 0) h2).2.2.2
end Tn

set_option maxHeartbeats 1600000 in
set_option maxRecDepth 100000 in
theorem only_walk (ao : Option Addr) (n cap : Nat) (xs : List UInt8) (w : World) (hT : Tabs w) (hin : InB w ao n cap xs) :
    Calls Tryd.prog 7 #[.slice ao n cap] w fun r w' => r = .returned (.bool true) ∧ Below w.heap.size w w' := by
  have hk := known_ok w hT
  have HT := hide hT
  have HI := hide hin
  have hcm := hin.max
  have hle := hin.le
  clear hT hin
  rcases hp : Tn.parse xs with _ | L
  · have HP := hide hp
    clear hp
    go_enter Tryd.func7, Tryd.ntmps7
    go_wp2_with (first
      | (go_at_call 9; refine hk.mono ?_; rintro r w1 ⟨rfl, hb1⟩; have hpa := parse_ok ao n cap xs w1 HI.out.len (by omega) (HI.out.sl.kept (Kept.of_below hb1) (by simp)) HI.out.nil (HT.out.below hb1); rw [HP.out] at hpa; have HB1 := hide hb1; clear hk hb1)
      | (go_at_call 18; refine hpa.mono ?_; rintro r w2 ⟨⟨v, rfl, hv⟩, hb2⟩; obtain ⟨ao2, cap2, rfl, _⟩ := hv.ents; have HB2 := hide (HB1.out.trans (hb2.mono HB1.out.size)); clear hpa hv hb2))
    go_ret
    exact ⟨rfl, HB2.out⟩
  · obtain ⟨he, ht⟩ := Tn.parse_enc hp
    have hee : Tn.encd L = xs := by simp [Tn.encd, ht, he]
    have h32 := Tn.isTree_len ht
    have HP := hide (And.intro hp (And.intro hee ht))
    clear hp he hee ht
    go_enter Tryd.func7, Tryd.ntmps7
    go_wp2_with (first
      | (go_at_call 9; refine hk.mono ?_; rintro r w1 ⟨rfl, hb1⟩; have hpa := parse_ok ao n cap xs w1 HI.out.len (by omega) (HI.out.sl.kept (Kept.of_below hb1) (by simp)) HI.out.nil (HT.out.below hb1); rw [HP.out.1] at hpa; have HB1 := hide hb1; clear hk hb1)
      | (go_at_call 18; refine hpa.mono ?_; rintro r w2 ⟨⟨v, rfl, hv⟩, hb2⟩; obtain ⟨ao2, cap2, hv2, hlc, hE, _⟩ := hv.ents; subst hv2; have hB2 := HB1.out.trans (hb2.mono HB1.out.size); have hen := encode_ok ao2 L.length cap2 L w2 rfl hlc (by omega) hE (HT.out.below hB2); rw [HP.out.2.1, HP.out.2.2] at hen; have HB2 := hide hB2; clear hpa hv hb2 hB2 hE)
      | (go_at_call 13; refine hen.mono ?_; rintro r w3 ⟨⟨v, rfl, hv⟩, hb3⟩; obtain ⟨ao3, cap3, hv3, hlc3, hsl3, _⟩ := OwnB.shape hv; subst hv3; have hB3 := HB2.out.trans (hb3.mono HB2.out.size); have hsm := same_any ao3 ao xs.length cap3 n cap xs xs w3 rfl HI.out.len (by rw [HI.out.len]; omega) hsl3 (HI.out.sl.kept (Kept.of_below hB3) (by simp)); rw [decide_eq_true (rfl : xs = xs)] at hsm; have HB3 := hide hB3; clear hen hv hb3 hB3 hsl3)
      | (go_at_call 15; refine hsm.mono ?_; rintro r w4 ⟨rfl, m, rfl⟩; clear hsm))
    go_ret
    exact ⟨rfl, below_drewN HB3.out m⟩
end Go.Proofs.YthjknkkjjpjhmaaDoor
