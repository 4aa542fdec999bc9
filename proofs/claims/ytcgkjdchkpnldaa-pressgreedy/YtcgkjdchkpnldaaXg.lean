/-
  PressGreedy: freightlaw4.run; the groups read item by item, as mathematics.
-/
import Derived.Test.YtcgkjdchkpnldaaXa
namespace Go.Proofs.Ytcgkjdchkpnldaa
open Go.RowKit
set_option linter.unusedVariables false
set_option linter.unusedSimpArgs false

set_option maxHeartbeats 2000000 in
set_option maxRecDepth 100000 in
theorem run_ok (pb po N pc f t d : Nat) (data : List UInt8) (w : World) (hN : data.length = N) (hmax : N ≤ 4096) (hd1 : 1 ≤ d) (hf : t = f + d) (ht : t ≤ N) (hc : ∀ i, i < data.length → w.cell? ⟨pb, po + i, none⟩ = some (.int .u8 (data.getD i 0).toNat)) :
    Calls Try.prog 17 #[.slice (some ⟨pb, po, none⟩) N pc, .int .i64 t, .int .i64 d] w fun e w' => e = .returned (.int .i64 (Prs.alike data f t 66 : Nat)) ∧ Kept [] w w' := by
  have HF : Hid (t = f + d ∧ 1 ≤ d) := ⟨hf, hd1⟩
  have HN := hide hN
  have HC := hide hc
  have hft : f < t := by omega
  clear hN hc hf hd1
  go_enter Try.func17, Try.ntmps17
  go_wp2
  go_loopw [7] (fun i wr => ∃ k : Nat, k ≤ 66 ∧ i = .int .i64 k ∧ Hid (k ≤ Prs.alike data f t 66 ∧ Kept [] w wr)) (fun i _ => 66 - (intOf i).toNat)
  case atStart => exact ⟨0, by omega, rfl, Nat.zero_le _, Kept.refl _ _⟩
  case round =>
    obtain ⟨k, hk66, rfl, HK⟩ := hrel
    by_cases h66 : k < 66
    · have hq1 : (k : Int) < 66 := by omega
      have hw1 : IntKind.i64.wrap ((t : Int) + (k : Int)) = (t : Int) + (k : Int) := by simp [IntKind.wrap, IntKind.bits, IntKind.signed]; omega
      have hw2 : True := trivial
      by_cases hin : t + k < N
      · have hq2 : (t : Int) + (k : Int) < (N : Int) := by omega
        have cx : wr.cell? ⟨pb, po + (f + k), none⟩ = some (.int .u8 (data.getD (f + k) 0).toNat) := HK.out.2.cellOf (HC.out (f + k) (by have := HN.out; have := HF.out; omega)) (by simp)
        have cy : wr.cell? ⟨pb, po + (t + k), none⟩ = some (.int .u8 (data.getD (t + k) 0).toNat) := HK.out.2.cellOf (HC.out (t + k) (by have := HN.out; omega)) (by simp)
        obtain ⟨tk, htk⟩ : ∃ tk, tk = t + k := ⟨_, rfl⟩
        obtain ⟨fk, hfk⟩ : ∃ fk, fk = f + k := ⟨_, rfl⟩
        have hw3 : IntKind.i64.wrap ((t : Int) + (k : Int)) = (tk : Int) := by rw [hw1]; omega
        have hw4 : IntKind.i64.wrap ((tk : Int) - (d : Int)) = (fk : Int) := by have := HF.out; simp [IntKind.wrap, IntKind.bits, IntKind.signed]; omega
        rw [← htk] at cy hin
        rw [← hfk] at cx
        have g1 : (tk : Int) < (N : Int) := by omega
        have g2 : (fk : Int) < (N : Int) := by have := HF.out; omega
        have HT := hide (And.intro htk hfk)
        clear hw1 hw2 hq2 htk hfk
        by_cases hbe : data.getD fk 0 = data.getD tk 0
        · have hne : (((data.getD tk 0).toNat : Int) == ((data.getD fk 0).toNat : Int)) = true := by rw [hbe]; simp
          generalize (data.getD tk 0).toNat = xx at cy hne
          generalize (data.getD fk 0).toNat = yy at cx hne
          go_wp2
          go_quiet (fail)
          have HK2 := hide (HK.out.2.drewN nq)
          clear cx cy hw3 hw4
          generalize wr.drewN nq = w6 at HK2 ⊢
          go_wp2
          go_roundw
          case rel => exact ⟨k + 1, by omega, by go_num, Prs.alike_goes data f t k (by have := HN.out; omega) HK.out.1 (by unfold Prs.mostAt; have := HN.out; have := HT.out; omega) (by rw [← HT.out.1, ← HT.out.2]; exact hbe), HK2.out⟩
          case measure => simp [intOf]; omega
        · have hne : (((data.getD tk 0).toNat : Int) == ((data.getD fk 0).toNat : Int)) = false := by
            simp only [beq_eq_false_iff_ne, ne_eq, Int.natCast_inj]
            exact fun e => hbe (UInt8.toNat_inj.1 e).symm
          generalize (data.getD tk 0).toNat = xx at cy hne
          generalize (data.getD fk 0).toNat = yy at cx hne
          go_wp2
          go_quiet (fail)
          have HK2 := hide (HK.out.2.drewN nq)
          clear cx cy hw3 hw4
          generalize wr.drewN nq = w6 at HK2 ⊢
          go_wp2
          go_ret
          exact ⟨by rw [Prs.alike_ends data f t k HK.out.1 (by rw [← HT.out.1, ← HT.out.2]; exact hbe)]; rfl, HK2.out⟩
      · obtain ⟨tk, htk⟩ : ∃ tk, tk = t + k := ⟨_, rfl⟩
        have hw3 : IntKind.i64.wrap ((t : Int) + (k : Int)) = (tk : Int) := by rw [hw1]; omega
        have hq2 : ¬ ((tk : Int) < (N : Int)) := by omega
        have hq3 : ¬ (tk < N) := by omega
        have HIN := hide hin
        clear hw1 hw2 htk hin
        go_wp2
        go_quiet (fail)
        have HK2 := hide (HK.out.2.drewN nq)
        generalize wr.drewN nq = w6 at HK2 ⊢
        go_wp2
        go_ret
        have := Prs.alike_in data 66 f t (by have := HN.out; omega)
        exact ⟨by rw [show Prs.alike data f t 66 = k by have := HN.out; have := HK.out.1; have := HIN.out; omega]; rfl, HK2.out⟩
    · obtain rfl : k = 66 := by omega
      go_wp2
      go_quiet (fail)
      have HK2 := hide (HK.out.2.drewN nq)
      generalize wr.drewN nq = w6 at HK2 ⊢
      go_wp2
      go_ret
      have := Prs.alike_le data 66 f t
      exact ⟨by rw [show Prs.alike data f t 66 = 66 by have := HK.out.1; omega]; rfl, HK2.out⟩


namespace Prs
/-- Between two groups. -/
def GO (ds p : List UInt8) (k t : Nat) : Prop := t ≤ ds.length ∧ k ≤ p.length ∧ p.drop k = encs (items ds ds.length t) [] []
/-- Within a group: b items are read, their flag's bits are gone. -/
def GI (ds p : List UInt8) (k t b f : Nat) : Prop := ∃ J rest, J ++ rest = items ds ds.length t ∧ f = flagOf J ∧ p.drop k = flat J ++ encs rest [] [] ∧ b + J.length ≤ 8 ∧ (b + J.length = 8 ∨ rest = []) ∧ t ≤ ds.length ∧ k ≤ p.length

theorem GO.start (ds : List UInt8) : GO ds (pack ds) 0 0 := ⟨Nat.zero_le _, Nat.zero_le _, rfl⟩
theorem GO.stop {ds p : List UInt8} {k t : Nat} (h : GO ds p k t) (hk : ¬ k < p.length) : t = ds.length := by
  obtain ⟨h1, h2, h3⟩ := h
  rw [List.drop_of_length_le (by omega)] at h3
  by_cases ht : t < ds.length
  · obtain ⟨g, _, e⟩ := items_cons ds ds.length t ht (by omega)
    rw [encs_split _ (by rw [e]; simp)] at h3
    simp at h3
  · omega
theorem GO.open {ds p : List UInt8} {k t : Nat} (h : GO ds p k t) (hk : k < p.length) : (p.getD k 0).toNat < 256 ∧ GI ds p (k + 1) t 0 (p.getD k 0).toNat := by
  obtain ⟨h1, h2, h3⟩ := h
  have hne : items ds ds.length t ≠ [] := by
    intro e
    rw [e] at h3
    have : (p.drop k).length = 0 := by rw [h3]; simp [encs, outOf]
    simp at this
    omega
  rw [encs_split _ hne, drop_cons p k hk] at h3
  simp only [List.cons_append, List.cons.injEq] at h3
  have h8 : 2 ^ ((items ds ds.length t).take 8).length ≤ 2 ^ 8 := Nat.pow_le_pow_right (by decide) (by simp; omega)
  have hf : flagOf ((items ds ds.length t).take 8) < 256 := by have := flagOf_lt ((items ds ds.length t).take 8); omega
  have hv : (p.getD k 0).toNat = flagOf ((items ds ds.length t).take 8) := by rw [h3.1, UInt8.toNat_ofNat', Nat.mod_eq_of_lt hf]
  refine ⟨UInt8.toNat_lt _, (items ds ds.length t).take 8, (items ds ds.length t).drop 8, List.take_append_drop _ _, hv, h3.2, by simp; omega, ?_, h1, by omega⟩
  rcases Nat.lt_or_ge 8 (items ds ds.length t).length with h' | h'
  · left; simp; omega
  · right; exact List.drop_of_length_le h'
theorem GI.done {ds p : List UInt8} {k t f : Nat} (h : GI ds p k t 8 f) : GO ds p k t := by
  obtain ⟨J, rest, h1, h2, h3, h4, h5, h6, h7⟩ := h
  have : J = [] := List.eq_nil_of_length_eq_zero (by omega)
  subst this
  simp only [List.nil_append] at h1
  exact ⟨h6, h7, by rw [h3, ← h1]; simp [flat]⟩
theorem GI.gap {ds p : List UInt8} {k t b f : Nat} (h : GI ds p k t b f) (hb : b < 8) (ht : t = ds.length) : f = 0 ∧ GI ds p k t (b + 1) 0 := by
  obtain ⟨J, rest, h1, h2, h3, h4, h5, h6, h7⟩ := h
  have he : items ds ds.length t = [] := by
    have := items_fuel ds ds.length 0 t h6 (by omega) (by omega)
    rw [this]; rfl
  rw [he] at h1
  obtain ⟨rfl, rfl⟩ := List.append_eq_nil_iff.1 h1
  exact ⟨by rw [h2]; rfl, [], [], by rw [he]; rfl, rfl, h3, by simp; omega, .inr rfl, h6, h7⟩
theorem GI.item {ds p : List UInt8} {k t b f : Nat} (h : GI ds p k t b f) (hb : b < 8) (ht : t < ds.length) (i : Item) (l : Nat) (hi : itemAt ds t = (i, l)) :
    f % 2 = bitOf i ∧ (∃ tail, p.drop k = bodyOf i ++ tail) ∧ GI ds p (k + (bodyOf i).length) (t + l) (b + 1) (f / 2) := by
  obtain ⟨J, rest, h1, h2, h3, h4, h5, h6, h7⟩ := h
  obtain ⟨_, e2, e3⟩ := item_made ds t ht
  rw [hi] at e2 e3
  simp only at e2 e3
  obtain ⟨g, hg, e⟩ := items_cons ds ds.length t ht (by omega)
  rw [hi] at e hg
  simp only at e hg
  rw [items_fuel ds g ds.length (t + l) e3 hg (by omega)] at e
  rw [e] at h1
  cases J with
  | nil =>
    rcases h5 with h5 | h5
    · simp at h5; omega
    · subst h5; simp at h1
  | cons a J' =>
    simp only [List.cons_append, List.cons.injEq] at h1
    obtain ⟨rfl, h1⟩ := h1
    have hbit := bitOf_lt a
    simp only [flagOf] at h2
    simp only [flat, List.append_assoc] at h3
    have hlen : (bodyOf a).length ≤ (p.drop k).length := by rw [h3]; simp
    simp only [List.length_drop] at hlen
    refine ⟨by omega, ⟨_, h3⟩, J', rest, h1, by omega, ?_, by simp at h4; omega, ?_, e3, by omega⟩
    · rw [← List.drop_drop, h3, List.drop_left]
    · rcases h5 with h5 | h5
      · left; simp at h5; omega
      · right; exact h5
end Prs

end Go.Proofs.Ytcgkjdchkpnldaa
