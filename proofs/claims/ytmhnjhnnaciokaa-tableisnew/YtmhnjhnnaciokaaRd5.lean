/-
  Contracts: code.Reader, Text.
-/
import Derived.Test.YtmhnjhnnaciokaaRd4
namespace Go.Proofs.Ytmhnjhnnaciokaa
open Go.RowKit
set_option linter.unusedVariables false

/-- Reader.Number, its three parts under names. -/
theorem rnumber_as {w : World} {b : Nat} {p : Int} {ao : Option Addr} {cap : Nat} {xs : List UInt8} {at_ : Nat} (h : Rd w b 0 p ao cap xs at_) {v k : Nat} (hr : Pure.num (xs.drop at_) = (v, k, 0)) :
    Calls Try.prog 40 #[.pointer (some ⟨b, 0, none⟩)] w fun e' w' => e' = .returned (.int .i64 v) ∧ Kept [b] w w' ∧ Rd w' b 0 p ao cap xs (at_ + k) := by
  refine (rnumber_ok h).mono fun e w' ⟨he, hk, hR⟩ => ?_
  rw [hr] at he hR
  exact ⟨he, hk, hR⟩
theorem rnumber_no {w : World} {b : Nat} {p : Int} {ao : Option Addr} {cap : Nat} {xs : List UInt8} {at_ : Nat} (h : Rd w b 0 p ao cap xs at_) {v k c : Nat} (hr : Pure.num (xs.drop at_) = (v, k, c)) (hc : c ≠ 0) :
    Calls Try.prog 40 #[.pointer (some ⟨b, 0, none⟩)] w fun e' w' => e' = .returned (.int .i64 0) ∧ Kept [b] w w' ∧ Rd w' b c at_ ao cap xs at_ := by
  have hf := Pure.num_facts (xs.drop at_)
  rw [hr] at hf
  obtain ⟨rfl, rfl⟩ : v = 0 ∧ k = 0 := by simp only at hf; omega
  refine (rnumber_ok h).mono fun e w' ⟨he, hk, hR⟩ => ?_
  rw [hr] at he hR
  rw [if_neg hc] at hR
  exact ⟨he, hk, hR⟩

end Go.Proofs.Ytmhnjhnnaciokaa
