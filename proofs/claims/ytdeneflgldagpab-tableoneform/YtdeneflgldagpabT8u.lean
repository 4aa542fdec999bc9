/-
  The walk: freightlaw8.TableOneForm.
-/
import Derived.Test.YtdeneflgldagpabT8l
import Derived.Test.YtdeneflgldagpabT8m
import Derived.Test.YtdeneflgldagpabT8t
import Derived.Test.YtdeneflgldagpabEa
namespace Go.Proofs.Ytdeneflgldagpab
open Go.RowKit Go.Sort
set_option linter.unusedVariables false
set_option linter.unusedSimpArgs false

theorem wao1 (ao : Option Addr) : Wao ao := by cases ao with
  | none => exact .inl rfl
  | some a => exact .inr ⟨a, rfl⟩

set_option maxHeartbeats 6400000 in
set_option maxRecDepth 100000 in
theorem oneform_walk (ao : Option Addr) (n cap : Nat) (xs : List UInt8) (w : World) (hi : InB w ao n cap xs) :
    Calls Try.prog 3 #[.slice ao n cap] w fun e w' => e = .returned (.bool true) ∧ Below w.heap.size w w' := by
  have hcm := hi.max
  have hle := hi.le
  have hnm : n ≤ 4611686018427387904 := by omega
  have HS := hide hi.sl
  have HN := hide hi.len
  have hpa := parse_ok ao n cap xs w hi.len (by omega) hi.sl hi.nil
  clear hi hcm hle
  rcases hp : Tb.parse xs with _ | L
  · rw [hp] at hpa
    have e80 : Tb.code (none : Option (List Res)).isSome = 80 := rfl
    rw [e80] at hpa
    clear hp e80
    go_enter Try.func3, Try.ntmps3
    go_wp2_with (first
      | (go_at_call 7; refine hpa.mono ?_; intro r w2 ht; obtain ⟨bo1, c1, m, rfl, hm1, hs1, hb1, hk1⟩ := told_openR ht; obtain rfl : m = 0 := hm1.symm; have H2 := hide hk1; clear ht hm1 hs1 hb1 hk1 hpa)
      | (go_at_call 8; refine (awake_ok _).mono ?_; rintro r w5 ⟨rfl, hk5⟩; have HD := hide hk5; clear hk5))
    go_ret
    exact ⟨rfl, (H2.out.trans HD.out (by simp)).below (Nat.le_refl _) (by simp)⟩
  · rw [hp] at hpa
    have e1 : Tb.code (some L).isSome = 0 := rfl
    rw [e1] at hpa
    have HV := hide (Tb.parse_valid hp)
    have HE : Hid (Tb.encd L = xs) := by show _ = _; unfold Tb.encd; rw [HV.out, if_pos rfl]; exact Tb.enc_parse hp
    have h32 := Tb.valid_len HV.out
    have HL32 := hide h32
    clear hp e1 h32
    go_enter Try.func3, Try.ntmps3
    go_upto_region 4 with (go_at_call 7; refine hpa.mono ?_; intro r w2 ht; obtain ⟨bo1, c1, m, rfl, hm1, hs1, hb1, hk1⟩ := told_openR ht; have H2 := hide (And.intro hm1 (And.intro hs1 hk1)); clear ht hm1 hs1 hb1 hk1 hpa)
    have HM : Hid (L.length = m) := H2.out.1
    have hmm : m ≤ 32 := by have := HM.out; have := HL32.out; change L.length ≤ 32 at this; omega
    have hen := encode_ok bo1 m c1 L w2 HM.out (by omega) H2.out.2.1 (wao1 bo1)
    rw [HV.out, HE.out] at hen
    have e0 : Tb.code true = 0 := rfl
    go_upto_region 5 with (go_at_call 9; refine hen.mono ?_; intro r w3 ht; obtain ⟨bo3, c3, n3, rfl, hm1, hs1, hb1, hmc, hk1⟩ := told_open ht; rw [e0]; obtain rfl : n3 = n := (hm1.symm.trans HN.out); have H3 := hide (And.intro hs1 hk1); clear ht hm1 hs1 hb1 hk1 hen hmc)
    clear e0
    have K3 : Hid (Kept [] w w3) := H2.out.2.2.trans H3.out.2 (by simp)
    have hsm := same_yes bo3 ao n3 c3 cap xs w3 HN.out hnm H3.out.1 (HS.out.kept K3.out (by simp))
    go_wp2_with (first
      | (go_at_call 10; refine hsm.mono ?_; rintro r w4 ⟨rfl, hk⟩; have K4 := hide hk; clear hk hsm; have hft := fits_ok bo1 m c1 L w4 HM.out ((H2.out.2.1.kept H3.out.2 (by simp)).kept K4.out (by simp)) (by omega); rw [HV.out] at hft)
      | (go_at_call 11; refine hft.mono ?_; rintro r w5 ⟨rfl, hk⟩; have K5 := hide (K4.out.trans hk (by simp)); clear hk hft)
      | (go_at_call 8; refine (awake_ok _).mono ?_; rintro r w6 ⟨rfl, hk5⟩; have HD := hide hk5; clear hk5))
    go_ret
    exact ⟨rfl, ((K3.out.trans K5.out (by simp)).trans HD.out (by simp)).below (Nat.le_refl _) (by simp)⟩
end Go.Proofs.Ytdeneflgldagpab
