/-
  The walk: freightlaw8.TableUnion. (Written by tools/t8y.py.)
-/
import Derived.Test.YtdeneflgldagpabT8w2
import Derived.Test.YtdeneflgldagpabT8i
import Derived.Test.YtdeneflgldagpabT8j
import Derived.Test.YtdeneflgldagpabT8o
import Derived.Test.YtdeneflgldagpabT8t
import Derived.Test.YtdeneflgldagpabZx
namespace Go.Proofs.Ytdeneflgldagpab
open Go.RowKit Go.Sort
set_option linter.unusedVariables false
set_option linter.unusedSimpArgs false

theorem wao3 (ao : Option Addr) : Wao ao := by cases ao with
  | none => exact .inl rfl
  | some a => exact .inr ⟨a, rfl⟩
/-- What a Join told, in memory that lies below a world. -/
structure Jd (w : World) (S : Tb.St) (bo : Option Addr) (m c : Nat) (co : Option Addr) (q d : Nat) : Prop where
  lm : S.1.length = m
  lq : S.2.1.length = q
  rs : Ress w bo S.1
  ids : Idss w co S.2.1
  l32 : ∀ i ∈ S.2.1, i.length = 32
  nl : bo = none → c = 0
  le : m ≤ c
  mx : c ≤ 9223372036854775807
theorem Jd.kept {w w' : World} {S : Tb.St} {bo co : Option Addr} {m c q d : Nat} (h : Jd w S bo m c co q d) (hk : Kept [] w w') : Jd w' S bo m c co q d :=
  ⟨h.lm, h.lq, h.rs.kept hk (by simp), h.ids.kept hk (by simp), h.l32, h.nl, h.le, h.mx⟩
theorem told_jd {w w' : World} {r : Ending} {S : Tb.St} (h : ToldJ w w' r S) : ∃ bo m c co q d, r = .returned (.tuple #[.slice bo m c, .slice co q d, .int .i64 S.2.2]) ∧ Jd w' S bo m c co q d ∧ Kept [] w w' := by
  obtain ⟨⟨v, vc, rfl, ho, hi⟩, hk⟩ := h
  obtain ⟨co, d, rfl, hI, _⟩ := own_ids hi
  rcases ho.2 with ⟨rfl, h0⟩ | ⟨g, cap, cur, rfl, hb, hg, hn, hc, hs, ht⟩
  · exact ⟨none, 0, 0, co, _, d, rfl, ⟨h0, rfl, by rw [List.eq_nil_of_length_eq_zero h0]; exact Ress.nil _ _, hI, hi.2, fun _ => rfl, Nat.le_refl _, by omega⟩, hk⟩
  · obtain ⟨bo, c, e1, h2, hR, _, h3⟩ := ho.ress
    cases e1
    exact ⟨_, _, _, co, _, d, rfl, ⟨rfl, rfl, hR, hI, hi.2, by simp, h2, h3⟩, hk⟩
/-- append(ids, one), of a row of a call's own. -/
theorem run_app1I {w : World} {base : Nat} {v : Value} {C : List (List UInt8)} (h : OwnI w base v C) (hb : base ≤ w.heap.size) (A : List UInt8) (hA : A.length = 32) (hl : C.length ≤ 1000000) :
    ∃ v' w', (Builtin.append_ #[42, 42] 42 #[v, .slice (some ⟨w.heap.size, 0, none⟩) 1 1]).run Try.prog (w.alloc (.cells (bys A).toArray 34)) = .ok v' w' ∧ OwnI w' base v' (C ++ [A]) ∧ Below base w w' := by
  have kN : Kept [] w (w.alloc (.cells (bys A).toArray 34)) := (Kept.refl [] w).alloc _
  have h' : OwnI (w.alloc (.cells (bys A).toArray 34)) base v C := h.kept kN (by simp)
  obtain ⟨v', w', hrun, ho, hk, hbl⟩ := run_appI h' (Nat.le_trans hb kN.size) A hA w.heap.size (heap_new w _) (by omega)
  refine ⟨v', w', hrun, ho, ?_⟩
  have k2 : Kept v.ownBlock.toList w w' := (kN.mono (l2 := v.ownBlock.toList) (by simp)).trans (hk v.ownBlock.toList (by simp)) (fun i hi _ => hi)
  exact k2.below hb (fun g hg => (own_lt h.1 (by simpa using hg)).1)
theorem res_act_rangeU {w : World} {b o : Nat} {e : Res} (h : w.rangeAt b o e.cells) : w.rangeAt b o (bys e.action) := fun j v hv => h j v (by unfold Res.cells; rw [List.getElem?_append_left (List.getElem?_eq_some_iff.1 hv).1]; exact hv)

set_option maxHeartbeats 6400000 in
set_option maxRecDepth 100000 in
theorem union_bad (ao : Option Addr) (n cap : Nat) (ao2 : Option Addr) (n2 cap2 : Nat) (L L2 : List Res) (w : World) (hi : InR w ao n cap L) (hi2 : InR w ao2 n2 cap2 L2) (hv : Tb.valid L = false ∨ Tb.valid L2 = false) :
    Calls Try.prog 5 #[.slice ao n cap, .slice ao2 n2 cap2] w fun e w' => e = .returned (.bool true) ∧ Below w.heap.size w w' := by
  have hcm := hi.max
  have hle := hi.le
  have hcm2 := hi2.max
  have hle2 := hi2.le
  have hm : n ≤ 4611686018427387904 := by omega
  have hm2 : n2 ≤ 4611686018427387904 := by omega
  have HI := hide hi
  have HI2 := hide hi2
  have HJ : Hid (∀ p, 1 ≤ p → p ≤ 3 → ∀ W, Kept [] w W → Calls Try.prog 16 #[.slice ao n cap, .slice ao2 n2 cap2, .int .i64 p] W fun r w' => ToldJ W w' r ([], [], 80)) := fun p h1 h3 W hk => by
    have := join_ok ao ao2 n cap n2 cap2 L L2 p W hm hm2 hi.len hi2.len ⟨hi.ress.kept hk (by simp), wao3 ao, fun h => (hi.nil h).2⟩ ⟨hi2.ress.kept hk (by simp), wao3 ao2, fun h => (hi2.nil h).2⟩ hle hle2 (by omega) (by omega)
    rwa [show Tb.join L L2 p = ([], [], 80) by unfold Tb.join; rw [if_neg (by omega), if_pos hv]] at this
  have h1 := HJ.out 1 (by omega) (by omega) w (Kept.refl _ _)
  clear hi hi2 hcm hle hcm2 hle2
  obtain ⟨V, hV⟩ : ∃ V, Tb.valid L = V := ⟨_, rfl⟩
  obtain ⟨V2, hV2⟩ : ∃ V, Tb.valid L2 = V := ⟨_, rfl⟩
  rw [hV, hV2] at hv
  have HV := hide (And.intro hV hV2)
  clear hV hV2
  go_enter Try.func5, Try.ntmps5
  go_upto_region 2 with (go_at_call 16; refine h1.mono ?_; intro r w1 ht; obtain ⟨bo1, m1, c1, co1, q1, d1, rfl, hj, hk⟩ := told_jd ht; obtain rfl : m1 = 0 := hj.lm.symm; obtain rfl : q1 = 0 := hj.lq.symm; have K1 := hide hk; clear ht hj hk h1)
  have h1 := HJ.out 2 (by omega) (by omega) w1 K1.out
  go_upto_region 3 with (go_at_call 16; refine h1.mono ?_; intro r w2 ht; obtain ⟨bo2, m2, c2, co2, q2, d2, rfl, hj, hk⟩ := told_jd ht; obtain rfl : m2 = 0 := hj.lm.symm; obtain rfl : q2 = 0 := hj.lq.symm; have K2 := hide (K1.out.trans hk (by simp)); clear ht hj hk h1)
  have h1 := HJ.out 3 (by omega) (by omega) w2 K2.out
  go_upto_region 4 with (go_at_call 16; refine h1.mono ?_; intro r w3 ht; obtain ⟨bo3, m3, c3, co3, q3, d3, rfl, hj, hk⟩ := told_jd ht; obtain rfl : m3 = 0 := hj.lm.symm; obtain rfl : q3 = 0 := hj.lq.symm; have K3 := hide (K2.out.trans hk (by simp)); clear ht hj hk h1)
  have hft := fits_ok ao n cap L w3 HI.out.len (HI.out.ress.kept K3.out (by simp)) hm
  rw [HV.out.1] at hft
  cases V with
  | false =>
    go_wp2_with (first
      | (go_at_call 11; refine hft.mono ?_; rintro r w4 ⟨rfl, hk⟩; have K4 := hide (K3.out.trans hk (by simp)); clear hk hft)
      | (go_at_call 8; refine (awake_ok _).mono ?_; rintro r w5 ⟨rfl, hk⟩; have HD := hide hk; clear hk))
    go_ret
    exact ⟨rfl, (K4.out.trans HD.out (by simp)).below (Nat.le_refl _) (by simp)⟩
  | true =>
    obtain rfl : V2 = false := by simpa using hv
    go_wp2_with (first
      | (have z := hft; go_at_call 11; refine hft.mono ?_; rintro r w4 ⟨rfl, hk⟩; have K4 := hide (K3.out.trans hk (by simp)); clear hk hft z; have hfu := fits_ok ao2 n2 cap2 L2 w4 HI2.out.len (HI2.out.ress.kept K4.out (by simp)) hm2; rw [HV.out.2] at hfu)
      | (go_at_call 11; refine hfu.mono ?_; rintro r w5 ⟨rfl, hk⟩; have K5 := hide (K4.out.trans hk (by simp)); clear hk hfu)
      | (go_at_call 8; refine (awake_ok _).mono ?_; rintro r w6 ⟨rfl, hk⟩; have HD := hide hk; clear hk))
    go_ret
    exact ⟨rfl, (K5.out.trans HD.out (by simp)).below (Nat.le_refl _) (by simp)⟩

end Go.Proofs.Ytdeneflgldagpab
