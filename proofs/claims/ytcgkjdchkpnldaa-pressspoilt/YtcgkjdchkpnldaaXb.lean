/-
  The walk: freightlaw4.PressBack. (Written by tools/xb.py.)
-/
import Derived.Test.YtcgkjdchkpnldaaXa
namespace Go.Proofs.Ytcgkjdchkpnldaa
open Go.RowKit
set_option linter.unusedVariables false
set_option linter.unusedSimpArgs false

theorem same_yes (a1 a2 : Option Addr) (n c1 c2 : Nat) (xs : List UInt8) (w : World) (hx : xs.length = n) (hm : n ≤ 4611686018427387904) (h1 : Sl w a1 xs) (h2 : Sl w a2 xs) :
    Calls Try.prog 12 #[.slice a1 n c1, .slice a2 n c2] w fun e w' => e = .returned (.bool true) ∧ ∃ k, w' = w.drewN k := by
  refine (same_any a1 a2 n c1 n c2 xs xs w hx hx hm h1 h2).mono ?_
  rintro e w' ⟨rfl, h⟩
  exact ⟨by simp, h⟩

theorem Prs.unpack_of (xs : List UInt8) (n : Nat) (h : n ≤ 4096) : Prs.unpack xs n = Prs.unp n 0 0 xs [] := by
  unfold Prs.unpack
  rw [if_neg (by omega)]
  rfl

/-- Two things that stay: what was there at first, what was there behind the first call. -/
def Bl (w w1 W : World) : Prop := Below w.heap.size w W ∧ Below w1.heap.size w1 W
theorem Bl.on {w w1 W W' : World} (h : Bl w w1 W) (hb : Below W.heap.size W W') : Bl w w1 W' := ⟨h.1.trans (Below.less hb h.1.size), h.2.trans (Below.less hb h.2.size)⟩
theorem Bl.drewN {w w1 W : World} (h : Bl w w1 W) (n : Nat) : Bl w w1 (W.drewN n) := h.on (((Kept.refl [] W).drewN n).below (Nat.le_refl _) (by simp))

set_option maxHeartbeats 1000000 in
set_option maxRecDepth 100000 in
theorem back_long (ao : Option Addr) (n cap : Nat) (xs : List UInt8) (w : World) (hi : InB w ao n cap xs) (hn : 4096 < n) :
    Calls Try.prog 6 #[.slice ao n cap] w fun e w' => e = .returned (.bool true) ∧ Below w.heap.size w w' := by
  have HP : Hid (Calls Try.prog 10 #[.slice ao n cap] w fun e w' => ∃ bo bc, e = .returned (.tuple #[.slice bo 0 bc, .int .i64 2]) ∧ w'.ownsRow w.heap.size 5 1 (.slice bo 0 bc) 0 (bys []) ∧ Below w.heap.size w w') := pack_at hi.len hi.sl w (Below.refl _ _) [] 2 (by unfold Prs.packed; rw [if_pos (by rw [hi.len]; exact hn)])
  have HAW : Hid (∀ W, Calls Try.prog 14 #[] W fun e w' => e = .returned (.bool true) ∧ Below W.heap.size W w') := awake_ok
  have hq : (4096 : Int) < (n : Int) := by omega
  clear hi
  go_enter Try.func6, Try.ntmps6
  go_wp2_with (first
    | (go_at_call 10; refine HP.out.mono ?_; rintro e w1 ⟨bo, bc, rfl, _, hb1⟩; have HB1 := hide hb1; clear hb1 HP)
    | (go_at_call 14; refine (HAW.out _).mono ?_; rintro e w3 ⟨rfl, hb3⟩; have HB3 := hide (HB1.out.trans (Below.less hb3 HB1.out.size)); clear hb3)
    | go_in)
  go_ret
  exact ⟨rfl, HB3.out⟩

set_option maxHeartbeats 800000 in
set_option maxRecDepth 100000 in
theorem back_mid (ao : Option Addr) (n cap : Nat) (xs : List UInt8) (w : World) (hi : InB w ao n cap xs) (h0 : 0 < n) (h4 : n < 4096) (m1 m2 : Int) (hm1 : (n : Int) - 1 = m1) (hm2 : (n : Int) + 1 = m2) :
    Calls Try.prog 6 #[.slice ao n cap] w fun e w' => e = .returned (.bool true) ∧ Below w.heap.size w w' := by
  have hlen := hi.len
  obtain ⟨p, hp⟩ : ∃ p, Prs.pack xs = p := ⟨_, rfl⟩
  have hpl := Prs.pack_len xs
  rw [hp, hlen] at hpl
  have HP : Hid (Calls Try.prog 10 #[.slice ao n cap] w fun e w' => ∃ bo bc, e = .returned (.tuple #[.slice bo p.length bc, .int .i64 0]) ∧ w'.ownsRow w.heap.size 5 1 (.slice bo p.length bc) p.length (bys p) ∧ Below w.heap.size w w') := pack_at hlen hi.sl w (Below.refl _ _) p 0 (by unfold Prs.packed; rw [if_neg (by omega), hp])
  have HAW : Hid (∀ W, Calls Try.prog 14 #[] W fun e w' => e = .returned (.bool true) ∧ Below W.heap.size W w') := awake_ok
  have e0 : Prs.unpack p ((n : Int) : Int) = (xs, 0) := by
    have := Prs.unp_pack xs n (by omega)
    rw [if_neg (by omega), hp] at this
    exact (Prs.unpack_of p n (by omega)).trans this
  have e1 : Prs.unpack p (m1 : Int) = ([], 41) := by
    have := Prs.unp_pack_less xs (n - 1) (by omega)
    rw [hp] at this
    rw [show m1 = ((n - 1 : Nat) : Int) by omega]
    exact (Prs.unpack_of p (n - 1) (by omega)).trans this
  have e2 : Prs.unpack p (m2 : Int) = ([], 41) := by
    have := Prs.unp_pack xs (n + 1) (by omega)
    rw [if_pos (by omega), hp] at this
    rw [show m2 = ((n + 1 : Nat) : Int) by omega]
    exact (Prs.unpack_of p (n + 1) (by omega)).trans this
  have HU : Hid (∀ w1 (bo : Option Addr) (bc : Nat), Sl w1 bo p → p.length ≤ bc → ∀ W, Below w1.heap.size w1 W → ∀ (m : Int) (r : List UInt8) (k : Nat), Prs.unpack p m = (r, k) → Calls Try.prog 15 #[.slice bo p.length bc, .int .i64 m] W fun e w' => ∃ bo bc, e = .returned (.tuple #[.slice bo r.length bc, .int .i64 k]) ∧ w'.ownsRow W.heap.size 5 1 (.slice bo r.length bc) r.length (bys r) ∧ Below W.heap.size W w') := fun w1 bo bc hs hc W hB m r k hr => unpack_at rfl hc hs m W hB r k hr
  have HX : Hid (Sl w ao xs ∧ xs.length = n) := ⟨hi.sl, hlen⟩
  have HE := hide (And.intro e0 (And.intro e1 e2))
  have hpl2 : p.length ≤ 8192 := by omega
  have hdv : Int.tdiv ((n : Int) + 7) 8 = (((n + 7) / 8 : Nat) : Int) := by rw [Int.tdiv_eq_ediv_of_nonneg (by omega)]; omega
  have hqp : ¬ ((n : Int) + (((n + 7) / 8 : Nat) : Int) < (p.length : Int)) := by omega
  have hq0 : ((n : Int) == 0) = false := by simp; omega
  have hq4 : ((n : Int) == 4096) = false := by simp; omega
  have hq5 : ¬ ((4096 : Int) < (n : Int)) := by omega
  clear hi hlen hp e0 e1 e2 hpl
  go_enter Try.func6, Try.ntmps6
  go_wp2_with (first
    | (go_at_call 10; refine HP.out.mono ?_; rintro e w1 ⟨bo, bc, rfl, ho1, hb1⟩; obtain ⟨hs1, hc1, _, _⟩ := own_slc ho1; have HU1 : Hid (∀ W, Below w1.heap.size w1 W → ∀ (m : Int) (r : List UInt8) (k : Nat), Prs.unpack p m = (r, k) → Calls Try.prog 15 #[.slice bo p.length bc, .int .i64 m] W fun e w' => ∃ bo bc, e = .returned (.tuple #[.slice bo r.length bc, .int .i64 k]) ∧ w'.ownsRow W.heap.size 5 1 (.slice bo r.length bc) r.length (bys r) ∧ Below W.heap.size W w') := HU.out w1 bo bc hs1 hc1; have HB : Hid (Bl w w1 w1) := ⟨hb1, Below.refl _ _⟩; clear hb1 HP ho1 hs1 hc1 HU)
    | (go_at_call_of 15 (Value.int IntKind.i64 (m1)); refine (HU1.out _ HB.out.2 _ _ _ HE.out.2.1).mono ?_; rintro e w4 ⟨bo4, bc4, rfl, _, hb4⟩; have HB2 := hide (HB.out.on hb4); clear hb4 HB; have HB := HB2; clear HB2)
    | (go_at_call_of 15 (Value.int IntKind.i64 (m2)); refine (HU1.out _ HB.out.2 _ _ _ HE.out.2.2).mono ?_; rintro e w5 ⟨bo5, bc5, rfl, _, hb5⟩; have HB2 := hide (HB.out.on hb5); clear hb5 HB; have HB := HB2; clear HB2)
    | (go_at_call 15; refine (HU1.out _ HB.out.2 _ _ _ HE.out.1).mono ?_; rintro e w2 ⟨bo2, bc2, rfl, ho2, hb2⟩; have HS2 := hide (own_slc ho2).1; rw [HX.out.2]; have HB2 := hide (HB.out.on hb2); clear hb2 ho2 HB; have HB := HB2; clear HB2)
    | (go_at_call 12; refine (same_yes bo2 ao n bc2 cap xs _ HX.out.2 (by omega) HS2.out (HX.out.1.later HB.out.1)).mono ?_; rintro e w3 ⟨rfl, k3', rfl⟩; have HB2 := hide (HB.out.drewN k3'); clear HB HS2; have HB := HB2; clear HB2; generalize w2.drewN k3' = w3 at HB ⊢)
    | (go_at_call 14; refine (HAW.out _).mono ?_; rintro e w6 ⟨rfl, hb6⟩; have HB2 := hide (HB.out.on hb6); clear hb6 HB; have HB := HB2; clear HB2)
    | go_in)
  go_ret
  exact ⟨rfl, HB.out.1⟩

set_option maxHeartbeats 800000 in
set_option maxRecDepth 100000 in
theorem back_nil (ao : Option Addr) (cap : Nat) (xs : List UInt8) (w : World) (hi : InB w ao 0 cap xs)  :
    Calls Try.prog 6 #[.slice ao 0 cap] w fun e w' => e = .returned (.bool true) ∧ Below w.heap.size w w' := by
  have hlen := hi.len
  obtain ⟨p, hp⟩ : ∃ p, Prs.pack xs = p := ⟨_, rfl⟩
  have hpl := Prs.pack_len xs
  rw [hp, hlen] at hpl
  have HP : Hid (Calls Try.prog 10 #[.slice ao 0 cap] w fun e w' => ∃ bo bc, e = .returned (.tuple #[.slice bo p.length bc, .int .i64 0]) ∧ w'.ownsRow w.heap.size 5 1 (.slice bo p.length bc) p.length (bys p) ∧ Below w.heap.size w w') := pack_at hlen hi.sl w (Below.refl _ _) p 0 (by unfold Prs.packed; rw [if_neg (by omega), hp])
  have HAW : Hid (∀ W, Calls Try.prog 14 #[] W fun e w' => e = .returned (.bool true) ∧ Below W.heap.size W w') := awake_ok
  have e0 : Prs.unpack p (0 : Int) = (xs, 0) := by
    have := Prs.unp_pack xs 0 (by omega)
    rw [if_neg (by omega), hp] at this
    exact (Prs.unpack_of p 0 (by omega)).trans this
  have e1 : Prs.unpack p (-1 : Int) = ([], 1) := by
    unfold Prs.unpack; rw [if_pos (by omega)]
  have e2 : Prs.unpack p (1 : Int) = ([], 41) := by
    have := Prs.unp_pack xs 1 (by omega)
    rw [if_pos (by omega), hp] at this
    exact (Prs.unpack_of p 1 (by omega)).trans this
  have HU : Hid (∀ w1 (bo : Option Addr) (bc : Nat), Sl w1 bo p → p.length ≤ bc → ∀ W, Below w1.heap.size w1 W → ∀ (m : Int) (r : List UInt8) (k : Nat), Prs.unpack p m = (r, k) → Calls Try.prog 15 #[.slice bo p.length bc, .int .i64 m] W fun e w' => ∃ bo bc, e = .returned (.tuple #[.slice bo r.length bc, .int .i64 k]) ∧ w'.ownsRow W.heap.size 5 1 (.slice bo r.length bc) r.length (bys r) ∧ Below W.heap.size W w') := fun w1 bo bc hs hc W hB m r k hr => unpack_at rfl hc hs m W hB r k hr
  have HX : Hid (Sl w ao xs ∧ xs.length = 0) := ⟨hi.sl, hlen⟩
  have HE := hide (And.intro e0 (And.intro e1 e2))
  have hpl2 : p.length ≤ 8192 := by omega
  have hdv : Int.tdiv ((0 : Int) + 7) 8 = (((0 + 7) / 8 : Nat) : Int) := by rw [Int.tdiv_eq_ediv_of_nonneg (by omega)]; omega
  have hqp : ¬ ((0 : Int) + (((0 + 7) / 8 : Nat) : Int) < (p.length : Int)) := by omega

  clear hi hlen hp e0 e1 e2 hpl
  go_enter Try.func6, Try.ntmps6
  go_wp2_with (first
    | (go_at_call 10; refine HP.out.mono ?_; rintro e w1 ⟨bo, bc, rfl, ho1, hb1⟩; obtain ⟨hs1, hc1, _, _⟩ := own_slc ho1; have HU1 : Hid (∀ W, Below w1.heap.size w1 W → ∀ (m : Int) (r : List UInt8) (k : Nat), Prs.unpack p m = (r, k) → Calls Try.prog 15 #[.slice bo p.length bc, .int .i64 m] W fun e w' => ∃ bo bc, e = .returned (.tuple #[.slice bo r.length bc, .int .i64 k]) ∧ w'.ownsRow W.heap.size 5 1 (.slice bo r.length bc) r.length (bys r) ∧ Below W.heap.size W w') := HU.out w1 bo bc hs1 hc1; have HB : Hid (Bl w w1 w1) := ⟨hb1, Below.refl _ _⟩; clear hb1 HP ho1 hs1 hc1 HU)
    | (go_at_call_of 15 (Value.int IntKind.i64 0); refine (HU1.out _ HB.out.2 _ _ _ HE.out.1).mono ?_; rintro e w2 ⟨bo2, bc2, rfl, ho2, hb2⟩; have HS2 := hide (own_slc ho2).1; rw [HX.out.2]; have HB2 := hide (HB.out.on hb2); clear hb2 ho2 HB; have HB := HB2; clear HB2)
    | (go_at_call_of 15 (Value.int IntKind.i64 1); refine (HU1.out _ HB.out.2 _ _ _ HE.out.2.2).mono ?_; rintro e w5 ⟨bo5, bc5, rfl, _, hb5⟩; have HB2 := hide (HB.out.on hb5); clear hb5 HB; have HB := HB2; clear HB2)
    | (go_at_call 15; refine (HU1.out _ HB.out.2 _ _ _ HE.out.2.1).mono ?_; rintro e w4 ⟨bo4, bc4, rfl, _, hb4⟩; have HB2 := hide (HB.out.on hb4); clear hb4 HB; have HB := HB2; clear HB2)
    | (go_at_call 12; refine (same_yes bo2 ao 0 bc2 cap xs _ HX.out.2 (by omega) HS2.out (HX.out.1.later HB.out.1)).mono ?_; rintro e w3 ⟨rfl, k3', rfl⟩; have HB2 := hide (HB.out.drewN k3'); clear HB HS2; have HB := HB2; clear HB2; generalize w2.drewN k3' = w3 at HB ⊢)
    | (go_at_call 14; refine (HAW.out _).mono ?_; rintro e w6 ⟨rfl, hb6⟩; have HB2 := hide (HB.out.on hb6); clear hb6 HB; have HB := HB2; clear HB2)
    | go_in)
  go_ret
  exact ⟨rfl, HB.out.1⟩

set_option maxHeartbeats 800000 in
set_option maxRecDepth 100000 in
theorem back_top (ao : Option Addr) (cap : Nat) (xs : List UInt8) (w : World) (hi : InB w ao 4096 cap xs)  :
    Calls Try.prog 6 #[.slice ao 4096 cap] w fun e w' => e = .returned (.bool true) ∧ Below w.heap.size w w' := by
  have hlen := hi.len
  obtain ⟨p, hp⟩ : ∃ p, Prs.pack xs = p := ⟨_, rfl⟩
  have hpl := Prs.pack_len xs
  rw [hp, hlen] at hpl
  have HP : Hid (Calls Try.prog 10 #[.slice ao 4096 cap] w fun e w' => ∃ bo bc, e = .returned (.tuple #[.slice bo p.length bc, .int .i64 0]) ∧ w'.ownsRow w.heap.size 5 1 (.slice bo p.length bc) p.length (bys p) ∧ Below w.heap.size w w') := pack_at hlen hi.sl w (Below.refl _ _) p 0 (by unfold Prs.packed; rw [if_neg (by omega), hp])
  have HAW : Hid (∀ W, Calls Try.prog 14 #[] W fun e w' => e = .returned (.bool true) ∧ Below W.heap.size W w') := awake_ok
  have e0 : Prs.unpack p (4096 : Int) = (xs, 0) := by
    have := Prs.unp_pack xs 4096 (by omega)
    rw [if_neg (by omega), hp] at this
    exact (Prs.unpack_of p 4096 (by omega)).trans this
  have e1 : Prs.unpack p (4095 : Int) = ([], 41) := by
    have := Prs.unp_pack_less xs 4095 (by omega)
    rw [hp] at this
    exact (Prs.unpack_of p 4095 (by omega)).trans this
  have e2 : Prs.unpack p (4097 : Int) = ([], 1) := by
    unfold Prs.unpack; rw [if_pos (by omega)]
  have HU : Hid (∀ w1 (bo : Option Addr) (bc : Nat), Sl w1 bo p → p.length ≤ bc → ∀ W, Below w1.heap.size w1 W → ∀ (m : Int) (r : List UInt8) (k : Nat), Prs.unpack p m = (r, k) → Calls Try.prog 15 #[.slice bo p.length bc, .int .i64 m] W fun e w' => ∃ bo bc, e = .returned (.tuple #[.slice bo r.length bc, .int .i64 k]) ∧ w'.ownsRow W.heap.size 5 1 (.slice bo r.length bc) r.length (bys r) ∧ Below W.heap.size W w') := fun w1 bo bc hs hc W hB m r k hr => unpack_at rfl hc hs m W hB r k hr
  have HX : Hid (Sl w ao xs ∧ xs.length = 4096) := ⟨hi.sl, hlen⟩
  have HE := hide (And.intro e0 (And.intro e1 e2))
  have hpl2 : p.length ≤ 8192 := by omega
  have hdv : Int.tdiv ((4096 : Int) + 7) 8 = (((4096 + 7) / 8 : Nat) : Int) := by rw [Int.tdiv_eq_ediv_of_nonneg (by omega)]; omega
  have hqp : ¬ ((4096 : Int) + (((4096 + 7) / 8 : Nat) : Int) < (p.length : Int)) := by omega

  clear hi hlen hp e0 e1 e2 hpl
  go_enter Try.func6, Try.ntmps6
  go_wp2_with (first
    | (go_at_call 10; refine HP.out.mono ?_; rintro e w1 ⟨bo, bc, rfl, ho1, hb1⟩; obtain ⟨hs1, hc1, _, _⟩ := own_slc ho1; have HU1 : Hid (∀ W, Below w1.heap.size w1 W → ∀ (m : Int) (r : List UInt8) (k : Nat), Prs.unpack p m = (r, k) → Calls Try.prog 15 #[.slice bo p.length bc, .int .i64 m] W fun e w' => ∃ bo bc, e = .returned (.tuple #[.slice bo r.length bc, .int .i64 k]) ∧ w'.ownsRow W.heap.size 5 1 (.slice bo r.length bc) r.length (bys r) ∧ Below W.heap.size W w') := HU.out w1 bo bc hs1 hc1; have HB : Hid (Bl w w1 w1) := ⟨hb1, Below.refl _ _⟩; clear hb1 HP ho1 hs1 hc1 HU)
    | (go_at_call_of 15 (Value.int IntKind.i64 (4095)); refine (HU1.out _ HB.out.2 _ _ _ HE.out.2.1).mono ?_; rintro e w4 ⟨bo4, bc4, rfl, _, hb4⟩; have HB2 := hide (HB.out.on hb4); clear hb4 HB; have HB := HB2; clear HB2)
    | (go_at_call_of 15 (Value.int IntKind.i64 (4097)); refine (HU1.out _ HB.out.2 _ _ _ HE.out.2.2).mono ?_; rintro e w5 ⟨bo5, bc5, rfl, _, hb5⟩; have HB2 := hide (HB.out.on hb5); clear hb5 HB; have HB := HB2; clear HB2)
    | (go_at_call 15; refine (HU1.out _ HB.out.2 _ _ _ HE.out.1).mono ?_; rintro e w2 ⟨bo2, bc2, rfl, ho2, hb2⟩; have HS2 := hide (own_slc ho2).1; rw [HX.out.2]; have HB2 := hide (HB.out.on hb2); clear hb2 ho2 HB; have HB := HB2; clear HB2)
    | (go_at_call 12; refine (same_yes bo2 ao 4096 bc2 cap xs _ HX.out.2 (by omega) HS2.out (HX.out.1.later HB.out.1)).mono ?_; rintro e w3 ⟨rfl, k3', rfl⟩; have HB2 := hide (HB.out.drewN k3'); clear HB HS2; have HB := HB2; clear HB2; generalize w2.drewN k3' = w3 at HB ⊢)
    | (go_at_call 14; refine (HAW.out _).mono ?_; rintro e w6 ⟨rfl, hb6⟩; have HB2 := hide (HB.out.on hb6); clear hb6 HB; have HB := HB2; clear HB2)
    | go_in)
  go_ret
  exact ⟨rfl, HB.out.1⟩

theorem back_walk (ao : Option Addr) (n cap : Nat) (xs : List UInt8) (w : World) (hi : InB w ao n cap xs) :
    Calls Try.prog 6 #[.slice ao n cap] w fun e w' => e = .returned (.bool true) ∧ Below w.heap.size w w' := by
  rcases Nat.lt_or_ge 4096 n with h | h
  · exact back_long ao n cap xs w hi h
  · by_cases h0 : n = 0
    · subst h0; exact back_nil ao cap xs w hi
    · by_cases h4 : n = 4096
      · subst h4; exact back_top ao cap xs w hi
      · exact back_mid ao n cap xs w hi (by omega) (by omega) _ _ rfl rfl

end Go.Proofs.Ytcgkjdchkpnldaa
