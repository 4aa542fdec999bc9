/-
  Contracts: freightlaw3.begun.
-/
import Derived.Test.YtjfekdcghgpchaaEh
import Derived.Test.YtjfekdcghgpchaaEe
namespace Go.Proofs.Ytjfekdcghgpchaa
open Go.RowKit
set_option linter.unusedVariables false
set_option linter.unusedSimpArgs false

theorem Try.zeroDesk (W : World) : (zeroValue 26).run Try.prog W = .ok (.agg #[.slice none 0 0]) W := by kernel_rfl

/-- A desk that the call made itself, and what it lies in. -/
structure Ds (w wr : World) (D : Nat) (bo : Option Nat) (R : List UInt8) : Prop where
  dk : Dk wr D bo R
  geD : w.heap.size ≤ D
  geg : ∀ g, bo = some g → w.heap.size ≤ g
  kept : Kept [] w wr

theorem Ds.later {l : List Nat} {w wr wr' : World} {D : Nat} {bo : Option Nat} {R : List UInt8} (h : Ds w wr D bo R) (hk : Kept l wr wr') (hl : ∀ i, i ∈ l → w.heap.size ≤ i) (hD : D ∉ l) (hg : ∀ g, bo = some g → g ∉ l) : Ds w wr' D bo R :=
  ⟨h.dk.kept hk hD hg, h.geD, h.geg, h.kept.trans hk (fun i hi hlt => by have := hl i hi; omega)⟩

/-- Desk.lay over a desk of the call's own: bytes that lay there at the beginning. -/
theorem lay_ds {w wr : World} {D : Nat} {bo : Option Nat} {R : List UInt8} (h : Ds w wr D bo R) (ao : Option Addr) (n cap : Nat) (xs : List UInt8) (hx : xs.length = n) (hs : Sl w ao xs) (hn : n ≤ 200000) :
    Calls Try.prog 10 #[.pointer (some ⟨D, 0, none⟩), .slice ao n cap] wr fun e w' => ∃ g m, e = .returned (.slice (some ⟨g, 0, none⟩) n m) ∧ Ds w w' D (some g) (laid xs m) ∧ n + 5 ≤ m ∧ Sl w' (some ⟨g, 0, none⟩) xs ∧ Kept (dkfp D bo) wr w' ∧ (bo = some g ∨ wr.heap.size ≤ g) := by
  have hs2 : Sl wr ao xs := hs.kept h.kept (by simp)
  refine (lay_any D bo ao n cap xs R wr h.dk hx hs2 (fun hne a ha => ?_) hn).mono fun e w' ⟨g, m, he, hd, hm, hk, hg⟩ => ?_
  · obtain ⟨b', off', e', hb', _⟩ := hs.open hne
    rw [e'] at ha
    cases ha
    have h1 := h.geD
    have h2 := h.geg
    simp only [dkfp, List.mem_cons, Option.mem_toList, not_or]
    exact ⟨by show b' ≠ D; omega, fun hm => by have := h2 _ hm; omega⟩
  · refine ⟨g, m, he, ⟨hd, h.geD, fun g' e' => ?_, h.kept.trans hk (fun i hi hlt => ?_)⟩, hm, Sl.of fun i hi => ?_, hk, hg⟩
    · cases e'
      rcases hg with h' | h'
      · exact h.geg _ h'
      · exact Nat.le_trans h.kept.size h'
    · simp only [dkfp, List.mem_cons, Option.mem_toList] at hi
      rcases hi with rfl | hi
      · have := h.geD; omega
      · have := h.geg _ hi; omega
    · rw [Nat.zero_add, cell_of_row _ _ _ _ _ _ (hd.row g rfl).2, List.getElem?_toArray, bys_at (by simp [laid]; omega)]
      simp [laid, List.getElem?_append_left hi]

theorem lies_ds {w wr : World} {D g m : Nat} {xs : List UInt8} (h : Ds w wr D (some g) (laid xs m)) (ao : Option Addr) (n cap : Nat) (hx : xs.length = n) (hs : Sl w ao xs) (hnm : n + 5 ≤ m) :
    Calls Try.prog 12 #[.pointer (some ⟨D, 0, none⟩), .slice ao n cap] wr fun e w' => e = .returned (.bool true) ∧ ∃ k, w' = wr.drewN k :=
  lies_ok D g ao n cap m xs wr h.dk hx (hs.kept h.kept (by simp)) hnm

theorem ds_new (w : World) : Ds w (w.alloc (.cells #[.slice none 0 0] 26)) w.heap.size none [] :=
  ⟨⟨by simp, by simp, fun _ => rfl, by simp, by simp⟩, Nat.le_refl _, by simp, (Kept.refl _ _).alloc _⟩

set_option maxHeartbeats 2000000 in
set_option maxRecDepth 100000 in
theorem begun_ok (ao : Option Addr) (n cap : Nat) (xs : List UInt8) (w : World) (hx : xs.length = n) (h1 : 1 ≤ n) (h2 : n ≤ 4096) (h : Sl w ao xs) :
    Calls Try.prog 14 #[.slice ao n cap] w fun e w' => ∃ p g, e = .returned (.tuple #[.pointer (some ⟨p, 0, none⟩), .bool true]) ∧ Ro w' p g xs ∧ w.heap.size ≤ p ∧ w.heap.size ≤ g ∧ Kept [] w w' := by
  have HX : Hid (xs.length = n) := hx
  have HS : Hid (Sl w ao xs) := h
  have hzv := Try.zeroDesk
  have HD : Hid (Ds w (w.alloc (.cells #[.slice none 0 0] 26)) w.heap.size none []) := ds_new w
  obtain ⟨D, hD⟩ : ∃ D, D = w.heap.size := ⟨_, rfl⟩
  clear hx h
  go_enter Try.func14, Try.ntmps14
  go_wp2_with (fail)
  rw [← hD] at HD ⊢
  clear hD hzv
  refine (lay_ds HD.out ao n cap xs HX.out HS.out (by omega)).mono ?_
  rintro e w1 ⟨g1, m1, rfl, hd1, hm1, hs1, hk1, hg1⟩
  have HD1 : Hid (Ds w w1 D (some g1) (laid xs m1)) := hd1
  have HS1 : Hid (Sl w1 (some ⟨g1, 0, none⟩) xs) := hs1
  clear hd1 hs1 hk1 hg1 HD
  go_wp2_with (fail)
  refine (new_ok _ n m1 xs _ HX.out h1 h2 HS1.out).mono ?_
  rintro e w2 ⟨p, g, rfl, hro, hp, hg, hk2⟩
  have HD2 : Hid (Ds w w2 D (some g1) (laid xs m1)) := HD1.out.later hk2 (by simp) (by simp) (by simp)
  go_wp2_with (fail)
  refine (lies_ds HD2.out ao n cap HX.out HS.out hm1).mono ?_
  rintro e w3 ⟨rfl, k3, rfl⟩
  have HD3 : Hid (Ds w (w2.drewN k3) D (some g1) (laid xs m1)) := HD2.out.later ((Kept.refl [] w2).drewN k3) (by simp) (by simp) (by simp)
  go_wp2_with (fail)
  refine (lay_ds HD3.out none 0 0 [] rfl (Sl.nil _ _) (by omega)).mono ?_
  rintro e w4 ⟨g4, m4, rfl, hd4, hm4, _, hk4, _⟩
  have hD1 := HD1.out.dk.lt
  have hg1 := HD1.out.dk.ltg g1 rfl
  have HRO : Hid (Ro w4 p g xs) := (hro.kept ((Kept.refl [] w2).drewN k3) (by simp) (by simp)).kept hk4 (by simp [dkfp]; omega) (by simp [dkfp]; omega)
  have HK : Hid (Kept [] w w4) := hd4.kept
  have hpw : w.heap.size ≤ p := Nat.le_trans HD1.out.kept.size hp
  have hgw : w.heap.size ≤ g := Nat.le_trans HD1.out.kept.size hg
  clear HD1 HD2 HD3 hd4 hk4 hk2 hro hp hg HS1 hD1 hg1
  go_wp2_with (go_at_call 24; refine (num_any _ _).mono ?_; rintro e w' ⟨rfl, hw⟩; obtain rfl := hw.symm)
  go_ret2
  exact ⟨p, g, rfl, HRO.out, hpw, hgw, HK.out⟩

set_option maxHeartbeats 2000000 in
set_option maxRecDepth 100000 in
theorem begun_bad (ao : Option Addr) (n cap : Nat) (xs : List UInt8) (w : World) (hx : xs.length = n) (hb : n < 1 ∨ 4096 < n) (hn : n ≤ 200000) (h : Sl w ao xs) :
    Calls Try.prog 14 #[.slice ao n cap] w fun e w' => e = .returned (.tuple #[.pointer none, .bool true]) ∧ Kept [] w w' := by
  have HX : Hid (xs.length = n) := hx
  have HS : Hid (Sl w ao xs) := h
  have hzv := Try.zeroDesk
  have HD : Hid (Ds w (w.alloc (.cells #[.slice none 0 0] 26)) w.heap.size none []) := ds_new w
  obtain ⟨D, hD⟩ : ∃ D, D = w.heap.size := ⟨_, rfl⟩
  clear hx h
  go_enter Try.func14, Try.ntmps14
  go_wp2_with (fail)
  rw [← hD] at HD ⊢
  clear hD hzv
  refine (lay_ds HD.out ao n cap xs HX.out HS.out (by omega)).mono ?_
  rintro e w1 ⟨g1, m1, rfl, hd1, hm1, hs1, hk1, hg1⟩
  have HD1 : Hid (Ds w w1 D (some g1) (laid xs m1)) := hd1
  have HS1 : Hid (Sl w1 (some ⟨g1, 0, none⟩) xs) := hs1
  clear hd1 hs1 hk1 hg1 HD
  go_wp2_with (fail)
  refine (new_bad _ n m1 _ hb).mono ?_
  rintro e w' ⟨rfl, hw⟩
  obtain ⟨w2, hw2⟩ : ∃ w2, w2 = w1 := ⟨_, rfl⟩
  rw [hw, ← hw2]
  have hk2 : Kept [] w1 w2 := by rw [hw2]; exact Kept.refl _ _
  clear hw hw2
  have HD2 : Hid (Ds w w2 D (some g1) (laid xs m1)) := HD1.out.later hk2 (by simp) (by simp) (by simp)
  go_wp2_with (fail)
  refine (lies_ds HD2.out ao n cap HX.out HS.out hm1).mono ?_
  rintro e w3 ⟨rfl, k3, rfl⟩
  have HD3 : Hid (Ds w (w2.drewN k3) D (some g1) (laid xs m1)) := HD2.out.later ((Kept.refl [] w2).drewN k3) (by simp) (by simp) (by simp)
  go_wp2_with (fail)
  refine (lay_ds HD3.out none 0 0 [] rfl (Sl.nil _ _) (by omega)).mono ?_
  rintro e w4 ⟨g4, m4, rfl, hd4, hm4, _, hk4, _⟩
  have HK : Hid (Kept [] w w4) := hd4.kept
  clear HD1 HD2 HD3 hd4 hk4 hk2 HS1
  rcases hb with hb | hb
  · obtain rfl : n = 0 := by omega
    go_wp2_with (go_at_call 24; refine (num_any _ _).mono ?_; rintro e w' ⟨rfl, hw⟩; obtain rfl := hw.symm)
    go_ret2
    exact ⟨rfl, HK.out⟩
  · go_wp2_with (go_at_call 24; refine (num_any _ _).mono ?_; rintro e w' ⟨rfl, hw⟩; obtain rfl := hw.symm)
    go_ret2
    exact ⟨rfl, HK.out⟩

end Go.Proofs.Ytjfekdcghgpchaa
