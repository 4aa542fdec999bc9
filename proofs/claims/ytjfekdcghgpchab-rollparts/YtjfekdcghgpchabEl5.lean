/-
  The walk: freightlaw3.RollParts.
-/
import Derived.Test.YtjfekdcghgpchabEs
import Derived.Test.YtjfekdcghgpchabEa
namespace Go.Proofs.Ytjfekdcghgpchab
open Go.RowKit
set_option linter.unusedVariables false
set_option linter.unusedSimpArgs false

theorem own_later {w w' : World} {base : Nat} {e : TypeId} {size : Nat} {v : Value} {n : Nat} {xs : List Value} (h : w.ownsRow base e size v n xs) (hk : Kept [] w w') : w'.ownsRow base e size v n xs := by
  refine ⟨h.1, ?_⟩
  rcases h.2 with h2 | ⟨g, cap, cur, hv, hb, hg, hr⟩
  · exact .inl h2
  · exact .inr ⟨g, cap, cur, hv, hb, (hk.block g (Array.getElem?_eq_some_iff.1 hg).1 (by simp)).trans hg, hr⟩

theorem own_one (w : World) (x : UInt8) : (w.alloc (.cells #[.int .u8 x.toNat] 5)).ownsRow w.heap.size 5 1 (.slice (some ⟨w.heap.size, 0, none⟩) 1 1) 1 (bys [x]) :=
  ⟨by simp [bys], .inr ⟨w.heap.size, 1, #[.int .u8 x.toNat], rfl, Nat.le_refl _, heap_alloc_new _ _, Nat.le_refl _, by decide, rfl, rfl⟩⟩

set_option maxHeartbeats 2000000 in
set_option maxRecDepth 100000 in
theorem parts_walk (ao : Option Addr) (n cap : Nat) (more : Int) (xs : List UInt8) (w : World) (hi : InB w ao n cap xs) (hw : (Lit.int .u8 more).wf = true) :
    Calls Try.prog 4 #[.slice ao n cap, .int .u8 more] w fun e w' => e = .returned (.bool true) ∧ Below w.heap.size w w' := by
  by_cases hb1 : 100000 < n
  · clear hi
    go_enter Try.func4, Try.ntmps4
    go_wp2
    go_ret
    exact ⟨rfl, Below.refl _ _⟩
  obtain ⟨y, rfl⟩ : ∃ y : UInt8, more = ((y.toNat : Nat) : Int) := by
    have hb := bounds_u8 hw
    refine ⟨UInt8.ofNat more.toNat, ?_⟩
    rw [UInt8.toNat_ofNat', Nat.mod_eq_of_lt (by omega)]
    omega
  have HI : Hid (InB w ao n cap xs) := hi
  have hy := UInt8.toNat_lt y
  have hmx := HI.out.max
  have hcl := HI.out.le
  clear hi hw
  go_enter Try.func4, Try.ntmps4
  go_wp2_with (first | (go_at_call 11; refine (rsum_n ao n cap xs _ HI.out.len (by omega) HI.out.sl).mono ?_; rintro e w1 ⟨rfl, hk1⟩; have HK1 : Hid (Kept [] w w1) := hk1; clear hk1) | (at_builtin; refine wpList_append_row _ rfl (.tmp 14) (.tmp 15) rfl w1.heap.size w1.heap.size 0 0 [] rfl (World.ownsRow_made w1 #[] 0 (Nat.le_refl _) (by decide) rfl) ao n cap xs rfl (HI.out.sl.kept (HK1.out.alloc _) (by simp)) HI.out.len HI.out.nil (by omega) (by simp) ?_))
  intro g1 c1 w2 ho1 hg1
  have HO1 : Hid (w2.ownsRow w1.heap.size 5 1 (.slice (some ⟨g1, 0, none⟩) n c1) n (bys xs)) := ho1
  have HK2 : Hid (Kept [] w w2) := HK1.out.trans (((Kept.refl [] w1).alloc _).grown hg1 (by intro k hk hlt; cases hk; omega)) (by simp)
  have hs12 : w1.heap.size ≤ w2.heap.size := Nat.le_trans (by simp) hg1.size
  clear ho1 hg1
  go_wp2_with (at_builtin; refine wpList_append_row _ rfl (.tmp 16) (.tmp 18) rfl w1.heap.size g1 n c1 xs rfl (own_later HO1.out ((Kept.refl [] w2).alloc _)) (some ⟨w2.heap.size, 0, none⟩) 1 1 [y] rfl (new_sl w2 [y] (0, 0)) rfl (by simp) (by omega) (by simp; omega) ?_)
  intro g2 c2 w3 ho2 hg2
  obtain ⟨_, _, hq3, hq4⟩ := own_sl' ho2
  have hgg := (own_sl' HO1.out).1
  have HS3 : Hid (Sl w3 (some ⟨g2, 0, none⟩) (xs ++ [y])) := hq4
  have HK3 : Hid (Kept [] w w3) := by
    refine ((HK2.out.alloc _).grown hg2 (by intro k hk hlt; cases hk; have := HK1.out.size; omega))
  clear ho2 hg2 hq4 hgg HO1 hs12
  go_wp2_with (first | (go_at_call 11; refine (rsum_n _ (n + 1) c2 (xs ++ [y]) _ (by simp [HI.out.len]) (by omega) HS3.out).mono ?_; rintro e w4 ⟨rfl, hk4⟩; have HK4 : Hid (Kept [] w w4) := HK3.out.trans hk4 (by simp); clear hk4) | (at_builtin; refine wpList_append_row _ rfl (.tmp 21) (.tmp 22) rfl w4.heap.size w4.heap.size 1 1 [0] rfl (own_one w4 0) ao n cap xs rfl (HI.out.sl.kept (HK4.out.alloc _) (by simp)) HI.out.len HI.out.nil (by omega) (by simp) ?_))
  intro g3 c3 w5 ho3 hg3
  obtain ⟨_, _, hr3, hr4⟩ := own_sl' ho3
  have HS5 : Hid (Sl w5 (some ⟨g3, 0, none⟩) (0 :: xs)) := hr4
  have HK5 : Hid (Kept [] w w5) := (HK4.out.alloc _).grown hg3 (by intro k hk hlt; cases hk; have := HK4.out.size; omega)
  clear ho3 hg3 hr4
  have e1 := Rol.sum_mod (xs ++ [y])
  have e2 := Rol.sum_div (xs ++ [y])
  have e3 := Rol.sum_mod xs
  have e4 := Rol.sum_div xs
  have e5 := Rol.sum_zero xs
  have e6 := Rol.pa_snoc xs y
  have e7 := Rol.pb_snoc xs y
  have l1 := Rol.pa_lt xs
  have l2 := Rol.pb_lt xs
  have l3 := Rol.sum_lt xs
  have l4 := Rol.sum_lt (xs ++ [y])
  have HL5 : Hid ((0 :: xs : List UInt8).length = 1 + n) := by show _ = _; simp [HI.out.len]; omega
  have HSUM : Hid (∀ W, Sl W (some ⟨g3, 0, none⟩) (0 :: xs) → Calls Try.prog 11 #[.slice (some ⟨g3, 0, none⟩) (1 + n) c3] W fun e w' => e = .returned (.int .i64 (Rol.sum xs)) ∧ Kept [] W w') := fun W h => by
    have := rsum_n (some ⟨g3, 0, none⟩) (1 + n) c3 (0 :: xs) W HL5.out (by omega) h
    rwa [e5] at this
  clear e5
  generalize Rol.sum (xs ++ [y]) = sb at *
  generalize Rol.sum xs = sa at *
  generalize Rol.pa (xs ++ [y]) = pa2 at *
  generalize Rol.pb (xs ++ [y]) = pb2 at *
  generalize Rol.pa xs = pa1 at *
  generalize Rol.pb xs = pb1 at *
  have t1 : (sb : Int).tmod 65536 = (pa2 : Int) := by rw [Int.tmod_eq_emod_of_nonneg (by omega)]; omega
  have t2 : (sa : Int).tmod 65536 = (pa1 : Int) := by rw [Int.tmod_eq_emod_of_nonneg (by omega)]; omega
  have t3 : ((pa1 : Int) + (y.toNat : Int)).tmod 65536 = (pa2 : Int) := by rw [Int.tmod_eq_emod_of_nonneg (by omega)]; omega
  have t4 : (sb : Int).tdiv 65536 = (pb2 : Int) := by rw [Int.tdiv_eq_ediv_of_nonneg (by omega)]; omega
  have t5 : (sa : Int).tdiv 65536 = (pb1 : Int) := by rw [Int.tdiv_eq_ediv_of_nonneg (by omega)]; omega
  have t6 : ((pb1 : Int) + (pa2 : Int)).tmod 65536 = (pb2 : Int) := by rw [Int.tmod_eq_emod_of_nonneg (by omega)]; omega
  have m1 : (sb : Int) % 65536 = (pa2 : Int) := by omega
  have m2 : (sa : Int) % 65536 = (pa1 : Int) := by omega
  have m3 : ((pa1 : Int) + (y.toNat : Int)) % 65536 = (pa2 : Int) := by omega
  have m4 : (sb : Int) / 65536 = (pb2 : Int) := by omega
  have m5 : (sa : Int) / 65536 = (pb1 : Int) := by omega
  have m6 : ((pb1 : Int) + (pa2 : Int)) % 65536 = (pb2 : Int) := by omega
  have l5 : pa2 < 65536 := by omega
  have l6 : pb2 < 65536 := by omega
  clear e1 e2 e3 e4 e6 e7
  go_wp2_with (first | (go_at_call 11; refine (HSUM.out _ HS5.out).mono ?_; rintro e w6 ⟨rfl, hk6⟩) | (go_at_call 10; refine (known_any _).mono ?_; rintro e w7 ⟨rfl, hk7⟩))
  go_ret
  exact ⟨rfl, ((HK5.out.trans hk6 (by simp)).trans hk7 (by simp)).below (Nat.le_refl _) (by simp)⟩

end Go.Proofs.Ytjfekdcghgpchab
