/-
  Contracts: the closure of freightlaw3.RollAlong.
-/
import Derived.Test.YtjfekdcghgpchabEs
import Derived.Maps.AppendAt
import Derived.Deep.Cut
namespace Go.Proofs.Ytjfekdcghgpchab
open Go.RowKit
set_option linter.unusedVariables false
set_option linter.unusedSimpArgs false

theorem hide {p : Prop} (h : p) : Hid p := h

theorem own_keptl {l : List Nat} {w w' : World} {base : Nat} {e : TypeId} {size : Nat} {v : Value} {n : Nat} {xs : List Value} (h : w.ownsRow base e size v n xs) (hk : Kept l w w') (hn : ∀ k, v.ownBlock = some k → k ∉ l) : w'.ownsRow base e size v n xs := by
  refine ⟨h.1, ?_⟩
  rcases h.2 with h2 | ⟨g, cap, cur, rfl, hb, hg, hr⟩
  · exact .inl h2
  · exact .inr ⟨g, cap, cur, rfl, hb, (hk.block g (Array.getElem?_eq_some_iff.1 hg).1 (hn g rfl)).trans hg, hr⟩

theorem own_shape {w : World} {base : Nat} {e : TypeId} {size : Nat} {v : Value} {n : Nat} {xs : List Value} (h : w.ownsRow base e size v n xs) : ∃ ao c, v = .slice ao n c := by
  rcases h.2 with ⟨rfl, rfl⟩ | ⟨g, cap, cur, rfl, _⟩
  · exact ⟨none, 0, by have := h.1; simp at this; rcases this with rfl | hh <;> simp_all⟩
  · exact ⟨_, _, rfl⟩

/-- What stays: the Roll's pointer, size, data. -/
structure Af (w : World) (Rb Sz Db p b off cap size : Nat) (xs : List UInt8) : Prop where
  r : w.cell? ⟨Rb, 0, none⟩ = some (.pointer (some ⟨p, 0, none⟩))
  s : w.cell? ⟨Sz, 0, none⟩ = some (.int .i64 size)
  d : w.cell? ⟨Db, 0, none⟩ = some (.slice (some ⟨b, off, none⟩) xs.length cap)
  sl : Sl w (some ⟨b, off, none⟩) xs
  h1 : 1 ≤ size
  h2 : size ≤ xs.length
  max : xs.length ≤ 20000

theorem Af.kept {l : List Nat} {w w' : World} {Rb Sz Db p b off cap size : Nat} {xs : List UInt8} (h : Af w Rb Sz Db p b off cap size xs) (hk : Kept l w w') (h1 : Rb ∉ l) (h2 : Sz ∉ l) (h3 : Db ∉ l) (h4 : b ∉ l) : Af w' Rb Sz Db p b off cap size xs :=
  ⟨hk.cellOf h.r h1, hk.cellOf h.s h2, hk.cellOf h.d h3, h.sl.kept hk (fun _ a ha => by cases ha; exact h4), h.h1, h.h2, h.max⟩

/-- The sums of the first k windows. -/
def ints (xs : List UInt8) (size k : Nat) : List Value := (List.range k).map fun j => .int .i64 ((Rol.sum (wat xs size j) : Nat) : Int)
theorem ints_succ (xs : List UInt8) (size k : Nat) : ints xs size (k + 1) = ints xs size k ++ [.int .i64 ((Rol.sum (wat xs size k) : Nat) : Int)] := by
  simp [ints, List.range_succ]

theorem Try.infoInt : (Try.prog.info? 3).map (fun i => (i.zero, i.size, i.bytes)) = some (some (.int .i64 0), 1, 8) := by kernel_rfl

set_option maxHeartbeats 2000000 in
set_option maxRecDepth 100000 in
theorem along1_ok (k base Ok Su Rb Sz Db p g b off cap size : Nat) (v : Value) (xs : List UInt8) (w : World) (ha : Af w Rb Sz Db p b off cap size xs) (hO : Var1 w Ok (.bool true) 4) (hS : Var1 w Su v 29) (hown : w.ownsRow base 3 1 v k (ints xs size k)) (hro : Ro w p g (wat xs size k)) (hks : k + size ≤ xs.length)
    (hlow : Ok < base ∧ Su < base ∧ Rb < base ∧ Sz < base ∧ Db < base ∧ p < base ∧ g < base ∧ b < base) (hbase : base ≤ w.heap.size)
    (hd : Ok ≠ Su ∧ Ok ≠ Rb ∧ Ok ≠ Sz ∧ Ok ≠ Db ∧ Ok ≠ p ∧ Ok ≠ g ∧ Ok ≠ b) (hd2 : Su ≠ Rb ∧ Su ≠ Sz ∧ Su ≠ Db ∧ Su ≠ p ∧ Su ≠ g ∧ Su ≠ b) (hd3 : p ≠ Rb ∧ p ≠ Sz ∧ p ≠ Db ∧ p ≠ b ∧ g ≠ Rb ∧ g ≠ Sz ∧ g ≠ Db ∧ g ≠ b) :
    Calls Try.prog 7 #[.int .i64 k, .int .i64 (Rol.sum (wat xs size k)), .pointer (some ⟨Ok, 0, none⟩), .pointer (some ⟨Su, 0, none⟩), .pointer (some ⟨Rb, 0, none⟩), .pointer (some ⟨Sz, 0, none⟩), .pointer (some ⟨Db, 0, none⟩)] w fun e w' => e = .returned (.bool true) ∧ ∃ v', Var1 w' Ok (.bool true) 4 ∧ Var1 w' Su v' 29 ∧ w'.ownsRow base 3 1 v' (k + 1) (ints xs size (k + 1)) ∧ Ro w' p g (wat xs size (min (k + 1) (xs.length - size))) ∧ (v'.ownBlock = v.ownBlock ∨ ∃ q, v'.ownBlock = some q ∧ w.heap.size ≤ q) ∧ Kept ([Ok, Su, p, g] ++ v.ownBlock.toList) w w' := by
  obtain ⟨i0, hi, hz0, hz1, hz2⟩ := info_parts Try.infoInt
  obtain ⟨ao, c, rfl⟩ := own_shape hown
  have HA := hide ha
  have HO := hide hO
  have HS := hide hS
  have HOW := hide hown
  have HRO := hide hro
  have c1 := hO.cell
  have f1 := hO.fr
  have c2 := hS.cell
  have c3 := ha.r
  have hmx := ha.max
  have hs1 := ha.h1
  obtain ⟨hd1, _⟩ := id hd
  have HD := hide hd
  have HD2 := hide hd2
  have HD3 := hide hd3
  have HL := hide hlow
  clear ha hO hS hown hro hd hd2 hd3 hlow
  obtain ⟨N, hN⟩ : ∃ N, N = xs.length := ⟨_, rfl⟩
  have HN : Hid (N = xs.length) := hN
  rw [← hN] at hmx hks ⊢
  clear hN
  have hmin : k + size < N ∨ min (k + 1) (N - size) = k := by omega
  have HMIN := hide hmin
  clear hmin
  obtain ⟨sm, hsm⟩ : ∃ sm, sm = Rol.sum (wat xs size k) := ⟨_, rfl⟩
  have HSM : Hid (Calls Try.prog 8 #[.pointer (some ⟨p, 0, none⟩)] w fun e w' => e = .returned (.int .i64 sm) ∧ Kept [] w w') := by rw [hsm]; exact rollSum_ok HRO.out
  have HIS : Hid (ints xs size (k + 1) = ints xs size k ++ [.int .i64 (sm : Int)]) := by rw [hsm]; exact ints_succ xs size k
  rw [← hsm]
  clear hsm
  go_enter Try.func7, Try.ntmps7
  go_wp2_with (fail)
  refine HSM.out.mono ?_
  rintro e w1 ⟨rfl, hk1⟩
  have d1 := (HO.out.kept hk1 (by simp)).cell
  have e1 := (HO.out.kept hk1 (by simp)).fr
  have d2 := (HS.out.kept hk1 (by simp)).cell
  have HKA : Hid (Kept [Ok] w ((w1.setCell ⟨Ok, 0, none⟩ (.bool true)).alloc (.cells #[.int .i64 sm] 3))) := ((hk1.mono (by simp)).setCell (by simp) _).alloc _
  have hszs : (w1.setCell ⟨Ok, 0, none⟩ (.bool true)).heap.size = w1.heap.size := by simp [World.setCell]
  have HNW : Hid (∀ j u, [Value.int .i64 (sm : Int)][j]? = some u → ((w1.setCell ⟨Ok, 0, none⟩ (.bool true)).alloc (.cells #[.int .i64 sm] 3)).cell? ((⟨w1.heap.size, 0, none⟩ : Addr).add j) = some u) := by
    have := cell_one_new (w1.setCell ⟨Ok, 0, none⟩ (.bool true)) (.int .i64 (sm : Int)) 3
    rw [hszs] at this
    exact this
  go_wp2_with (at_builtin; refine wpList_append_own_at _ rfl (.tmp 23) (.tmp 25) 29 rfl base 3 i0 (.int .i64 0) 1 8 Try.underlying29 hi hz0 hz1 hz2 rfl (by decide) (.slice ao k c) k (ints xs size k) rfl (own_keptl HOW.out HKA.out (fun q hq => by have h1 := (HOW.out.lt q hq).1; have := HL.out; simp; omega)) ⟨w1.heap.size, 0, none⟩ 1 1 [.int .i64 (sm : Int)] rfl rfl HNW.out (by intro u hu; simp at hu; subst hu; rfl) (by unfold maxLen; omega) (by omega) (Nat.le_trans hbase HKA.out.size) ?_)
  intro v' w3 ho3 hg3 hnn3 hat3
  rw [← HIS.out] at ho3
  have HK3 : Hid (Kept ([Ok] ++ (Value.slice ao k c).ownBlock.toList) w w3) := (HKA.out.mono (by simp)).grown hg3 (by intro q hq hlt; simp [hq])
  have hlow := HL.out
  have nq : ∀ q, (Value.slice ao k c).ownBlock = some q → base ≤ q := fun q hq => (HOW.out.lt q hq).1
  have nin : ∀ i, i < base → i ≠ Ok → i ∉ ([Ok] ++ (Value.slice ao k c).ownBlock.toList) := fun i hi hne hm => by
    simp only [List.mem_append, List.mem_singleton, Option.mem_toList] at hm
    rcases hm with h | h
    · exact hne h
    · have := nq i h; omega
  have hd := HD.out
  have hd2 := HD2.out
  have HA3 : Hid (Af w3 Rb Sz Db p b off cap size xs) := HA.out.kept HK3.out (nin _ (by omega) (Ne.symm hd.2.1)) (nin _ (by omega) (Ne.symm hd.2.2.1)) (nin _ (by omega) (Ne.symm hd.2.2.2.1)) (nin _ (by omega) (Ne.symm hd.2.2.2.2.2.2))
  have HS3 : Hid (Var1 w3 Su (.slice ao k c) 29) := HS.out.kept HK3.out (nin _ (by omega) (Ne.symm hd1))
  have HRO3 : Hid (Ro w3 p g (wat xs size k)) := HRO.out.kept HK3.out (nin _ (by omega) (Ne.symm hd.2.2.2.2.1)) (nin _ (by omega) (Ne.symm hd.2.2.2.2.2.1))
  have HO3 : Hid (Var1 w3 Ok (.bool true) 4) := by
    have h0 : Var1 ((w1.setCell ⟨Ok, 0, none⟩ (.bool true)).alloc (.cells #[.int .i64 sm] 3)) Ok (.bool true) 4 := ((HO.out.kept hk1 (by simp)).set _).kept ((Kept.refl [] _).alloc _) (by simp)
    have h1 : Kept (Value.slice ao k c).ownBlock.toList ((w1.setCell ⟨Ok, 0, none⟩ (.bool true)).alloc (.cells #[.int .i64 sm] 3)) w3 := (Kept.refl _ _).grown hg3 (by intro q hq hlt; simp [hq])
    exact h0.kept h1 (fun hm => by have := nq Ok (by simpa using hm); omega)
  have hat : v'.ownBlock = (Value.slice ao k c).ownBlock ∨ ∃ q, v'.ownBlock = some q ∧ w.heap.size ≤ q := by
    rcases hat3 with h | h
    · exact .inl h
    · refine .inr ⟨_, h, ?_⟩
      have := HKA.out.size
      have := hk1.size
      simp
      omega
  have HOW3 := hide ho3
  have HAT := hide hat
  obtain ⟨ao', c', rfl⟩ := own_shape ho3
  have hSO : Su ≠ Ok := Ne.symm hd1
  clear ho3 hg3 hnn3 hat3 hat HKA HNW HSM HIS hk1 d1 e1 d2 c1 f1 c2 c3 nq hlow HA HO HS HOW HRO
  have d0 := HS3.out.cell
  have e0 := HS3.out.fr
  have hk4 : Kept [Su] w3 (w3.setCell ⟨Su, 0, none⟩ (.slice ao' (k + 1) c')) := (Kept.refl _ _).setCell (by simp) _
  have HA4 := hide (HA3.out.kept hk4 (by simp; exact Ne.symm hd2.1) (by simp; exact Ne.symm hd2.2.1) (by simp; exact Ne.symm hd2.2.2.1) (by simp; exact Ne.symm hd2.2.2.2.2.2))
  have HO4 := hide (HO3.out.kept hk4 (by simp; exact hd1))
  have HS4 := hide (HS3.out.set (.slice ao' (k + 1) c'))
  have HRO4 := hide (HRO3.out.kept hk4 (by simp; exact Ne.symm hd2.2.2.2.1) (by simp; exact Ne.symm hd2.2.2.2.2.1))
  have HOW4 := hide (own_keptl HOW3.out hk4 (fun q hq => by have h1 := (HOW3.out.lt q hq).1; have := HL.out; simp; omega))
  have HK4 : Hid (Kept ([Ok, Su, p, g] ++ (Value.slice ao k c).ownBlock.toList) w (w3.setCell ⟨Su, 0, none⟩ (.slice ao' (k + 1) c'))) := (HK3.out.mono (fun i hi _ => by simp at hi ⊢; rcases hi with h | h <;> simp [h])).setCell (by simp) _
  have q1 := HO4.out.cell
  have q2 := HA4.out.s
  have q3 := HA4.out.d
  have q4 := HA4.out.r
  rw [← HN.out] at q3
  clear HA3 HO3 HS3 HRO3 HOW3 HK3 hk4
  by_cases hlt : k + size < N
  · go_upto_region 4 with (fail)
    generalize World.setCell w3 _ _ = w4 at HA4 HO4 HS4 HRO4 HOW4 HK4 q1 q2 q3 q4 ⊢
    obtain ⟨m, hm⟩ : ∃ m, m = k + size := ⟨_, rfl⟩
    have a3 : IntKind.i64.wrap ((k : Int) + (size : Int)) = (m : Int) := by rw [hm]; simp [IntKind.wrap, IntKind.bits, IntKind.signed]; omega
    have hmN : m < N := by omega
    have hby : w4.cell? ⟨b, off + m, none⟩ = some (.int .u8 (xs.getD m 0).toNat) := by
      obtain ⟨b', off', e', h'⟩ := HA4.out.sl m (by have := HN.out; omega)
      cases e'
      exact h'
    have hw1 := wat_head xs size k (by omega) (by have := HN.out; omega)
    have hw2 := wat_next xs size k (by omega) (by have := HN.out; omega)
    rw [← hm] at hw2
    have HRO5 : Hid (Ro w4 p g (xs.getD k 0 :: (xs.drop (k + 1)).take (size - 1))) := by have := HRO4.out; rw [hw1] at this; exact this
    have HW2 : Hid (wat xs size (min (k + 1) (N - size)) = (xs.drop (k + 1)).take (size - 1) ++ [xs.getD m 0]) := by
      rw [Nat.min_eq_left (by omega)]; exact hw2
    generalize (xs.drop (k + 1)).take (size - 1) = rest at HRO5 HW2
    generalize xs.getD k 0 = x at HRO5
    generalize xs.getD m 0 = y at hby HW2
    clear hw1 hw2 hm q1
    go_still_tail 7, Try.follows
    rw [World.drew_eq]
    go_wp2_with (go_at_call 9; refine (rollPush_ok (HRO5.out.kept ((Kept.refl [] w4).drew) (by simp) (by simp)) y).mono ?_; rintro e w6 ⟨rfl, hro6, hk6⟩; have q6 := (HO4.out.kept (((Kept.refl [p, g] w4).drew.trans hk6 (by simp))) (by have := HD.out; simp; omega)).cell)
    have hk7 : Kept [p, g] w4 w6 := ((Kept.refl [p, g] w4).drew.trans hk6 (by simp))
    have hd := HD.out
    have hlw := HL.out
    go_ret
    refine ⟨rfl, _, HO4.out.kept hk7 (by simp; omega), HS4.out.kept hk7 (by simp; omega), own_keptl HOW4.out hk7 (fun q hq => by have h1 := (HOW4.out.lt q hq).1; simp; omega), by rw [HW2.out]; exact hro6, HAT.out, HK4.out.trans hk7 (by simp)⟩
  · go_wp2
    go_ret
    refine ⟨rfl, _, HO4.out, HS4.out, HOW4.out, ?_, HAT.out, HK4.out⟩
    rw [HMIN.out.resolve_left hlt]
    exact HRO4.out

end Go.Proofs.Ytjfekdcghgpchab
