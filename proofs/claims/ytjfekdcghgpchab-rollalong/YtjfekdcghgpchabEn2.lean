/-
  The walk: freightlaw3.RollAlong.
-/
import Derived.Test.YtjfekdcghgpchabEn1
import Derived.Test.YtjfekdcghgpchabEa
namespace Go.Proofs.Ytjfekdcghgpchab
open Go.RowKit
set_option linter.unusedVariables false
set_option linter.unusedSimpArgs false

/-- What holds behind k windows. -/
structure AlI (w : World) (Ok Su p g size : Nat) (xs : List UInt8) (P k : Nat) (w' : World) (v : Value) : Prop where
  ok : Var1 w' Ok (.bool true) 4
  su : Var1 w' Su v 29
  own : w'.ownsRow w.heap.size 3 1 v k (ints xs size k)
  ro : Ro w' p g (wat xs size (min k (xs.length - size)))
  ne : ∀ q, v.ownBlock = some q → q ≠ P
  kept : Kept [Ok, Su, p, g] w w'

set_option maxHeartbeats 1000000 in
theorem it5_ok (Ok Su Rb Sz Db p g b off cap size Kb Sb gd cap' : Nat) (xs : List UInt8) (w : World) (hc : Wc w Kb Sb gd cap' size xs) (ha : Af w Rb Sz Db p b off cap size xs) (hO : Var1 w Ok (.bool true) 4) (hS : Var1 w Su (.slice none 0 0) 29) (hro : Ro w p g (wat xs size 0))
    (hd : Ok ≠ Su ∧ Ok ≠ Rb ∧ Ok ≠ Sz ∧ Ok ≠ Db ∧ Ok ≠ p ∧ Ok ≠ g ∧ Ok ≠ b) (hd2 : Su ≠ Rb ∧ Su ≠ Sz ∧ Su ≠ Db ∧ Su ≠ p ∧ Su ≠ g ∧ Su ≠ b) (hd3 : p ≠ Rb ∧ p ≠ Sz ∧ p ≠ Db ∧ p ≠ b ∧ g ≠ Rb ∧ g ≠ Sz ∧ g ≠ Db ∧ g ≠ b)
    (h1 : Kb ∉ [Ok, Su, p, g]) (h2 : Sb ∉ [Ok, Su, p, g]) (h3 : gd ∉ [Ok, Su, p, g]) :
    Calls Try.prog 18 #[.func (.func 7) #[] #[.pointer (some ⟨Ok, 0, none⟩), .pointer (some ⟨Su, 0, none⟩), .pointer (some ⟨Rb, 0, none⟩), .pointer (some ⟨Sz, 0, none⟩), .pointer (some ⟨Db, 0, none⟩)], .pointer (some ⟨Kb, 0, none⟩), .pointer (some ⟨Sb, 0, none⟩)] w fun e w' => e = .returned (.tuple #[]) ∧ ∃ v, Var1 w' Ok (.bool true) 4 ∧ Var1 w' Su v 29 ∧ w'.ownsRow w.heap.size 3 1 v (xs.length - size + 1) (ints xs size (xs.length - size + 1)) ∧ Kept [Ok, Su, p, g] w w' := by
  have hOl := hO.lt
  have hSl := hS.lt
  have hpl := hro.ltp
  have hgl := hro.ltg
  have hRl : Rb < w.heap.size := World.block_lt_of_cell? _ _ ha.r
  have hZl : Sz < w.heap.size := World.block_lt_of_cell? _ _ ha.s
  have hDl : Db < w.heap.size := World.block_lt_of_cell? _ _ ha.d
  have hKl : Kb < w.heap.size := World.block_lt_of_cell? _ _ hc.k
  have hSbl : Sb < w.heap.size := World.block_lt_of_cell? _ _ hc.s
  have hpos : 0 < xs.length := by have := ha.h1; have := ha.h2; omega
  have hgdl : gd < w.heap.size := World.block_lt_of_cell? _ _ (hc.d 0 hpos)
  have hbl : b < w.heap.size := by
    obtain ⟨b', off', e', hcc⟩ := ha.sl 0 hpos
    cases e'
    exact World.block_lt_of_cell? _ _ hcc
  have l0 : ∀ P, w.heap.size ≤ P → P ∉ [Ok, Su, p, g] := fun P hP => by clear hd hd2 hd3; simp; omega
  have lA : Rb ∉ [Ok, Su, p, g] ∧ Sz ∉ [Ok, Su, p, g] ∧ Db ∉ [Ok, Su, p, g] ∧ b ∉ [Ok, Su, p, g] := by
    simp only [List.mem_cons, List.not_mem_nil, or_false, not_or]
    exact ⟨⟨Ne.symm hd.2.1, Ne.symm hd2.1, Ne.symm hd3.1, Ne.symm hd3.2.2.2.2.1⟩, ⟨Ne.symm hd.2.2.1, Ne.symm hd2.2.1, Ne.symm hd3.2.1, Ne.symm hd3.2.2.2.2.2.1⟩, ⟨Ne.symm hd.2.2.2.1, Ne.symm hd2.2.2.1, Ne.symm hd3.2.2.1, Ne.symm hd3.2.2.2.2.2.2.1⟩, ⟨Ne.symm hd.2.2.2.2.2.2, Ne.symm hd2.2.2.2.2.2, Ne.symm hd3.2.2.2.1, Ne.symm hd3.2.2.2.2.2.2.2⟩⟩
  have HD := hide hd
  have HD2 := hide hd2
  have HD3 := hide hd3
  clear hd hd2 hd3
  refine (win2_any 7 _ Kb Sb gd cap' size xs w (fun P k w' => ∃ v, AlI w Ok Su p g size xs P k w' v) (fun _ _ _ => False) Try.call7 hc (fun P w1 hP hP1 hk => ⟨_, hO.kept hk (by simp), hS.kept hk (by simp), World.ownsRow_nil _ _ _ _, by rw [Nat.zero_min]; exact hro.kept hk (by simp) (by simp), by simp [Value.ownBlock], hk.mono (by simp)⟩) (fun P k w1 w2 hP hI hk => ?_) (fun P k w1 hP hP1 hks hI hc1 => ?_)).mono fun e w' ⟨he, hh⟩ => ⟨he, ?_⟩
  · obtain ⟨v, hI⟩ := hI
    exact ⟨v, hI.ok.kept hk (by simp; omega), hI.su.kept hk (by simp; omega), own_keptl hI.own hk (fun q hq => by have := hI.ne q hq; simpa using this), hI.ro.kept hk (by simp; omega) (by simp; omega), hI.ne, hI.kept.trans hk (by simp; omega)⟩
  · obtain ⟨v, hI⟩ := hI
    have hro1 : Ro w1 p g (wat xs size k) := by have := hI.ro; rwa [Nat.min_eq_left (by omega)] at this
    refine (along1_ok k w.heap.size Ok Su Rb Sz Db p g b off cap size v xs w1 (ha.kept hI.kept lA.1 lA.2.1 lA.2.2.1 lA.2.2.2) hI.ok hI.su hI.own hro1 hks ⟨hOl, hSl, hRl, hZl, hDl, hpl, hgl, hbl⟩ hI.kept.size HD.out HD2.out HD3.out).mono fun e w2 ⟨he, v', j1, j2, j3, j4, j5, j6⟩ => ?_
    have nq : ∀ q, v.ownBlock = some q → w.heap.size ≤ q := fun q hq => (hI.own.lt q hq).1
    have nin : ∀ i, i < w.heap.size → i ∉ [Ok, Su, p, g] → i ∉ ([Ok, Su, p, g] ++ v.ownBlock.toList) := fun i hi hne hm => by
      rcases List.mem_append.1 hm with h | h
      · exact hne h
      · have := nq i (by simpa using h); omega
    refine ⟨true, _, he, j6, ?_, nin _ hKl h1, nin _ hSbl h2, nin _ hgdl h3, fun _ => ⟨v', j1, j2, j3, j4, ?_, ?_⟩, fun hb => by cases hb⟩
    · intro hm
      rcases List.mem_append.1 hm with h | h
      · exact l0 P hP h
      · exact hI.ne P (by simpa using h) rfl
    · intro q hq
      rcases j5 with h | ⟨q', h, hq'⟩
      · exact hI.ne q (by rw [← h]; exact hq)
      · rw [h] at hq
        cases hq
        omega
    · refine hI.kept.trans j6 (fun i hi hlt => ?_)
      rcases List.mem_append.1 hi with h | h
      · exact h
      · have := nq i (by simpa using h); omega
  · rcases hh with ⟨P, _, v, hI⟩ | ⟨P, k, _, _, hh⟩
    · exact ⟨v, hI.ok, hI.su, hI.own, hI.kept⟩
    · exact hh.elim

end Go.Proofs.Ytjfekdcghgpchab
