/-
  Contracts: slices.Clone at bytes, at spans. (Written by tools/hh.py.)
-/
import Derived.Test.YtemlbmamcbmnjaaGreatDoorGsp
import Derived.Laws.AppendOwnNone
import Derived.WalkSpells
namespace Go.Proofs.YtemlbmamcbmnjaaGreatDoor
open Go.RowKit Dsk
set_option linter.unusedVariables false
set_option linter.unusedSimpArgs false

theorem Tryz.infoSpan : (Tryz.prog.info? 199).map (fun i => (i.zero, i.size, i.bytes)) = some (some (.agg #[.string ⟨#[]⟩, .int .i64 0, .int .i64 0]), 3, 32) := by kernel_rfl

set_option maxHeartbeats 400000 in
set_option maxRecDepth 100000 in
theorem cloneB_nil (w : World) :
    Calls Tryz.prog 66 #[.slice none 0 0] w fun e w' => e = .returned (.slice none 0 0) ∧ w' = w := by
  have hnil := fun (w : World) (a : Option Addr) (n c : Nat) => Lib.run_eql_slice_nil (P := Tryz.prog) w 28 5 a n c 0 0 Tryz.underlying28
  go_enter Tryz.func66, Tryz.ntmps66
  go_wp2
  go_ret
  exact ⟨rfl, rfl⟩

set_option maxHeartbeats 400000 in
set_option maxRecDepth 100000 in
theorem cloneB_some (ad : Addr) (cap m : Nat) (xs : List Value) (w : World) (hx : xs.length = m * 1) (h1 : ∀ u ∈ xs, u.oneCell' = true) (hm : m ≤ 1073741824) (hc : ∀ j u, xs[j]? = some u → (w.alloc (.cells #[] 5)).cell? (ad.add j) = some u) :
    Calls Tryz.prog 66 #[.slice (some ad) m cap] w fun e w' => ∃ v, e = .returned v ∧ w'.ownsRow w.heap.size 5 1 v m xs ∧ Kept [] w w' := by
  obtain ⟨i0, hi, hz0, hz1, hz2⟩ := info_parts Tryz.infoByte
  have hnil := fun (w : World) (a : Option Addr) (n c : Nat) => Lib.run_eql_slice_nil (P := Tryz.prog) w 28 5 a n c 0 0 Tryz.underlying28
  go_enter Tryz.func66, Tryz.ntmps66
  go_wp2_with (at_builtin; refine wpList_append_own _ rfl _ _ 28 rfl w.heap.size 5 i0 (.int .u8 0) 1 1 Tryz.underlying28 hi hz0 hz1 hz2 rfl (by decide) _ 0 [] rfl (World.ownsRow_made w #[] 0 (Nat.le_refl _) (by decide) rfl) ad m cap xs rfl hx hc h1 ?c3 ?c4 ?c5 ?_)
  case c3 => unfold maxLen; omega
  case c4 => omega
  case c5 => simp
  intro v' w1 hown hgrow hnn
  have hk : Kept [] w w1 := ((Kept.refl [] w).alloc _).grown hgrow (by intro k hk hlt; simp [Value.ownBlock] at hk; omega)
  obtain ⟨bo, bc, rfl, _⟩ := own_shape hown
  have HOW := hide hown
  clear hown hgrow hnn hnil hc
  go_wp2
  go_ret
  exact ⟨_, rfl, HOW.out, hk⟩

/-- A row of bytes, cloned. -/
theorem cloneB_ok (ao : Option Addr) (n c : Nat) (xs : By) (w : World) (hn : xs.length = n) (h : Sl w ao xs) (h0 : ao = none → n = 0 ∧ c = 0) (hm : n ≤ 1073741824) :
    Calls Tryz.prog 66 #[.slice ao n c] w fun e w' => ∃ v, e = .returned v ∧ OwnB w' v n xs ∧ Kept [] w w' ∧ (∀ g, v.ownBlock = some g → w.heap.size ≤ g) := by
  cases ao with
  | none =>
    obtain ⟨rfl, rfl⟩ := h0 rfl
    have : xs = [] := List.eq_nil_of_length_eq_zero hn
    subst this
    refine (cloneB_nil w).mono ?_
    rintro e w' ⟨rfl, rfl⟩
    exact ⟨_, rfl, OwnB.nil _, Kept.refl _ _, by simp [Value.ownBlock]⟩
  | some ad =>
    have hk := (Kept.refl [] w).alloc (.cells #[] 5)
    refine (cloneB_some ad c n (bys xs) w (by rw [bys_length]; omega) (bys_oneCell xs) hm (fun j u hu => ?_)).mono ?_
    · obtain ⟨hj, rfl⟩ := bys_get hu
      obtain ⟨b', off', e', hc⟩ := h j hj
      injection e' with e'
      subst e'
      rw [show ((⟨b', off', none⟩ : Addr).add j) = ⟨b', off' + j, none⟩ from by unfold Addr.add; by_cases h : j = 0 <;> simp [h]]
      exact hk.cellOf hc (by simp)
    · rintro e w' ⟨v, rfl, ho, hk⟩
      exact ⟨v, rfl, OwnB.of ho, hk, fun g hg => (ho.lt g hg).1⟩

end Go.Proofs.YtemlbmamcbmnjaaGreatDoor
