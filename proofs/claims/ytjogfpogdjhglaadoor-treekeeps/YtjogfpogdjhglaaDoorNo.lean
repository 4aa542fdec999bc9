/-
  Contract: tree.Parse.
-/
import Derived.Test.YtjogfpogdjhglaaDoorNn
import Derived.Defers
import Derived.Recover
import Derived.Laws.Pointers
namespace Go.Proofs.YtjogfpogdjhglaaDoor
open Go.RowKit
set_option linter.unusedVariables false
set_option linter.unusedSimpArgs false

set_option maxRecDepth 100000 in
theorem catch_panicking (p q : Nat) (x : Value) (n : Int) (u : TypeId) (pv : Value) (older : List PanicEntry) (w : World) (hc : w.cell? ⟨p, 0, none⟩ = some x) (hz : w.frozen? ⟨p, 0, none⟩ = false) (hc2 : w.cell? ⟨q, 0, none⟩ = some (.int .i64 n)) (hz2 : w.frozen? ⟨q, 0, none⟩ = false) (hpq : p ≠ q) :
    CallsD Tryd.prog 21 #[.pointer (some ⟨p, 0, none⟩), .pointer (some ⟨q, 0, none⟩)] (.panicking ({ v := .iface u pv, recovered := false } :: older)) w fun e u' w' =>
      e = .returned (.tuple #[]) ∧ u' = .panicking ({ v := .iface u pv, recovered := true } :: older) ∧ w' = (w.setCell ⟨p, 0, none⟩ (.slice none 0 0)).setCell ⟨q, 0, none⟩ (.int .i64 70) := by
  refine callsD_of_wpS Tryd.func21 rfl fun c₀ cs hu => ?_
  apply wpS_seq
  apply wpS_region
  simp [wpOpsS, go_sem, recoverD, hu, Tryd.ntmps21, Exit.thenS]
  refine wpS_cond (t := true) (by simp [Act.eval, Array.replicate]) ?_
  simp only [if_true]
  apply wpS_region
  have h3 : (w.setCell ⟨p, 0, none⟩ (.slice none 0 0)).cell? ⟨q, 0, none⟩ = some (.int .i64 n) := by
    rw [World.cell?_setCell_other _ _ _ _ (by intro e; cases e; exact hpq rfl)]; exact hc2
  have h4 : (w.setCell ⟨p, 0, none⟩ (.slice none 0 0)).frozen? ⟨q, 0, none⟩ = false := by simpa using hz2
  have e0 : (#[Value.pointer (some ⟨p, 0, none⟩), Value.pointer (some ⟨q, 0, none⟩)] ++ ((Array.replicate 2 undef).setIfInBounds 0 (Value.iface u pv)).setIfInBounds 1 (Value.bool true)) = #[Value.pointer (some ⟨p, 0, none⟩), Value.pointer (some ⟨q, 0, none⟩), Value.iface u pv, Value.bool true] := rfl
  rw [e0]
  simp [wpOpsS, go_sem, hc, hz, h3, h4, bodyPostS, results, Tryd.results21]

set_option maxRecDepth 100000 in
theorem catch_idle (p q : Nat) (w : World) :
    CallsD Tryd.prog 21 #[.pointer (some ⟨p, 0, none⟩), .pointer (some ⟨q, 0, none⟩)] .returning w fun e u' w' => e = .returned (.tuple #[]) ∧ u' = .returning ∧ w' = w := by
  refine callsD_of_wpS Tryd.func21 rfl fun c₀ cs hu => ?_
  apply wpS_seq
  apply wpS_region
  simp [wpOpsS, go_sem, recoverD, hu, Tryd.ntmps21, Exit.thenS]
  refine wpS_cond (t := false) (by simp [Act.eval, Array.replicate]) ?_
  simp only [Bool.false_eq_true, if_false]
  refine wpS_of_wp (wp_skip ?_)
  cases c₀
  simp_all [bodyPostS, results, Tryd.results21]

theorem two_set (w : World) (A B : Nat) (hAB : A ≠ B) (x y : Value) {x0 y0 : Value} (hA : w.cell? ⟨A, 0, none⟩ = some x0) (hB : w.cell? ⟨B, 0, none⟩ = some y0) :
    ((w.setCell ⟨A, 0, none⟩ x).setCell ⟨B, 0, none⟩ y).cell? ⟨A, 0, none⟩ = some x ∧ ((w.setCell ⟨A, 0, none⟩ x).setCell ⟨B, 0, none⟩ y).cell? ⟨B, 0, none⟩ = some y := by
  have n1 : (⟨A, 0, none⟩ : Addr) ≠ ⟨B, 0, none⟩ := fun e => hAB (by injection e)
  refine ⟨?_, ?_⟩
  · rw [World.cell?_setCell_other _ _ _ _ (by first | exact n1 | exact n1.symm)]
    exact World.cell?_setCell_same _ _ _ hA
  · refine World.cell?_setCell_same _ _ _ (u := y0) ?_
    rw [World.cell?_setCell_other _ _ _ _ (by first | exact n1 | exact n1.symm)]
    exact hB
/-- What Parse answers: entries of its own and a number. -/
def ToldE (w w' : World) (r : Ending) (o : Option (List Ent)) : Prop :=
  (∃ v, r = .returned (.tuple #[v, .int .i64 (Tn.code o.isSome)]) ∧ OwnE w' w.heap.size v (o.getD [])) ∧ Below w.heap.size w w'

set_option maxHeartbeats 1600000 in
set_option maxRecDepth 100000 in
theorem parse_ok (ao : Option Addr) (n cap : Nat) (xs : List UInt8) (w : World) (hn : xs.length = n) (hm : n ≤ 140737488355328) (hs : Sl w ao xs) (h0 : ao = none → xs = [] ∧ cap = 0) (hT : Tabs w) :
    Calls Tryd.prog 6 #[.slice ao n cap] w fun r w' => ToldE w w' r (Tn.parse xs) := by
  have hmf : ∀ (fn : Fn) (first cap : Array Value) (w : World), (Instr.makeFunc fn first cap).run Tryd.prog w = .ok (.func fn first cap) w := fun _ _ _ _ => rfl
  have HT := hide hT
  have HS := hide hs
  clear hs hT
  go_enter_defers Tryd.func6, Tryd.ntmps6
  go_wp2_with (fail)
  obtain ⟨W0, hW0⟩ : ∃ W0, (w.alloc (.cells #[.slice none 0 0] 22)).alloc (.cells #[.int .i64 0] 27) = W0 := ⟨_, rfl⟩
  rw [hW0]
  have kb : Kept [] w W0 := by rw [← hW0]; exact ((Kept.refl [] w).alloc _).alloc _
  have sz : W0.heap.size = w.heap.size + 2 := by rw [← hW0]; simp
  have cA : W0.cell? ⟨w.heap.size, 0, none⟩ = some (.slice none 0 0) := by rw [← hW0]; simp [go_sem]
  have cB : W0.cell? ⟨w.heap.size + 1, 0, none⟩ = some (.int .i64 0) := by rw [← hW0]; simp [go_sem]
  have fA : W0.frozen? ⟨w.heap.size, 0, none⟩ = false := by rw [← hW0]; simp [go_sem]
  have fB : W0.frozen? ⟨w.heap.size + 1, 0, none⟩ = false := by rw [← hW0]; simp [go_sem]
  clear hW0
  refine (read_any ao n cap xs W0 hn (by omega) (HS.out.kept kb (by simp)) h0).mono ?_
  rintro r w1 ⟨b, ao', cap', rfl, hb, hbl, hbl2, hrd, hk1⟩
  have hkb1 : Kept [] w w1 := kb.trans hk1 (by simp)
  have hro := read_ok (w := w1) (b := b) (ao := ao') (cap := cap') (xs := xs) ⟨0, fun _ => rfl, hrd⟩ (HT.out.kept hkb1 (by simp)) (by have := HT.out.big; omega)
  have hlt := hrd.lt
  have sz1 := hk1.size
  have dA := hk1.cellOf cA (by simp)
  have dB := hk1.cellOf cB (by simp)
  have gA : w1.frozen? ⟨w.heap.size, 0, none⟩ = false := by rw [hk1.frozen (by simp; omega) (by simp)]; exact fA
  have gB : w1.frozen? ⟨w.heap.size + 1, 0, none⟩ = false := by rw [hk1.frozen (by simp; omega) (by simp)]; exact fB
  clear cA cB fA fB hrd hbl hbl2 hk1
  rcases hp : Tn.parse xs with _ | L
  · have hro2 : Calls Tryd.prog 22 #[.pointer (some ⟨b, 0, none⟩)] w1 fun r w' => r = gaveUp ∧ Kept [b] w1 w' := by
      refine hro.mono ?_
      rintro r w' ⟨⟨L, v, h1, _⟩ | ⟨_, h2⟩, hk⟩
      · rw [hp] at h1; cases h1
      · exact ⟨h2, hk⟩
    clear hro
    go_wp2_with (go_at_call 22; refine hro2.mono ?_; rintro r w2 ⟨rfl, hk2⟩; have HK2 := hide hk2; clear hro2 hk2)
    have k2 := HK2.out
    have iA : w.heap.size ∉ [b] := by simp; omega
    have iB : w.heap.size + 1 ∉ [b] := by simp; omega
    have lA : w.heap.size < w1.heap.size := by omega
    have lB : w.heap.size + 1 < w1.heap.size := by omega
    refine leaves_cons (f := 21) (args := #[.pointer (some ⟨w.heap.size, 0, none⟩), .pointer (some ⟨w.heap.size + 1, 0, none⟩)]) (by simp) (by simp [go_sem]) ?_
    refine (catch_panicking w.heap.size (w.heap.size + 1) _ 0 _ _ [] w2 (k2.cellOf dA iA) ((k2.frozen lA iA).trans gA) (k2.cellOf dB iB) ((k2.frozen lB iB).trans gB) (by omega)).mono ?_
    rintro e u' w'' ⟨rfl, rfl, rfl⟩
    obtain ⟨W3, hW3⟩ : ∃ W3, (w2.setCell ⟨w.heap.size, 0, none⟩ (.slice none 0 0)).setCell ⟨w.heap.size + 1, 0, none⟩ (.int .i64 70) = W3 := ⟨_, rfl⟩
    obtain ⟨eA, eB⟩ : W3.cell? ⟨w.heap.size, 0, none⟩ = some (.slice none 0 0) ∧ W3.cell? ⟨w.heap.size + 1, 0, none⟩ = some (.int .i64 70) := by
      rw [← hW3]; exact two_set w2 _ _ (by omega) _ _ (k2.cellOf dA iA) (k2.cellOf dB iB)
    have k3 : Kept [b, w.heap.size, w.heap.size + 1] w1 W3 := by rw [← hW3]; exact ((k2.mono (by simp)).setCell (by simp) _).setCell (by simp) _
    have hB : Below w.heap.size w W3 := (hkb1.below (Nat.le_refl _) (by simp)).trans (k3.below hkb1.size (by simp; omega))
    rw [hW3]
    simp [Leaves, settle, results, Tryd.results6, go_sem, eA, eB]
    rw [hp]
    exact ⟨⟨_, rfl, World.ownsRow_nil _ _ _ _, by simp⟩, hB⟩
  · have hro2 : Calls Tryd.prog 22 #[.pointer (some ⟨b, 0, none⟩)] w1 fun r w' => (∃ v, r = .returned v ∧ OwnE w' w1.heap.size v L) ∧ Kept [b] w1 w' := by
      refine hro.mono ?_
      rintro r w' ⟨⟨L', v, h1, h2, h3⟩ | ⟨h1, h2⟩, hk⟩
      · rw [hp] at h1; cases h1
        exact ⟨⟨v, h2, h3⟩, hk⟩
      · rw [hp] at h1; cases h1
    clear hro
    go_wp2_with (go_at_call 22; refine hro2.mono ?_; rintro r w2 ⟨⟨v, rfl, hv⟩, hk2⟩; have HK2 := hide (And.intro hk2 hv); obtain ⟨ao2, cap2, hv2, _, _, hbv, _⟩ := hv.ents; subst hv2; have HBV := hide hbv; have dA2 : w2.cell? ⟨w.heap.size, 0, none⟩ = some (.slice none 0 0) := hk2.cellOf dA (by simp; omega); have dB2 : w2.cell? ⟨w.heap.size + 1, 0, none⟩ = some (.int .i64 0) := hk2.cellOf dB (by simp; omega); have gA2 : w2.frozen? ⟨w.heap.size, 0, none⟩ = false := (hk2.frozen (show w.heap.size < w1.heap.size by omega) (by simp; omega)).trans gA; have gB2 : w2.frozen? ⟨w.heap.size + 1, 0, none⟩ = false := (hk2.frozen (show w.heap.size + 1 < w1.heap.size by omega) (by simp; omega)).trans gB; clear hro2 hk2 hv hbv)
    refine leaves_cons (f := 21) (args := #[.pointer (some ⟨w.heap.size, 0, none⟩), .pointer (some ⟨w.heap.size + 1, 0, none⟩)]) (by simp) (by simp [go_sem]) ?_
    refine (catch_idle w.heap.size (w.heap.size + 1) _).mono ?_
    rintro e u' w'' ⟨rfl, rfl, rfl⟩
    obtain ⟨W3, hW3⟩ : ∃ W3, (w2.setCell ⟨w.heap.size, 0, none⟩ (.slice ao2 L.length cap2)).setCell ⟨w.heap.size + 1, 0, none⟩ (.int .i64 0) = W3 := ⟨_, rfl⟩
    obtain ⟨eA, eB⟩ : W3.cell? ⟨w.heap.size, 0, none⟩ = some (.slice ao2 L.length cap2) ∧ W3.cell? ⟨w.heap.size + 1, 0, none⟩ = some (.int .i64 0) := by
      rw [← hW3]; exact two_set w2 _ _ (by omega) _ _ dA2 dB2
    have k3 : Kept [w.heap.size, w.heap.size + 1] w2 W3 := by rw [← hW3]; exact ((Kept.refl _ w2).setCell (by simp) _).setCell (by simp) _
    have k4 : Kept [b, w.heap.size, w.heap.size + 1] w1 W3 := (HK2.out.1.mono (by simp)).trans k3 (by simp)
    have hB : Below w.heap.size w W3 := (hkb1.below (Nat.le_refl _) (by simp)).trans (k4.below hkb1.size (by simp; omega))
    have hO : OwnE W3 w1.heap.size (.slice ao2 L.length cap2) L := HK2.out.2.kept k3 (fun g hg => by
      cases ao2 with
      | none => simp [Value.ownBlock] at hg
      | some a4 =>
        obtain ⟨g', rfl, h1, _, h2⟩ := HBV.out a4 rfl
        rw [hg] at h2; cases h2
        simp; omega)
    have hO2 : OwnE W3 w.heap.size (.slice ao2 L.length cap2) L := ⟨own_base hO.1 (by omega), hO.2⟩
    rw [hW3]
    simp [Leaves, settle, results, Tryd.results6, go_sem, eA, eB]
    rw [hp]
    exact ⟨⟨_, rfl, hO2⟩, hB⟩
end Go.Proofs.YtjogfpogdjhglaaDoor
