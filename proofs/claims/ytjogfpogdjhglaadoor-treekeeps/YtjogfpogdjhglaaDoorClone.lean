/-
  Contracts: bytes.Clone, code.Read.
-/
import Derived.Test.YtjogfpogdjhglaaDoorProg
import Derived.Test.YtjogfpogdjhglaaDoorMem
import Derived.Test.YtjogfpogdjhglaaDoorRd1
import Derived.Laws.AppendOwnNone
namespace Go.Proofs.YtjogfpogdjhglaaDoor
open Go.RowKit
set_option linter.unusedVariables false

theorem Tryd.infoByte : (Tryd.prog.info? 5).map (fun i => (i.zero, i.size, i.bytes)) = some (some (.int .u8 0), 1, 1) := by kernel_rfl

set_option maxHeartbeats 400000 in
set_option maxRecDepth 100000 in
theorem clone_nil (w : World) :
    Calls Tryd.prog 36 #[.slice none 0 0] w fun e w' => e = .returned (.slice none 0 0) ∧ w' = w := by
  have hnil := fun (w : World) (a : Option Addr) (n c : Nat) => Lib.run_eql_slice_nil (P := Tryd.prog) w 23 5 a n c 0 0 Tryd.underlying23
  go_enter Tryd.func36, Tryd.ntmps36
  go_wp2
  go_ret
  exact ⟨rfl, rfl⟩

set_option maxHeartbeats 400000 in
set_option maxRecDepth 100000 in
theorem clone_some (ad : Addr) (cap : Nat) (xs : List UInt8) (w : World) (hm : xs.length ≤ 140737488355328) (hc : ∀ j u, (bys xs)[j]? = some u → (w.alloc (.cells #[] 5)).cell? (ad.add j) = some u) :
    Calls Tryd.prog 36 #[.slice (some ad) xs.length cap] w fun e w' => ∃ g cap', e = .returned (.slice (some ⟨g, 0, none⟩) xs.length cap') ∧ w.heap.size ≤ g ∧ g < w'.heap.size ∧ xs.length ≤ cap' ∧ Sl w' (some ⟨g, 0, none⟩) xs ∧ Kept [] w w' ∧ w'.ownsRow w.heap.size 5 1 (.slice (some ⟨g, 0, none⟩) xs.length cap') xs.length (bys xs) := by
  obtain ⟨i0, hi, hz0, hz1, hz2⟩ := info_parts Tryd.infoByte
  have hnil := fun (w : World) (a : Option Addr) (n c : Nat) => Lib.run_eql_slice_nil (P := Tryd.prog) w 23 5 a n c 0 0 Tryd.underlying23
  go_enter Tryd.func36, Tryd.ntmps36
  go_wp2_with (at_builtin; refine wpList_append_own _ rfl _ _ 23 rfl w.heap.size 5 i0 (.int .u8 0) 1 1 Tryd.underlying23 hi hz0 hz1 hz2 rfl (by decide) _ 0 [] rfl (World.ownsRow_made w #[] 0 (Nat.le_refl _) (by decide) rfl) ad xs.length cap (bys xs) rfl (by simp [bys_length]) hc (bys_oneCell xs) ?c3 ?c4 ?c5 ?_)
  case c3 => unfold maxLen; omega
  case c4 => omega
  case c5 => simp
  intro v' w1 hown hgrow hnn
  obtain ⟨g, cap', hv, hg, hgs, hcap, hsl⟩ := own_sl hown hnn
  have hk : Kept [] w w1 := ((Kept.refl [] w).alloc _).grown hgrow (by intro k hk hlt; simp [Value.ownBlock] at hk; omega)
  have HOW : Hid (w1.ownsRow w.heap.size 5 1 (.slice (some ⟨g, 0, none⟩) xs.length cap') xs.length (bys xs)) := by
    have h := hown
    rw [hv] at h
    exact h
  rw [hv]
  clear hown hgrow hnn hv hnil hc
  go_wp2
  go_ret
  exact ⟨g, cap', rfl, hg, hgs, hcap, hsl, hk, HOW.out⟩

/-- What a call answers as new memory. -/
def Fresh (w w' : World) (ao : Option Addr) (cap : Nat) (ys : List UInt8) : Prop :=
  Sl w' ao ys ∧ ys.length ≤ cap ∧ (ao = none → ys = [] ∧ cap = 0) ∧ ∀ a, ao = some a → w.heap.size ≤ a.block ∧ a.block < w'.heap.size ∧ a.spot = none

theorem Fresh.later {l : List Nat} {w w1 w2 : World} {ao : Option Addr} {cap : Nat} {ys : List UInt8} (h : Fresh w1 w2 ao cap ys) (hk : Kept l w w1) : Fresh w w2 ao cap ys :=
  ⟨h.1, h.2.1, h.2.2.1, fun a ha => ⟨Nat.le_trans hk.size (h.2.2.2 a ha).1, (h.2.2.2 a ha).2.1, (h.2.2.2 a ha).2.2⟩⟩

/-- bytes.Clone: nil of nil; else new memory with the same bytes. -/
theorem clone_any (ao : Option Addr) (n cap : Nat) (xs : List UInt8) (w : World) (hxn : xs.length = n) (hm : xs.length ≤ 140737488355328) (h : Sl w ao xs) (hn : ao = none → xs = [] ∧ cap = 0) :
    Calls Tryd.prog 36 #[.slice ao n cap] w fun e w' => ∃ ao' cap', e = .returned (.slice ao' n cap') ∧ Fresh w w' ao' cap' xs ∧ Kept [] w w' := by
  subst hxn
  cases ao with
  | none =>
    obtain ⟨rfl, rfl⟩ := hn rfl
    refine (clone_nil w).mono fun e w' ⟨he, hw⟩ => ?_
    subst he; subst hw
    exact ⟨none, 0, rfl, ⟨Sl.nil _ _, Nat.le_refl _, fun _ => ⟨rfl, rfl⟩, by simp⟩, Kept.refl _ _⟩
  | some a =>
    refine (clone_some a cap xs w hm ?_).mono fun e w' ⟨g, cap', he, hg, hgs, hcap, hsl, hk, _⟩ => ?_
    · by_cases h0 : xs = []
      · subst h0
        intro j u hu
        simp [bys] at hu
      · obtain ⟨b, off, e', hb, hc⟩ := h.open h0
        cases e'
        refine Sl.cells fun i hi => ?_
        rw [World.cell?_alloc_lt _ _ _ hb]
        exact hc i hi
    · exact ⟨_, cap', he, ⟨hsl, hcap, by simp, by simp [hg, hgs]⟩, hk⟩

/-- The same, with what lies behind it. -/
theorem clone_own (ao : Option Addr) (n cap : Nat) (xs : List UInt8) (w : World) (hxn : xs.length = n) (hm : xs.length ≤ 140737488355328) (h : Sl w ao xs) (hn : ao = none → xs = [] ∧ cap = 0) :
    Calls Tryd.prog 36 #[.slice ao n cap] w fun e w' => ∃ ao' cap', e = .returned (.slice ao' n cap') ∧ w'.ownsRow w.heap.size 5 1 (.slice ao' n cap') n (bys xs) ∧ Kept [] w w' := by
  subst hxn
  cases ao with
  | none =>
    obtain ⟨rfl, rfl⟩ := hn rfl
    refine (clone_nil w).mono fun e w' ⟨he, hw⟩ => ?_
    subst he; subst hw
    exact ⟨none, 0, rfl, World.ownsRow_nil _ _ _ _, Kept.refl _ _⟩
  | some a =>
    refine (clone_some a cap xs w hm ?_).mono fun e w' ⟨g, cap', he, hg, hgs, hcap, hsl, hk, ho⟩ => ?_
    · by_cases h0 : xs = []
      · subst h0
        intro j u hu
        simp [bys] at hu
      · obtain ⟨b, off, e', hb, hc⟩ := h.open h0
        cases e'
        refine Sl.cells fun i hi => ?_
        rw [World.cell?_alloc_lt _ _ _ hb]
        exact hc i hi
    · exact ⟨_, cap', he, ho, hk⟩

end Go.Proofs.YtjogfpogdjhglaaDoor
