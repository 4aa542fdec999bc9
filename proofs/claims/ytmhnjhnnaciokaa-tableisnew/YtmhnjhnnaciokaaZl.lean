/-
  append of results. Contract: slices.Concat, Grow.
-/
import Derived.Test.YtmhnjhnnaciokaaZk
import Derived.Laws.AppendOwnNone
import Derived.Test.YtmhnjhnnaciokaaZe2
namespace Go.Proofs.Ytmhnjhnnaciokaa
open Go.RowKit Go.Sort
set_option linter.unusedVariables false
set_option linter.unusedSimpArgs false

theorem OwnR.base {w : World} {b1 b2 : Nat} {v : Value} {L : List Res} (h : OwnR w b1 v L) (hb : b2 ≤ b1) : OwnR w b2 v L := own_base h hb
/-- append(results, more...): what was there is owned. -/
theorem run_appR (w : World) (base : Nat) (v : Value) (L : List Res) (h : OwnR w base v L) (ao : Option Addr) (m c : Nat) (M : List Res) (hM : Ress w ao M) (hm : M.length = m) (hw : Wao ao) (hnil : ao = none → c = 0) (hl : (L.length + m) * 72 ≤ 140737488355328) (hb : base ≤ w.heap.size) :
    ∃ v' w', (Builtin.append_ #[22, 22] 22 #[v, .slice ao m c]).run Try.prog w = .ok v' w' ∧ OwnR w' base v' (L ++ M) ∧ (∀ l, (∀ g, v.ownBlock = some g → g ∈ l) → Kept l w w') ∧ (∀ g, v'.ownBlock = some g → v.ownBlock = some g ∨ w.heap.size ≤ g) := by
  obtain ⟨i0, hi, hz0, hz1, hz2⟩ := info_parts Try.infoRes
  rcases hw with rfl | ⟨a, rfl⟩
  · have h0 : M = [] := by
      by_cases h0 : M = []
      · exact h0
      · obtain ⟨_, _, e, _⟩ := hM.open h0
        cases e
    subst h0
    obtain rfl : m = 0 := hm.symm
    obtain rfl := hnil rfl
    refine ⟨v, w, ?_, by simpa using h, fun l _ => Kept.refl l w, fun g hg => .inl hg⟩
    exact run_append_owned_none (P := Try.prog) (w := w) base 22 22 26 i0 65 Try.underlying22 hi v L.length (rows L) h
  · by_cases h0 : M = []
    · subst h0
      obtain rfl : m = 0 := hm.symm
      obtain ⟨v', w', hrun, h1', h2, h3⟩ := run_app0 w base v L h (some a) c (by simp) hb (by omega)
      exact ⟨v', w', hrun, by rw [List.append_nil]; exact h1', h2, h3⟩
    obtain ⟨b, o, e, _, _⟩ := hM.open h0
    cases e
    obtain ⟨v', w', hrun, h1', h2, h3, h4⟩ := run_append_own_at (P := Try.prog) w base 22 22 26 i0 (.agg zeroR) 65 72 Try.underlying22 hi hz0 hz1 hz2 rfl (by omega) v L.length (rows L) h ⟨b, o, none⟩ m c (rows M) (by rw [rows_len, hm])
      (fun j u hj => by rw [Addr.add_mid]; exact hM.cells hj) (rows_one M) (by unfold maxLen; omega) hl hb
    refine ⟨v', w', hrun, ?_, fun l hl2 => (Kept.refl l w).grown h2 (fun k hk _ => hl2 k hk), fun g hg => ?_⟩
    · show w'.ownsRow base 26 65 v' (L ++ M).length (rows (L ++ M))
      rw [List.length_append, rows_app, hm]
      exact h1'
    · rcases h4 with h4 | h4
      · exact .inl (by rw [← h4]; exact hg)
      · rw [h4] at hg
        simp only [Option.some.injEq] at hg
        exact .inr (by omega)

theorem grow_ok (n : Nat) (w : World) (hn : n * 72 ≤ 140737488355328) :
    Calls Try.prog 33 #[.slice none 0 0, .int .i64 n] w fun e w' => ∃ v, e = .returned v ∧ OwnR w' w.heap.size v [] ∧ Kept [] w w' := by
  by_cases h0 : n = 0
  · subst h0
    refine (Any8.slices_Grow_room layGrow none 0 0 0 w (Nat.le_refl _) (by omega) (by omega) (by omega)).mono ?_
    rintro e w' ⟨rfl, rfl⟩
    exact ⟨_, rfl, OwnR.nil _ _, Kept.refl _ _⟩
  · obtain ⟨i0, hi, hz0, hz1, hz2⟩ := info_parts Try.infoRes
    have h := Any8.slices_Grow_grow layGrow i0 (.agg zeroR) hi hz0 (by omega) none 0 0 n [] w (Nat.le_refl _) (by omega) (by rw [hz2]; omega) (by omega) (by simp) (fun _ => rfl) (by simp)
    refine h.mono ?_
    rintro e w' ⟨rfl, rfl⟩
    refine ⟨_, rfl, ⟨by simp [rows], .inr ⟨w.heap.size, _, _, rfl, Nat.le_refl _, heap_new w.drew _, Nat.zero_le _, ?_, ?_, ?_⟩⟩, ((Kept.refl [] w).drew).alloc _⟩
    · exact grownCap_le_maxLen w _ _ _ (by unfold maxLen; omega)
    · have hge : n ≤ grownCap w (0 + n) 0 26 := by have := grownCap_ge w (0 + n) 0 26; omega
      show (([] : List Value).toArray ++ Builtin.zeroCells zeroR (0 + n - 0) ++ Builtin.zeroCells zeroR (grownCap w (0 + n) 0 26 - (0 + n))).size = grownCap w (0 + n) 0 26 * 65
      have hz : ∀ k, (Builtin.zeroCells zeroR k).size = k * 65 := fun k => by simp [Builtin.zeroCells]; show k * 65 = k * 65; rfl
      rw [Array.size_append, Array.size_append, hz, hz]
      simp only [List.size_toArray, List.length_nil]
      generalize grownCap w (0 + n) 0 26 = G at hge ⊢
      omega
    · simp [rows]
end Go.Proofs.Ytmhnjhnnaciokaa
