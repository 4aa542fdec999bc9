/-
  A scope with several labels: what holds at every jump, with a number that falls. Nothing of the program.
-/
import Derived.Test.YtdnbpklnkmgmkaaMem
import Derived.WalkMore
import Derived.ScopeJumps
namespace Go.Proofs.Ytdnbpklnkmgmkaa
open Go.RowKit
set_option linter.unusedVariables false

/-- As Q; by a goto to a label: J of that label. -/
def jumps (J : Nat → Act → World → Prop) (Q : Exit → Act → World → Prop) : Exit → Act → World → Prop
  | .goto l, a, w => J l a w
  | e, a, w => Q e a w

/-- What holds at a jump to one of several labels leads to the end. -/
theorem wp_scope_labels {P : Program} {a : Act} {w : World} {Q : Exit → Act → World → Prop} {c : Code} (J : Nat → Nat → Act → World → Prop)
    (first : c.wp P (jumps (fun l a' w' => ∃ n, J n l a' w') Q) a w)
    (pass : ∀ n l a w, J n l a w → ∃ rest, findLabel c l = some rest ∧ rest.wp P (jumps (fun l' a' w' => ∃ n', n' < n ∧ J n' l' a' w') Q) a w) : (Code.scope c).wp P Q a w := by
  intro b k cs
  have key : ∀ n l a w, J n l a w → ∃ rest, gotoIn l (.inScope c :: k) = some (.code rest :: .inScope c :: k) ∧ ∃ e a' w', Q e a' w' ∧ Arrives P (lone (b.at a (.code rest :: .inScope c :: k)) cs w) b k cs e a' w' := by
    intro n
    induction n using Nat.strongRecOn with
    | _ n ih =>
      intro l a w hJ
      obtain ⟨rest, hf, hp⟩ := pass n l a w hJ
      refine ⟨rest, by simp [gotoIn, hf], ?_⟩
      obtain ⟨e, a₁, w₁, hq, harr⟩ := hp b (.inScope c :: k) cs
      cases e with
      | normal => exact ⟨.normal, a₁, w₁, hq, Steps.trans harr (.one step_inScope)⟩
      | exit id => exact ⟨.exit id, a₁, w₁, hq, fun k' hk => harr k' (by simp [exitTo, hk])⟩
      | goto l' =>
        obtain ⟨n', hlt, hJ'⟩ := hq
        obtain ⟨rest', hg', e₂, a₂, w₂, hq₂, harr₂⟩ := ih n' hlt l' a₁ w₁ hJ'
        exact ⟨e₂, a₂, w₂, hq₂, .of_steps (harr _ hg') harr₂⟩
      | ret => exact ⟨_, a₁, w₁, hq, harr⟩
      | panic ch => exact ⟨_, a₁, w₁, hq, harr⟩
      | outgrown => exact ⟨_, a₁, w₁, hq, harr⟩
  obtain ⟨e, a₁, w₁, hq, harr⟩ := first b (.inScope c :: k) cs
  cases e with
  | normal => exact ⟨.normal, a₁, w₁, hq, .head step_scope (Steps.trans harr (.one step_inScope))⟩
  | exit id => exact ⟨.exit id, a₁, w₁, hq, fun k' hk => .head step_scope (harr k' (by simp [exitTo, hk]))⟩
  | goto l' =>
    obtain ⟨n', hJ'⟩ := hq
    obtain ⟨rest', hg', e₂, a₂, w₂, hq₂, harr₂⟩ := key n' l' a₁ w₁ hJ'
    exact ⟨e₂, a₂, w₂, hq₂, .of_steps (.head step_scope (harr _ hg')) harr₂⟩
  | ret => exact ⟨_, a₁, w₁, hq, .of_steps (.one step_scope) harr⟩
  | panic ch => exact ⟨_, a₁, w₁, hq, .of_steps (.one step_scope) harr⟩
  | outgrown => exact ⟨_, a₁, w₁, hq, .of_steps (.one step_scope) harr⟩

theorem jumps_mono {J J' : Nat → Act → World → Prop} {Q : Exit → Act → World → Prop} (h : ∀ l a w, J l a w → J' l a w) : ∀ e a w, jumps J Q e a w → jumps J' Q e a w
  | .goto l, a, w, k => h l a w k
  | .normal, _, _, k => k
  | .exit _, _, _, k => k
  | .ret, _, _, k => k
  | .panic _, _, _, k => k
  | .outgrown, _, _, k => k
section
variable {J : Nat → Act → World → Prop} {Q : Exit → Act → World → Prop} {a : Act} {w : World}
@[go_sem] theorem jumps_goto (l : Nat) : jumps J Q (.goto l) a w = J l a w := rfl
@[go_sem] theorem jumps_normal : jumps J Q .normal a w = Q .normal a w := rfl
@[go_sem] theorem jumps_exit (id : Nat) : jumps J Q (.exit id) a w = Q (.exit id) a w := rfl
@[go_sem] theorem jumps_ret : jumps J Q .ret a w = Q .ret a w := rfl
@[go_sem] theorem jumps_panic (ch : List PanicEntry) : jumps J Q (.panic ch) a w = Q (.panic ch) a w := rfl
end

/-- From a label on, with a number that falls. -/
def OnFrom (P : Program) (c : Code) (J : Nat → Nat → Act → World → Prop) (Q : Exit → Act → World → Prop) (n l : Nat) (a : Act) (w : World) : Prop :=
  ∃ tail, findLabel c l = some (.seq .skip tail) ∧ tail.wp P (jumps (fun l' a' w' => ∃ m, m < n ∧ J m l' a' w') Q) a w

/-- Each part from label to label is walked once; where it runs on into the next one, that one's walk is there. -/
theorem wp_scope_tails {P : Program} {a : Act} {w : World} {Q : Exit → Act → World → Prop} {c : Code} (J : Nat → Nat → Act → World → Prop)
    (pass : ∀ n, (∀ m, m < n → ∀ l a w, J m l a w → OnFrom P c J Q m l a w) → ∀ l a w, J n l a w → OnFrom P c J Q n l a w)
    (first : (∀ n l a w, J n l a w → OnFrom P c J Q n l a w) → c.wp P (jumps (fun l a' w' => ∃ n, J n l a' w') Q) a w) : (Code.scope c).wp P Q a w := by
  have all : ∀ n l a w, J n l a w → OnFrom P c J Q n l a w := by
    intro n
    induction n using Nat.strongRecOn with
    | _ n ih => exact pass n ih
  refine wp_scope_labels J (first all) (fun n l a w h => ?_)
  obtain ⟨tail, h1, h2⟩ := all n l a w h
  exact ⟨_, h1, wp_seq (wp_skip h2)⟩
/-- Running on into a part: its number is smaller. -/
theorem OnFrom.run {P : Program} {c tail : Code} {J : Nat → Nat → Act → World → Prop} {Q : Exit → Act → World → Prop} {n m l : Nat} {a : Act} {w : World} (h : OnFrom P c J Q m l a w) (hm : m ≤ n) (ht : findLabel c l = some (.seq .skip tail)) :
    tail.wp P (jumps (fun l' a' w' => ∃ m, m < n ∧ J m l' a' w') Q) a w := by
  obtain ⟨t, h1, h2⟩ := h
  rw [ht] at h1
  cases h1
  exact wp_mono h2 (jumps_mono fun l a w ⟨k, hk, hj⟩ => ⟨k, by omega, hj⟩)
theorem OnFrom.runFirst {P : Program} {c tail : Code} {J : Nat → Nat → Act → World → Prop} {Q : Exit → Act → World → Prop} {m l : Nat} {a : Act} {w : World} (h : OnFrom P c J Q m l a w) (ht : findLabel c l = some (.seq .skip tail)) :
    tail.wp P (jumps (fun l' a' w' => ∃ m, J m l' a' w') Q) a w := by
  obtain ⟨t, h1, h2⟩ := h
  rw [ht] at h1
  cases h1
  exact wp_mono h2 (jumps_mono fun l a w ⟨k, _, hj⟩ => ⟨k, hj⟩)

end Go.Proofs.Ytdnbpklnkmgmkaa
