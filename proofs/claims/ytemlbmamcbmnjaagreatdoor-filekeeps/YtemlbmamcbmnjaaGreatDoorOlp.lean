import Derived.WalkKit
import Derived.Deep.RegionHeld3
import Derived.Test.YtemlbmamcbmnjaaGreatDoorGmp
import Derived.Deep.QuietTactic
import Derived.BigQuiet
import Derived.StillTailTactics
import Derived.Deep.Cut
import Derived.WalkArith
import Derived.ProofKit
namespace Go.Proofs.YtemlbmamcbmnjaaGreatDoor
section
open Go.RowKit
set_option linter.unusedVariables false

theorem hide {p : Prop} (h : p) : Hid p := h

section
variable {P : Program} {ops : Array Oper} {Q : Exit → Act → World → Prop} {md : Region.Mode} {S : World → Prop} {late : Nat → Bool}

/-- Whatever order is picked; S stands on behind each operation that is not late. -/
def wpAnyL (P : Program) (md : Region.Mode) (ops : Array Oper) (Q : Exit → Act → World → Prop) (S : World → Prop) (late : Nat → Bool) : Nat → Array Bool → Act → World → Prop
  | 0, listed, a, w => Region.ready md ops listed = [] ∧ Q .normal a w
  | fuel + 1, listed, a, w => (Region.ready md ops listed = [] → Q .normal a w) ∧
    ∀ i ∈ Region.ready md ops listed, wpOp P ops Q i (fun a' w' => (S w → late i = false → S w') ∧ wpAnyL P md ops Q S late fuel (listed.setIfInBounds i true) a' w') a w

theorem wpAnyL_any : ∀ (fuel : Nat) (listed : Array Bool) (a : Act) (w : World), wpAnyL P md ops Q S late fuel listed a w → wpAny P md ops Q fuel listed a w
  | 0, _, _, _, h => h
  | fuel + 1, _, _, _, h => ⟨h.1, fun i hi => wpOp_mono (fun a' w' k => wpAnyL_any fuel _ a' w' k.2) (h.2 i hi)⟩

/-- What has come up came up behind all that it waits for. -/
def downB (md : Region.Mode) (ops : Array Oper) (listed : Array Bool) : Bool :=
  (List.range ops.size).all fun k => !(listed.getD k false) || match ops[k]? with
    | some o => o.after.all fun e => !(Region.binds md e) || listed.getD e.on false
    | none => true
/-- z waits for i, or for one that does. -/
def waits (md : Region.Mode) (ops : Array Oper) (i : Nat) : Nat → Nat → Bool
  | 0, _ => false
  | n + 1, z => match ops[z]? with
    | some o => o.after.any fun e => Region.binds md e && (e.on == i || waits md ops i n e.on)
    | none => false
def lateWait (md : Region.Mode) (ops : Array Oper) (late : Nat → Bool) (i : Nat) : Bool :=
  (List.range ops.size).all fun z => !(late z) || waits md ops i ops.size z

def Down (md : Region.Mode) (ops : Array Oper) (listed : Array Bool) : Prop :=
  ∀ k o, ops[k]? = some o → listed.getD k false = true → ∀ e ∈ o.after, Region.binds md e = true → listed.getD e.on false = true

theorem downB_spec {listed : Array Bool} (h : downB md ops listed = true) : Down md ops listed := by
  intro k o ho hk e he hb
  have h1 := List.all_eq_true.1 h k (List.mem_range.2 (Array.getElem?_eq_some_iff.1 ho).1)
  simp only [hk, ho, Bool.not_true, Bool.false_or] at h1
  have h2 := Array.all_eq_true_iff_forall_mem.1 h1 e he
  simpa [hb] using h2
theorem Down.set {listed : Array Bool} (h : Down md ops listed) {j : Nat} (hj : j ∈ Region.ready md ops listed) : Down md ops (listed.setIfInBounds j true) := by
  intro k o ho hk e he hb
  apply getD_set_true
  by_cases hjk : j = k
  · subst hjk
    obtain ⟨_, o', ho', hall⟩ := mem_ready.1 hj
    rw [ho] at ho'
    cases ho'
    exact hall e he hb
  · rw [getD_set_ne false hjk] at hk
    exact h k o ho hk e he hb
theorem waits_listed {listed : Array Bool} (hd : Down md ops listed) {i : Nat} : ∀ (n z : Nat) (o : Oper), ops[z]? = some o → waits md ops i n z = true → (∀ e ∈ o.after, Region.binds md e = true → listed.getD e.on false = true) → listed.getD i false = true
  | 0, z, o, ho, h, _ => by simp [waits] at h
  | n + 1, z, o, ho, h, hall => by
    simp only [waits, ho] at h
    obtain ⟨e, he, hb⟩ := Array.any_eq_true'.1 h
    simp only [Bool.and_eq_true, Bool.or_eq_true, beq_iff_eq] at hb
    have hl := hall e he hb.1
    rcases hb.2 with rfl | hw
    · exact hl
    · cases ho' : ops[e.on]? with
      | none => cases n <;> simp [waits, ho'] at hw
      | some o' => exact waits_listed hd n e.on o' ho' hw (hd e.on o' ho' hl)
theorem late_not_ready {listed : Array Bool} (hd : Down md ops listed) {i : Nat} (hi : listed.getD i true = false) (hw : lateWait md ops late i = true) {j : Nat} (hj : j ∈ Region.ready md ops listed) : late j = false := by
  obtain ⟨_, o, ho, hall⟩ := mem_ready.1 hj
  have h1 := List.all_eq_true.1 hw j (List.mem_range.2 (Array.getElem?_eq_some_iff.1 ho).1)
  cases hl : late j with
  | false => rfl
  | true =>
    rw [hl] at h1
    simp only [Bool.not_true, Bool.false_or] at h1
    have h2 := waits_listed hd _ j o ho h1 hall
    rcases Nat.lt_or_ge i listed.size with h' | h'
    · simp [h'] at hi h2; rw [hi] at h2; cases h2
    · simp [Array.getElem?_eq_none h'] at h2

theorem takeL {i : Nat} {oi : Oper} {v : Value} (hi : ops[i]? = some oi) (hsel : Region.noSelect ops = true) (hw : lateWait md ops late i = true)
    (hQ : ∀ c a w, Q (.panic c) (a.put oi.dst v) w → Q (.panic c) a w) :
    ∀ (fuel : Nat) (listed : Array Bool) (a : Act) (w : World), Down md ops listed →
      (∀ j oj, ops[j]? = some oj → j ≠ i → listed.getD j true = false → (∀ e ∈ oj.after, Region.binds md e = true → e.on ≠ i) → oi.apart ops oj = true) →
      i ∈ Region.ready md ops listed → YieldsIf P ops S oi v a → S w →
      wpAnyL P md ops Q S late fuel (listed.setIfInBounds i true) (a.put oi.dst v) w → wpAnyL P md ops Q S late (fuel + 1) listed a w
  | fuel, listed, a, w, hd, hfree, hr, hy, hS, H => by
    refine ⟨fun h => (by rw [h] at hr; cases hr), fun j hj => ?_⟩
    have hiun := (mem_ready.1 hr).1
    by_cases hji : j = i
    · subst hji; exact hy.wpOp hi hS ⟨fun h _ => h, H⟩
    · have hjr := ready_mono (i := i) hj hji
      match fuel, H with
      | 0, H => rw [H.1] at hjr; cases hjr
      | fuel + 1, H =>
        have hlj := late_not_ready hd hiun hw hj
        obtain ⟨hjun, oj, hoj, hall⟩ := mem_ready.1 hj
        have hnot : ∀ e ∈ oj.after, Region.binds md e = true → e.on ≠ i := by
          rintro e he hb rfl
          have h1 := hall e he hb
          rcases Nat.lt_or_ge e.on listed.size with h' | h'
          · simp [h'] at hiun h1; rw [hiun] at h1; cases h1
          · simp [Array.getElem?_eq_none h'] at h1
        have h2 := wpOp_putIf hoj (hfree j oj hoj hji hjun hnot) (fun cs b => Region.noSelect_spec hsel i oi cs b hi) (fun cs b => Region.noSelect_spec hsel j oj cs b hoj) hQ hy (H.2 j hjr)
        refine wpOp_mono (fun a' w' h3 => ⟨fun _ _ => h3.2.1 hS hlj, ?_⟩) h2
        refine takeL hi hsel hw hQ fuel (listed.setIfInBounds j true) a' w' (hd.set hj) (fun k ok hk hki hun hno => hfree k ok hk hki ?_ hno) (ready_mono hr (Ne.symm hji)) h3.1 (h3.2.1 hS hlj) ?_
        · by_cases hjk : j = k
          · subst hjk; exact hjun
          · rw [getD_set_ne true hjk] at hun; exact hun
        · rw [Array.setIfInBounds_comm _ _ hji]
          exact h3.2.2

/-- One that yields in whatever world. -/
theorem takeF {i : Nat} {oi : Oper} {v : Value} (hi : ops[i]? = some oi) (hsel : Region.noSelect ops = true)
    (hQ : ∀ c a w, Q (.panic c) (a.put oi.dst v) w → Q (.panic c) a w) :
    ∀ (fuel : Nat) (listed : Array Bool) (a : Act) (w : World),
      (∀ j oj, ops[j]? = some oj → j ≠ i → listed.getD j true = false → (∀ e ∈ oj.after, Region.binds md e = true → e.on ≠ i) → oi.apart ops oj = true) →
      i ∈ Region.ready md ops listed → YieldsIf P ops (fun _ => True) oi v a →
      wpAnyL P md ops Q S late fuel (listed.setIfInBounds i true) (a.put oi.dst v) w → wpAnyL P md ops Q S late (fuel + 1) listed a w
  | fuel, listed, a, w, hfree, hr, hy, H => by
    refine ⟨fun h => (by rw [h] at hr; cases hr), fun j hj => ?_⟩
    have hiun := (mem_ready.1 hr).1
    by_cases hji : j = i
    · subst hji; exact hy.wpOp hi trivial ⟨fun h _ => h, H⟩
    · have hjr := ready_mono (i := i) hj hji
      match fuel, H with
      | 0, H => rw [H.1] at hjr; cases hjr
      | fuel + 1, H =>
        obtain ⟨hjun, oj, hoj, hall⟩ := mem_ready.1 hj
        have hnot : ∀ e ∈ oj.after, Region.binds md e = true → e.on ≠ i := by
          rintro e he hb rfl
          have h1 := hall e he hb
          rcases Nat.lt_or_ge e.on listed.size with h' | h'
          · simp [h'] at hiun h1; rw [hiun] at h1; cases h1
          · simp [Array.getElem?_eq_none h'] at h1
        have h2 := wpOp_putIf hoj (hfree j oj hoj hji hjun hnot) (fun cs b => Region.noSelect_spec hsel i oi cs b hi) (fun cs b => Region.noSelect_spec hsel j oj cs b hoj) hQ hy (H.2 j hjr)
        refine wpOp_mono (fun a' w' h3 => ⟨h3.2.1, ?_⟩) h2
        refine takeF hi hsel hQ fuel (listed.setIfInBounds j true) a' w' (fun k ok hk hki hun hno => hfree k ok hk hki ?_ hno) (ready_mono hr (Ne.symm hji)) h3.1 ?_
        · by_cases hjk : j = k
          · subst hjk; exact hjun
          · rw [getD_set_ne true hjk] at hun; exact hun
        · rw [Array.setIfInBounds_comm _ _ hji]
          exact h3.2.2
theorem wpAnyL_free {i : Nat} {oi : Oper} {v : Value} {fuel : Nat} {listed : Array Bool} {a : Act} {w : World} (hi : ops[i]? = some oi)
    (hs : Region.noSelect ops = true) (hf : Region.free md ops listed i = true) (hr : (Region.ready md ops listed).contains i = true)
    (hQ : ∀ c a w, Q (.panic c) (a.put oi.dst v) w → Q (.panic c) a w) (hy : YieldsIf P ops (fun _ => True) oi v a)
    (h : wpAnyL P md ops Q S late fuel (listed.setIfInBounds i true) (a.put oi.dst v) w) : wpAnyL P md ops Q S late (fuel + 1) listed a w :=
  takeF hi hs hQ fuel listed a w (Region.free_spec hi hf) (by simpa using hr) hy h

/-- One that reads is taken first, though what it reads is written later. -/
theorem wpAnyL_take {i : Nat} {oi : Oper} {v : Value} {fuel : Nat} {listed : Array Bool} {a : Act} {w : World} (hi : ops[i]? = some oi)
    (hs : Region.noSelect ops = true) (hf : Region.free md ops listed i = true) (hr : (Region.ready md ops listed).contains i = true) (hd : downB md ops listed = true) (hw : lateWait md ops late i = true)
    (hQ : ∀ c a w, Q (.panic c) (a.put oi.dst v) w → Q (.panic c) a w) (hy : YieldsIf P ops S oi v a) (hS : S w)
    (h : wpAnyL P md ops Q S late fuel (listed.setIfInBounds i true) (a.put oi.dst v) w) : wpAnyL P md ops Q S late (fuel + 1) listed a w :=
  takeL hi hs hw hQ fuel listed a w (downB_spec hd) (Region.free_spec hi hf) (by simpa using hr) hy hS h

/-- Just one may come up. -/
theorem wpAnyL_one {i : Nat} {o : Oper} {fuel : Nat} {listed : Array Bool} {a : Act} {w : World} (hr : Region.ready md ops listed = [i]) (ho : ops[i]? = some o)
    (h : ∀ K : Act → World → Prop, Hid (∀ a' w', (S w → late i = false → S w') → wpAnyL P md ops Q S late fuel (listed.setIfInBounds i true) a' w' → K a' w') → if Region.wanted o (yielded ops a.tmps) then o.wp P a w K Q else K (a.put o.dst undef) w) :
    wpAnyL P md ops Q S late (fuel + 1) listed a w := by
  refine ⟨fun h0 => (by rw [hr] at h0; cases h0), fun j hj => ?_⟩
  rw [hr] at hj
  obtain rfl : j = i := by simpa using hj
  have h1 := h (fun a' w' => (S w → late j = false → S w') ∧ wpAnyL P md ops Q S late fuel (listed.setIfInBounds j true) a' w') (fun a' w' x y => ⟨x, y⟩)
  unfold wpOp
  simp only [ho]
  split
  · next hwt => rw [if_pos hwt] at h1; exact .inl h1
  · next hwt => rw [if_neg hwt] at h1; exact h1

/-- One of two may come up. -/
theorem wpAnyL_two {i j : Nat} {o o' : Oper} {fuel : Nat} {listed : Array Bool} {a : Act} {w : World} (hr : Region.ready md ops listed = [i, j]) (ho : ops[i]? = some o) (ho' : ops[j]? = some o')
    (h : ∀ K : Act → World → Prop, Hid (∀ a' w', (S w → late i = false → S w') → wpAnyL P md ops Q S late fuel (listed.setIfInBounds i true) a' w' → K a' w') → if Region.wanted o (yielded ops a.tmps) then o.wp P a w K Q else K (a.put o.dst undef) w)
    (h' : ∀ K : Act → World → Prop, Hid (∀ a' w', (S w → late j = false → S w') → wpAnyL P md ops Q S late fuel (listed.setIfInBounds j true) a' w' → K a' w') → if Region.wanted o' (yielded ops a.tmps) then o'.wp P a w K Q else K (a.put o'.dst undef) w) :
    wpAnyL P md ops Q S late (fuel + 1) listed a w := by
  refine ⟨fun h0 => (by rw [hr] at h0; cases h0), fun k hk => ?_⟩
  rw [hr] at hk
  have key : ∀ (k : Nat) (o : Oper), ops[k]? = some o → (∀ K : Act → World → Prop, Hid (∀ a' w', (S w → late k = false → S w') → wpAnyL P md ops Q S late fuel (listed.setIfInBounds k true) a' w' → K a' w') → if Region.wanted o (yielded ops a.tmps) then o.wp P a w K Q else K (a.put o.dst undef) w) →
      wpOp P ops Q k (fun a' w' => (S w → late k = false → S w') ∧ wpAnyL P md ops Q S late fuel (listed.setIfInBounds k true) a' w') a w := fun k o ho h => by
    have h1 := h (fun a' w' => (S w → late k = false → S w') ∧ wpAnyL P md ops Q S late fuel (listed.setIfInBounds k true) a' w') (fun a' w' x y => ⟨x, y⟩)
    unfold wpOp
    simp only [ho]
    split
    · next hwt => rw [if_pos hwt] at h1; exact .inl h1
    · next hwt => rw [if_neg hwt] at h1; exact h1
  simp only [List.mem_cons, List.not_mem_nil, or_false] at hk
  rcases hk with rfl | rfl
  · exact key _ _ ho h
  · exact key _ _ ho' h'

theorem wpAnyL_done {listed : Array Bool} {a : Act} {w : World} (hr : Region.ready md ops listed = []) (h : Q .normal a w) : ∀ fuel, wpAnyL P md ops Q S late fuel listed a w
  | 0 => ⟨hr, h⟩
  | _ + 1 => ⟨fun _ => h, by rw [hr]; simp⟩

theorem wp_region_late {id : Nat} {a : Act} {w : World} (S : World → Prop) (late : Nat → Bool) (hm : P.follows .mixedOrders = true)
    (h : wpAnyL P .any ops Q S late ops.size (Array.replicate ops.size false) a w.drew) : (Code.region id ops true).wp P Q a w :=
  wp_region_any hm (wpAnyL_any _ _ _ _ h)

end
end

section
open Go.RowKit Dsk
set_option linter.unusedVariables false
set_option linter.unusedSimpArgs false

theorem Tryz.follows : Tryz.prog.follows .mixedOrders = true := by kernel_rfl
theorem add0 (b j : Nat) : ((⟨b, 0, none⟩ : Addr).add j) = ⟨b, j, none⟩ := by unfold Addr.add; by_cases h : j = 0 <;> simp [h]
/-- append of as many elements as lie in a row yb. -/
theorem run_apps {P : Program} (w : World) (t ty e : TypeId) {z : Value} {s bs : Nat} (ht : P.underlying t = some (.slice e)) (hi : (P.info? e).map (fun i => (i.zero, i.size, i.bytes)) = some (some z, s, bs)) (hzs : z.cells.size = s) (hs : 0 < s)
    (v : Value) (n : Nat) (xs : List Value) (hown : w.ownsRow 0 e s v n xs) (yb yo m c0 : Nat) (ys : List Value) (hl : ys.length = m * s) (hy : ∀ j u, ys[j]? = some u → w.cell? ⟨yb, yo + j, none⟩ = some u) (h1 : ∀ u ∈ ys, u.oneCell' = true) (hm : 0 < m) (hn : n + m ≤ maxLen) (hb : (n + m) * bs ≤ 140737488355328) :
    ∃ g c w', (Builtin.append_ #[t, t] ty #[v, .slice (some ⟨yb, yo, none⟩) m c0]).run P w = .ok (.slice (some ⟨g, 0, none⟩) (n + m) c) w' ∧ w'.ownsRow 0 e s (.slice (some ⟨g, 0, none⟩) (n + m) c) (n + m) (xs ++ ys) ∧ w.grownBy w' v.ownBlock ∧ (some g = v.ownBlock ∨ g = w.heap.size) ∧ g < w'.heap.size := by
  obtain ⟨i0, hi, hz0, hz1, hz2⟩ := info_parts hi
  obtain ⟨v', w', hrun, h1', h2, h3, h4⟩ := run_append_own_at (P := P) w 0 t ty e i0 z s bs ht hi hz0 hz1 hz2 hzs hs v n xs hown ⟨yb, yo, none⟩ m c0 ys hl
    (fun j u hj => by rw [show ((⟨yb, yo, none⟩ : Addr).add j) = ⟨yb, yo + j, none⟩ from by unfold Addr.add; by_cases h : j = 0 <;> simp [h]]; exact hy j u hj) h1 hn hb (Nat.zero_le _)
  obtain ⟨g, c, hv⟩ : ∃ g c, v' = .slice (some ⟨g, 0, none⟩) (n + m) c := by
    rcases h1'.2 with ⟨e, e2⟩ | ⟨g, cap', cur, e, _⟩
    · omega
    · exact ⟨g, cap', e⟩
  subst hv
  refine ⟨g, c, w', hrun, h1', h2, ?_, (h1'.lt g rfl).2⟩
  rcases h4 with h4 | h4
  · exact .inl h4
  · simp only [Value.ownBlock, Option.some.injEq] at h4
    exact .inr h4
/-- .. of one element that lies in a new block. -/
theorem run_app {P : Program} (w : World) (t ty e : TypeId) {z : Value} {s bs : Nat} (ht : P.underlying t = some (.slice e)) (hi : (P.info? e).map (fun i => (i.zero, i.size, i.bytes)) = some (some z, s, bs)) (hzs : z.cells.size = s) (hs : 0 < s)
    (v : Value) (n : Nat) (xs : List Value) (hown : w.ownsRow 0 e s v n xs) (ys : List Value) (hl : ys.length = s) (h1 : ∀ u ∈ ys, u.oneCell' = true) (hn : n + 1 ≤ maxLen) (hb : (n + 1) * bs ≤ 140737488355328) :
    ∃ g c w', (Builtin.append_ #[t, t] ty #[v, .slice (some ⟨w.heap.size, 0, none⟩) 1 1]).run P (w.alloc (.cells ys.toArray e)) = .ok (.slice (some ⟨g, 0, none⟩) (n + 1) c) w' ∧ w'.ownsRow 0 e s (.slice (some ⟨g, 0, none⟩) (n + 1) c) (n + 1) (xs ++ ys) ∧ (∀ F : Nat → Prop, (∀ k, v.ownBlock = some k → F k) → Keep F w w') ∧ (some g = v.ownBlock ∨ w.heap.size ≤ g) ∧ g < w'.heap.size := by
  obtain ⟨g, c, w', hrun, ho, hg, hb, hlt⟩ := run_apps (P := P) (w.alloc (.cells ys.toArray e)) t ty e ht hi hzs hs v n xs (hown.alloc _) w.heap.size 0 1 1 ys (by omega) (fun j u hj => by
    have hh : (w.alloc (.cells ys.toArray e)).heap[w.heap.size]? = some (.cells ys.toArray e (0, 0)) := (MapKept.heap_alloc w _).1
    rw [Nat.zero_add, cell_of_row _ _ j _ _ _ hh]
    simpa using hj) h1 (by omega) hn hb
  refine ⟨g, c, w', hrun, ho, fun F hF => ((Keep.refl F w).alloc _).grown hg (fun k e hk => hF k e), ?_, hlt⟩
  rcases hb with h | h
  · exact .inl h
  · exact .inr (by rw [h]; simp)

/-- append, its run known. -/
theorem wp_append_run {P : Program} {o : Oper} {a : Act} {w : World} {K : Act → World → Prop} {Q : Exit → Act → World → Prop} (s x : Operand) (t t2 : TypeId) (ho : o.op = .call { callee := .builtin .append, args := #[s, x], argTypes := #[t, t2] }) (vs vx : Value) (hs : a.eval s = vs) (hx : a.eval x = vx) (v' : Value) (w' : World)
    (hrun : (Builtin.append_ #[t, t2] o.type #[vs, vx]).run P w = .ok v' w') (hK : K (a.put o.dst v') w') : o.wp P a w K Q := by
  unfold Oper.wp execOp
  simp only [ho, resolve, invoke, builtin, Sem.run_bind, Sem.run_pure, Result.andThen_ok, List.map_toArray, List.map_cons, List.map_nil, hs, hx, hrun]
  exact hK
theorem wpList_app_run {P : Program} {ops : Array Oper} {rest : List Oper} {o : Oper} {a : Act} {w : World} {Q : Exit → Act → World → Prop} (hg : o.guard = none) (s x : Operand) (t t2 : TypeId) (ho : o.op = .call { callee := .builtin .append, args := #[s, x], argTypes := #[t, t2] }) (vs vx : Value) (hs : a.eval s = vs) (hx : a.eval x = vx) (v' : Value) (w' : World)
    (hrun : (Builtin.append_ #[t, t2] o.type #[vs, vx]).run P w = .ok v' w') (hK : wpList P ops Q rest (a.put o.dst v') w') : wpList P ops Q (o :: rest) a w :=
  wpList_plain hg fun K' hK' => wp_append_run s x t t2 ho vs vx hs hx v' w' hrun (hK' _ _ hK)
theorem own_shape {w : World} {base : Nat} {e : TypeId} {s : Nat} {v : Value} {n : Nat} {xs : List Value} (h : w.ownsRow base e s v n xs) : ∃ bo bc, v = .slice bo n bc ∧ n ≤ bc := by
  rcases h.2 with ⟨rfl, rfl⟩ | ⟨g, cap, cur, rfl, _, _, hn, _⟩
  · exact ⟨none, 0, rfl, Nat.le_refl _⟩
  · exact ⟨_, _, rfl, hn⟩
/-- The block of a row is no block of another type. -/
theorem own_ne {w : World} {base : Nat} {e T : TypeId} {s : Nat} {v : Value} {n q : Nat} {xs : List Value} {cs : Array Value} {fr : Nat × Nat} (h : w.ownsRow base e s v n xs) (hq : w.heap[q]? = some (.cells cs T fr)) (hT : T ≠ e) : v.ownBlock ≠ some q := by
  intro hv
  rcases h.2 with ⟨rfl, _⟩ | ⟨g, cap, cur, rfl, _, hg, _⟩
  · simp [Value.ownBlock] at hv
  · simp only [Value.ownBlock, Option.some.injEq] at hv
    subst hv
    rw [hg] at hq
    injection hq with hq
    injection hq with _ h2 _
    exact hT h2.symm
theorem own_nmap {w : World} {base : Nat} {e : TypeId} {s : Nat} {v : Value} {n b : Nat} {xs : List Value} (h : w.ownsRow base e s v n xs) (hb : ∃ es clock, w.heap[b]? = some (.map es clock)) : v.ownBlock ≠ some b := by
  intro hv
  obtain ⟨es, clock, hb⟩ := hb
  rcases h.2 with ⟨rfl, _⟩ | ⟨g, cap, cur, rfl, _, hg, _⟩
  · simp [Value.ownBlock] at hv
  · simp only [Value.ownBlock, Option.some.injEq] at hv
    subst hv
    rw [hg] at hb
    cases hb
theorem Mp.blk {w : World} {b : Nat} {A : Nat → Nat} {l : Nm} (h : Mp w b A l) : ∃ es clock, w.heap[b]? = some (.map es clock) := by
  obtain ⟨es, clock, hb, _⟩ := h
  exact ⟨es, clock, hb⟩
theorem Mp.lt {w : World} {b : Nat} {A : Nat → Nat} {l : Nm} (h : Mp w b A l) : b < w.heap.size := World.ownsMap.lt h
theorem map_ne {w : World} {b q : Nat} {A : Nat → Nat} {l : Nm} {o : Obj} (h : Mp w b A l) (hq : w.heap[q]? = some o) (ho : ∀ es clock, o ≠ .map es clock) : b ≠ q := by
  rintro rfl
  obtain ⟨es, clock, hb⟩ := h.blk
  rw [hb] at hq
  injection hq with hq
  exact ho _ _ hq.symm
end

end Go.Proofs.YtemlbmamcbmnjaaGreatDoor
