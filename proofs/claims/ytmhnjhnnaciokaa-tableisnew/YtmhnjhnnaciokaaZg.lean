/-
  Contracts: the library's calls at results, table.inOrder.
-/
import Derived.Test.YtmhnjhnnaciokaaProg
import Derived.Test.YtmhnjhnnaciokaaZe
import Derived.Test.YtmhnjhnnaciokaaZf
import Derived.Laws.AppendOwnNone
namespace Go.Proofs.Ytmhnjhnnaciokaa
open Go.Shelf Go.RowKit Go.Lib Go.Sort
set_option linter.unusedVariables false
set_option linter.unusedSimpArgs false

def Wao (ao : Option Addr) : Prop := ao = none ∨ ∃ a, ao = some a
theorem res_def (L : List Res) (j : Nat) (hj : j < L.length) : L[j]! = L.getD j res0 := by
  rw [getElem!_pos L j hj]; simp [List.getElem?_eq_getElem hj]
theorem Ress.lib {w : World} {b off : Nat} {L : List Res} (h : Ress w (some ⟨b, off, none⟩) L) : ∀ j, j < L.length → ∀ i v, (L[j]!).cells[i]? = some v → w.cell? ⟨b, off + j * 65 + i, none⟩ = some v := by
  intro j hj i v hv
  obtain ⟨b', o', e, hc⟩ := h j hj
  cases e
  rw [res_def L j hj] at hv
  exact hc i v hv
theorem Try.eNoCode : ∀ args w, (callFunc 14 args).run Try.prog w = .ok (.enter 14 args) w := enters_of Try.func14 (by kernel_rfl) rfl
theorem Try.eCompare : ∀ args w, (callFunc 34 args).run Try.prog w = .ok (.enter 34 args) w := enters_of Try.func34 (by kernel_rfl) rfl
theorem neqAt : NeqAt Try.prog 26 (fun x : Res => .agg x.cells.toArray) (fun x y => decide (x = y)) := by
  refine ⟨fun x y w => ?_, GuardAt.agg _ (by kernel_rfl)⟩
  rw [run_neq_struct, Try.eqlRes]
  rfl

set_option maxRecDepth 100000 in
theorem index_none (ao : Option Addr) (cap : Nat) (fv : Value) (w : World) :
    Calls Try.prog 45 #[.slice ao 0 cap, fv] w fun e w' => e = .returned (.int .i64 (-1)) ∧ w' = w := by
  go_enter Try.func45, Try.ntmps45
  go_wp2
  go_loopw [8] (fun x wr => x = .int .i64 0 ∧ wr = w) (fun x wr => 0)
  case atStart => exact ⟨rfl, rfl⟩
  case round =>
    obtain ⟨rfl, rfl⟩ := hrel
    go_wp2
    go_ret
    exact ⟨rfl, rfl⟩

set_option maxRecDepth 100000 in
theorem contains_ok (ao : Option Addr) (n cap : Nat) (L : List Res) (w : World) (hn : L.length = n) (hL : Ress w ao L) (hm : n ≤ 4611686018427387904) :
    Calls Try.prog 27 #[.slice ao n cap, .func (.func 14) #[] #[]] w fun e w' => e = .returned (.bool (L.any Tb.noCode)) ∧ Kept [] w w' := by
  by_cases h0 : L = []
  · subst h0
    obtain rfl : n = 0 := hn.symm
    go_enter Try.func27, Try.ntmps27
    go_wp2_with (go_at_call 45; refine (index_none _ _ _ _).mono ?_; rintro e w' ⟨rfl, rfl⟩)
    go_ret
    exact ⟨rfl, Kept.refl _ _⟩
  · obtain ⟨b, off, rfl, hb, _⟩ := hL.open h0
    have h := AnyQ.slices_ContainsFunc layContains 65 Try.isAgg26 Try.sizeOf26 Res.cells Res.len Tb.noCode 14 #[] Try.eNoCode b off n cap L w
      (fun W x hb => by
        show Calls Try.prog 14 #[.agg x.cells.toArray] W _
        exact (hasNoCode_ok x W).mono fun _ _ ⟨he, hw⟩ => ⟨he, by rw [hw]; exact hb.alloc hb.size _⟩) (by omega) (by omega) hb hL.lib
    rw [List.take_of_length_le (by omega)] at h
    exact h.mono fun _ _ ⟨he, hb⟩ => ⟨he, Kept.of_below hb⟩

set_option maxRecDepth 100000 in
theorem equal_len (a1 a2 : Option Addr) (n1 c1 n2 c2 : Nat) (w : World) (hn : n1 ≠ n2) :
    Calls Try.prog 28 #[.slice a1 n1 c1, .slice a2 n2 c2] w fun e w' => e = .returned (.bool false) ∧ w' = w := by
  have h : ((n1 : Int) != (n2 : Int)) = true := by simp; omega
  go_enter Try.func28, Try.ntmps28
  go_wp2
  go_ret
  exact ⟨rfl, rfl⟩

set_option maxRecDepth 100000 in
theorem equal_none (a1 a2 : Option Addr) (c1 c2 : Nat) (w : World) :
    Calls Try.prog 28 #[.slice a1 0 c1, .slice a2 0 c2] w fun e w' => e = .returned (.bool true) ∧ w' = w := by
  go_enter Try.func28, Try.ntmps28
  go_wp2
  go_loopw [13] (fun x wr => x = .int .i64 0 ∧ wr = w) (fun x wr => 0)
  case atStart => exact ⟨rfl, rfl⟩
  case round =>
    obtain ⟨rfl, rfl⟩ := hrel
    go_wp2
    go_ret
    exact ⟨rfl, rfl⟩

theorem allEq_dec : ∀ L M : List Res, Lib.allEq (fun x y => decide (x = y)) L M = decide (L = M)
  | [], [] => by simp [Lib.allEq]
  | [], _ :: _ => by simp [Lib.allEq]
  | _ :: _, [] => by simp [Lib.allEq]
  | x :: L, y :: M => by
    simp only [Lib.allEq, allEq_dec L M, List.cons.injEq]
    rw [Bool.eq_iff_iff]; simp
theorem equal_ok (a1 a2 : Option Addr) (n1 c1 n2 c2 : Nat) (L M : List Res) (w : World) (h1 : L.length = n1) (h2 : M.length = n2) (hL : Ress w a1 L) (hM : Ress w a2 M) (hm1 : n1 ≤ 4611686018427387904) (hm2 : n2 ≤ 4611686018427387904) :
    Calls Try.prog 28 #[.slice a1 n1 c1, .slice a2 n2 c2] w fun e w' => e = .returned (.bool (decide (L = M))) ∧ Kept [] w w' := by
  by_cases hn : n1 = n2
  · by_cases h0 : L = []
    · subst h0
      obtain rfl : n1 = 0 := h1.symm
      subst hn
      obtain rfl : M = [] := List.eq_nil_of_length_eq_zero h2
      refine (equal_none a1 a2 c1 c2 w).mono ?_
      rintro e w' ⟨rfl, rfl⟩
      exact ⟨by simp, Kept.refl _ _⟩
    · have h0' : M ≠ [] := by
        rintro rfl
        exact h0 (List.eq_nil_of_length_eq_zero (by rw [h1, hn, ← h2]; rfl))
      obtain ⟨b1, o1, rfl, _, _⟩ := hL.open h0
      obtain ⟨b2, o2, rfl, _, _⟩ := hM.open h0'
      have h := AnyQ.slices_Equal layEqual 65 Try.isAgg26 Try.sizeOf26 Res.cells Res.len (fun x y => decide (x = y)) neqAt b1 o1 n1 c1 b2 o2 n2 c2 L M w (by omega) (by omega) (by omega) (by omega) hL.lib hM.lib
      rw [List.take_of_length_le (by omega), List.take_of_length_le (by omega), allEq_dec] at h
      refine h.mono ?_
      rintro e w' ⟨he, q, rfl⟩
      exact ⟨he, (Kept.refl [] w).drewN q⟩
  · refine (equal_len a1 a2 n1 c1 n2 c2 w hn).mono ?_
    rintro e w' ⟨rfl, rfl⟩
    exact ⟨by rw [decide_eq_false]; rintro rfl; omega, Kept.refl _ _⟩

/-- append, its run known. -/
theorem wp_append_run {P : Program} {o : Oper} {a : Act} {w : World} {K : Act → World → Prop} {Q : Exit → Act → World → Prop} (s x : Operand) (t t2 : TypeId) (ho : o.op = .call { callee := .builtin .append, args := #[s, x], argTypes := #[t, t2] }) (vs vx : Value) (hs : a.eval s = vs) (hx : a.eval x = vx) (v' : Value) (w' : World)
    (hrun : (Builtin.append_ #[t, t2] o.type #[vs, vx]).run P w = .ok v' w') (hK : K (a.put o.dst v') w') : o.wp P a w K Q := by
  unfold Oper.wp execOp
  simp only [ho, resolve, invoke, builtin, Sem.run_bind, Sem.run_pure, Result.andThen_ok, List.map_toArray, List.map_cons, List.map_nil, hs, hx, hrun]
  exact hK
theorem wpList_app_run {P : Program} {ops : Array Oper} {rest : List Oper} {o : Oper} {a : Act} {w : World} {Q : Exit → Act → World → Prop} (hg : o.guard = none) (s x : Operand) (t t2 : TypeId) (ho : o.op = .call { callee := .builtin .append, args := #[s, x], argTypes := #[t, t2] }) (vs vx : Value) (hs : a.eval s = vs) (hx : a.eval x = vx) (v' : Value) (w' : World)
    (hrun : (Builtin.append_ #[t, t2] o.type #[vs, vx]).run P w = .ok v' w') (hK : wpList P ops Q rest (a.put o.dst v') w') : wpList P ops Q (o :: rest) a w :=
  wpList_plain hg fun K' hK' => wp_append_run s x t t2 ho vs vx hs hx v' w' hrun (hK' _ _ hK)
theorem OwnR.nil (w : World) (base : Nat) : OwnR w base (.slice none 0 0) [] := World.ownsRow_nil _ _ _ _
theorem OwnR.lt {w : World} {base : Nat} {v : Value} {L : List Res} (h : OwnR w base v L) {g : Nat} (hg : v.ownBlock = some g) : base ≤ g ∧ g < w.heap.size := by
  rcases h.2 with ⟨rfl, _⟩ | ⟨g', cap, cur, rfl, hb, hh, _⟩
  · cases hg
  · simp only [Value.ownBlock, Option.some.injEq] at hg
    subst hg
    exact ⟨hb, (Array.getElem?_eq_some_iff.1 hh).1⟩
/-- append of nothing, at whatever address. -/
theorem run_app0 (w : World) (base : Nat) (v : Value) (L : List Res) (h : OwnR w base v L) (ao : Option Addr) (c : Nat) (hnil : ao = none → c = 0) (hb : base ≤ w.heap.size) (hl : L.length * 72 ≤ 140737488355328) :
    ∃ v' w', (Builtin.append_ #[22, 22] 22 #[v, .slice ao 0 c]).run Try.prog w = .ok v' w' ∧ OwnR w' base v' L ∧ (∀ l, (∀ g, v.ownBlock = some g → g ∈ l) → Kept l w w') ∧ (∀ g, v'.ownBlock = some g → v.ownBlock = some g ∨ w.heap.size ≤ g) := by
  obtain ⟨i0, hi, hz0, hz1, hz2⟩ := info_parts Try.infoRes
  cases ao with
  | none =>
    obtain rfl := hnil rfl
    exact ⟨v, w, run_append_owned_none (P := Try.prog) (w := w) base 22 22 26 i0 65 Try.underlying22 hi v L.length (rows L) h, h, fun l _ => Kept.refl l w, fun g hg => .inl hg⟩
  | some a =>
    obtain ⟨v', w', hrun, h1', h2, h3, h4⟩ := run_append_own_at (P := Try.prog) w base 22 22 26 i0 (.agg zeroR) 65 72 Try.underlying22 hi hz0 hz1 hz2 rfl (by omega) v L.length (rows L) h a 0 c [] rfl (by simp) (by simp) (by unfold maxLen; omega) (by omega) hb
    refine ⟨v', w', hrun, ?_, fun l hl2 => (Kept.refl l w).grown h2 (fun k hk _ => hl2 k hk), fun g hg => ?_⟩
    · rw [List.append_nil, Nat.add_zero] at h1'
      exact h1'
    · rcases h4 with h4 | h4
      · exact .inl (by rw [← h4]; exact hg)
      · rw [h4] at hg
        simp only [Option.some.injEq] at hg
        exact .inr (by omega)

set_option maxHeartbeats 1600000 in
set_option maxRecDepth 100000 in
theorem clone_zero (a : Addr) (cap : Nat) (w : World) :
    Calls Try.prog 46 #[.slice (some a) 0 cap] w fun e w' => ∃ v, e = .returned v ∧ OwnR w' w.heap.size v [] ∧ Below w.heap.size w w' := by
  have kN : Kept [] w (w.alloc (.cells #[] 26)) := (Kept.refl [] w).alloc _
  have ho : OwnR (w.alloc (.cells #[] 26)) w.heap.size (.slice (some ⟨w.heap.size, 0, none⟩) 0 0) [] := World.ownsRow_made w #[] 0 (Nat.le_refl _) (Nat.zero_le _) (by simp)
  obtain ⟨v, w2, hrun, ho2, hk2, _⟩ := run_app0 (w.alloc (.cells #[] 26)) w.heap.size _ [] ho (some a) cap (by simp) kN.size (by simp)
  have HK : Hid (OwnR w2 w.heap.size v [] ∧ Below w.heap.size w w2) := ⟨ho2, (kN.trans (hk2 [w.heap.size] (by simp [Value.ownBlock])) (by simp)).below (Nat.le_refl _) (by simp)⟩
  have hnil := fun (w : World) (a : Option Addr) (n c : Nat) => Lib.run_eql_slice_nil (P := Try.prog) w 22 26 a n c 0 0 Try.underlying22
  clear ho ho2 hk2 kN
  go_enter Try.func46, Try.ntmps46
  go_wp2_with (refine wpList_app_run rfl (.tmp 5) (.tmp 6) 22 22 rfl (.slice (some ⟨w.heap.size, 0, none⟩) 0 0) (.slice (some a) 0 cap) rfl rfl v w2 hrun ?_)
  go_ret
  exact ⟨v, rfl, HK.out.1, HK.out.2⟩
theorem clone_ok (ao : Option Addr) (n cap : Nat) (L : List Res) (w : World) (hn : L.length = n) (hL : Ress w ao L) (hw : Wao ao) (hm : n * 72 ≤ 140737488355328) :
    Calls Try.prog 46 #[.slice ao n cap] w fun e w' => ∃ v, e = .returned v ∧ OwnR w' w.heap.size v L ∧ Below w.heap.size w w' := by
  rcases hw with rfl | ⟨a, rfl⟩
  · have : L = [] := by
      by_cases h0 : L = []
      · exact h0
      · obtain ⟨_, _, e, _⟩ := hL.open h0
        cases e
    subst this
    obtain rfl : n = 0 := hn.symm
    have h := AnyE.slices_Clone_nil layClone 0 cap w
    refine h.mono ?_
    rintro e w' ⟨rfl, rfl⟩
    exact ⟨_, rfl, ⟨by decide, .inl ⟨rfl, rfl⟩⟩, Below.refl _ _⟩
  · by_cases h0 : L = []
    · subst h0
      obtain rfl : n = 0 := hn.symm
      exact clone_zero a cap w
    obtain ⟨b, o, e, _, _⟩ := hL.open h0
    cases e
    obtain ⟨i0, hi, hz0, hz1, hz2⟩ := info_parts Try.infoRes
    have h := AnyE.slices_Clone layClone i0 (.agg zeroR) 65 72 hi hz0 hz1 hz2 rfl (by omega) Try.sizeOf26 b o n cap (rows L) w (by rw [rows_len, hn]) (by unfold maxLen; omega) hm (fun j u hj => hL.cells hj) (rows_one L)
    refine h.mono ?_
    rintro e w' ⟨v, rfl, hv, _, hb⟩
    exact ⟨v, rfl, by rw [← hn] at hv; exact hv, hb⟩
end Go.Proofs.Ytmhnjhnnaciokaa
