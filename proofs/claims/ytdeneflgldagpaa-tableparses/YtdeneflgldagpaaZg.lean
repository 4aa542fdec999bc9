/-
  Contracts: the library's calls at results, table.inOrder.
-/
import Derived.Test.YtdeneflgldagpaaProg
import Derived.Test.YtdeneflgldagpaaZe
import Derived.Test.YtdeneflgldagpaaZf
namespace Go.Proofs.Ytdeneflgldagpaa
open Go.Shelf Go.RowKit Go.Lib Go.Sort
set_option linter.unusedVariables false
set_option linter.unusedSimpArgs false

def Wao (ao : Option Addr) : Prop := ao = none ∨ ∃ b o, ao = some ⟨b, o, none⟩
theorem res_def (L : List Res) (j : Nat) (hj : j < L.length) : L[j]! = L.getD j res0 := by
  rw [getElem!_pos L j hj]; simp [List.getElem?_eq_getElem hj]
theorem Ress.lib {w : World} {b off : Nat} {L : List Res} (h : Ress w (some ⟨b, off, none⟩) L) : ∀ j, j < L.length → ∀ i v, (L[j]!).cells[i]? = some v → w.cell? ⟨b, off + j * 65 + i, none⟩ = some v := by
  intro j hj i v hv
  obtain ⟨b', o', e, hc⟩ := h j hj
  cases e
  rw [res_def L j hj] at hv
  exact hc i v hv
theorem Try.eNoCode : ∀ args w, (callFunc 35 args).run Try.prog w = .ok (.enter 35 args) w := enters_of Try.func35 (by kernel_rfl) rfl
theorem Try.eCompare : ∀ args w, (callFunc 55 args).run Try.prog w = .ok (.enter 55 args) w := enters_of Try.func55 (by kernel_rfl) rfl
theorem neqAt : NeqAt Try.prog 39 (fun x : Res => .agg x.cells.toArray) (fun x y => decide (x = y)) := by
  refine ⟨fun x y w => ?_, GuardAt.agg _ (by kernel_rfl)⟩
  rw [run_neq_struct, Try.eqlRes]
  rfl

set_option maxRecDepth 100000 in
theorem index_none (ao : Option Addr) (cap : Nat) (fv : Value) (w : World) :
    Calls Try.prog 52 #[.slice ao 0 cap, fv] w fun e w' => e = .returned (.int .i64 (-1)) ∧ w' = w := by
  go_enter Try.func52, Try.ntmps52
  go_wp2
  go_loopw [8] (fun x wr => x = .int .i64 0 ∧ wr = w) (fun x wr => 0)
  case atStart => exact ⟨rfl, rfl⟩
  case round =>
    obtain ⟨rfl, rfl⟩ := hrel
    go_wp2
    go_ret
    exact ⟨rfl, rfl⟩

set_option maxRecDepth 100000 in
theorem contains_ok (ao : Option Addr) (n cap : Nat) (L : List Res) (w : World) (hn : L.length = n) (hL : Ress w ao L) (hm : n ≤ 4611686018427387904) :
    Calls Try.prog 34 #[.slice ao n cap, .func (.func 35) #[] #[]] w fun e w' => e = .returned (.bool (L.any Tb.noCode)) ∧ Kept [] w w' := by
  by_cases h0 : L = []
  · subst h0
    obtain rfl : n = 0 := hn.symm
    go_enter Try.func34, Try.ntmps34
    go_wp2_with (go_at_call 52; refine (index_none _ _ _ _).mono ?_; rintro e w' ⟨rfl, rfl⟩)
    go_ret
    exact ⟨rfl, Kept.refl _ _⟩
  · obtain ⟨b, off, rfl, hb, _⟩ := hL.open h0
    have h := AnyQ.slices_ContainsFunc layContains 65 Try.isAgg39 Try.sizeOf39 Res.cells Res.len Tb.noCode 35 #[] Try.eNoCode b off n cap L w
      (fun W x hb => by
        show Calls Try.prog 35 #[.agg x.cells.toArray] W _
        exact (hasNoCode_ok x W).mono fun _ _ ⟨he, hw⟩ => ⟨he, by rw [hw]; exact hb.alloc hb.size _⟩) (by omega) (by omega) hb hL.lib
    rw [List.take_of_length_le (by omega)] at h
    exact h.mono fun _ _ ⟨he, hb⟩ => ⟨he, Kept.of_below hb⟩

set_option maxRecDepth 100000 in
theorem equal_len (a1 a2 : Option Addr) (n1 c1 n2 c2 : Nat) (w : World) (hn : n1 ≠ n2) :
    Calls Try.prog 36 #[.slice a1 n1 c1, .slice a2 n2 c2] w fun e w' => e = .returned (.bool false) ∧ w' = w := by
  have h : ((n1 : Int) != (n2 : Int)) = true := by simp; omega
  go_enter Try.func36, Try.ntmps36
  go_wp2
  go_ret
  exact ⟨rfl, rfl⟩

set_option maxRecDepth 100000 in
theorem equal_none (a1 a2 : Option Addr) (c1 c2 : Nat) (w : World) :
    Calls Try.prog 36 #[.slice a1 0 c1, .slice a2 0 c2] w fun e w' => e = .returned (.bool true) ∧ w' = w := by
  go_enter Try.func36, Try.ntmps36
  go_wp2
  go_loopw [13] (fun x wr => x = .int .i64 0 ∧ wr = w) (fun x wr => 0)
  case atStart => exact ⟨rfl, rfl⟩
  case round =>
    obtain ⟨rfl, rfl⟩ := hrel
    go_wp2
    go_ret
    exact ⟨rfl, rfl⟩

theorem allEq_dec : ∀ L M : List Res, Lib.allEq (fun x y => decide (x = y)) L M = decide (L = M)
  | [], [] => by simp [Lib.allEq]
  | [], _ :: _ => by simp [Lib.allEq]
  | _ :: _, [] => by simp [Lib.allEq]
  | x :: L, y :: M => by
    simp only [Lib.allEq, allEq_dec L M, List.cons.injEq]
    rw [Bool.eq_iff_iff]; simp
theorem equal_ok (a1 a2 : Option Addr) (n1 c1 n2 c2 : Nat) (L M : List Res) (w : World) (h1 : L.length = n1) (h2 : M.length = n2) (hL : Ress w a1 L) (hM : Ress w a2 M) (hm1 : n1 ≤ 4611686018427387904) (hm2 : n2 ≤ 4611686018427387904) :
    Calls Try.prog 36 #[.slice a1 n1 c1, .slice a2 n2 c2] w fun e w' => e = .returned (.bool (decide (L = M))) ∧ Kept [] w w' := by
  by_cases hn : n1 = n2
  · by_cases h0 : L = []
    · subst h0
      obtain rfl : n1 = 0 := h1.symm
      subst hn
      obtain rfl : M = [] := List.eq_nil_of_length_eq_zero h2
      refine (equal_none a1 a2 c1 c2 w).mono ?_
      rintro e w' ⟨rfl, rfl⟩
      exact ⟨by simp, Kept.refl _ _⟩
    · have h0' : M ≠ [] := by
        rintro rfl
        exact h0 (List.eq_nil_of_length_eq_zero (by rw [h1, hn, ← h2]; rfl))
      obtain ⟨b1, o1, rfl, _, _⟩ := hL.open h0
      obtain ⟨b2, o2, rfl, _, _⟩ := hM.open h0'
      have h := AnyQ.slices_Equal layEqual 65 Try.isAgg39 Try.sizeOf39 Res.cells Res.len (fun x y => decide (x = y)) neqAt b1 o1 n1 c1 b2 o2 n2 c2 L M w (by omega) (by omega) (by omega) (by omega) hL.lib hM.lib
      rw [List.take_of_length_le (by omega), List.take_of_length_le (by omega), allEq_dec] at h
      refine h.mono ?_
      rintro e w' ⟨he, q, rfl⟩
      exact ⟨he, (Kept.refl [] w).drewN q⟩
  · refine (equal_len a1 a2 n1 c1 n2 c2 w hn).mono ?_
    rintro e w' ⟨rfl, rfl⟩
    exact ⟨by rw [decide_eq_false]; rintro rfl; omega, Kept.refl _ _⟩

theorem clone_ok (ao : Option Addr) (n cap : Nat) (L : List Res) (w : World) (hn : L.length = n) (hL : Ress w ao L) (hw : Wao ao) (hm : n * 72 ≤ 140737488355328) :
    Calls Try.prog 53 #[.slice ao n cap] w fun e w' => ∃ v, e = .returned v ∧ OwnR w' w.heap.size v L ∧ Below w.heap.size w w' := by
  rcases hw with rfl | ⟨b, o, rfl⟩
  · have : L = [] := by
      by_cases h0 : L = []
      · exact h0
      · obtain ⟨_, _, e, _⟩ := hL.open h0
        cases e
    subst this
    obtain rfl : n = 0 := hn.symm
    have h := AnyE.slices_Clone_nil layClone 0 cap w
    refine h.mono ?_
    rintro e w' ⟨rfl, rfl⟩
    exact ⟨_, rfl, ⟨by decide, .inl ⟨rfl, rfl⟩⟩, Below.refl _ _⟩
  · obtain ⟨i0, hi, hz0, hz1, hz2⟩ := info_parts Try.infoRes
    have h := AnyE.slices_Clone layClone i0 (.agg zeroR) 65 72 hi hz0 hz1 hz2 rfl (by omega) Try.sizeOf39 b o n cap (rows L) w (by rw [rows_len, hn]) (by unfold maxLen; omega) hm (fun j u hj => hL.cells hj) (rows_one L)
    refine h.mono ?_
    rintro e w' ⟨v, rfl, hv, _, hb⟩
    exact ⟨v, rfl, by rw [← hn] at hv; exact hv, hb⟩
end Go.Proofs.Ytdeneflgldagpaa
