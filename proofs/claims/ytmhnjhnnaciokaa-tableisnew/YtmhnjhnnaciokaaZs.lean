/-
  Contract: table.Join.
-/
import Derived.Test.YtmhnjhnnaciokaaZr
namespace Go.Proofs.Ytmhnjhnnaciokaa
open Go.RowKit Go.Sort
set_option linter.unusedVariables false
set_option linter.unusedSimpArgs false

theorem run_check (e : Bool) (n : Nat) (W : World) (k : Int) : (Instr.checkKey e (n + 1) 3 (.int .i64 k)).run Try.prog W = .ok () W := by
  simp only [Instr.checkKey, Sem.run_bind, run_underlying Try.underlying3, Result.andThen_ok, Sem.run_pure]
theorem run_ins (W : World) (g : Nat) (es : Array MapEntry) (clock : Nat) (k : Int) (val : Value) (hg : W.heap[g]? = some (.map es clock)) (hf : Instr.findNow (.int .i64) (.int .i64 k) es.toList 0 = some none) :
    (Instr.mapUpdate 53 (.map (some g)) (.int .i64 k) val).run Try.prog W = .ok () { W with heap := W.heap.setIfInBounds g (.map (es.push { key := .int .i64 k, val := val, born := clock }) (clock + 1)) } := by
  have hc : (Instr.checkKey false 10000 3 (.int .i64 k)).run Try.prog W = .ok () W := run_check false 9999 W k
  simp only [Instr.mapUpdate, Sem.run_bind, run_underlying Try.underlying53, Result.andThen_ok, MapKept.run_getObj_map hg, hc, run_underlying Try.underlying3, Sem.run_pure, Instr.findKey, hf, MapKept.run_setObj_map _ hg]
theorem wpList_ins {ops : Array Oper} {rest : List Oper} {o : Oper} {a : Act} {w : World} {Q : Exit → Act → World → Prop} (hgd : o.guard = none) (m k v : Operand) (ho : o.op = .insert 53 m k v) (g : Nat) (es : Array MapEntry) (clock : Nat) (kk : Int) (val : Value) (hm : a.eval m = .map (some g)) (hk : a.eval k = .int .i64 kk) (hv : a.eval v = val) (hg : w.heap[g]? = some (.map es clock)) (hf : Instr.findNow (.int .i64) (.int .i64 kk) es.toList 0 = some none)
    (h : wpList Try.prog ops Q rest (a.put o.dst undef) { w with heap := w.heap.setIfInBounds g (.map (es.push { key := .int .i64 kk, val := val, born := clock }) (clock + 1)) }) : wpList Try.prog ops Q (o :: rest) a w :=
  wpList_plain hgd fun _ hK => by
    unfold Oper.wp execOp
    simp only [ho, hm, hk, hv, Sem.run_bind, run_ins w g es clock kk val hg hf, Result.andThen_ok, Sem.run_pure]
    exact hK _ _ h
def ent (k : Int) (f born : Nat) : MapEntry := { key := .int .i64 k, val := .func (.func f) #[] #[], born := born }
def putObj (w : World) (g : Nat) (o : Obj) : World := { w with heap := w.heap.setIfInBounds g o }
theorem putObj_at {w : World} {g : Nat} {o : Obj} (h : g < w.heap.size) : (putObj w g o).heap[g]? = some o := by simp [putObj, h]
theorem putObj_kept {w : World} {g : Nat} {o : Obj} : Kept [g] w (putObj w g o) := ⟨rfl, rfl, rfl, by simp [putObj], fun k hk hn => by
  have : ¬ g = k := fun e => hn (by simp [e])
  simp [putObj, Array.getElem?_setIfInBounds, this]⟩
def pol (p : Int) : Option Nat := if p = 1 then some 17 else if p = 2 then some 18 else if p = 3 then some 19 else none
def es3 : Array MapEntry := #[ent 1 17 0, ent 2 18 1, ent 3 19 2]
theorem run_look (W : World) (g : Nat) (p : Int) (hg : W.heap[g]? = some (.map es3 3)) :
    (Instr.lookup 53 (.map (some g)) (.int .i64 p) true).run Try.prog W = .ok (.tuple #[match pol p with | some f => .func (.func f) #[] #[] | none => .nilFunc, .bool (pol p).isSome]) W := by
  have hc : (Instr.checkKey es3.isEmpty 10000 3 (.int .i64 p)).run Try.prog W = .ok () W := run_check _ 9999 W p
  have hz : (zeroValue 54).run Try.prog W = .ok .nilFunc W := by kernel_rfl
  have hf : Instr.findNow (.int .i64) (.int .i64 p) es3.toList 0 = some (if p = 1 then some (0, .func (.func 17) #[] #[]) else if p = 2 then some (1, .func (.func 18) #[] #[]) else if p = 3 then some (2, .func (.func 19) #[] #[]) else none) := by
    by_cases h1 : p = 1
    · subst h1; rfl
    · by_cases h2 : p = 2
      · subst h2; rfl
      · by_cases h3 : p = 3
        · subst h3; rfl
        · have b1 : (p == 1) = false := by simp [h1]
          have b2 : (p == 2) = false := by simp [h2]
          have b3 : (p == 3) = false := by simp [h3]
          simp [es3, ent, Instr.findNow, Instr.sameNow, h1, h2, h3, b1, b2, b3]
  simp only [Instr.lookup, Sem.run_bind, run_underlying Try.underlying53, Result.andThen_ok, MapKept.run_getObj_map hg, hc, run_underlying Try.underlying3, Sem.run_pure, Instr.findKey, hf]
  unfold pol
  by_cases h1 : p = 1
  · simp [h1]
  · by_cases h2 : p = 2
    · simp [h1, h2]
    · by_cases h3 : p = 3
      · simp [h1, h2, h3]
      · simp [h1, h2, h3, hz]
/-- The map of the policies is made. -/
theorem made (w : World) : ∃ w1 w2 w3 w4, w.alloc (.map #[] 0) = w1 ∧ putObj w1 w.heap.size (.map #[ent 1 17 0] 1) = w2 ∧ putObj w2 w.heap.size (.map #[ent 1 17 0, ent 2 18 1] 2) = w3 ∧ putObj w3 w.heap.size (.map es3 3) = w4 ∧ w1.heap[w.heap.size]? = some (.map #[] 0) ∧ w2.heap[w.heap.size]? = some (.map #[ent 1 17 0] 1) ∧ w3.heap[w.heap.size]? = some (.map #[ent 1 17 0, ent 2 18 1] 2) ∧ w4.heap[w.heap.size]? = some (.map es3 3) ∧ Kept [] w w4 := by
  have k1 : Kept [] w (w.alloc (.map #[] 0)) := (Kept.refl [] w).alloc _
  have l1 : w.heap.size < (w.alloc (.map #[] 0)).heap.size := by simp
  refine ⟨_, _, _, _, rfl, rfl, rfl, rfl, heap_new w _, putObj_at l1, putObj_at (by simp [putObj]), putObj_at (by simp [putObj]), ((k1.trans putObj_kept (by simp)).trans putObj_kept (by simp)).trans putObj_kept (by simp)⟩

namespace Tb
/-- P8.6 -/
def setl (p : Int) (x y : Res) : Res := if p = 1 then x else if p = 2 then y else res0
def sete (p : Int) : Int := if p = 3 then 150 else 0
def join (A B : List Res) (p : Int) : St :=
  if p < 1 ∨ 3 < p then ([], [], 1) else if valid A = false ∨ valid B = false then ([], [], 80)
  else if (uni (setl p) (sete p) A B ([], [], 0)).2.2 ≠ 0 then ([], (uni (setl p) (sete p) A B ([], [], 0)).2.1, (uni (setl p) (sete p) A B ([], [], 0)).2.2)
  else if 32 < (uni (setl p) (sete p) A B ([], [], 0)).1.length then ([], [], 97) else ((uni (setl p) (sete p) A B ([], [], 0)).1, (uni (setl p) (sete p) A B ([], [], 0)).2.1, 0)
end Tb
/-- What Join answers. -/
def ToldJ (w w' : World) (r : Ending) (s : Tb.St) : Prop :=
  (∃ v vc, r = .returned (.tuple #[v, vc, .int .i64 s.2.2]) ∧ OwnR w' w.heap.size v s.1 ∧ OwnI w' w.heap.size vc s.2.1) ∧ Kept [] w w'
theorem told_none {w w' : World} {e : Int} (h : Kept [] w w') : ToldJ w w' (.returned (.tuple #[.slice none 0 0, .slice none 0 0, .int .i64 e])) ([], [], e) := ⟨⟨_, _, rfl, OwnR.nil _ _, ⟨World.ownsRow_nil _ _ _ _, by simp⟩⟩, h⟩

set_option maxHeartbeats 3200000 in
set_option maxRecDepth 100000 in
theorem join_arg_exact (x1 x2 : Option Addr) (m1 d1 m2 d2 : Nat) (p : Int) (w : World) (hp : pol p = none) :
    Calls Try.prog 6 #[.slice x1 m1 d1, .slice x2 m2 d2, .int .i64 p] w fun r w' => r = .returned (.tuple #[.slice none 0 0, .slice none 0 0, .int .i64 1]) ∧ Kept [] w w' := by
  obtain ⟨w1, w2, w3, w4, e1, e2, e3, e4, g1, g2, g3, g4, hk⟩ := made w
  have hmk : (Instr.makeMap 53 none).run Try.prog w = .ok (.map (some w.heap.size)) w1 := by rw [← e1]; rfl
  have hlk := run_look w4 w.heap.size p g4
  rw [hp] at hlk
  have HK := hide hk
  clear hk hp e1
  go_enter Try.func6, Try.ntmps6
  go_wp2_with (first
    | (refine wpList_ins rfl (.tmp 13) _ _ rfl w.heap.size _ _ 1 (.func (.func 17) #[] #[]) rfl rfl rfl g1 rfl ?_; change wpList _ _ _ _ _ (putObj w1 w.heap.size (.map #[ent 1 17 0] 1)); rw [e2]; clear g1 e2)
    | (refine wpList_ins rfl (.tmp 13) _ _ rfl w.heap.size _ _ 2 (.func (.func 18) #[] #[]) rfl rfl rfl g2 rfl ?_; change wpList _ _ _ _ _ (putObj w2 w.heap.size (.map #[ent 1 17 0, ent 2 18 1] 2)); rw [e3]; clear g2 e3)
    | (refine wpList_ins rfl (.tmp 13) _ _ rfl w.heap.size _ _ 3 (.func (.func 19) #[] #[]) rfl rfl rfl g3 rfl ?_; change wpList _ _ _ _ _ (putObj w3 w.heap.size (.map es3 3)); rw [e4]; clear g3 e4))
  go_ret3
  exact ⟨rfl, HK.out⟩
theorem join_arg (x1 x2 : Option Addr) (m1 d1 m2 d2 : Nat) (p : Int) (w : World) (hp : pol p = none) :
    Calls Try.prog 6 #[.slice x1 m1 d1, .slice x2 m2 d2, .int .i64 p] w fun r w' => ToldJ w w' r ([], [], 1) := by
  refine (join_arg_exact x1 x2 m1 d1 m2 d2 p w hp).mono ?_
  rintro r w' ⟨rfl, hk⟩
  exact told_none hk
end Go.Proofs.Ytmhnjhnnaciokaa
