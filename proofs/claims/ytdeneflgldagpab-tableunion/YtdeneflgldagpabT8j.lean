/-
  Contract: freightref8.Join. (Written by tools/t8j.py.)
-/
import Derived.Test.YtdeneflgldagpabT8w
import Derived.Test.YtdeneflgldagpabZt
namespace Go.Proofs.Ytdeneflgldagpab
open Go.RowKit Go.Sort
set_option linter.unusedVariables false
set_option linter.unusedSimpArgs false

namespace Tb
/-- What Join answers of what it has gathered. -/
def jn (p : Int) (out : List Res) (C : List (List UInt8)) : St := if p = 3 ∧ C ≠ [] then ([], C, 150) else if 32 < out.length then ([], [], 97) else (out, C, 0)
def je (p : Int) (C : List (List UInt8)) : Int := if p = 3 ∧ C ≠ [] then 150 else 0
/-- Where a Join stands. -/
structure Jv (p : Int) (A B : List Res) (i j : Nat) (out : List Res) (C : List (List UInt8)) : Prop where
  run : ∃ R, uni (setl p) (sete p) A B ([], [], 0) = uni (setl p) (sete p) (A.drop i) (B.drop j) (R, C, je p C) ∧ (¬ (p = 3 ∧ C ≠ []) → out = R)
  lo : out.length ≤ i + j
  lc : C.length ≤ i
theorem Jv.start (p : Int) (A B : List Res) : Jv p A B 0 0 [] [] := ⟨⟨[], by simp [je], fun _ => rfl⟩, by simp, by simp⟩
theorem drop_cons {A : List Res} {i : Nat} (h : i < A.length) : A.drop i = A.getD i res0 :: A.drop (i + 1) := by
  rw [List.drop_eq_getElem_cons h]
  simp [List.getD, List.getElem?_eq_getElem h]
theorem Jv.left {p : Int} {A B : List Res} {i j : Nat} {out : List Res} {C : List (List UInt8)} (h : Jv p A B i j out C) (hi : i < A.length) (hc : B.length ≤ j ∨ (j < B.length ∧ cf (A.getD i res0) (B.getD j res0) < 0)) : Jv p A B (i + 1) j (out ++ [A.getD i res0]) C := by
  obtain ⟨⟨R, h1, h2⟩, h3, h4⟩ := h
  refine ⟨⟨R ++ [A.getD i res0], ?_, fun hn => by rw [h2 hn]⟩, by simp only [List.length_append, List.length_cons, List.length_nil]; omega, by omega⟩
  rw [h1]
  rcases hc with hc | ⟨hj, hc⟩
  · rw [List.drop_of_length_le hc, uni_right, uni_right, drop_cons hi]
    simp
  · rw [drop_cons hi, drop_cons hj, uni_lt _ _ _ _ _ _ _ hc]
theorem Jv.right {p : Int} {A B : List Res} {i j : Nat} {out : List Res} {C : List (List UInt8)} (h : Jv p A B i j out C) (hj : j < B.length) (hc : A.length ≤ i ∨ (i < A.length ∧ 0 < cf (A.getD i res0) (B.getD j res0))) : Jv p A B i (j + 1) (out ++ [B.getD j res0]) C := by
  obtain ⟨⟨R, h1, h2⟩, h3, h4⟩ := h
  refine ⟨⟨R ++ [B.getD j res0], ?_, fun hn => by rw [h2 hn]⟩, by simp only [List.length_append, List.length_cons, List.length_nil]; omega, by omega⟩
  rw [h1]
  rcases hc with hc | ⟨hi, hc⟩
  · rw [List.drop_of_length_le hc, uni_left, uni_left, drop_cons hj]
    simp
  · rw [drop_cons hi, drop_cons hj, uni_gt _ _ _ _ _ _ _ hc]
theorem Jv.same {p : Int} {A B : List Res} {i j : Nat} {out : List Res} {C : List (List UInt8)} (h : Jv p A B i j out C) (hi : i < A.length) (hj : j < B.length) (he : A.getD i res0 = B.getD j res0) : Jv p A B (i + 1) (j + 1) (out ++ [A.getD i res0]) C := by
  obtain ⟨⟨R, h1, h2⟩, h3, h4⟩ := h
  refine ⟨⟨R ++ [A.getD i res0], ?_, fun hn => by rw [h2 hn]⟩, by simp only [List.length_append, List.length_cons, List.length_nil]; omega, by omega⟩
  rw [h1, drop_cons hi, drop_cons hj, uni_eq _ _ _ _ _ _ _ (by rw [he]; exact cf_self _)]
  unfold both
  rw [if_pos he]
theorem Jv.unlike {p : Int} {A B : List Res} {i j : Nat} {out : List Res} {C : List (List UInt8)} (h : Jv p A B i j out C) (hp : p = 1 ∨ p = 2 ∨ p = 3) (hi : i < A.length) (hj : j < B.length) (hc : cf (A.getD i res0) (B.getD j res0) = 0) (he : A.getD i res0 ≠ B.getD j res0) :
    Jv p A B (i + 1) (j + 1) (out ++ [if p = 2 then B.getD j res0 else A.getD i res0]) (C ++ [(A.getD i res0).action]) := by
  obtain ⟨⟨R, h1, h2⟩, h3, h4⟩ := h
  have hrun : uni (setl p) (sete p) A B ([], [], 0) = uni (setl p) (sete p) (A.drop (i + 1)) (B.drop (j + 1)) (both (setl p (A.getD i res0) (B.getD j res0)) (sete p) (A.getD i res0) (B.getD j res0) (R, C, je p C)) := by
    rw [h1, drop_cons hi, drop_cons hj, uni_eq _ _ _ _ _ _ _ hc]
  refine ⟨?_, by simp only [List.length_append, List.length_cons, List.length_nil]; omega, by simp only [List.length_append, List.length_cons, List.length_nil]; omega⟩
  unfold both at hrun
  rw [if_neg he] at hrun
  rcases hp with rfl | rfl | rfl
  · refine ⟨R ++ [A.getD i res0], ?_, fun _ => by rw [h2 (by simp)]; simp⟩
    rw [hrun]
    simp [sete, setl, je]
  · refine ⟨R ++ [B.getD j res0], ?_, fun _ => by rw [h2 (by simp)]; simp⟩
    rw [hrun]
    simp [sete, setl, je]
  · refine ⟨R, ?_, fun hn => absurd ⟨rfl, by simp⟩ hn⟩
    rw [hrun]
    simp [sete, je]
theorem Jv.fin {p : Int} {A B : List Res} {i j : Nat} {out : List Res} {C : List (List UInt8)} (h : Jv p A B i j out C) (hp : p = 1 ∨ p = 2 ∨ p = 3) (hi : A.length ≤ i) (hj : B.length ≤ j) (hA : valid A = true) (hB : valid B = true) : join A B p = jn p out C := by
  obtain ⟨⟨R, h1, h2⟩, h3, h4⟩ := h
  rw [List.drop_of_length_le hi, List.drop_of_length_le hj, uni_left, List.append_nil] at h1
  unfold join
  rw [if_neg (by omega), if_neg (by rw [hA, hB]; simp), h1]
  unfold jn je
  by_cases hc : p = 3 ∧ C ≠ []
  · simp [hc]
  · rw [h2 hc]
    simp [hc]
end Tb

theorem own_apart {w : World} {base : Nat} {v vc : Value} {L : List Res} {C : List (List UInt8)} (h1 : OwnR w base v L) (h2 : OwnI w base vc C) (g : Nat) (hv : v.ownBlock = some g) : vc.ownBlock ≠ some g := by
  intro hc
  rcases h1.2 with ⟨rfl, _⟩ | ⟨g1, c1, cur1, rfl, _, hg1, _⟩
  · cases hv
  · rcases h2.1.2 with ⟨rfl, _⟩ | ⟨g2, c2, cur2, rfl, _, hg2, _⟩
    · cases hc
    · simp only [Value.ownBlock, Option.some.injEq] at hv hc
      subst hv
      subst hc
      rw [hg1] at hg2
      simp at hg2
theorem ids_not {w : World} {base : Nat} {vc : Value} {C : List (List UInt8)} {r : Nat} {cs : Array Value} {f : Nat × Nat} (h2 : OwnI w base vc C) (hr : w.heap[r]? = some (.cells cs 36 f)) : vc.ownBlock ≠ some r := by
  intro hc
  rcases h2.1.2 with ⟨rfl, _⟩ | ⟨g2, c2, cur2, rfl, _, hg2, _⟩
  · cases hc
  · simp only [Value.ownBlock, Option.some.injEq] at hc
    subst hc
    rw [hr] at hg2
    simp at hg2
theorem OwnI.kept {l : List Nat} {w w' : World} {base : Nat} {v : Value} {C : List (List UInt8)} (h : OwnI w base v C) (hk : Kept l w w') (hn : ∀ g, v.ownBlock = some g → g ∉ l) : OwnI w' base v C := ⟨own_kept h.1 hk hn, h.2⟩
/-- A Join's rows in memory. -/
structure Jw (w wr : World) (x y : Value) (out : List Res) (C : List (List UInt8)) : Prop where
  o : OwnR wr w.heap.size x out
  c : OwnI wr w.heap.size y C
  k : Kept [] w wr
theorem Jw.more {w wr wr' : World} {x y : Value} {out : List Res} {C : List (List UInt8)} (h : Jw w wr x y out C) (hk : Kept [] wr wr') : Jw w wr' x y out C :=
  ⟨h.o.kept hk (by simp), h.c.kept hk (by simp), h.k.trans hk (by simp)⟩
theorem Jw.put {w wr wr' : World} {x y : Value} {out : List Res} {C : List (List UInt8)} {r : Nat} (h : Jw w wr x y out C) (hk : Kept [r] wr wr') (hr : w.heap.size ≤ r) (h1 : x.ownBlock ≠ some r) (h2 : y.ownBlock ≠ some r) : Jw w wr' x y out C :=
  ⟨h.o.kept hk (fun g hg e => h1 (by simp at e; rw [← e]; exact hg)), h.c.kept hk (fun g hg e => h2 (by simp at e; rw [← e]; exact hg)), h.k.trans hk (fun i hi hlt => by simp at hi; omega)⟩
theorem Jw.app {w wr : World} {x y : Value} {out : List Res} {C : List (List UInt8)} (h : Jw w wr x y out C) (e : Res) (hl : out.length ≤ 1000) :
    ∃ v' w', (Builtin.append_ #[23, 23] 23 #[x, .slice (some ⟨wr.heap.size, 0, none⟩) 1 1]).run Try.prog (wr.alloc (.cells e.cells.toArray 36)) = .ok v' w' ∧ Jw w w' v' y (out ++ [e]) C := by
  have kN : Kept [] wr (wr.alloc (.cells e.cells.toArray 36)) := (Kept.refl [] wr).alloc _
  have h' := h.more kN
  obtain ⟨v', w', hrun, ho, hk, hbl⟩ := run_appR (wr.alloc (.cells e.cells.toArray 36)) w.heap.size x out h'.o (some ⟨wr.heap.size, 0, none⟩) 1 1 [e] (one_row (heap_new wr _)) rfl (.inr ⟨_, rfl⟩) (by simp) (by omega) h'.k.size
  refine ⟨v', w', hrun, ho, h'.c.kept (hk x.ownBlock.toList (by simp)) (fun g hg hm => own_apart h'.o h'.c g (by simpa using hm) hg), h'.k.trans (hk x.ownBlock.toList (by simp)) (fun i hi hlt => ?_)⟩
  have := (h'.o.lt (by simpa using hi)).1
  omega
theorem Jw.appI {w wr : World} {x y : Value} {out : List Res} {C : List (List UInt8)} (h : Jw w wr x y out C) (A : List UInt8) (hA : A.length = 32) (hl : C.length ≤ 1000) :
    ∃ v' w', (Builtin.append_ #[42, 42] 42 #[y, .slice (some ⟨wr.heap.size, 0, none⟩) 1 1]).run Try.prog (wr.alloc (.cells (bys A).toArray 34)) = .ok v' w' ∧ Jw w w' x v' out (C ++ [A]) ∧ (∀ (r : Nat) (cs : Array Value) (f : Nat × Nat), wr.heap[r]? = some (Obj.cells cs 36 f) → w'.heap[r]? = some (Obj.cells cs 36 f)) := by
  have kN : Kept [] wr (wr.alloc (.cells (bys A).toArray 34)) := (Kept.refl [] wr).alloc _
  have h' := h.more kN
  obtain ⟨v', w', hrun, ho, hk, hbl⟩ := run_appI h'.c h'.k.size A hA wr.heap.size (heap_new wr _) (by omega)
  have hk2 := hk y.ownBlock.toList (by simp)
  refine ⟨v', w', hrun, ⟨h'.o.kept hk2 (fun g hg hm => own_apart h'.o h'.c g hg (by simpa using hm)), ho, h'.k.trans hk2 (fun i hi hlt => ?_)⟩, fun r cs f hr => ?_⟩
  · have := (own_lt h'.c.1 (by simpa using hi)).1
    omega
  · have hr' : (wr.alloc (.cells (bys A).toArray 34)).heap[r]? = some (Obj.cells cs 36 f) := by rw [kN.block r (Array.getElem?_eq_some_iff.1 hr).1 (by simp)]; exact hr
    rw [hk2.block r (Array.getElem?_eq_some_iff.1 hr').1 (fun hm => ids_not h'.c hr' (by simpa using hm))]
    exact hr'
theorem wpList_buildId {ops : Array Oper} {rest : List Oper} {o : Oper} {a : Act} {w : World} {Q : Exit → Act → World → Prop} (hgd : o.guard = none) (x : Operand) (ho : o.op = .buildSlice 42 1 #[(0, x)]) (A : List UInt8) (hA : A.length = 32) (hx : a.eval x = .agg (bys A).toArray)
    (h : wpList Try.prog ops Q rest (a.put o.dst (.slice (some ⟨w.heap.size, 0, none⟩) 1 1)) (w.alloc (.cells (bys A).toArray 34))) : wpList Try.prog ops Q (o :: rest) a w :=
  wpList_plain hgd fun _ hK => wp_buildI x ho A hA hx (hK _ _ h)