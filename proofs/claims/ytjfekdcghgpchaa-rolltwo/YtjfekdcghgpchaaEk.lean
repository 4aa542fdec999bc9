/-
  Contracts: freightlaw3.known, its first part.
-/
import Derived.Test.YtjfekdcghgpchaaEi
import Derived.Test.YtjfekdcghgpchaaEj
import Derived.Lib.SlBytesConst
namespace Go.Proofs.Ytjfekdcghgpchaa
open Go.RowKit
set_option linter.unusedVariables false
set_option linter.unusedSimpArgs false

/-- A variable of its own: one cell. -/
def Var1 (w : World) (A : Nat) (v : Value) (t : TypeId) : Prop := w.heap[A]? = some (.cells #[v] t (0, 0))
theorem Var1.cell {w : World} {A : Nat} {v : Value} {t : TypeId} (h : Var1 w A v t) : w.cell? ⟨A, 0, none⟩ = some v := by rw [cell_of_row _ _ _ _ _ _ h]; rfl
theorem Var1.fr {w : World} {A : Nat} {v : Value} {t : TypeId} (h : Var1 w A v t) : w.frozen? ⟨A, 0, none⟩ = false := frozen_of_row _ _ _ _ _ h
theorem Var1.lt {w : World} {A : Nat} {v : Value} {t : TypeId} (h : Var1 w A v t) : A < w.heap.size := (Array.getElem?_eq_some_iff.1 h).1
theorem Var1.kept {l : List Nat} {w w' : World} {A : Nat} {v : Value} {t : TypeId} (h : Var1 w A v t) (hk : Kept l w w') (hn : A ∉ l) : Var1 w' A v t := by
  unfold Var1; rw [hk.block A h.lt hn]; exact h
theorem Var1.set {w : World} {A : Nat} {v : Value} {t : TypeId} (h : Var1 w A v t) (u : Value) : Var1 (w.setCell ⟨A, 0, none⟩ u) A u t := by
  unfold Var1; rw [heap_setCell_same _ _ _ _ _ _ h]; rfl
theorem Var1.other {w : World} {A : Nat} {v : Value} {t : TypeId} (h : Var1 w A v t) {B : Nat} (hne : A ≠ B) (u : Value) : Var1 (w.setCell ⟨B, 0, none⟩ u) A v t := by
  unfold Var1; rw [heap_setCell_other _ _ _ _ (by simpa using hne)]; exact h
theorem Var1.new (w : World) (v : Value) (t : TypeId) : Var1 (w.alloc (.cells #[v] t)) w.heap.size v t := heap_alloc_new _ _

set_option maxHeartbeats 400000 in
theorem known1_ok (k s x : Nat) (l : Value) (A B : Nat) (w : World) (hA : Var1 w A (.int .i64 x) 3) (hB : Var1 w B l 3) (hne : A ≠ B) (hx : x ≤ 1000000) (hk : k ≤ 1000000) :
    Calls Try.prog 25 #[.int .i64 k, .int .i64 s, .pointer (some ⟨A, 0, none⟩), .pointer (some ⟨B, 0, none⟩)] w fun e w' => e = .returned (.bool true) ∧ w' = (w.setCell ⟨A, 0, none⟩ (.int .i64 ((x + 1 + k : Nat) : Int))).setCell ⟨B, 0, none⟩ (.int .i64 s) := by
  have cA := hA.cell
  have fA := hA.fr
  have cB := hB.cell
  have fB := hB.fr
  clear hA hB
  go_enter Try.func25, Try.ntmps25
  go_wp2
  go_ret
  refine ⟨rfl, ?_⟩
  congr 2

/-- What holds of known's variables behind k windows. -/
structure KI (w : World) (A B : Nat) (data : List UInt8) (P k : Nat) (w' : World) : Prop where
  a : Var1 w' A (.int .i64 ((k * (k + 1) / 2 : Nat) : Int)) 3
  b : Var1 w' B (.int .i64 ((if k = 0 then 0 else Rol.sum (wat data 3 (k - 1)) : Nat) : Int)) 3
  kept : Kept [A, B] w w'
  ne : P ≠ A ∧ P ≠ B

theorem known_it (A B Kb Sb g cap : Nat) (data : List UInt8) (w : World) (hd : data.length = 4) (hA : Var1 w A (.int .i64 0) 3) (hB : Var1 w B (.int .i64 0) 3) (hne : A ≠ B) (hc : Wc w Kb Sb g cap 3 data) (h1 : Kb ≠ A ∧ Kb ≠ B) (h2 : Sb ≠ A ∧ Sb ≠ B) (h3 : g ≠ A ∧ g ≠ B) :
    Calls Try.prog 29 #[.func (.func 25) #[] #[.pointer (some ⟨A, 0, none⟩), .pointer (some ⟨B, 0, none⟩)], .pointer (some ⟨Kb, 0, none⟩), .pointer (some ⟨Sb, 0, none⟩)] w fun e w' => e = .returned (.tuple #[]) ∧ Var1 w' A (.int .i64 3) 3 ∧ Var1 w' B (.int .i64 (Rol.sum (wat data 3 1))) 3 ∧ Kept [A, B] w w' := by
  refine (win2_any 25 #[.pointer (some ⟨A, 0, none⟩), .pointer (some ⟨B, 0, none⟩)] Kb Sb g cap 3 data w (KI w A B data) (fun _ _ _ => False) Try.call25 hc (fun P w1 hP hP1 hk => ?_) (fun P k w1 w2 hP h hk => ?_) (fun P k w1 hP hP1 hks h hc1 => ?_)).mono fun e w' ⟨he, h⟩ => ⟨he, ?_⟩
  · have := hA.lt
    have := hB.lt
    exact ⟨hA.kept hk (by simp), hB.kept hk (by simp), hk.mono (by simp), by omega, by omega⟩
  · have hn := h.ne
    exact ⟨h.a.kept hk (by simp; omega), h.b.kept hk (by simp; omega), h.kept.trans hk (by simp; omega), hn⟩
  · have hk2 : k ≤ 1 := by omega
    have hx : k * (k + 1) / 2 ≤ 1 := by rcases k with _ | _ | k <;> simp_all
    refine (known1_ok k _ (k * (k + 1) / 2) _ A B w1 h.a h.b hne (by omega) (by omega)).mono fun e w2 ⟨he, hw⟩ => ?_
    subst hw
    have hkk : Kept [A, B] w1 ((w1.setCell ⟨A, 0, none⟩ (.int .i64 ((k * (k + 1) / 2 + 1 + k : Nat) : Int))).setCell ⟨B, 0, none⟩ (.int .i64 (Rol.sum (wat data 3 k)))) := ((Kept.refl _ _).setCell (by simp) _).setCell (by simp) _
    refine ⟨true, [A, B], he, hkk, by simp; exact h.ne, by simp; exact h1, by simp; exact h2, by simp; exact h3, fun _ => ⟨?_, ?_, h.kept.trans hkk (by simp), h.ne⟩, fun hb => by cases hb⟩
    · have e : (k + 1) * (k + 1 + 1) / 2 = k * (k + 1) / 2 + 1 + k := by rcases k with _ | _ | k <;> simp_all
      rw [e]
      exact (h.a.set _).other hne _
    · have e : (if k + 1 = 0 then 0 else Rol.sum (wat data 3 (k + 1 - 1))) = Rol.sum (wat data 3 k) := by simp
      rw [e]
      exact (h.b.other (Ne.symm hne) _).set _
  · rcases h with ⟨P, _, h⟩ | ⟨P, k, _, _, h⟩
    · rw [hd] at h
      exact ⟨h.a, h.b, h.kept⟩
    · exact h.elim

end Go.Proofs.Ytjfekdcghgpchaa
