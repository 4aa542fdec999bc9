/-
  ReachJoins: the union of two needs: mathematics.
-/
import Derived.Test.YtngaimahhgmciaaGreatDoorQpcp
import Derived.Test.YtngaimahhgmciaaGreatDoorQ9mp
import Derived.Test.YtngaimahhgmciaaGreatDoorNpp
namespace Go.Proofs.YtngaimahhgmciaaGreatDoor
open Go.RowKit Go.Lib Go.Sort
set_option linter.unusedVariables false
set_option linter.unusedSimpArgs false

theorem up_nodup9 {R : List (List UInt8)} (h : Up R) : R.Nodup := by
  refine List.Pairwise.imp ?_ h
  rintro a b h1 rfl
  have := cmp_swap a a
  omega
theorem mem_addA {B A : List (List UInt8)} {q : List UInt8} : q ∈ B.foldl addI A ↔ q ∈ A ∨ q ∈ B := by
  induction B generalizing A with
  | nil => simp
  | cons b r ih =>
    rw [List.foldl_cons, ih, mem_addI, List.mem_cons]
    exact or_assoc
theorem nodup_addA {B A : List (List UInt8)} (h : A.Nodup) : (B.foldl addI A).Nodup := by
  induction B generalizing A with
  | nil => exact h
  | cons b r ih => rw [List.foldl_cons]; exact ih (nodup_addI h)
theorem addA_snoc {B A : List (List UInt8)} {k : Nat} (h : k < B.length) : (B.take (k + 1)).foldl addI A = addI ((B.take k).foldl addI A) (B.getD k []) := by
  rw [List.take_succ_eq_append_getElem h, List.foldl_append, List.getD_eq_getElem?_getD, List.getElem?_eq_getElem h]
  rfl
theorem addA_len {B A : List (List UInt8)} : (B.foldl addI A).length ≤ A.length + B.length := by
  induction B generalizing A with
  | nil => simp
  | cons b r ih =>
    rw [List.foldl_cons]
    have h1 := ih (A := addI A b)
    have h2 : (addI A b).length ≤ A.length + 1 := by unfold addI; split <;> simp
    simp only [List.length_cons]
    omega
section
variable {f : List UInt8 → An} {r1 r2 : List (List UInt8)} {a b c : Option (List UInt8) × Ws × List (List UInt8)}
theorem joins_mem (ha : Tls f r1 a) (hb : Tls f r2 b) (hc : Tls f (r1 ++ r2) c) (q : List UInt8) : q ∈ canon c.2.1.N ↔ q ∈ (canon b.2.1.N).foldl addI ((canon a.2.1.N).foldl addI []) := by
  rw [mem_addA, mem_addA, mem_canon, mem_canon, mem_canon, hc.N, ha.N, hb.N, nd_app]
  simp
theorem joins_len (ha : Tls f r1 a) (hb : Tls f r2 b) (hc : Tls f (r1 ++ r2) c) : (canon c.2.1.N).length = ((canon b.2.1.N).foldl addI ((canon a.2.1.N).foldl addI [])).length :=
  Nat.le_antisymm (nodup_le (up_nodup9 (up_canon _)) (fun q h => (joins_mem ha hb hc q).1 h)) (nodup_le (nodup_addA (nodup_addA (by simp))) (fun q h => (joins_mem ha hb hc q).2 h))
theorem joins_none (ha : Tls f r1 a) (hb : Tls f r2 b) (hc : Tls f (r1 ++ r2) c) : picks c.2.1.B c.2.2 c.2.1.L = none ↔ picks a.2.1.B a.2.2 a.2.1.L = none ∧ picks b.2.1.B b.2.2 b.2.1.L = none := by
  rw [whl_iff ha, whl_iff hb, whl_iff hc, whl_app]
end
theorem need_len {M : List (List UInt8 × List UInt8)} {roots : List (List UInt8)} : (canon (walkW (mpf M) [] roots).2.1.N).length ≤ roots.length + M.length * 32 := by
  have h := walkW_in (U := roots ++ idsM M) (f := mpf M) (fun i xs E h1 h2 e he => List.mem_append_right _ (idsM_in i xs E h1 h2 e he)) [] (roots := roots) (fun q hq => List.mem_append_left _ hq)
  have h1 := nodup_le (up_nodup9 (up_canon (walkW (mpf M) [] roots).2.1.N)) (m := roots ++ idsM M) (fun q hq => h.1 q (mem_canon.1 hq))
  have h2 := idsM_len (M := M)
  rw [List.length_append] at h1
  omega
end Go.Proofs.YtngaimahhgmciaaGreatDoor
