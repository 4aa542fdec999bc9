/-
  ReachCloses: what freightlaw9.closed goes through; a Map of just the need; one with more: mathematics.
-/
import Derived.Test.YtngaimahhgmciaaGreatDoorQpcp
namespace Go.Proofs.YtngaimahhgmciaaGreatDoor
open Go.RowKit Go.Lib Go.Sort
set_option linter.unusedVariables false
set_option linter.unusedSimpArgs false

/-- What closed has gone through: of the roots those of T; n of the opened ids O; behind them X is marked, Y is opened. -/
structure Cl9 (f : List UInt8 → An) (R : List (List UInt8)) (l T O : List (List UInt8)) (n : Nat) (X Y : List UInt8 → Prop) (B : List Bool) : Prop where
  nod : O.Nodup
  op : ∀ q ∈ O, opn f R q
  rt : ∀ q ∈ T, q ∈ O
  fl : ∀ j, j < n → ∀ q ∈ fldsF f (O.getD j []), q ∈ O
  ys : ∀ q, Y q → q ∈ O
  mkd : ∀ k, k < l.length → (X (l.getD k []) ∨ ∃ j, j < n ∧ (O.getD j [] = l.getD k [] ∨ l.getD k [] ∈ idsF f (O.getD j []))) → B.getD k false = true
  bl : B.length = l.length
  nle : n ≤ O.length

section
variable {f : List UInt8 → An} {R l T O : List (List UInt8)} {n : Nat} {X Y : List UInt8 → Prop} {B : List Bool}
theorem Cl9.start (hB : B.length = l.length) : Cl9 f R l [] [] 0 (fun _ => False) (fun _ => False) B :=
  ⟨by simp, fun q h => by simp at h, fun q h => by simp at h, fun j h => absurd h (Nat.not_lt_zero j), fun q h => h.elim, fun k _ h => h.elim (fun h => h.elim) (fun ⟨j, h, _⟩ => absurd h (Nat.not_lt_zero j)), hB, Nat.zero_le _⟩
theorem getD_addL {O : List (List UInt8)} {q : List UInt8} {j : Nat} (h : j < O.length) : (if q ∈ O then O else O ++ [q]).getD j [] = O.getD j [] := by
  by_cases e : q ∈ O
  · rw [if_pos e]
  · rw [if_neg e]
    simp [List.getD_eq_getElem?_getD, List.getElem?_append_left h]
theorem Cl9.put {q : List UInt8} {O' : List (List UInt8)} (h : Cl9 f R l T O n X Y B) (hq : opn f R q) (he : O' = if q ∈ O then O else O ++ [q]) : Cl9 f R l (T ++ [q]) O' n X (fun p => Y p ∨ p = q) B := by
  have hin : ∀ p, p ∈ O' ↔ p ∈ O ∨ p = q := fun p => by
    rw [he]
    by_cases e : q ∈ O
    · rw [if_pos e]; exact ⟨.inl, fun h => h.elim id (fun e2 => e2 ▸ e)⟩
    · rw [if_neg e]; simp
  have hgd : ∀ j, j < O.length → O'.getD j [] = O.getD j [] := fun j hj => by rw [he]; exact getD_addL hj
  refine ⟨?_, fun p hp => ((hin p).1 hp).elim (h.op p) (fun e => e ▸ hq), fun p hp => ?_, fun j hj p hp => ?_, fun p hp => ?_, fun k hk hx => h.mkd k hk (hx.elim .inl (fun ⟨j, hj, h2⟩ => .inr ⟨j, hj, ?_⟩)), h.bl, ?_⟩
  · rw [he]
    by_cases e : q ∈ O
    · rw [if_pos e]; exact h.nod
    · rw [if_neg e, List.nodup_append]
      exact ⟨h.nod, by simp, fun a ha b hb e2 => e (by simp at hb; rw [← hb, ← e2]; exact ha)⟩
  · rw [hin]
    rcases List.mem_append.1 hp with hp | hp
    · exact .inl (h.rt p hp)
    · exact .inr (by simpa using hp)
  · rw [hgd j (Nat.lt_of_lt_of_le hj h.nle)] at hp
    exact (hin p).2 (.inl (h.fl j hj p hp))
  · exact (hin p).2 (hp.elim (fun h1 => .inl (h.ys p h1)) .inr)
  · rwa [hgd j (Nat.lt_of_lt_of_le hj h.nle)] at h2
  · have := h.nle
    rw [he]
    by_cases e : q ∈ O
    · rw [if_pos e]; exact this
    · rw [if_neg e]; simp; omega
theorem Cl9.root {q : List UInt8} {O' : List (List UInt8)} (h : Cl9 f R l T O 0 X (fun _ => False) B) (hq : q ∈ R) (he : O' = if q ∈ O then O else O ++ [q]) : Cl9 f R l (T ++ [q]) O' 0 X (fun _ => False) B := by
  have h1 := h.put ⟨0, by omega, hq⟩ he
  exact ⟨h1.nod, h1.op, h1.rt, h1.fl, fun _ h => h.elim, h1.mkd, h1.bl, h1.nle⟩
/-- A folder's id. -/
theorem Cl9.fold {q : List UInt8} {O' : List (List UInt8)} (h : Cl9 f R l T O n X Y B) (hq : opn f R q) (he : O' = if q ∈ O then O else O ++ [q]) : Cl9 f R l T O' n X (fun p => Y p ∨ p = q) B := by
  have h1 := h.put hq he
  exact ⟨h1.nod, h1.op, fun p hp => h1.rt p (List.mem_append_left _ hp), h1.fl, h1.ys, h1.mkd, h1.bl, h1.nle⟩
/-- An id is marked. -/
theorem Cl9.mark {q : List UInt8} {k : Nat} (h : Cl9 f R l T O n X Y B) (hn : l.Nodup) (hk : k < l.length) (e : l.getD k [] = q) : Cl9 f R l T O n (fun p => X p ∨ p = q) Y (B.set k true) := by
  refine ⟨h.nod, h.op, h.rt, h.fl, h.ys, fun k' hk' hx => ?_, by simp [h.bl], h.nle⟩
  rw [List.getD_eq_getElem?_getD, List.getElem?_set]
  by_cases e2 : k = k'
  · rw [if_pos e2, if_pos (by rw [h.bl]; exact hk)]; rfl
  · rw [if_neg e2, ← List.getD_eq_getElem?_getD]
    refine h.mkd k' hk' (hx.elim (fun h1 => h1.elim .inl (fun e3 => ?_)) .inr)
    exfalso
    rw [← e, List.getD_eq_getElem?_getD, List.getD_eq_getElem?_getD, List.getElem?_eq_getElem hk, List.getElem?_eq_getElem hk'] at e3
    rcases Nat.lt_trichotomy k k' with h1 | h1 | h1
    · exact List.pairwise_iff_getElem.1 hn k k' hk hk' h1 e3.symm
    · exact e2 h1
    · exact List.pairwise_iff_getElem.1 hn k' k hk' hk h1 e3
/-- An id is through. -/
theorem Cl9.next {q : List UInt8} (h : Cl9 f R l T O n X Y B) (hn : n < O.length) (hq : O.getD n [] = q) (hx : ∀ p, p = q ∨ p ∈ idsF f q → X p) (hy : ∀ p ∈ fldsF f q, Y p) : Cl9 f R l T O (n + 1) (fun _ => False) (fun _ => False) B := by
  refine ⟨h.nod, h.op, h.rt, fun j hj p hp => ?_, fun _ h => h.elim, fun k hk hh => ?_, h.bl, hn⟩
  · by_cases e : j = n
    · rw [e, hq] at hp; exact h.ys p (hy p hp)
    · exact h.fl j (by omega) p hp
  · rcases hh with hh | ⟨j, hj, h2⟩
    · exact hh.elim
    · by_cases e : j = n
      · rw [e, hq] at h2
        exact h.mkd k hk (.inl (hx _ (h2.elim (fun e => .inl e.symm) .inr)))
      · exact h.mkd k hk (.inr ⟨j, by omega, h2⟩)
theorem Cl9.begin (h : Cl9 f R l T O n (fun _ => False) (fun _ => False) B) (hl : l.Nodup) {q : List UInt8} {k : Nat} (hk : k < l.length) (e : l.getD k [] = q) : Cl9 f R l T O n (fun p => p = q) (fun _ => False) (B.set k true) := by
  have h1 := h.mark hl hk e
  have : (fun p => False ∨ p = q) = (fun p => p = q) := funext fun p => by simp
  rw [this] at h1
  exact h1
theorem opn_flds (hw : Whl9 f R) {p q : List UInt8} (h : opn f R p) (hq : q ∈ fldsF f p) : opn f R q := by
  obtain ⟨j, hj, h1⟩ := h
  have h2 : lev f R (j + 1) q := ⟨p, h1, hq⟩
  by_cases e : j + 1 = 6
  · rw [e] at h2; exact absurd h2 (hw.flat q)
  · exact ⟨j + 1, by omega, h2⟩
/-- All are marked. -/
theorem Cl9.all (h : Cl9 f R l R O n (fun _ => False) (fun _ => False) B) (hn : n = O.length) (hl : ∀ q, q ∈ l → nd f R q) : ∀ k, k < l.length → B.getD k false = true := by
  have hlev : ∀ (j : Nat), j < 6 → ∀ q, lev f R j q → ∃ i, i < n ∧ O.getD i [] = q := by
    have hmem : ∀ q, q ∈ O → ∃ i, i < n ∧ O.getD i [] = q := fun q hq => by
      obtain ⟨i, hi, e⟩ := List.getElem_of_mem hq
      exact ⟨i, by omega, by rw [List.getD_eq_getElem?_getD, List.getElem?_eq_getElem hi, ← e]; rfl⟩
    intro j
    induction j with
    | zero => intro _ q hq; exact hmem q (h.rt q hq)
    | succ j ih =>
      rintro hj q ⟨p, h1, h2⟩
      obtain ⟨i, hi, e⟩ := ih (by omega) p h1
      exact hmem q (h.fl i hi q (by rw [e]; exact h2))
  intro k hk
  have hkq : l.getD k [] ∈ l := by rw [List.getD_eq_getElem?_getD, List.getElem?_eq_getElem hk]; exact List.getElem_mem _
  refine h.mkd k hk (.inr ?_)
  rcases hl _ hkq with h1 | ⟨p, ⟨j, hj, h1⟩, h2⟩
  · obtain ⟨i, hi, e⟩ := hlev 0 (by omega) _ h1
    exact ⟨i, hi, .inl e⟩
  · obtain ⟨i, hi, e⟩ := hlev j hj p h1
    exact ⟨i, hi, .inr (by rw [e]; exact h2)⟩
end
theorem up_lt {l : List (List UInt8)} (h : Up l) {i j : Nat} (hij : i < j) (hj : j < l.length) : compareBytes (l.getD i []) (l.getD j []) < 0 := by
  rw [List.getD_eq_getElem?_getD, List.getD_eq_getElem?_getD, List.getElem?_eq_getElem (by omega), List.getElem?_eq_getElem hj]
  exact List.pairwise_iff_getElem.1 h i j (by omega) hj hij
end Go.Proofs.YtngaimahhgmciaaGreatDoor
