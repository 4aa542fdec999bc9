/-
  Contracts: what the iterator of Windows does with the closures of RollWindows and nested.
-/
import Derived.Test.YtjfekdcghgpchaaEm1
namespace Go.Proofs.Ytjfekdcghgpchaa
open Go.RowKit
set_option linter.unusedVariables false
set_option linter.unusedSimpArgs false

/-- An iterator beside the law's variables. -/
structure It (w : World) (Kb Sb g cap' Db Sz Nb b off cap size nn : Nat) (xs : List UInt8) : Prop where
  c : Wc w Kb Sb g cap' size xs
  v : Dv w Db Sz Nb b off cap size nn xs

theorem It.kept {l : List Nat} {w w' : World} {Kb Sb g cap' Db Sz Nb b off cap size nn : Nat} {xs : List UInt8} (h : It w Kb Sb g cap' Db Sz Nb b off cap size nn xs) (hk : Kept l w w') (hl : ∀ i, i ∈ l → i ≠ Kb ∧ i ≠ Sb ∧ i ≠ g ∧ i ≠ Db ∧ i ≠ Sz ∧ i ≠ Nb ∧ i ≠ b) : It w' Kb Sb g cap' Db Sz Nb b off cap size nn xs :=
  ⟨h.c.kept hk (fun hm => (hl _ hm).1 rfl) (fun hm => (hl _ hm).2.1 rfl) (fun hm => (hl _ hm).2.2.1 rfl), h.v.kept hk (fun hm => (hl _ hm).2.2.2.1 rfl) (fun hm => (hl _ hm).2.2.2.2.1 rfl) (fun hm => (hl _ hm).2.2.2.2.2.1 rfl) (fun hm => (hl _ hm).2.2.2.2.2.2 rfl)⟩

/-- The blocks that an iterator and the law's variables lie in. -/
abbrev Far (i Kb Sb g Db Sz Nb b : Nat) : Prop := i ≠ Kb ∧ i ≠ Sb ∧ i ≠ g ∧ i ≠ Db ∧ i ≠ Sz ∧ i ≠ Nb ∧ i ≠ b

theorem It.lts {w : World} {Kb Sb g cap' Db Sz Nb b off cap size nn : Nat} {xs : List UInt8} (h : It w Kb Sb g cap' Db Sz Nb b off cap size nn xs) : Kb < w.heap.size ∧ Sb < w.heap.size ∧ g < w.heap.size ∧ Db < w.heap.size ∧ Sz < w.heap.size ∧ Nb < w.heap.size ∧ b < w.heap.size := by
  have hl : 0 < xs.length := by have := h.c.h1; have := h.c.h2; omega
  refine ⟨World.block_lt_of_cell? _ _ h.c.k, World.block_lt_of_cell? _ _ h.c.s, World.block_lt_of_cell? _ _ (h.c.d 0 hl), World.block_lt_of_cell? _ _ h.v.d, World.block_lt_of_cell? _ _ h.v.s, World.block_lt_of_cell? _ _ h.v.n, ?_⟩
  obtain ⟨b', off', e', hc⟩ := h.v.sl 0 hl
  cases e'
  exact World.block_lt_of_cell? _ _ hc

theorem it1_ok (G Ok Kb Sb g cap' Db Sz Nb b off cap size nn : Nat) (xs : List UInt8) (w : World) (h : It w Kb Sb g cap' Db Sz Nb b off cap size nn xs) (hG : Var1 w G (.int .i64 0) 3) (hf : Far G Kb Sb g Db Sz Nb b) :
    Calls Try.prog 29 #[.func (.func 18) #[] #[.pointer (some ⟨G, 0, none⟩), .pointer (some ⟨Nb, 0, none⟩), .pointer (some ⟨Db, 0, none⟩), .pointer (some ⟨Sz, 0, none⟩), .pointer (some ⟨Ok, 0, none⟩)], .pointer (some ⟨Kb, 0, none⟩), .pointer (some ⟨Sb, 0, none⟩)] w fun e w' => e = .returned (.tuple #[]) ∧ Var1 w' G (.int .i64 nn) 3 ∧ Kept [G] w w' := by
  have hlt := h.lts
  have hGl := hG.lt
  refine (win2_any 18 _ Kb Sb g cap' size xs w (fun P k w' => Var1 w' G (.int .i64 k) 3 ∧ Kept [G] w w') (fun _ _ _ => False) Try.call18 h.c (fun P w1 hP hP1 hk => ⟨hG.kept hk (by simp), hk.mono (by simp)⟩) (fun P k w1 w2 hP hI hk => ⟨hI.1.kept hk (by simp; omega), hI.2.trans hk (by simp; omega)⟩) (fun P k w1 hP hP1 hks hI hc1 => ?_)).mono fun e w' ⟨he, hh⟩ => ⟨he, ?_⟩
  · have hv1 := h.v.kept hI.2 (by simp; omega) (by simp; omega) (by simp; omega) (by simp; omega)
    refine (rw1_ok k G Db Sz Nb Ok b off cap size nn xs w1 hv1 hks hI.1).mono fun e w2 ⟨he, hw⟩ => ?_
    subst hw
    have hkk : Kept [G] w1 (w1.setCell ⟨G, 0, none⟩ (.int .i64 ((k + 1 : Nat) : Int))) := (Kept.refl _ _).setCell (by simp) _
    exact ⟨true, [G], he, hkk, by simp; omega, by simp; omega, by simp; omega, by simp; omega, fun _ => ⟨hI.1.set _, hI.2.trans hkk (by simp)⟩, fun hb => by cases hb⟩
  · rcases hh with ⟨P, _, hh⟩ | ⟨P, k, _, _, hh⟩
    · rw [← h.v.hn] at hh
      exact hh
    · exact hh.elim

set_option maxHeartbeats 600000 in
theorem it2_ok (G Ov St Kb Sb g cap' Db Sz Nb b off cap size nn : Nat) (stop : Int) (xs : List UInt8) (w : World) (h : It w Kb Sb g cap' Db Sz Nb b off cap size nn xs) (hG : Var1 w G (.int .i64 0) 3) (hO : Var1 w Ov (.bool false) 4) (hS : w.cell? ⟨St, 0, none⟩ = some (.int .i64 stop)) (hGO : G ≠ Ov) (hSO : St ≠ Ov ∧ St ≠ G) (hf : Far G Kb Sb g Db Sz Nb b) (hf2 : Far Ov Kb Sb g Db Sz Nb b) :
    Calls Try.prog 29 #[.func (.func 19) #[] #[.pointer (some ⟨G, 0, none⟩), .pointer (some ⟨St, 0, none⟩), .pointer (some ⟨Ov, 0, none⟩)], .pointer (some ⟨Kb, 0, none⟩), .pointer (some ⟨Sb, 0, none⟩)] w fun e w' => e = .returned (.tuple #[]) ∧ Var1 w' Ov (.bool false) 4 ∧ Kept [G, Ov] w w' ∧ ∃ k : Nat, Var1 w' G (.int .i64 k) 3 ∧ ((0 ≤ stop ∧ stop < nn ∧ (k : Int) = stop + 1) ∨ ((stop < 0 ∨ (nn : Int) ≤ stop) ∧ k = nn)) := by
  have hlt := h.lts
  have hGl := hG.lt
  have hOl := hO.lt
  have hSl : St < w.heap.size := World.block_lt_of_cell? _ _ hS
  have hnn := h.v.hn
  have hmx := h.v.max
  have hs1 := h.v.h1
  have hs2 := h.v.h2
  have l1 : Kb ∉ [G, Ov] := by simp; exact ⟨Ne.symm hf.1, Ne.symm hf2.1⟩
  have l2 : Sb ∉ [G, Ov] := by simp; exact ⟨Ne.symm hf.2.1, Ne.symm hf2.2.1⟩
  have l3 : g ∉ [G, Ov] := by simp; exact ⟨Ne.symm hf.2.2.1, Ne.symm hf2.2.2.1⟩
  have l4 : St ∉ [G, Ov] := by simp; exact ⟨hSO.2, hSO.1⟩
  have l5 : ∀ P, w.heap.size ≤ P → P ∉ [G, Ov] := fun P hP => by simp; clear hf hf2 hSO hGO; omega
  have hSO1 := hSO.1
  clear hf hf2 hSO
  refine (win2_any 19 _ Kb Sb g cap' size xs w (fun P k w' => Var1 w' G (.int .i64 k) 3 ∧ Var1 w' Ov (.bool false) 4 ∧ Kept [G, Ov] w w' ∧ (0 ≤ stop → (k : Int) ≤ stop)) (fun P k w' => Var1 w' G (.int .i64 ((k + 1 : Nat) : Int)) 3 ∧ Var1 w' Ov (.bool false) 4 ∧ Kept [G, Ov] w w' ∧ (k : Int) = stop) Try.call19 h.c (fun P w1 hP hP1 hk => ⟨hG.kept hk (by simp), hO.kept hk (by simp), hk.mono (by simp), fun hh => by simpa using hh⟩) (fun P k w1 w2 hP hI hk => ⟨hI.1.kept hk (by simp; omega), hI.2.1.kept hk (by simp; omega), hI.2.2.1.trans hk (by simp; omega), hI.2.2.2⟩) (fun P k w1 hP hP1 hks hI hc1 => ?_)).mono fun e w' ⟨he, hh⟩ => ⟨he, ?_⟩
  · obtain ⟨i1, i2, i3, i4⟩ := hI
    have hkk : Kept [G, Ov] w1 ((w1.setCell ⟨Ov, 0, none⟩ (.bool false)).setCell ⟨G, 0, none⟩ (.int .i64 ((k + 1 : Nat) : Int))) := ((Kept.refl _ _).setCell (by simp) _).setCell (by simp) _
    have hv1 : Var1 ((w1.setCell ⟨Ov, 0, none⟩ (.bool false)).setCell ⟨G, 0, none⟩ (.int .i64 ((k + 1 : Nat) : Int))) G (.int .i64 ((k + 1 : Nat) : Int)) 3 := (i1.other hGO _).set _
    have hv2 : Var1 ((w1.setCell ⟨Ov, 0, none⟩ (.bool false)).setCell ⟨G, 0, none⟩ (.int .i64 ((k + 1 : Nat) : Int))) Ov (.bool false) 4 := (i2.set _).other (Ne.symm hGO) _
    have hS1 : w1.cell? ⟨St, 0, none⟩ = some (.int .i64 stop) := i3.cellOf hS l4
    by_cases hst : (k : Int) = stop
    · rw [← hst] at hS1
      refine (rw2_stop k G St Ov _ _ w1 i1 i2 hS1 hGO hSO1 (by omega)).mono fun e w2 ⟨he, hw⟩ => ?_
      subst hw
      exact ⟨false, [G, Ov], he, hkk, l5 P hP, l1, l2, l3, (fun hb => by cases hb), fun _ => ⟨hv1, hv2, i3.trans hkk (by simp), hst⟩⟩
    · refine (rw2_on k G St Ov _ _ stop w1 i1 i2 hS1 hGO hSO1 (by omega) hst i4).mono fun e w2 ⟨he, hw⟩ => ?_
      subst hw
      exact ⟨true, [G, Ov], he, hkk, l5 P hP, l1, l2, l3, fun _ => ⟨hv1, hv2, i3.trans hkk (by simp), fun hh => by have := i4 hh; omega⟩, fun hb => by cases hb⟩
  · rcases hh with ⟨P, _, j1, j2, j3, j4⟩ | ⟨P, k, _, hks, j1, j2, j3, j4⟩
    · rw [← hnn] at j1 j4
      exact ⟨j2, j3, nn, j1, .inr ⟨by omega, rfl⟩⟩
    · exact ⟨j2, j3, k + 1, j1, .inl ⟨by omega, by omega, by omega⟩⟩

theorem it3_ok (Ok In Kb Sb g cap' size : Nat) (xs : List UInt8) (w : World) (h : Wc w Kb Sb g cap' size xs) (hO : Var1 w Ok (.bool true) 4) (hI : Var1 w In (.int .i64 0) 3) (hne : Ok ≠ In) (hf : Ok ≠ Kb ∧ Ok ≠ Sb ∧ Ok ≠ g) (hf2 : In ≠ Kb ∧ In ≠ Sb ∧ In ≠ g) :
    Calls Try.prog 29 #[.func (.func 31) #[] #[.pointer (some ⟨Ok, 0, none⟩), .pointer (some ⟨In, 0, none⟩)], .pointer (some ⟨Kb, 0, none⟩), .pointer (some ⟨Sb, 0, none⟩)] w fun e w' => e = .returned (.tuple #[]) ∧ Var1 w' Ok (.bool true) 4 ∧ Kept [Ok, In] w w' ∧ ∃ k : Nat, Var1 w' In (.int .i64 k) 3 ∧ (k = xs.length - size + 1 ∨ k = 4) ∧ k ≤ 4 := by
  have hOl := hO.lt
  have hIl := hI.lt
  refine (win2_any 31 _ Kb Sb g cap' size xs w (fun P k w' => Var1 w' Ok (.bool true) 4 ∧ Var1 w' In (.int .i64 k) 3 ∧ Kept [Ok, In] w w' ∧ k ≤ 3) (fun P k w' => Var1 w' Ok (.bool true) 4 ∧ Var1 w' In (.int .i64 ((k + 1 : Nat) : Int)) 3 ∧ Kept [Ok, In] w w' ∧ k = 3) Try.call31 h (fun P w1 hP hP1 hk => ⟨hO.kept hk (by simp), hI.kept hk (by simp), hk.mono (by simp), by omega⟩) (fun P k w1 w2 hP hI hk => ⟨hI.1.kept hk (by simp; omega), hI.2.1.kept hk (by simp; omega), hI.2.2.1.trans hk (by simp; omega), hI.2.2.2⟩) (fun P k w1 hP hP1 hks hI hc1 => ?_)).mono fun e w' ⟨he, hh⟩ => ⟨he, ?_⟩
  · obtain ⟨i1, i2, i3, i4⟩ := hI
    refine (n11_ok k Ok In _ w1 i1 i2 hne (by omega)).mono fun e w2 ⟨he, hw⟩ => ?_
    subst hw
    have hkk : Kept [Ok, In] w1 ((w1.setCell ⟨Ok, 0, none⟩ (.bool true)).setCell ⟨In, 0, none⟩ (.int .i64 ((k + 1 : Nat) : Int))) := ((Kept.refl _ _).setCell (by simp) _).setCell (by simp) _
    have hv1 : Var1 ((w1.setCell ⟨Ok, 0, none⟩ (.bool true)).setCell ⟨In, 0, none⟩ (.int .i64 ((k + 1 : Nat) : Int))) Ok (.bool true) 4 := (i1.set _).other hne _
    have hv2 : Var1 ((w1.setCell ⟨Ok, 0, none⟩ (.bool true)).setCell ⟨In, 0, none⟩ (.int .i64 ((k + 1 : Nat) : Int))) In (.int .i64 ((k + 1 : Nat) : Int)) 3 := (i2.other (Ne.symm hne) _).set _
    exact ⟨_, [Ok, In], he, hkk, by simp; omega, by simp; omega, by simp; omega, by simp; omega, fun hb => ⟨hv1, hv2, i3.trans hkk (by simp), by simp at hb; omega⟩, fun hb => ⟨hv1, hv2, i3.trans hkk (by simp), by simp at hb; omega⟩⟩
  · rcases hh with ⟨P, _, j1, j2, j3, j4⟩ | ⟨P, k, _, hks, j1, j2, j3, j4⟩
    · exact ⟨j1, j3, _, j2, .inl rfl, by omega⟩
    · exact ⟨j1, j3, k + 1, j2, .inr (by omega), by omega⟩

end Go.Proofs.Ytjfekdcghgpchaa
