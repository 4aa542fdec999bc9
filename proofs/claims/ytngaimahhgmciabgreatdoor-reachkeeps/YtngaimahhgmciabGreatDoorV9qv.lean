/-
  A Map that stands: its need, and what lacks. (Written by tools/v9q.py.)
-/
import Derived.Test.YtngaimahhgmciabGreatDoorQpdv
import Derived.Test.YtngaimahhgmciabGreatDoorQlav
namespace Go.Proofs.YtngaimahhgmciabGreatDoor
open Go.RowKit Go.Lib Go.Sort
set_option linter.unusedVariables false
set_option linter.unusedSimpArgs false

theorem up_nodup9 {R : List (List UInt8)} (h : Up R) : R.Nodup := by
  refine List.Pairwise.imp ?_ h
  rintro a b h1 rfl
  have := cmp_swap a a
  omega
theorem need_len {M : List (List UInt8 × List UInt8)} {roots : List (List UInt8)} : (canon (walkW (mpf M) [] roots).2.1.N).length ≤ roots.length + M.length * 32 := by
  have h := walkW_in (U := roots ++ idsM M) (f := mpf M) (fun i xs E h1 h2 e he => List.mem_append_right _ (idsM_in i xs E h1 h2 e he)) [] (roots := roots) (fun q hq => List.mem_append_left _ hq)
  have h1 := nodup_le (up_nodup9 (up_canon (walkW (mpf M) [] roots).2.1.N)) (m := roots ++ idsM M) (fun q hq => h.1 q (mem_canon.1 hq))
  have h2 := idsM_len (M := M)
  rw [List.length_append] at h1
  omega

/-- A Map in the blocks from lo to hi that says f. -/
def Mf (lo hi b : Nat) (f : List UInt8 → An) (N : Nat) (w : World) : Prop := ∃ M V, Ms9 lo hi b M V w ∧ mpf M = f ∧ M.length ≤ N
section
variable {lo hi b N : Nat} {f : List UInt8 → An} {w w' : World}
theorem Ms9.same9 {M : List (List UInt8 × List UInt8)} {V : List Value} (h : Ms9 lo hi b M V w) (hk : ∀ k, Rng lo hi k → w'.heap[k]? = w.heap[k]?) : Ms9 lo hi b M V w' := by
  refine ⟨h.im.same (hk b ⟨h.lob, h.hib⟩), fun j hj => ?_, h.len, h.lob, h.hib, h.hiv⟩
  have h1 := h.own j hj
  refine ⟨h1.1, ?_⟩
  rcases h1.2 with g1 | ⟨g, cap, cur, g1, g2, g3, g4⟩
  · exact .inl g1
  · exact .inr ⟨g, cap, cur, g1, g2, by rw [hk g ⟨g2, h.hiv j hj g (by rw [g1]; rfl)⟩]; exact g3, g4⟩
end
/-- All blocks from lo to hi as they are in a world. -/
def FixS (ws : World) (lo hi : Nat) (w : World) : Prop := ∀ k, Rng lo hi k → w.heap[k]? = ws.heap[k]?
theorem fix_std {ws : World} {lo hi b : Nat} {M : List (List UInt8 × List UInt8)} {V : List Value} (hgt : 4 ≤ lo) (h : Ms9 lo hi b M V ws) : Std (.map (some b)) M (Rng lo hi) (FixS ws lo hi) where
  isM := ⟨_, rfl⟩
  keep := by
    intro w w' hs hk k hr
    exact (hk k hr).trans (hs k hr)
  at_ := by
    intro w hs
    have h1 : Ms9 lo hi b M V w := h.same9 hs
    refine .inr ⟨b, V, rfl, h1.im, fun j hj => vl9_own (h1.own j hj) (h1.len _ ?_)⟩
    rw [List.getD_eq_getElem?_getD, List.getElem?_eq_getElem hj]
    exact List.getElem_mem _
  off := fun k hk h => by
    have := h.1
    omega
theorem fix_kept {ws w w' : World} {lo hi : Nat} (hk : Kp (Rng lo hi) w w') (h1 : FixS ws lo hi w) (h2 : FixS ws lo hi w') : Kept [] w w' :=
  ⟨hk.os, hk.tape, hk.output, hk.size, fun k hlt _ => by
    by_cases hr : Rng lo hi k
    · rw [h2 k hr, h1 k hr]
    · exact hk.block k hlt hr⟩
section
variable {lo hi b N : Nat} {f : List UInt8 → An} {w : World}
/-- Need, of a Map. -/
theorem needf_ok (h : Mf lo hi b f N w) (hgt : 4 ≤ lo) (hh : hi ≤ w.heap.size) (gl : GlE w) (tabs : Tabs w) (ao : Option Addr) (n c : Nat) (L : List Rz) (hl : L.length = n) (hL : Rss w ao L) (hn : n + N * 32 ≤ 4398046511104) (hfar : L ≠ [] → ∀ a, ao = some a → a.block < w.heap.size) :
    Calls Tryz.prog 9 #[.iface 26 (.map (some b)), .slice ao n c] w fun e w' => ∃ v ev r, e = .returned (.tuple #[v, ev]) ∧ Tls f (L.map (·.root)) r ∧ ErrN w' w.heap.size (picks r.2.1.B r.2.2 r.2.1.L) r.2.1.N v ev ∧ (canon r.2.1.N).length ≤ n + N * 32 ∧ Kept [] w w' := by
  obtain ⟨M, V, h1, rfl, h3⟩ := h
  have hM : M.length * 32 ≤ N * 32 := Nat.mul_le_mul_right 32 h3
  have hnd := need9_ok (fix_std hgt h1) (fun k _ => rfl) (fun k hk => Nat.lt_of_lt_of_le hk.2 hh) gl tabs ao n c L hl hL (by omega) hfar
  refine hnd.mono (fun e w' hN => ?_)
  obtain ⟨v, ev, he, hE⟩ := hN.tup
  refine ⟨v, ev, _, he, walk_sem (mpf_nofail M) [] _, hE, ?_, fix_kept hN.kp (fun k _ => rfl) hN.st⟩
  have := need_len (M := M) (roots := L.map (·.root))
  rw [List.length_map, hl] at this
  omega
/-- Lacks, of a Map. -/
theorem lacksf_ok (h : Mf lo hi b f N w) (hgt : 4 ≤ lo) (hh : hi ≤ w.heap.size) (gl : GlE w) (tabs : Tabs w) (ao : Option Addr) (n c : Nat) (L : List Rz) (hl : L.length = n) (hL : Rss w ao L) (hn : n + N * 32 ≤ 4398046511104) (hfar : L ≠ [] → ∀ a, ao = some a → a.block < w.heap.size) :
    Calls Tryz.prog 10 #[.iface 26 (.map (some b)), .slice ao n c] w fun e w' => ∃ v r, e = .returned (.tuple #[v, .nilIface]) ∧ Tls f (L.map (·.root)) r ∧ OwnI w' w.heap.size v (canon r.2.1.L) ∧ Kept [] w w' := by
  obtain ⟨M, V, h1, rfl, h3⟩ := h
  have hM : M.length * 32 ≤ N * 32 := Nat.mul_le_mul_right 32 h3
  have hnd := lacks9_ok (fix_std hgt h1) (fun k _ => rfl) (fun k hk => Nat.lt_of_lt_of_le hk.2 hh) gl tabs ao n c L hl hL (by omega) hfar
  refine hnd.mono (fun e w' hN => ?_)
  obtain ⟨v, he, hE⟩ := hN.ans
  exact ⟨v, _, he, walk_sem (mpf_nofail M) [] _, hE, fix_kept hN.kp (fun k _ => rfl) hN.st⟩
end
end Go.Proofs.YtngaimahhgmciabGreatDoor
