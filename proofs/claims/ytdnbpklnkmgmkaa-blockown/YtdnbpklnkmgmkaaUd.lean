/-
  Contracts: press.unpacking: match. (Written by tools/ud.py.)
-/
import Derived.Test.YtdnbpklnkmgmkaaUb
import Derived.Test.YtdnbpklnkmgmkaaUc
namespace Go.Proofs.Ytdnbpklnkmgmkaa
open Go.RowKit
set_option linter.unusedVariables false
set_option linter.unusedSimpArgs false

/-- A match lies in block M. -/
def Mb (w : World) (M d l : Nat) : Prop := w.heap[M]? = some (.cells #[.int .i64 d, .int .i64 l] 91 (0, 0))
theorem Mb.lt {w : World} {M d l : Nat} (h : Mb w M d l) : M < w.heap.size := (Array.getElem?_eq_some_iff.1 h).1
theorem Mb.c0 {w : World} {M d l : Nat} (h : Mb w M d l) : w.cell? ⟨M, 0, none⟩ = some (.int .i64 d) := by rw [cell_of_row w M 0 _ _ _ h]; rfl
theorem Mb.c1 {w : World} {M d l : Nat} (h : Mb w M d l) : w.cell? ⟨M, 1, none⟩ = some (.int .i64 l) := by rw [cell_of_row w M 1 _ _ _ h]; rfl
theorem Mb.kept {w w' : World} {M d l : Nat} (h : Mb w M d l) (hk : Kept [] w w') : Mb w' M d l := (hk.block M h.lt (by simp)).trans h
/-- A row of bytes lies elsewhere. -/
theorem Mb.grown {w w' : World} {M d l base n : Nat} {v : Value} {xs : List Value} (h : Mb w M d l) (ho : w.ownsRow base 5 1 v n xs) (hg : w.grownBy w' v.ownBlock) : Mb w' M d l := by
  refine (hg.block M h.lt (fun e => ?_)).trans h
  rcases ho.2 with ⟨rfl, _⟩ | ⟨g, c, cur, rfl, _, hh, _⟩
  · cases e
  · simp only [Value.ownBlock, Option.some.injEq] at e
    subst e
    have := h.symm.trans hh
    injection this with this
    injection this with _ this _
    cases this
theorem Mb.set {w : World} {M d l U : Nat} (h : Mb w M d l) (hne : U ≠ M) (j : Nat) (v : Value) : Mb (w.setCell ⟨U, j, none⟩ v) M d l :=
  (((Kept.refl [U] w).setCell (p := ⟨U, j, none⟩) (by simp) v).block M h.lt (by simp; exact fun e => hne e.symm)).trans h

set_option maxHeartbeats 1000000 in
set_option maxRecDepth 100000 in
/-- match: half of one. -/
theorem umat_half {w : World} {U : Nat} {ao : Option Addr} {rc : Nat} {xs : List UInt8} {bo : Option Addr} {bc : Nat} {out : List UInt8} {most : Nat} (h : Up w U ao rc xs bo bc out most) (hx : xs.length < 2) :
    Calls Try.prog 42 #[.pointer (some ⟨U, 0, none⟩)] w fun e w' => e = .returned (.int .i64 40) ∧ Kept [] w w' := by
  have c0 := h.c0
  have hq : ((xs.length : Int) < 2) := by omega
  clear h
  go_enter Try.func42, Try.ntmps42
  go_wp2
  go_ret
  exact ⟨rfl, Kept.refl _ _⟩

/-- One more byte of a match. -/
def Ur (w0 w : World) (U M d l : Nat) (ao : Option Addr) (rc : Nat) (xs : List UInt8) (out : List UInt8) (most k : Nat) : Prop :=
  ∃ bo bc, Up w U ao rc xs bo bc (Prs.copied d k out) most ∧ Mb w M d l ∧ Below U w0 w

set_option maxHeartbeats 2000000 in
set_option maxRecDepth 100000 in
/-- match: far, long, or as it should be. -/
theorem umat_any {w : World} {U : Nat} {ao : Option Addr} {rc : Nat} {x y : UInt8} {r : List UInt8} {bo : Option Addr} {bc : Nat} {out : List UInt8} {most : Nat} (h : Up w U ao rc (x :: y :: r) bo bc out most) (D L : Nat) (hD : (256 * x.toNat + y.toNat) / 64 + 1 = D) (hL : (256 * x.toNat + y.toNat) % 64 + 3 = L) :
    Calls Try.prog 42 #[.pointer (some ⟨U, 0, none⟩)] w fun e w' =>
      (out.length < D → e = .returned (.int .i64 40) ∧ Kept [] w w') ∧
      (D ≤ out.length → most < out.length + L → e = .returned (.int .i64 41) ∧ Kept [] w w') ∧
      (D ≤ out.length → out.length + L ≤ most → e = .returned (.int .i64 0) ∧ (∃ ao' rc' bo' bc', Up w' U ao' rc' r bo' bc' (Prs.copied D L out) most) ∧ Below U w w') := by
  have hdec := fun W => decoded_ok x y W
  rw [hD, hL] at hdec
  have hD1 : 1 ≤ D ∧ D ≤ 1024 ∧ 3 ≤ L ∧ L ≤ 66 := by have := UInt8.toNat_lt x; have := UInt8.toNat_lt y; omega
  clear hD hL
  obtain ⟨rb, ro, hao, hrb, hcell⟩ := h.rest.open (by simp)
  subst hao
  have c0 := h.c0
  have cx := hcell 0 (by simp)
  have cy := hcell 1 (by simp)
  simp only [Nat.add_zero, List.getD_cons_zero, List.getD_cons_succ] at cx cy
  simp only [List.length_cons] at c0
  have hq : ¬ (((r.length + 1 + 1 : Nat) : Int) < 2) := by omega
  have hb0 : ¬ ((r.length : Int) + 1 + 1 ≤ 0) := by omega
  have hb1 : ¬ ((r.length : Int) + 1 + 1 ≤ 1) := by omega
  have H : Hid (Up w U (some ⟨rb, ro, none⟩) rc (x :: y :: r) bo bc out most) := h
  have hUl := h.lt
  clear h hcell
  have HD : Hid (∀ W, Calls Try.prog 48 #[.int .u8 x.toNat, .int .u8 y.toNat] W fun e w' => e = .returned (mv D L) ∧ Kept [] W w') := hdec
  clear hdec
  go_enter Try.func42, Try.ntmps42
  go_wp2
  refine wp_region_late (fun w' => Kept [] w w') (fun i => decide (14 ≤ i)) (by kernel_rfl) ?_
  have h0 : Kept [] w w.drew := (Kept.refl [] w).drew
  generalize World.drew w = v0 at h0 ⊢
  refine wpAnyL_free (i := 0) (v := .pointer (some ⟨U, 0, none⟩)) rfl (by kernel_rfl) (by kernel_rfl) (by kernel_rfl) (fun _ _ _ h => h) (Or.inl ⟨by rfl, fun w _ => by go_simp⟩) ?_
  try simp only [List.getElem_toArray, List.getElem_cons_zero, List.getElem_cons_succ, Act.put, List.setIfInBounds_toArray, List.set_cons_zero, List.set_cons_succ]
  refine wpAnyL_free (i := 1) (v := .pointer (some ⟨U, 0, none⟩)) rfl (by kernel_rfl) (by kernel_rfl) (by kernel_rfl) (fun _ _ _ h => h) (Or.inl ⟨by rfl, fun w _ => by go_simp⟩) ?_
  try simp only [List.getElem_toArray, List.getElem_cons_zero, List.getElem_cons_succ, Act.put, List.setIfInBounds_toArray, List.set_cons_zero, List.set_cons_succ]
  refine wpAnyL_free (i := 2) (v := .pointer (some ⟨U, 0, none⟩)) rfl (by kernel_rfl) (by kernel_rfl) (by kernel_rfl) (fun _ _ _ h => h) (Or.inl ⟨by rfl, fun w _ => by go_simp⟩) ?_
  try simp only [List.getElem_toArray, List.getElem_cons_zero, List.getElem_cons_succ, Act.put, List.setIfInBounds_toArray, List.set_cons_zero, List.set_cons_succ]
  refine wpAnyL_take (i := 3) (v := .slice (some ⟨rb, ro, none⟩) (r.length + 1 + 1) rc) rfl (by kernel_rfl) (by kernel_rfl) (by kernel_rfl) (by kernel_rfl) (by kernel_rfl) (fun _ _ _ h => h) (Or.inl ⟨by rfl, fun w hSw => by have c := Kept.cellOf hSw c0 (by simp); go_simp⟩) h0 ?_
  try simp only [List.getElem_toArray, List.getElem_cons_zero, List.getElem_cons_succ, Act.put, List.setIfInBounds_toArray, List.set_cons_zero, List.set_cons_succ]
  refine wpAnyL_free (i := 4) (v := .pointer (some ⟨rb, ro, none⟩)) rfl (by kernel_rfl) (by kernel_rfl) (by kernel_rfl) (fun _ _ _ h => h) (Or.inl ⟨by rfl, fun w _ => by go_simp⟩) ?_
  try simp only [List.getElem_toArray, List.getElem_cons_zero, List.getElem_cons_succ, Act.put, List.setIfInBounds_toArray, List.set_cons_zero, List.set_cons_succ]
  refine wpAnyL_take (i := 5) (v := .int .u8 x.toNat) rfl (by kernel_rfl) (by kernel_rfl) (by kernel_rfl) (by kernel_rfl) (by kernel_rfl) (fun _ _ _ h => h) (Or.inl ⟨by rfl, fun w hSw => by have c := Kept.cellOf hSw cx (by simp); go_simp⟩) h0 ?_
  try simp only [List.getElem_toArray, List.getElem_cons_zero, List.getElem_cons_succ, Act.put, List.setIfInBounds_toArray, List.set_cons_zero, List.set_cons_succ]
  refine wpAnyL_free (i := 6) (v := .pointer (some ⟨U, 0, none⟩)) rfl (by kernel_rfl) (by kernel_rfl) (by kernel_rfl) (fun _ _ _ h => h) (Or.inl ⟨by rfl, fun w _ => by go_simp⟩) ?_
  try simp only [List.getElem_toArray, List.getElem_cons_zero, List.getElem_cons_succ, Act.put, List.setIfInBounds_toArray, List.set_cons_zero, List.set_cons_succ]
  refine wpAnyL_free (i := 7) (v := .pointer (some ⟨U, 0, none⟩)) rfl (by kernel_rfl) (by kernel_rfl) (by kernel_rfl) (fun _ _ _ h => h) (Or.inl ⟨by rfl, fun w _ => by go_simp⟩) ?_
  try simp only [List.getElem_toArray, List.getElem_cons_zero, List.getElem_cons_succ, Act.put, List.setIfInBounds_toArray, List.set_cons_zero, List.set_cons_succ]
  refine wpAnyL_free (i := 8) (v := .pointer (some ⟨U, 0, none⟩)) rfl (by kernel_rfl) (by kernel_rfl) (by kernel_rfl) (fun _ _ _ h => h) (Or.inl ⟨by rfl, fun w _ => by go_simp⟩) ?_
  try simp only [List.getElem_toArray, List.getElem_cons_zero, List.getElem_cons_succ, Act.put, List.setIfInBounds_toArray, List.set_cons_zero, List.set_cons_succ]
  refine wpAnyL_take (i := 9) (v := .slice (some ⟨rb, ro, none⟩) (r.length + 1 + 1) rc) rfl (by kernel_rfl) (by kernel_rfl) (by kernel_rfl) (by kernel_rfl) (by kernel_rfl) (fun _ _ _ h => h) (Or.inl ⟨by rfl, fun w hSw => by have c := Kept.cellOf hSw c0 (by simp); go_simp⟩) h0 ?_
  try simp only [List.getElem_toArray, List.getElem_cons_zero, List.getElem_cons_succ, Act.put, List.setIfInBounds_toArray, List.set_cons_zero, List.set_cons_succ]
  refine wpAnyL_free (i := 10) (v := .pointer (some ⟨rb, ro + 1, none⟩)) rfl (by kernel_rfl) (by kernel_rfl) (by kernel_rfl) (fun _ _ _ h => h) (Or.inl ⟨by rfl, fun w _ => by go_simp⟩) ?_
  try simp only [List.getElem_toArray, List.getElem_cons_zero, List.getElem_cons_succ, Act.put, List.setIfInBounds_toArray, List.set_cons_zero, List.set_cons_succ]
  refine wpAnyL_take (i := 11) (v := .int .u8 y.toNat) rfl (by kernel_rfl) (by kernel_rfl) (by kernel_rfl) (by kernel_rfl) (by kernel_rfl) (fun _ _ _ h => h) (Or.inl ⟨by rfl, fun w hSw => by have c := Kept.cellOf hSw cy (by simp); go_simp⟩) h0 ?_
  try simp only [List.getElem_toArray, List.getElem_cons_zero, List.getElem_cons_succ, Act.put, List.setIfInBounds_toArray, List.set_cons_zero, List.set_cons_succ]
  refine wpAnyL_two (i := 12) (j := 13) (by kernel_rfl) rfl rfl (fun K hK => ?_) (fun K hK => ?_)
  case' refine_1 =>
    rw [if_pos (by rfl)]
    go_simp
    refine (HD.out _).mono ?_
    rintro e v1 ⟨rfl, hk⟩
    have h1 := h0.trans hk (by simp)
    refine hK.out _ _ (fun _ _ => h1) ?_
    clear hK K
    try simp only [List.getElem_toArray, List.getElem_cons_zero, List.getElem_cons_succ, Act.put, List.setIfInBounds_toArray, List.set_cons_zero, List.set_cons_succ]
    clear hk
    refine wpAnyL_one (i := 13) (by kernel_rfl) rfl (fun K hK => ?_)
    rw [if_pos (by rfl)]
    go_simp
    refine hK.out _ _ (fun _ _ => h1.alloc _) ?_
    have h2 := h1.alloc (.cells #[.int .i64 0, .int .i64 0] 91)
    clear hK K
    try simp only [List.getElem_toArray, List.getElem_cons_zero, List.getElem_cons_succ, Act.put, List.setIfInBounds_toArray, List.set_cons_zero, List.set_cons_succ]
    have hm : (v1.alloc (.cells #[.int .i64 0, .int .i64 0] 91)).heap[v1.heap.size]? = some (.cells #[.int .i64 0, .int .i64 0] 91) := (MapKept.heap_alloc _ _).1
    have hMl : w.heap.size ≤ v1.heap.size := h1.size
    generalize v1.alloc (.cells #[.int .i64 0, .int .i64 0] 91) = v2 at h2 hm ⊢
    generalize v1.heap.size = M at hm hMl ⊢
    clear h1 h0
  case' refine_2 =>
    rw [if_pos (by rfl)]
    go_simp
    refine hK.out _ _ (fun _ _ => h0.alloc _) ?_
    have h1 := h0.alloc (.cells #[.int .i64 0, .int .i64 0] 91)
    clear hK K
    try simp only [List.getElem_toArray, List.getElem_cons_zero, List.getElem_cons_succ, Act.put, List.setIfInBounds_toArray, List.set_cons_zero, List.set_cons_succ]
    have hm1 : (v0.alloc (.cells #[.int .i64 0, .int .i64 0] 91)).heap[v0.heap.size]? = some (.cells #[.int .i64 0, .int .i64 0] 91) := (MapKept.heap_alloc _ _).1
    have hMl : w.heap.size ≤ v0.heap.size := h0.size
    generalize v0.alloc (.cells #[.int .i64 0, .int .i64 0] 91) = v1 at h1 hm1 ⊢
    generalize v0.heap.size = M at hm1 hMl ⊢
    refine wpAnyL_one (i := 12) (by kernel_rfl) rfl (fun K hK => ?_)
    rw [if_pos (by rfl)]
    go_simp
    refine (HD.out _).mono ?_
    rintro e v2 ⟨rfl, hk⟩
    have h2 := h1.trans hk (by simp)
    refine hK.out _ _ (fun _ _ => h2) ?_
    clear hK K
    try simp only [List.getElem_toArray, List.getElem_cons_zero, List.getElem_cons_succ, Act.put, List.setIfInBounds_toArray, List.set_cons_zero, List.set_cons_succ]
    have hm : v2.heap[M]? = some (.cells #[.int .i64 0, .int .i64 0] 91) := (hk.block M (Array.getElem?_eq_some_iff.1 hm1).1 (by simp)).trans hm1
    clear hk hm1 h1 h0
  all_goals
    have m0 : v2.cell? ⟨M, 0, none⟩ = some (.int .i64 0) := by rw [cell_of_row v2 M 0 _ _ _ hm]; rfl
    have m1 : v2.cell? ⟨M, 1, none⟩ = some (.int .i64 0) := by rw [cell_of_row v2 M 1 _ _ _ hm]; rfl
    have n0 : v2.frozen? ⟨M, 0, none⟩ = false := frozen_of_row v2 M 0 _ _ hm
    have n1 : v2.frozen? ⟨M, 1, none⟩ = false := frozen_of_row v2 M 1 _ _ hm
    have hs : (v2.setCell ⟨M, 0, none⟩ (.int .i64 D)).heap[M]? = some (.cells #[.int .i64 D, .int .i64 0] 91 (0, 0)) := heap_setCell_same v2 M 0 _ _ _ hm
    have HM : Hid (Mb ((v2.setCell ⟨M, 0, none⟩ (.int .i64 D)).setCell ⟨M, 1, none⟩ (.int .i64 L)) M D L) := heap_setCell_same _ M 1 _ _ _ hs
    have HK : Hid (Kept [] w ((v2.setCell ⟨M, 0, none⟩ (.int .i64 D)).setCell ⟨M, 1, none⟩ (.int .i64 L))) := (h2.setCell (p := ⟨M, 0, none⟩) (by simp; omega) _).setCell (p := ⟨M, 1, none⟩) (by simp; omega) _
    clear hs hm
    refine wpAnyL_one (i := 14) (by kernel_rfl) rfl (fun K hK => ?_)
    rw [if_pos (by rfl)]
    unfold mv
    go_simp
    refine hK.out _ _ (fun _ h => by cases h) ?_
    clear hK K m0 m1 n0 n1 h2 c0 cx cy
    try simp only [List.getElem_toArray, List.getElem_cons_zero, List.getElem_cons_succ, Act.put, List.setIfInBounds_toArray, List.set_cons_zero, List.set_cons_succ]
    refine wpAnyL_done (by kernel_rfl) ?_ _
    generalize (v2.setCell ⟨M, 0, none⟩ (.int .i64 D)).setCell ⟨M, 1, none⟩ (.int .i64 L) = w3 at HM HK ⊢
    have H3 : Hid (Up w3 U (some ⟨rb, ro, none⟩) rc (x :: y :: r) bo bc out most) := H.out.kept HK.out
    have hUM : U < M := by omega
    have HUL : Hid (U < w.heap.size) := hUl
    clear H HD hb0 hb1 hq hMl hUl hrb v2
    have d0 := HM.out.c0
    have d1 := HM.out.c1
    have u1 := H3.out.c1
    have u2 := H3.out.c2
    go_wp2
    rcases Nat.lt_or_ge out.length D with hfar | hnf
    · have hq1 : (out.length : Int) < (D : Int) := by omega
      clear d1 u2
      go_quiet (fail)
      have K4 : Hid (Kept [] w (w3.drewN nq)) := HK.out.drewN nq
      clear HM HK H3 d0 u1
      generalize w3.drewN nq = w4 at K4 ⊢
      go_wp2
      go_ret
      exact ⟨fun _ => ⟨rfl, K4.out⟩, fun h => by omega, fun h => by omega⟩
    · have hq1 : ¬ ((out.length : Int) < (D : Int)) := by omega
      go_quiet (fail)
      have K4 : Hid (Kept [] w (w3.drewN nq)) := HK.out.drewN nq
      have H4 : Hid (Up (w3.drewN nq) U (some ⟨rb, ro, none⟩) rc (x :: y :: r) bo bc out most) := H3.out.drewN nq
      have M4 : Hid (Mb (w3.drewN nq) M D L) := HM.out.kept ((Kept.refl [] w3).drewN nq)
      clear HM HK H3 d0 d1 u1 u2
      generalize w3.drewN nq = w4 at K4 H4 M4 ⊢
      have d1 := M4.out.c1
      have u1 := H4.out.c1
      have u2 := H4.out.c2
      have hs1 := H4.out.le
      have hs2 := H4.out.small
      go_wp2
      rcases Nat.lt_or_ge most (out.length + L) with hlong | hnl
      · have hq2 : (most : Int) < (out.length : Int) + (L : Int) := by omega
        have hq3 : IntKind.i64.wrap ((out.length : Int) + (L : Int)) = (out.length : Int) + (L : Int) := by simp [IntKind.wrap, IntKind.bits, IntKind.signed]; omega
        go_quiet (fail)
        have K5 : Hid (Kept [] w (w4.drewN nq)) := K4.out.drewN nq
        clear K4 H4 M4 d1 u1 u2
        generalize w4.drewN nq = w5 at K5 ⊢
        go_wp2
        go_ret
        exact ⟨fun h => by omega, fun _ _ => ⟨rfl, K5.out⟩, fun _ h => by omega⟩
      · have hq2 : ¬ ((most : Int) < (out.length : Int) + (L : Int)) := by omega
        have hq3 : IntKind.i64.wrap ((out.length : Int) + (L : Int)) = (out.length : Int) + (L : Int) := by simp [IntKind.wrap, IntKind.bits, IntKind.signed]; omega
        go_quiet (fail)
        have B5 : Hid (Below U w (w4.drewN nq)) := (K4.out.drewN nq).below (Nat.le_of_lt HUL.out) (by simp)
        have H5 : Hid (Up (w4.drewN nq) U (some ⟨rb, ro, none⟩) rc (x :: y :: r) bo bc out most) := H4.out.drewN nq
        have M5 : Hid (Mb (w4.drewN nq) M D L) := M4.out.kept ((Kept.refl [] w4).drewN nq)
        clear K4 H4 M4 d1 u1 u2 hq2 hq3 hq1
        generalize w4.drewN nq = w5 at B5 H5 M5 ⊢
        have d1 := M5.out.c1
        have HNF : Hid (D ≤ out.length) := hnf
        have HNL : Hid (out.length + L ≤ most ∧ most ≤ 4096) := ⟨hnl, hs2⟩
        clear hnf hnl hs1 hs2
        go_wp2
        go_loopw [46] (fun i wr => ∃ k : Nat, k ≤ L ∧ i = .int .i64 k ∧ Hid (Ur w wr U M D L (some ⟨rb, ro, none⟩) rc (x :: y :: r) out most k)) (fun i _ => L - (intOf i).toNat)
        case atStart => exact ⟨0, Nat.zero_le _, rfl, bo, bc, H5.out, M5.out, B5.out⟩
        case round =>
          clear B5 H5 M5 d1
          obtain ⟨k, hk, rfl, HR⟩ := hrel
          obtain ⟨bo2, bc2, hU, hM, hB⟩ := HR.out
          by_cases hkl : k < L
          · have hq1 : ((k : Int) < (L : Int)) := by omega
            have d0 := hM.c0
            have u1 := hU.c1
            have hl0 : (Prs.copied D k out).length = out.length + k := Prs.copied_len D k out
            obtain ⟨o2, ho2⟩ : ∃ o2, Prs.copied D k out = o2 := ⟨_, rfl⟩
            have HS : Hid (Prs.copied D (k + 1) out = o2 ++ [o2.getD (o2.length - D) 0]) := by
              show _ = _
              rw [Prs.copied_snoc, ho2]
            rw [ho2] at hU u1 hl0
            clear HR ho2
            obtain ⟨j, hj⟩ : ∃ j, j = o2.length - D := ⟨_, rfl⟩
            rw [← hj] at HS
            have hnf := HNF.out
            have hnl := HNL.out
            have hj1 : j < o2.length := by omega
            have hj2 : IntKind.i64.wrap ((o2.length : Int) - (D : Int)) = (j : Int) := by simp [IntKind.wrap, IntKind.bits, IntKind.signed]; omega
            have hj3 : (j : Int) < (o2.length : Int) := by omega
            clear hj
            obtain ⟨hosl, hocap, honil, hoab⟩ := own_slc hU.own
            obtain ⟨gb, go, hbo, _, hcl⟩ := hosl.open (by rintro rfl; simp at hj1)
            have hgo : go = 0 := by
              rcases hU.own.2 with ⟨e, _⟩ | ⟨g1, c1, cur, e, _⟩
              · rw [hbo] at e; cases e
              · rw [hbo] at e; injection e with e _ _; injection e with e; injection e with _ e _
            subst hgo
            subst hbo
            have cz := hcl j hj1
            simp only [Nat.zero_add] at cz
            generalize hz : o2.getD j 0 = z at cz HS
            clear hz hcl hosl hocap honil hoab
            have HUP : Hid (Up wr U (some ⟨rb, ro, none⟩) rc (x :: y :: r) (some ⟨gb, 0, none⟩) bc2 o2 most ∧ Mb wr M D L ∧ Below U w wr) := ⟨hU, hM, hB⟩
            have HUR : Hid (U < wr.heap.size ∧ o2.length < most) := ⟨hU.lt, by omega⟩
            have HNU : Hid (U ≠ M) := by show U ≠ M; omega
            clear hU hM hB hnf hnl hl0
            generalize hno : o2.length = n at *
            go_wp2
            refine wp_region_late (fun w' => Kept [] wr w') (fun i => decide (20 ≤ i)) (by kernel_rfl) ?_
            have h0 : Kept [] wr wr.drew := (Kept.refl [] wr).drew
            generalize World.drew wr = v0 at h0 ⊢
            refine wpAnyL_free (i := 0) (v := .pointer (some ⟨U, 0, none⟩)) rfl (by kernel_rfl) (by kernel_rfl) (by kernel_rfl) (fun _ _ _ h => h) (Or.inl ⟨by rfl, fun w _ => by go_simp⟩) ?_
            try simp only [List.getElem_toArray, List.getElem_cons_zero, List.getElem_cons_succ, Act.put, List.setIfInBounds_toArray, List.set_cons_zero, List.set_cons_succ]
            refine wpAnyL_free (i := 1) (v := .pointer (some ⟨U, 0, none⟩)) rfl (by kernel_rfl) (by kernel_rfl) (by kernel_rfl) (fun _ _ _ h => h) (Or.inl ⟨by rfl, fun w _ => by go_simp⟩) ?_
            try simp only [List.getElem_toArray, List.getElem_cons_zero, List.getElem_cons_succ, Act.put, List.setIfInBounds_toArray, List.set_cons_zero, List.set_cons_succ]
            refine wpAnyL_free (i := 2) (v := .pointer (some ⟨U, 0, none⟩)) rfl (by kernel_rfl) (by kernel_rfl) (by kernel_rfl) (fun _ _ _ h => h) (Or.inl ⟨by rfl, fun w _ => by go_simp⟩) ?_
            try simp only [List.getElem_toArray, List.getElem_cons_zero, List.getElem_cons_succ, Act.put, List.setIfInBounds_toArray, List.set_cons_zero, List.set_cons_succ]
            refine wpAnyL_free (i := 3) (v := .pointer (some ⟨U, 1, none⟩)) rfl (by kernel_rfl) (by kernel_rfl) (by kernel_rfl) (fun _ _ _ h => h) (Or.inl ⟨by rfl, fun w _ => by go_simp⟩) ?_
            try simp only [List.getElem_toArray, List.getElem_cons_zero, List.getElem_cons_succ, Act.put, List.setIfInBounds_toArray, List.set_cons_zero, List.set_cons_succ]
            refine wpAnyL_take (i := 4) (v := .slice (some ⟨gb, 0, none⟩) n bc2) rfl (by kernel_rfl) (by kernel_rfl) (by kernel_rfl) (by kernel_rfl) (by kernel_rfl) (fun _ _ _ h => h) (Or.inl ⟨by rfl, fun w hSw => by have c := Kept.cellOf hSw u1 (by simp); go_simp⟩) h0 ?_
            try simp only [List.getElem_toArray, List.getElem_cons_zero, List.getElem_cons_succ, Act.put, List.setIfInBounds_toArray, List.set_cons_zero, List.set_cons_succ]
            refine wpAnyL_free (i := 5) (v := .pointer (some ⟨U, 0, none⟩)) rfl (by kernel_rfl) (by kernel_rfl) (by kernel_rfl) (fun _ _ _ h => h) (Or.inl ⟨by rfl, fun w _ => by go_simp⟩) ?_
            try simp only [List.getElem_toArray, List.getElem_cons_zero, List.getElem_cons_succ, Act.put, List.setIfInBounds_toArray, List.set_cons_zero, List.set_cons_succ]
            refine wpAnyL_free (i := 6) (v := .pointer (some ⟨U, 0, none⟩)) rfl (by kernel_rfl) (by kernel_rfl) (by kernel_rfl) (fun _ _ _ h => h) (Or.inl ⟨by rfl, fun w _ => by go_simp⟩) ?_
            try simp only [List.getElem_toArray, List.getElem_cons_zero, List.getElem_cons_succ, Act.put, List.setIfInBounds_toArray, List.set_cons_zero, List.set_cons_succ]
            refine wpAnyL_free (i := 7) (v := .pointer (some ⟨U, 1, none⟩)) rfl (by kernel_rfl) (by kernel_rfl) (by kernel_rfl) (fun _ _ _ h => h) (Or.inl ⟨by rfl, fun w _ => by go_simp⟩) ?_
            try simp only [List.getElem_toArray, List.getElem_cons_zero, List.getElem_cons_succ, Act.put, List.setIfInBounds_toArray, List.set_cons_zero, List.set_cons_succ]
            refine wpAnyL_take (i := 8) (v := .slice (some ⟨gb, 0, none⟩) n bc2) rfl (by kernel_rfl) (by kernel_rfl) (by kernel_rfl) (by kernel_rfl) (by kernel_rfl) (fun _ _ _ h => h) (Or.inl ⟨by rfl, fun w hSw => by have c := Kept.cellOf hSw u1 (by simp); go_simp⟩) h0 ?_
            try simp only [List.getElem_toArray, List.getElem_cons_zero, List.getElem_cons_succ, Act.put, List.setIfInBounds_toArray, List.set_cons_zero, List.set_cons_succ]
            refine wpAnyL_free (i := 9) (v := .pointer (some ⟨U, 0, none⟩)) rfl (by kernel_rfl) (by kernel_rfl) (by kernel_rfl) (fun _ _ _ h => h) (Or.inl ⟨by rfl, fun w _ => by go_simp⟩) ?_
            try simp only [List.getElem_toArray, List.getElem_cons_zero, List.getElem_cons_succ, Act.put, List.setIfInBounds_toArray, List.set_cons_zero, List.set_cons_succ]
            refine wpAnyL_free (i := 10) (v := .pointer (some ⟨U, 0, none⟩)) rfl (by kernel_rfl) (by kernel_rfl) (by kernel_rfl) (fun _ _ _ h => h) (Or.inl ⟨by rfl, fun w _ => by go_simp⟩) ?_
            try simp only [List.getElem_toArray, List.getElem_cons_zero, List.getElem_cons_succ, Act.put, List.setIfInBounds_toArray, List.set_cons_zero, List.set_cons_succ]
            refine wpAnyL_free (i := 11) (v := .pointer (some ⟨U, 1, none⟩)) rfl (by kernel_rfl) (by kernel_rfl) (by kernel_rfl) (fun _ _ _ h => h) (Or.inl ⟨by rfl, fun w _ => by go_simp⟩) ?_
            try simp only [List.getElem_toArray, List.getElem_cons_zero, List.getElem_cons_succ, Act.put, List.setIfInBounds_toArray, List.set_cons_zero, List.set_cons_succ]
            refine wpAnyL_take (i := 12) (v := .slice (some ⟨gb, 0, none⟩) n bc2) rfl (by kernel_rfl) (by kernel_rfl) (by kernel_rfl) (by kernel_rfl) (by kernel_rfl) (fun _ _ _ h => h) (Or.inl ⟨by rfl, fun w hSw => by have c := Kept.cellOf hSw u1 (by simp); go_simp⟩) h0 ?_
            try simp only [List.getElem_toArray, List.getElem_cons_zero, List.getElem_cons_succ, Act.put, List.setIfInBounds_toArray, List.set_cons_zero, List.set_cons_succ]
            refine wpAnyL_free (i := 13) (v := .int .i64 n) rfl (by kernel_rfl) (by kernel_rfl) (by kernel_rfl) (fun _ _ _ h => h) (Or.inl ⟨by rfl, fun w _ => by go_simp⟩) ?_
            try simp only [List.getElem_toArray, List.getElem_cons_zero, List.getElem_cons_succ, Act.put, List.setIfInBounds_toArray, List.set_cons_zero, List.set_cons_succ]
            refine wpAnyL_free (i := 14) (v := .pointer (some ⟨M, 0, none⟩)) rfl (by kernel_rfl) (by kernel_rfl) (by kernel_rfl) (fun _ _ _ h => h) (Or.inl ⟨by rfl, fun w _ => by go_simp⟩) ?_
            try simp only [List.getElem_toArray, List.getElem_cons_zero, List.getElem_cons_succ, Act.put, List.setIfInBounds_toArray, List.set_cons_zero, List.set_cons_succ]
            refine wpAnyL_take (i := 15) (v := .int .i64 D) rfl (by kernel_rfl) (by kernel_rfl) (by kernel_rfl) (by kernel_rfl) (by kernel_rfl) (fun _ _ _ h => h) (Or.inl ⟨by rfl, fun w hSw => by have c := Kept.cellOf hSw d0 (by simp); go_simp⟩) h0 ?_
            try simp only [List.getElem_toArray, List.getElem_cons_zero, List.getElem_cons_succ, Act.put, List.setIfInBounds_toArray, List.set_cons_zero, List.set_cons_succ]
            refine wpAnyL_free (i := 16) (v := .int .i64 j) rfl (by kernel_rfl) (by kernel_rfl) (by kernel_rfl) (fun _ _ _ h => h) (Or.inl ⟨by rfl, fun w _ => by go_simp⟩) ?_
            try simp only [List.getElem_toArray, List.getElem_cons_zero, List.getElem_cons_succ, Act.put, List.setIfInBounds_toArray, List.set_cons_zero, List.set_cons_succ]
            refine wpAnyL_free (i := 17) (v := .pointer (some ⟨gb, j, none⟩)) rfl (by kernel_rfl) (by kernel_rfl) (by kernel_rfl) (fun _ _ _ h => h) (Or.inl ⟨by rfl, fun w _ => by go_simp⟩) ?_
            try simp only [List.getElem_toArray, List.getElem_cons_zero, List.getElem_cons_succ, Act.put, List.setIfInBounds_toArray, List.set_cons_zero, List.set_cons_succ]
            refine wpAnyL_take (i := 18) (v := .int .u8 z.toNat) rfl (by kernel_rfl) (by kernel_rfl) (by kernel_rfl) (by kernel_rfl) (by kernel_rfl) (fun _ _ _ h => h) (Or.inl ⟨by rfl, fun w hSw => by have c := Kept.cellOf hSw cz (by simp); go_simp⟩) h0 ?_
            try simp only [List.getElem_toArray, List.getElem_cons_zero, List.getElem_cons_succ, Act.put, List.setIfInBounds_toArray, List.set_cons_zero, List.set_cons_succ]
            refine wpAnyL_one (i := 19) (by kernel_rfl) rfl (fun K hK => ?_)
            rw [if_pos (by rfl)]
            go_simp
            refine hK.out _ _ (fun _ _ => h0.alloc _) ?_
            clear hK K
            have h1 : Kept [] wr (v0.alloc (.cells #[.int .u8 z.toNat] 5)) := h0.alloc _
            try simp only [List.getElem_toArray, List.getElem_cons_zero, List.getElem_cons_succ, Act.put, List.setIfInBounds_toArray, List.set_cons_zero, List.set_cons_succ]
            have H2 : Hid (Up (v0.alloc (.cells #[.int .u8 z.toNat] 5)) U (some ⟨rb, ro, none⟩) rc (x :: y :: r) (some ⟨gb, 0, none⟩) bc2 o2 most ∧ Mb (v0.alloc (.cells #[.int .u8 z.toNat] 5)) M D L ∧ Below U w (v0.alloc (.cells #[.int .u8 z.toNat] 5))) := ⟨HUP.out.1.kept h1, HUP.out.2.1.kept h1, HUP.out.2.2.trans (h1.below (Nat.le_of_lt HUR.out.1) (by simp))⟩
            have y2 : Sl (v0.alloc (.cells #[.int .u8 z.toNat] 5)) (some ⟨v0.heap.size, 0, none⟩) [z] := Sl.of (fun i hi => by obtain rfl : i = 0 := (by simpa using hi); rw [World.cell?_alloc_new]; rfl)
            obtain ⟨g, c, w3', hrun, hown3, hg3⟩ := run_append1 _ (U + 1) _ bc2 o2 [z] v0.heap.size 1 H2.out.1.own y2 rfl (by decide) (by have := HUR.out.2; have := HNL.out.2; omega) (by have := H2.out.1.lt; omega)
            have hfin := H2.out.1.grown hg3 hown3 (by have := HUR.out.2; simp; omega)
            have HM3 : Hid (Mb w3' M D L) := H2.out.2.1.grown H2.out.1.own hg3
            rw [hno, show (o2 ++ [z]).length = n + 1 by simp [hno]] at hrun
            refine wpAnyL_one (i := 20) (by kernel_rfl) rfl (fun K hK => ?_)
            rw [if_pos (by rfl)]
            refine wp_append_run (.tmp 52) (.tmp 67) 23 rfl _ _ rfl rfl _ _ hrun ?_
            refine hK.out _ _ (fun _ h => by cases h) ?_
            clear hK K
            try simp only [List.getElem_toArray, List.getElem_cons_zero, List.getElem_cons_succ, Act.put, List.setIfInBounds_toArray, List.set_cons_zero, List.set_cons_succ]
            obtain ⟨hU4, hB4, c4, f4⟩ := hfin
            rw [hno] at c4
            have HU4 : Hid (Up (w3'.setCell ⟨U, 1, none⟩ (.slice (some ⟨g, 0, none⟩) (o2 ++ [z]).length c)) U (some ⟨rb, ro, none⟩) rc (x :: y :: r) (some ⟨g, 0, none⟩) c (o2 ++ [z]) most ∧ Mb (w3'.setCell ⟨U, 1, none⟩ (.slice (some ⟨g, 0, none⟩) (o2 ++ [z]).length c)) M D L ∧ Below U w (w3'.setCell ⟨U, 1, none⟩ (.slice (some ⟨g, 0, none⟩) (o2 ++ [z]).length c))) := ⟨hU4, HM3.out.set HNU.out 1 _, H2.out.2.2.trans hB4⟩
            clear hU4 hB4 H2 y2 hrun hown3 hg3 h0 h1 HUP HM3 u1 d0 cz
            refine wpAnyL_one (i := 21) (by kernel_rfl) rfl (fun K hK => ?_)
            rw [if_pos (by rfl)]
            go_simp
            refine hK.out _ _ (fun _ h => by cases h) ?_
            clear hK K
            try simp only [List.getElem_toArray, List.getElem_cons_zero, List.getElem_cons_succ, Act.put, List.setIfInBounds_toArray, List.set_cons_zero, List.set_cons_succ]
            refine wpAnyL_one (i := 22) (by kernel_rfl) rfl (fun K hK => ?_)
            rw [if_pos (by rfl)]
            go_simp
            refine hK.out _ _ (fun _ h => by cases h) ?_
            clear hK K
            try simp only [List.getElem_toArray, List.getElem_cons_zero, List.getElem_cons_succ, Act.put, List.setIfInBounds_toArray, List.set_cons_zero, List.set_cons_succ]
            refine wpAnyL_one (i := 23) (by kernel_rfl) rfl (fun K hK => ?_)
            rw [if_pos (by rfl)]
            go_simp
            refine hK.out _ _ (fun _ h => by cases h) ?_
            clear hK K
            try simp only [List.getElem_toArray, List.getElem_cons_zero, List.getElem_cons_succ, Act.put, List.setIfInBounds_toArray, List.set_cons_zero, List.set_cons_succ]
            refine wpAnyL_done (by kernel_rfl) ?_ _
            have hlen1 : (o2 ++ [z]).length = n + 1 := by simp [hno]
            rw [hlen1] at HU4
            generalize w3'.setCell ⟨U, 1, none⟩ (.slice (some ⟨g, 0, none⟩) (n + 1) c) = w4 at HU4 ⊢
            go_wp2
            go_roundw
            case rel => exact ⟨k + 1, by omega, by go_num, _, _, by rw [HS.out]; exact HU4.out.1, HU4.out.2.1, HU4.out.2.2⟩
            case measure => simp [intOf]; omega
          · have hkL : k = L := by omega
            subst hkL
            have hq1 : ¬ ((k : Int) < (k : Int)) := by omega
            clear HR
            have u0 := hU.c0
            have f0 := hU.fr 0
            obtain ⟨ao', rc', hcut, hU5, hB5⟩ := hU.cut 2 (by simp) (by decide)
            simp only [List.length_cons, List.drop_succ_cons, List.drop_zero] at hcut hU5 hB5 u0
            have hcut1 : ∀ W, (Instr.slice 23 (.slice (some ⟨rb, ro, none⟩) (r.length + 1 + 1) rc) (some (.int .i64 2)) none none).run Try.prog W = .ok (.slice ao' r.length rc') W := hcut
            have HU5 : Hid (Up (wr.setCell ⟨U, 0, none⟩ (.slice ao' r.length rc')) U ao' rc' r bo2 bc2 (Prs.copied D k out) most ∧ Below U w (wr.setCell ⟨U, 0, none⟩ (.slice ao' r.length rc'))) := ⟨hU5, hB.trans hB5⟩
            clear hcut hU5 hB5 hU hM hB
            go_wp2
            go_ret
            exact ⟨fun h => by have := HNF.out; omega, fun _ h => by have := HNL.out; omega, fun _ _ => ⟨rfl, ⟨_, _, _, _, HU5.out.1⟩, HU5.out.2⟩⟩

end Go.Proofs.Ytdnbpklnkmgmkaa
