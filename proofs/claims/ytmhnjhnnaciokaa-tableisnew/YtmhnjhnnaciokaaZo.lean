/-
  Rows of ids; a union under way. Contract: union.add.
-/
import Derived.Test.YtmhnjhnnaciokaaZn
namespace Go.Proofs.Ytmhnjhnnaciokaa
open Go.RowKit Go.Sort
set_option linter.unusedVariables false
set_option linter.unusedSimpArgs false

/-- The cells of ids, one behind the other. -/
def idrows (C : List (List UInt8)) : List Value := C.flatMap bys
theorem idrows_snoc (C : List (List UInt8)) (i : List UInt8) : idrows (C ++ [i]) = idrows C ++ bys i := by simp [idrows]
theorem idrows_len {C : List (List UInt8)} (h : ∀ i ∈ C, i.length = 32) : (idrows C).length = C.length * 32 := by
  induction C with
  | nil => rfl
  | cons i r ih =>
    have h1 := h i (by simp)
    have := ih (fun x hx => h x (by simp [hx]))
    simp only [idrows, List.flatMap_cons, List.length_append, List.length_cons, bys_length] at this ⊢
    omega
/-- Ids in memory of a call's own. -/
def OwnI (w : World) (base : Nat) (v : Value) (C : List (List UInt8)) : Prop := w.ownsRow base 24 32 v C.length (idrows C) ∧ ∀ i ∈ C, i.length = 32
theorem own_kept {l : List Nat} {w w' : World} {base : Nat} {t : TypeId} {s : Nat} {v : Value} {n : Nat} {xs : List Value} (h : w.ownsRow base t s v n xs) (hk : Kept l w w') (hn : ∀ g, v.ownBlock = some g → g ∉ l) : w'.ownsRow base t s v n xs := by
  refine ⟨h.1, ?_⟩
  rcases h.2 with h0 | ⟨g, cap, cur, hv, hb, hg, rest⟩
  · exact .inl h0
  · refine .inr ⟨g, cap, cur, hv, hb, ?_, rest⟩
    rw [hk.block g (Array.getElem?_eq_some_iff.1 hg).1 (hn g (by rw [hv]; rfl))]
    exact hg
theorem own_lt {w : World} {base : Nat} {t : TypeId} {s : Nat} {v : Value} {n : Nat} {xs : List Value} (h : w.ownsRow base t s v n xs) {g : Nat} (hg : v.ownBlock = some g) : base ≤ g ∧ g < w.heap.size := by
  rcases h.2 with ⟨rfl, _⟩ | ⟨g', cap, cur, rfl, hb, hh, _⟩
  · cases hg
  · simp only [Value.ownBlock, Option.some.injEq] at hg
    subst hg
    exact ⟨hb, (Array.getElem?_eq_some_iff.1 hh).1⟩
def zeroU : Array Value := #[.slice none 0 0, .slice none 0 0, .int .i64 0]
theorem Try.zeroUnion (W : World) : (zeroValue 57).run Try.prog W = .ok (.agg zeroU) W := by kernel_rfl
/-- A union under way, since w0: the results, the conflicts, why it is refused. -/
structure Un (w0 w : World) (U : Nat) (v vc : Value) (R : List Res) (C : List (List UInt8)) (e : Int) : Prop where
  row : w.heap[U]? = some (.cells #[v, vc, .int .i64 e] 57 (0, 0))
  lo : w0.heap.size ≤ U
  own : OwnR w w0.heap.size v R
  ids : OwnI w w0.heap.size vc C
  k : Kept [] w0 w
  n1 : ∀ g, v.ownBlock = some g → g ≠ U
  n2 : ∀ g, vc.ownBlock = some g → g ≠ U
  n3 : ∀ g, v.ownBlock = some g → vc.ownBlock ≠ some g
theorem Un.lt {w0 w : World} {U : Nat} {v vc : Value} {R : List Res} {C : List (List UInt8)} {e : Int} (h : Un w0 w U v vc R C e) : U < w.heap.size := (Array.getElem?_eq_some_iff.1 h.row).1
/-- What is laid behind leaves it alone. -/
theorem Un.more {w0 w w' : World} {U : Nat} {v vc : Value} {R : List Res} {C : List (List UInt8)} {e : Int} (h : Un w0 w U v vc R C e) (hk : Kept [] w w') : Un w0 w' U v vc R C e :=
  ⟨by rw [hk.block U h.lt (by simp)]; exact h.row, h.lo, h.own.kept hk (by simp), ⟨own_kept h.ids.1 hk (by simp), h.ids.2⟩, h.k.trans hk (by simp), h.n1, h.n2, h.n3⟩
/-- One more row of results, the field written. -/
theorem Un.put {w0 w w1 : World} {U : Nat} {v v' vc : Value} {R R' : List Res} {C : List (List UInt8)} {e : Int} (h : Un w0 w U v vc R C e) (ho : OwnR w1 w0.heap.size v' R') (hk : ∀ l, (∀ g, v.ownBlock = some g → g ∈ l) → Kept l w w1) (hb : ∀ g, v'.ownBlock = some g → v.ownBlock = some g ∨ w.heap.size ≤ g) :
    Un w0 (w1.setCell ⟨U, 0, none⟩ v') U v' vc R' C e := by
  have hl : ∃ l : List Nat, (∀ g, v.ownBlock = some g → g ∈ l) ∧ ∀ g, g ∈ l → v.ownBlock = some g := by
    cases hv : v.ownBlock with
    | none => exact ⟨[], by simp, by simp⟩
    | some g => exact ⟨[g], by simp, by simp⟩
  obtain ⟨l, hl1, hl2⟩ := hl
  have hk1 := hk l hl1
  have hU : U ∉ l := fun hm => h.n1 U (hl2 U hm) rfl
  have hrow1 : w1.heap[U]? = some (.cells #[v, vc, .int .i64 e] 57 (0, 0)) := by rw [hk1.block U h.lt hU]; exact h.row
  have hU1 : U < w1.heap.size := (Array.getElem?_eq_some_iff.1 hrow1).1
  have hkc : Kept [U] w1 (w1.setCell ⟨U, 0, none⟩ v') := (Kept.refl [U] w1).setCell (by simp) v'
  have n1' : ∀ g, v'.ownBlock = some g → g ≠ U := fun g hg e => by
    subst e
    rcases hb g hg with hb | hb
    · exact h.n1 g hb rfl
    · have := h.lt; omega
  refine ⟨by rw [heap_setCell_same w1 U 0 _ _ _ hrow1]; rfl, h.lo, ho.kept hkc (fun g hg => by simp; exact n1' g hg), ⟨own_kept (own_kept h.ids.1 hk1 (fun g hg hm => h.n3 g (hl2 g hm) hg)) hkc (fun g hg => by simp; exact h.n2 g hg), h.ids.2⟩, (h.k.trans hk1 (fun i hi hlt => ?_)).trans hkc (fun i hi hlt => ?_), n1', h.n2, fun g hg hc => ?_⟩
  · have := (h.own.lt (hl2 i hi)).1
    omega
  · simp only [List.mem_singleton] at hi
    have := h.lo
    omega
  · rcases hb g hg with hb | hb
    · exact h.n3 g hb hc
    · have := (own_lt h.ids.1 hc).2
      omega
/-- One more row of ids, the field written. -/
theorem Un.putI {w0 w w1 : World} {U : Nat} {v vc v' : Value} {R : List Res} {C C' : List (List UInt8)} {e : Int} (h : Un w0 w U v vc R C e) (ho : OwnI w1 w0.heap.size v' C') (hk : ∀ l, (∀ g, vc.ownBlock = some g → g ∈ l) → Kept l w w1) (hb : ∀ g, v'.ownBlock = some g → vc.ownBlock = some g ∨ w.heap.size ≤ g) :
    Un w0 (w1.setCell ⟨U, 1, none⟩ v') U v v' R C' e := by
  have hl : ∃ l : List Nat, (∀ g, vc.ownBlock = some g → g ∈ l) ∧ ∀ g, g ∈ l → vc.ownBlock = some g := by
    cases hv : vc.ownBlock with
    | none => exact ⟨[], by simp, by simp⟩
    | some g => exact ⟨[g], by simp, by simp⟩
  obtain ⟨l, hl1, hl2⟩ := hl
  have hk1 := hk l hl1
  have hU : U ∉ l := fun hm => h.n2 U (hl2 U hm) rfl
  have hrow1 : w1.heap[U]? = some (.cells #[v, vc, .int .i64 e] 57 (0, 0)) := by rw [hk1.block U h.lt hU]; exact h.row
  have hkc : Kept [U] w1 (w1.setCell ⟨U, 1, none⟩ v') := (Kept.refl [U] w1).setCell (by simp) v'
  have n2' : ∀ g, v'.ownBlock = some g → g ≠ U := fun g hg e => by
    subst e
    rcases hb g hg with hb | hb
    · exact h.n2 g hb rfl
    · have := h.lt; omega
  refine ⟨by rw [heap_setCell_same w1 U 1 _ _ _ hrow1]; rfl, h.lo, (h.own.kept hk1 (fun g hg hm => h.n3 g hg (hl2 g hm))).kept hkc (fun g hg => by simp; exact h.n1 g hg), ⟨own_kept ho.1 hkc (fun g hg => by simp; exact n2' g hg), ho.2⟩, (h.k.trans hk1 (fun i hi hlt => ?_)).trans hkc (fun i hi hlt => ?_), h.n1, n2', fun g hg hc => ?_⟩
  · have := (own_lt h.ids.1 (hl2 i hi)).1
    omega
  · simp only [List.mem_singleton] at hi
    have := h.lo
    omega
  · rcases hb g hc with hb | hb
    · exact h.n3 g hg hb
    · have := (h.own.lt hg).2
      omega
theorem Un.refuse {w0 w : World} {U : Nat} {v vc : Value} {R : List Res} {C : List (List UInt8)} {e : Int} (h : Un w0 w U v vc R C e) (e' : Int) : Un w0 (w.setCell ⟨U, 2, none⟩ (.int .i64 e')) U v vc R C e' := by
  have hkc : Kept [U] w (w.setCell ⟨U, 2, none⟩ (.int .i64 e')) := (Kept.refl [U] w).setCell (by simp) _
  refine ⟨by rw [heap_setCell_same w U 2 _ _ _ h.row]; rfl, h.lo, h.own.kept hkc (fun g hg => by simp; exact h.n1 g hg), ⟨own_kept h.ids.1 hkc (fun g hg => by simp; exact h.n2 g hg), h.ids.2⟩, h.k.trans hkc (fun i hi hlt => ?_), h.n1, h.n2, h.n3⟩
  simp only [List.mem_singleton] at hi
  have := h.lo
  omega
theorem Un.cell {w0 w : World} {U : Nat} {v vc : Value} {R : List Res} {C : List (List UInt8)} {e : Int} (h : Un w0 w U v vc R C e) (j : Nat) : w.cell? ⟨U, j, none⟩ = (#[v, vc, .int .i64 e] : Array Value)[j]? := by rw [cell_of_row _ _ _ _ _ _ h.row]
theorem Un.free {w0 w : World} {U : Nat} {v vc : Value} {R : List Res} {C : List (List UInt8)} {e : Int} (h : Un w0 w U v vc R C e) (j : Nat) : w.frozen? ⟨U, j, none⟩ = false := frozen_of_row _ _ _ _ _ h.row

set_option maxHeartbeats 1600000 in
set_option maxRecDepth 100000 in
theorem add_ok {w0 w : World} {U : Nat} {v vc : Value} {R : List Res} {C : List (List UInt8)} {e : Int} (h : Un w0 w U v vc R C e) (ao : Option Addr) (m c : Nat) (M : List Res) (hM : Ress w ao M) (hm : M.length = m) (hw : Wao ao) (hnl : ao = none → c = 0) (hb : (R.length + m) * 72 ≤ 140737488355328) :
    Calls Try.prog 35 #[.pointer (some ⟨U, 0, none⟩), .slice ao m c] w fun r w' => r = .returned (.tuple #[]) ∧ ∃ v', Un w0 w' U v' vc (R ++ M) C e := by
  obtain ⟨v', w1, hrun, ho, hk, hbk⟩ := run_appR w w0.heap.size v R h.own ao m c M hM hm hw hnl hb h.k.size
  have HP := hide (h.put ho hk hbk)
  have c0 : w.cell? ⟨U, 0, none⟩ = some v := h.cell 0
  have hs : ∃ l : List Nat, (∀ g, v.ownBlock = some g → g ∈ l) ∧ U ∉ l := by
    cases hv : v.ownBlock with
    | none => exact ⟨[], by simp, by simp⟩
    | some g => exact ⟨[g], by simp, by simp; exact fun e => h.n1 g hv e.symm⟩
  obtain ⟨l, hl1, hl2⟩ := hs
  have hrow1 : w1.heap[U]? = some (.cells #[v, vc, .int .i64 e] 57 (0, 0)) := by rw [(hk l hl1).block U h.lt hl2]; exact h.row
  have c1 : w1.cell? ⟨U, 0, none⟩ = some v := by rw [cell_of_row _ _ _ _ _ _ hrow1]; rfl
  have f1 : w1.frozen? ⟨U, 0, none⟩ = false := frozen_of_row _ _ _ _ _ hrow1
  clear h ho hk hbk hrow1 hM hw hl1
  obtain ⟨bo, bn, bc, rfl⟩ : ∃ bo bn bc, v' = .slice bo bn bc := by
    obtain ⟨bo, bc, e, _⟩ := own_shape HP.out.own
    exact ⟨bo, _, bc, e⟩
  go_enter Try.func35, Try.ntmps35
  go_wp2_with (refine wpList_app_run rfl (.tmp 8) (.tmp 9) 22 22 rfl _ _ rfl rfl _ w1 hrun ?_)
  go_end0
  exact ⟨rfl, _, HP.out⟩
end Go.Proofs.Ytmhnjhnnaciokaa
