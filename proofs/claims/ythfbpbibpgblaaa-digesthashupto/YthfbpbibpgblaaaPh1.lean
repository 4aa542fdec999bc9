/-
  Four Hashes in one block; four rows in another.
-/
import Derived.Test.YthfbpbibpgblaaaPh0
namespace Go.Proofs.Ythfbpbibpgblaaa
open Go.RowKit
set_option linter.unusedVariables false
set_option linter.unusedSimpArgs false

/-- A Hash's 73 cells that have taken m. -/
def SegOk (l : List Value) (m : List UInt8) : Prop := ∃ st blk, l = hrow [] [] st blk m.length ∧ st.length = 8 ∧ blk.length = 64 ∧ (m ≠ [] → st = (Sha.st m (m.length / 64)).words) ∧ Tail blk m

theorem SegOk.len {l : List Value} {m : List UInt8} (h : SegOk l m) : l.length = 73 := by
  obtain ⟨st, blk, rfl, h1, h2, _⟩ := h
  rw [hrow_len [] [] st blk _ h1 h2]
  rfl

theorem hrow_mid (pre post : List Value) (st : List Nat) (blk : List UInt8) (n : Nat) : hrow pre post st blk n = pre ++ (hrow [] [] st blk n ++ post) := by simp [hrow]

/-- Another one in its place. -/
def upd {α : Type} (f : Nat → α) (i : Nat) (a : α) : Nat → α := fun j => if j = i then a else f j
theorem upd_same {α : Type} (f : Nat → α) (i : Nat) (a : α) : upd f i a i = a := by simp [upd]
theorem upd_other {α : Type} (f : Nat → α) (i j : Nat) (a : α) (h : j ≠ i) : upd f i a j = f j := by simp [upd, h]

def segs (sg : Nat → List Value) : List Value := sg 0 ++ (sg 1 ++ (sg 2 ++ sg 3))

/-- Four Hashes in block HB. -/
structure Ha (w : World) (HB : Nat) (ms : Nat → List UInt8) : Prop where
  ex : ∃ sg, w.heap[HB]? = some (.cells (segs sg).toArray 30 (0, 0)) ∧ ∀ k, k < 4 → SegOk (sg k) (ms k)

theorem Ha.lt {w : World} {HB : Nat} {ms : Nat → List UInt8} (h : Ha w HB ms) : HB < w.heap.size := by
  obtain ⟨sg, h, _⟩ := h.ex
  exact (Array.getElem?_eq_some_iff.1 h).1
theorem Ha.kept {l : List Nat} {w w' : World} {HB : Nat} {ms : Nat → List UInt8} (h : Ha w HB ms) (hk : Kept l w w') (hn : HB ∉ l) : Ha w' HB ms := by
  have hlt := h.lt
  obtain ⟨sg, h, h2⟩ := h.ex
  exact ⟨sg, by rw [hk.block HB hlt hn]; exact h, h2⟩

def preOf (sg : Nat → List Value) : Nat → List Value
  | 0 => []
  | 1 => sg 0
  | 2 => sg 0 ++ sg 1
  | _ => sg 0 ++ (sg 1 ++ sg 2)
def postOf (sg : Nat → List Value) : Nat → List Value
  | 0 => sg 1 ++ (sg 2 ++ sg 3)
  | 1 => sg 2 ++ sg 3
  | 2 => sg 3
  | _ => []
theorem segs_at (sg : Nat → List Value) (i : Nat) (hi : i < 4) : segs sg = preOf sg i ++ (sg i ++ postOf sg i) := by
  match i, hi with
  | 0, _ => simp [segs, preOf, postOf]
  | 1, _ => simp [segs, preOf, postOf]
  | 2, _ => simp [segs, preOf, postOf]
  | 3, _ => simp [segs, preOf, postOf]
theorem segs_upd (sg : Nat → List Value) (i : Nat) (hi : i < 4) (l : List Value) : segs (upd sg i l) = preOf sg i ++ (l ++ postOf sg i) := by
  match i, hi with
  | 0, _ => simp [segs, preOf, postOf, upd]
  | 1, _ => simp [segs, preOf, postOf, upd]
  | 2, _ => simp [segs, preOf, postOf, upd]
  | 3, _ => simp [segs, preOf, postOf, upd]
theorem preOf_len (sg : Nat → List Value) (h : ∀ k, k < 4 → (sg k).length = 73) (i : Nat) (hi : i < 4) : (preOf sg i).length = i * 73 := by
  have h0 := h 0 (by omega)
  have h1 := h 1 (by omega)
  have h2 := h 2 (by omega)
  match i, hi with
  | 0, _ => rfl
  | 1, _ => simp [preOf, h0]
  | 2, _ => simp [preOf, h0, h1]
  | 3, _ => simp [preOf, h0, h1, h2]

/-- One of them, among the others. -/
theorem Ha.get {w : World} {HB : Nat} {ms : Nat → List UInt8} (h : Ha w HB ms) (i : Nat) (hi : i < 4) :
    ∃ pre post, pre.length = i * 73 ∧ Hs w HB 30 pre post (ms i) ∧ ∀ w' m', Hs w' HB 30 pre post m' → Ha w' HB (upd ms i m') := by
  obtain ⟨sg, hrow', hall⟩ := h.ex
  obtain ⟨st, blk, e, h1, h2, h3, h4⟩ := hall i hi
  refine ⟨preOf sg i, postOf sg i, preOf_len sg (fun k hk => (hall k hk).len) i hi, ⟨st, blk, ⟨?_, h1, h2⟩, h3, h4⟩, fun w' m' hs => ?_⟩
  · rw [hrow_mid, ← e, ← segs_at sg i hi]
    exact hrow'
  · obtain ⟨st', blk', hp, h3', h4'⟩ := hs.ex
    refine ⟨upd sg i (hrow [] [] st' blk' m'.length), ?_, fun k hk => ?_⟩
    · rw [segs_upd sg i hi, ← hrow_mid]
      exact hp.row
    · by_cases hki : k = i
      · subst hki
        rw [upd_same, upd_same]
        exact ⟨st', blk', rfl, hp.sl, hp.bl, h3', h4'⟩
      · rw [upd_other _ _ _ _ hki, upd_other _ _ _ _ hki]
        exact hall k hk

/-- What each has taken, in four rows. -/
structure Tk (w : World) (TB : Nat) (ao : Nat → Option Addr) (cp : Nat → Nat) (ms : Nat → List UInt8) (far : List Nat) : Prop where
  row : w.heap[TB]? = some (.cells #[.slice (ao 0) (ms 0).length (cp 0), .slice (ao 1) (ms 1).length (cp 1), .slice (ao 2) (ms 2).length (cp 2), .slice (ao 3) (ms 3).length (cp 3)] 32 (0, 0))
  sl : ∀ k, k < 4 → Sl w (ao k) (ms k)
  nil : ∀ k, k < 4 → ao k = none → ms k = [] ∧ cp k = 0
  far : ∀ k, k < 4 → ms k ≠ [] → ∀ a, ao k = some a → a.block ∉ far

theorem Tk.lt {w : World} {TB : Nat} {ao : Nat → Option Addr} {cp : Nat → Nat} {ms : Nat → List UInt8} {far : List Nat} (h : Tk w TB ao cp ms far) : TB < w.heap.size := (Array.getElem?_eq_some_iff.1 h.row).1
theorem Tk.kept {l : List Nat} {w w' : World} {TB : Nat} {ao : Nat → Option Addr} {cp : Nat → Nat} {ms : Nat → List UInt8} {far : List Nat} (h : Tk w TB ao cp ms far) (hk : Kept l w w') (hn : TB ∉ l) (hl : ∀ i, i ∈ l → i < w.heap.size → i ∈ far) : Tk w' TB ao cp ms far :=
  ⟨by rw [hk.block TB h.lt hn]; exact h.row, fun k hk4 => (h.sl k hk4).kept hk (fun hne a ha hm => by
    obtain ⟨b, off, e, hb, _⟩ := (h.sl k hk4).open hne
    rw [e] at ha
    cases ha
    exact h.far k hk4 hne _ e (hl _ hm hb)), h.nil, h.far⟩
theorem Tk.cell {w : World} {TB : Nat} {ao : Nat → Option Addr} {cp : Nat → Nat} {ms : Nat → List UInt8} {far : List Nat} (h : Tk w TB ao cp ms far) (i : Nat) (hi : i < 4) : w.cell? ⟨TB, i, none⟩ = some (.slice (ao i) (ms i).length (cp i)) := by
  rw [cell_of_row _ _ _ _ _ _ h.row]
  match i, hi with
  | 0, _ => rfl
  | 1, _ => rfl
  | 2, _ => rfl
  | 3, _ => rfl
theorem Tk.fr {w : World} {TB : Nat} {ao : Nat → Option Addr} {cp : Nat → Nat} {ms : Nat → List UInt8} {far : List Nat} (h : Tk w TB ao cp ms far) (i : Nat) : w.frozen? ⟨TB, i, none⟩ = false := frozen_of_row _ _ _ _ _ h.row

/-- One row set anew. -/
theorem Tk.set {w : World} {TB : Nat} {ao : Nat → Option Addr} {cp : Nat → Nat} {ms : Nat → List UInt8} {far : List Nat} (h : Tk w TB ao cp ms far) (hT : TB ∈ far) (i : Nat) (hi : i < 4) (a' : Option Addr) (c' : Nat) (m' : List UInt8) (hs : Sl w a' m') (hn : a' = none → m' = [] ∧ c' = 0) (hf : m' ≠ [] → ∀ a, a' = some a → a.block ∉ far) :
    Tk (w.setCell ⟨TB, i, none⟩ (.slice a' m'.length c')) TB (upd ao i a') (upd cp i c') (upd ms i m') far := by
  have hk : Kept [TB] w (w.setCell ⟨TB, i, none⟩ (.slice a' m'.length c')) := (Kept.refl _ _).setCell (by simp) _
  have hsl : ∀ (ao : Option Addr) (m : List UInt8), Sl w ao m → (m ≠ [] → ∀ a, ao = some a → a.block ∉ far) → Sl (w.setCell ⟨TB, i, none⟩ (.slice a' m'.length c')) ao m := fun ao m hs hf => hs.kept hk (fun hne a ha hm => hf hne a ha (by simp at hm; rw [hm]; exact hT))
  refine ⟨?_, fun k hk4 => ?_, fun k hk4 => ?_, fun k hk4 => ?_⟩
  · rw [heap_setCell_same _ _ _ _ _ _ h.row]
    match i, hi with
    | 0, _ => rfl
    | 1, _ => rfl
    | 2, _ => rfl
    | 3, _ => rfl
  all_goals
    by_cases hki : k = i
    · subst hki
      simp only [upd_same]
      first | exact hsl _ _ hs hf | exact hn | exact hf
    · simp only [upd_other _ _ _ _ hki]
      first | exact hsl _ _ (h.sl k hk4) (h.far k hk4) | exact h.nil k hk4 | exact h.far k hk4

end Go.Proofs.Ythfbpbibpgblaaa
