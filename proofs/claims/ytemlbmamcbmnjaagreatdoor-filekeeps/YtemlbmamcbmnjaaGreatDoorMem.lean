/-
  Words on worlds: what is kept; slices of bytes. Nothing of the program.
-/
import Derived.WalkKit
import Derived.WalkSpells
import Derived.WalkLawsBesides
namespace Go.Proofs.YtemlbmamcbmnjaaGreatDoor
open Go.RowKit
set_option linter.unusedVariables false

/-- w' is w but for new blocks and what lies in the blocks of l. -/
structure Kept (l : List Nat) (w w' : World) : Prop where
  os : w'.os = w.os
  tape : w'.tape = w.tape
  output : w'.output = w.output
  size : w.heap.size ≤ w'.heap.size
  block : ∀ k, k < w.heap.size → k ∉ l → w'.heap[k]? = w.heap[k]?

theorem Kept.refl (l : List Nat) (w : World) : Kept l w w := ⟨rfl, rfl, rfl, Nat.le_refl _, fun _ _ _ => rfl⟩

theorem Kept.trans {l l2 : List Nat} {a b c : World} (h : Kept l a b) (k : Kept l2 b c) (hl : ∀ i, i ∈ l2 → i < a.heap.size → i ∈ l) : Kept l a c :=
  ⟨k.os.trans h.os, k.tape.trans h.tape, k.output.trans h.output, Nat.le_trans h.size k.size,
    fun i hi hn => (k.block i (Nat.lt_of_lt_of_le hi h.size) (fun hm => hn (hl i hm hi))).trans (h.block i hi hn)⟩

theorem Kept.mono {l l2 : List Nat} {a b : World} (h : Kept l a b) (hl : ∀ i, i ∈ l → i < a.heap.size → i ∈ l2) : Kept l2 a b :=
  ⟨h.os, h.tape, h.output, h.size, fun i hi hn => h.block i hi (fun hm => hn (hl i hm hi))⟩

theorem Kept.drewN {l : List Nat} {a w : World} (h : Kept l a w) (n : Nat) : Kept l a (w.drewN n) := ⟨h.os, h.tape, h.output, h.size, h.block⟩
theorem Kept.drew {l : List Nat} {a w : World} (h : Kept l a w) : Kept l a w.drew := ⟨h.os, h.tape, h.output, h.size, h.block⟩

theorem Kept.alloc {l : List Nat} {a w : World} (h : Kept l a w) (o : Obj) : Kept l a (w.alloc o) :=
  h.trans (l2 := []) ⟨rfl, rfl, rfl, by simp, fun k hk _ => Below.heap_alloc _ _ _ hk⟩ (by simp)

theorem Kept.setCell {l : List Nat} {a w : World} (h : Kept l a w) {p : Addr} (hp : p.block < a.heap.size → p.block ∈ l) (u : Value) : Kept l a (w.setCell p u) :=
  h.trans (l2 := [p.block]) ⟨rfl, rfl, rfl, by simp [World.setCell], fun k _ hn => Below.heap_setCell _ _ _ _ (by simpa using hn)⟩ (by simpa using hp)

theorem Kept.grown {l : List Nat} {a w w' : World} {row : Option Nat} (h : Kept l a w) (hg : w.grownBy w' row) (hr : ∀ k, row = some k → k < a.heap.size → k ∈ l) : Kept l a w' :=
  ⟨hg.os.trans h.os, hg.tape.trans h.tape, hg.output.trans h.output, Nat.le_trans h.size hg.size,
    fun i hi hn => (hg.block i (Nat.lt_of_lt_of_le hi h.size) (fun e => hn (hr i e.symm hi))).trans (h.block i hi hn)⟩

theorem Kept.of_below {w w' : World} (h : Below w.heap.size w w') : Kept [] w w' := ⟨h.os, h.tape, h.output, h.size, fun k hk _ => h.block k hk⟩
theorem Kept.below {B : Nat} {l : List Nat} {w w' : World} (h : Kept l w w') (hB : B ≤ w.heap.size) (hl : ∀ i, i ∈ l → B ≤ i) : Below B w w' :=
  ⟨h.os, h.tape, h.output, h.size, fun k hk => h.block k (by omega) (fun hm => by have := hl k hm; omega)⟩

theorem Kept.cell {l : List Nat} {w w' : World} (h : Kept l w w') {p : Addr} (hp : p.block < w.heap.size) (hn : p.block ∉ l) : w'.cell? p = w.cell? p := World.cell?_of_block (w := w) (h.block p.block hp hn)
theorem Kept.cellOf {l : List Nat} {w w' : World} (h : Kept l w w') {p : Addr} {v : Value} (hc : w.cell? p = some v) (hn : p.block ∉ l) : w'.cell? p = some v := by
  rw [h.cell (World.block_lt_of_cell? _ _ hc) hn]; exact hc
theorem Kept.frozen {l : List Nat} {w w' : World} (h : Kept l w w') {p : Addr} (hp : p.block < w.heap.size) (hn : p.block ∉ l) : w'.frozen? p = w.frozen? p := World.frozen?_of_block (w := w) (h.block p.block hp hn)

/-- A slice of bytes with these elements, in memory that lies there: of a slice without elements nothing is asked. -/
def Sl (w : World) (ao : Option Addr) (xs : List UInt8) : Prop :=
  ∀ i, i < xs.length → ∃ b off, ao = some ⟨b, off, none⟩ ∧ w.cell? ⟨b, off + i, none⟩ = some (.int .u8 (xs.getD i 0).toNat)

theorem Sl.open {w : World} {ao : Option Addr} {xs : List UInt8} (h : Sl w ao xs) (hn : xs ≠ []) :
    ∃ b off, ao = some ⟨b, off, none⟩ ∧ b < w.heap.size ∧ ∀ i, i < xs.length → w.cell? ⟨b, off + i, none⟩ = some (.int .u8 (xs.getD i 0).toNat) := by
  obtain ⟨b, off, e, hc⟩ := h 0 (List.length_pos_iff.2 hn)
  refine ⟨b, off, e, World.block_lt_of_cell? _ _ hc, fun i hi => ?_⟩
  obtain ⟨b', off', e', hc'⟩ := h i hi
  rw [e] at e'
  cases e'
  exact hc'

theorem Sl.nil (w : World) (ao : Option Addr) : Sl w ao [] := fun i hi => by simp at hi

theorem Sl.of {w : World} {b off : Nat} {xs : List UInt8} (h : ∀ i, i < xs.length → w.cell? ⟨b, off + i, none⟩ = some (.int .u8 (xs.getD i 0).toNat)) : Sl w (some ⟨b, off, none⟩) xs :=
  fun i hi => ⟨b, off, rfl, h i hi⟩

/-- A slice keeps its elements where its own block is not written. -/
theorem Sl.kept {l : List Nat} {w w' : World} {ao : Option Addr} {xs : List UInt8} (h : Sl w ao xs) (hk : Kept l w w') (hn : xs ≠ [] → ∀ a, ao = some a → a.block ∉ l) : Sl w' ao xs := by
  intro i hi
  obtain ⟨b, off, rfl, hc⟩ := h i hi
  exact ⟨b, off, rfl, hk.cellOf hc (hn (by rintro rfl; simp at hi) ⟨b, off, none⟩ rfl)⟩

theorem Sl.drewN {w : World} {ao : Option Addr} {xs : List UInt8} (h : Sl w ao xs) (n : Nat) : Sl (w.drewN n) ao xs := h.kept ((Kept.refl [] w).drewN n) (by simp)

/-- A cut slice, as the walk spells it. -/
theorem Sl.drop {w : World} {g off : Nat} {xs : List UInt8} (h : Sl w (some ⟨g, off, none⟩) xs) (k cap : Nat) (hk : k ≤ xs.length) (hc : xs.length ≤ cap) :
    Sl w (if cap = k then some ⟨g, off, none⟩ else some ⟨g, off + k, none⟩) (xs.drop k) := by
  intro i hi
  simp only [List.length_drop] at hi
  obtain ⟨b', off', e', hcell⟩ := h (k + i) (by omega)
  cases e'
  rw [if_neg (by omega)]
  refine ⟨g, off + k, rfl, ?_⟩
  rw [Nat.add_assoc, hcell]
  simp [List.getElem?_drop]

/-- The first elements of a slice. -/
theorem Sl.take {w : World} {ao : Option Addr} {xs : List UInt8} (h : Sl w ao xs) (k : Nat) : Sl w ao (xs.take k) := by
  intro i hi
  simp only [List.length_take] at hi
  obtain ⟨b', off', e', hcell⟩ := h i (by omega)
  refine ⟨b', off', e', ?_⟩
  rw [hcell]
  simp [show i < k by omega]

/-- Bytes as cells. -/
def bys (xs : List UInt8) : List Value := xs.map (fun x => .int .u8 x.toNat)
theorem bys_length (xs : List UInt8) : (bys xs).length = xs.length := by simp [bys]
theorem bys_get {xs : List UInt8} {j : Nat} {u : Value} (h : (bys xs)[j]? = some u) : j < xs.length ∧ u = .int .u8 (xs.getD j 0).toNat := by
  have hj : j < xs.length := by
    have := (List.getElem?_eq_some_iff.1 h).1
    simpa [bys] using this
  refine ⟨hj, ?_⟩
  simp [bys, List.getElem?_eq_getElem hj] at h
  simp [List.getElem?_eq_getElem hj, h]
theorem bys_at {xs : List UInt8} {j : Nat} (hj : j < xs.length) : (bys xs)[j]? = some (.int .u8 (xs.getD j 0).toNat) := by
  simp [bys, List.getElem?_eq_getElem hj]
theorem bys_append (xs ys : List UInt8) : bys (xs ++ ys) = bys xs ++ bys ys := by simp [bys]
theorem bys_oneCell (xs : List UInt8) : ∀ u ∈ bys xs, u.oneCell' = true := by
  intro u hu
  simp only [bys, List.mem_map] at hu
  obtain ⟨x, _, rfl⟩ := hu
  rfl

theorem Sl.cells {w : World} {b off : Nat} {xs : List UInt8} (h : ∀ i, i < xs.length → w.cell? ⟨b, off + i, none⟩ = some (.int .u8 (xs.getD i 0).toNat)) :
    ∀ j u, (bys xs)[j]? = some u → w.cell? ((⟨b, off, none⟩ : Addr).add j) = some u := by
  intro j u hu
  obtain ⟨hj, rfl⟩ := bys_get hu
  have : (⟨b, off, none⟩ : Addr).add j = ⟨b, off + j, none⟩ := by unfold Addr.add; split <;> simp_all
  rw [this]
  exact h j hj

theorem bys_set (l : List UInt8) (i : Nat) (c : UInt8) : (bys l).set i (.int .u8 c.toNat) = bys (l.set i c) := by simp [bys, List.map_set]

/-- What a call owns is a slice of bytes. -/
theorem own_sl {w : World} {base : Nat} {e : TypeId} {v : Value} {n : Nat} {xs : List UInt8} (h : w.ownsRow base e 1 v n (bys xs)) (hv : v ≠ .slice none 0 0) :
    ∃ g cap, v = .slice (some ⟨g, 0, none⟩) n cap ∧ base ≤ g ∧ g < w.heap.size ∧ n ≤ cap ∧ Sl w (some ⟨g, 0, none⟩) xs := by
  rcases h.2 with ⟨rfl, _⟩ | ⟨g, cap, cur, rfl, hb, hg, hn, _, hs, ht⟩
  · exact absurd rfl hv
  · refine ⟨g, cap, rfl, hb, (Array.getElem?_eq_some_iff.1 hg).1, hn, ?_⟩
    intro i hi
    refine ⟨g, 0, rfl, ?_⟩
    rw [Nat.zero_add, cell_of_row w g i cur e (0, 0) hg]
    have h1 := bys_at hi
    rw [← ht, List.getElem?_take] at h1
    split at h1
    · simpa using h1
    · cases h1

end Go.Proofs.YtemlbmamcbmnjaaGreatDoor
