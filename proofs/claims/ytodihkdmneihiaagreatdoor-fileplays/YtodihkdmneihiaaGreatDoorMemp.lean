import Derived.WalkKit
import Derived.WalkSpells
import Derived.WalkLawsBesides
import Derived.Maps.Own
import Derived.Maps.Ext
namespace Go.Proofs.YtodihkdmneihiaaGreatDoor
section
theorem z1 {α : Type} {xs : List α} {i : Nat} (h : i < xs.toArray.size) : xs.toArray[i] = xs[i]'(by simpa using h) := List.getElem_toArray h
theorem z2 {α : Type} (a : α) (as : List α) (h : 0 < (a :: as).length) : (a :: as)[0] = a := rfl
theorem z3 {α : Type} (a : α) (as : List α) (i : Nat) (h : i + 1 < (a :: as).length) : (a :: as)[i + 1] = as[i]'(Nat.lt_of_succ_lt_succ h) := rfl
theorem z4 (a : Act) (v : Value) (d : Tmp) : a.put (some d) v = { tmps := a.tmps.setIfInBounds d v, defers := a.defers } := rfl
theorem z5 (a : Act) (v : Value) : a.put none v = a := rfl
theorem z6 {α : Type} (l : List α) (i : Nat) (a : α) : l.toArray.setIfInBounds i a = (l.set i a).toArray := List.setIfInBounds_toArray l i a
theorem z7 {α : Type} {x : α} {xs : List α} {a : α} : (x :: xs).set 0 a = a :: xs := rfl
theorem z8 {α : Type} {x : α} {xs : List α} {i : Nat} {a : α} : (x :: xs).set (i + 1) a = x :: xs.set i a := rfl
open Go.RowKit
set_option linter.unusedVariables false
structure Kept (l : List Nat) (w w' : World) : Prop where
 os : w'.os = w.os
 tape : w'.tape = w.tape
 output : w'.output = w.output
 size : w.heap.size ≤ w'.heap.size
 block : ∀ k, k < w.heap.size → k ∉ l → w'.heap[k]? = w.heap[k]?
theorem Kept.refl (l : List Nat) (w : World) : Kept l w w := ⟨rfl, rfl, rfl, Nat.le_refl _, fun _ _ _ => rfl⟩
theorem Kept.trans {l l2 : List Nat} {a b c : World} (h : Kept l a b) (k : Kept l2 b c) (hl : ∀ i, i ∈ l2 → i < a.heap.size → i ∈ l) : Kept l a c :=
 ⟨k.os.trans h.os, k.tape.trans h.tape, k.output.trans h.output, Nat.le_trans h.size k.size,
  fun i hi hn => (k.block i (Nat.lt_of_lt_of_le hi h.size) (fun hm => hn (hl i hm hi))).trans (h.block i hi hn)⟩
theorem Kept.mono {l l2 : List Nat} {a b : World} (h : Kept l a b) (hl : ∀ i, i ∈ l → i < a.heap.size → i ∈ l2) : Kept l2 a b :=
 ⟨h.os, h.tape, h.output, h.size, fun i hi hn => h.block i hi (fun hm => hn (hl i hm hi))⟩
theorem Kept.drewN {l : List Nat} {a w : World} (h : Kept l a w) (n : Nat) : Kept l a (w.drewN n) := ⟨h.os, h.tape, h.output, h.size, h.block⟩
theorem Kept.drew {l : List Nat} {a w : World} (h : Kept l a w) : Kept l a w.drew := ⟨h.os, h.tape, h.output, h.size, h.block⟩
theorem Kept.alloc {l : List Nat} {a w : World} (h : Kept l a w) (o : Obj) : Kept l a (w.alloc o) :=
 h.trans (l2 := []) ⟨rfl, rfl, rfl, by simp, fun k hk _ => Below.heap_alloc _ _ _ hk⟩ (by simp)
theorem Kept.setCell {l : List Nat} {a w : World} (h : Kept l a w) {p : Addr} (hp : p.block < a.heap.size → p.block ∈ l) (u : Value) : Kept l a (w.setCell p u) :=
 h.trans (l2 := [p.block]) ⟨rfl, rfl, rfl, by simp [World.setCell], fun k _ hn => Below.heap_setCell _ _ _ _ (by simpa using hn)⟩ (by simpa using hp)
theorem Kept.grown {l : List Nat} {a w w' : World} {row : Option Nat} (h : Kept l a w) (hg : w.grownBy w' row) (hr : ∀ k, row = some k → k < a.heap.size → k ∈ l) : Kept l a w' :=
 ⟨hg.os.trans h.os, hg.tape.trans h.tape, hg.output.trans h.output, Nat.le_trans h.size hg.size,
  fun i hi hn => (hg.block i (Nat.lt_of_lt_of_le hi h.size) (fun e => hn (hr i e.symm hi))).trans (h.block i hi hn)⟩
theorem Kept.of_below {w w' : World} (h : Below w.heap.size w w') : Kept [] w w' := ⟨h.os, h.tape, h.output, h.size, fun k hk _ => h.block k hk⟩
theorem Kept.below {B : Nat} {l : List Nat} {w w' : World} (h : Kept l w w') (hB : B ≤ w.heap.size) (hl : ∀ i, i ∈ l → B ≤ i) : Below B w w' :=
 ⟨h.os, h.tape, h.output, h.size, fun k hk => h.block k (by omega) (fun hm => by have := hl k hm; omega)⟩
theorem Kept.cell {l : List Nat} {w w' : World} (h : Kept l w w') {p : Addr} (hp : p.block < w.heap.size) (hn : p.block ∉ l) : w'.cell? p = w.cell? p := World.cell?_of_block (w := w) (h.block p.block hp hn)
theorem Kept.cellOf {l : List Nat} {w w' : World} (h : Kept l w w') {p : Addr} {v : Value} (hc : w.cell? p = some v) (hn : p.block ∉ l) : w'.cell? p = some v := by
 rw [h.cell (World.block_lt_of_cell? _ _ hc) hn]; exact hc
theorem Kept.frozen {l : List Nat} {w w' : World} (h : Kept l w w') {p : Addr} (hp : p.block < w.heap.size) (hn : p.block ∉ l) : w'.frozen? p = w.frozen? p := World.frozen?_of_block (w := w) (h.block p.block hp hn)
def Sl (w : World) (ao : Option Addr) (xs : List UInt8) : Prop :=
 ∀ i, i < xs.length → ∃ b off, ao = some ⟨b, off, none⟩ ∧ w.cell? ⟨b, off + i, none⟩ = some (.int .u8 (xs.getD i 0).toNat)
theorem Sl.open {w : World} {ao : Option Addr} {xs : List UInt8} (h : Sl w ao xs) (hn : xs ≠ []) :
  ∃ b off, ao = some ⟨b, off, none⟩ ∧ b < w.heap.size ∧ ∀ i, i < xs.length → w.cell? ⟨b, off + i, none⟩ = some (.int .u8 (xs.getD i 0).toNat) := by
 obtain ⟨b, off, e, hc⟩ := h 0 (List.length_pos_iff.2 hn)
 refine ⟨b, off, e, World.block_lt_of_cell? _ _ hc, fun i hi => ?_⟩
 obtain ⟨b', off', e', hc'⟩ := h i hi
 rw [e] at e'
 cases e'
 exact hc'
theorem Sl.nil (w : World) (ao : Option Addr) : Sl w ao [] := fun i hi => by simp at hi
theorem Sl.of {w : World} {b off : Nat} {xs : List UInt8} (h : ∀ i, i < xs.length → w.cell? ⟨b, off + i, none⟩ = some (.int .u8 (xs.getD i 0).toNat)) : Sl w (some ⟨b, off, none⟩) xs :=
 fun i hi => ⟨b, off, rfl, h i hi⟩
theorem Sl.kept {l : List Nat} {w w' : World} {ao : Option Addr} {xs : List UInt8} (h : Sl w ao xs) (hk : Kept l w w') (hn : xs ≠ [] → ∀ a, ao = some a → a.block ∉ l) : Sl w' ao xs := by
 intro i hi
 obtain ⟨b, off, rfl, hc⟩ := h i hi
 exact ⟨b, off, rfl, hk.cellOf hc (hn (by rintro rfl; simp at hi) ⟨b, off, none⟩ rfl)⟩
theorem Sl.drewN {w : World} {ao : Option Addr} {xs : List UInt8} (h : Sl w ao xs) (n : Nat) : Sl (w.drewN n) ao xs := h.kept ((Kept.refl [] w).drewN n) (by simp)
theorem Sl.drop {w : World} {g off : Nat} {xs : List UInt8} (h : Sl w (some ⟨g, off, none⟩) xs) (k cap : Nat) (hk : k ≤ xs.length) (hc : xs.length ≤ cap) :
  Sl w (if cap = k then some ⟨g, off, none⟩ else some ⟨g, off + k, none⟩) (xs.drop k) := by
 intro i hi
 simp only [List.length_drop] at hi
 obtain ⟨b', off', e', hcell⟩ := h (k + i) (by omega)
 cases e'
 rw [if_neg (by omega)]
 refine ⟨g, off + k, rfl, ?_⟩
 rw [Nat.add_assoc, hcell]
 simp [List.getElem?_drop]
theorem Sl.take {w : World} {ao : Option Addr} {xs : List UInt8} (h : Sl w ao xs) (k : Nat) : Sl w ao (xs.take k) := by
 intro i hi
 simp only [List.length_take] at hi
 obtain ⟨b', off', e', hcell⟩ := h i (by omega)
 refine ⟨b', off', e', ?_⟩
 rw [hcell]
 simp [show i < k by omega]
def bys (xs : List UInt8) : List Value := xs.map (fun x => .int .u8 x.toNat)
theorem bys_length (xs : List UInt8) : (bys xs).length = xs.length := by simp [bys]
theorem bys_get {xs : List UInt8} {j : Nat} {u : Value} (h : (bys xs)[j]? = some u) : j < xs.length ∧ u = .int .u8 (xs.getD j 0).toNat := by
 have hj : j < xs.length := by
  have := (List.getElem?_eq_some_iff.1 h).1
  simpa [bys] using this
 refine ⟨hj, ?_⟩
 simp [bys, List.getElem?_eq_getElem hj] at h
 simp [List.getElem?_eq_getElem hj, h]
theorem bys_at {xs : List UInt8} {j : Nat} (hj : j < xs.length) : (bys xs)[j]? = some (.int .u8 (xs.getD j 0).toNat) := by
 simp [bys, List.getElem?_eq_getElem hj]
theorem bys_append (xs ys : List UInt8) : bys (xs ++ ys) = bys xs ++ bys ys := by simp [bys]
theorem bys_oneCell (xs : List UInt8) : ∀ u ∈ bys xs, u.oneCell' = true := by
 intro u hu
 simp only [bys, List.mem_map] at hu
 obtain ⟨x, _, rfl⟩ := hu
 rfl
theorem Sl.cells {w : World} {b off : Nat} {xs : List UInt8} (h : ∀ i, i < xs.length → w.cell? ⟨b, off + i, none⟩ = some (.int .u8 (xs.getD i 0).toNat)) :
  ∀ j u, (bys xs)[j]? = some u → w.cell? ((⟨b, off, none⟩ : Addr).add j) = some u := by
 intro j u hu
 obtain ⟨hj, rfl⟩ := bys_get hu
 have : (⟨b, off, none⟩ : Addr).add j = ⟨b, off + j, none⟩ := by unfold Addr.add; split <;> simp_all
 rw [this]
 exact h j hj
theorem bys_set (l : List UInt8) (i : Nat) (c : UInt8) : (bys l).set i (.int .u8 c.toNat) = bys (l.set i c) := by simp [bys, List.map_set]
theorem own_sl {w : World} {base : Nat} {e : TypeId} {v : Value} {n : Nat} {xs : List UInt8} (h : w.ownsRow base e 1 v n (bys xs)) (hv : v ≠ .slice none 0 0) :
  ∃ g cap, v = .slice (some ⟨g, 0, none⟩) n cap ∧ base ≤ g ∧ g < w.heap.size ∧ n ≤ cap ∧ Sl w (some ⟨g, 0, none⟩) xs := by
 rcases h.2 with ⟨rfl, _⟩ | ⟨g, cap, cur, rfl, hb, hg, hn, _, hs, ht⟩
 ·exact absurd rfl hv
 ·refine ⟨g, cap, rfl, hb, (Array.getElem?_eq_some_iff.1 hg).1, hn, ?_⟩
  intro i hi
  refine ⟨g, 0, rfl, ?_⟩
  rw [Nat.zero_add, cell_of_row w g i cur e (0, 0) hg]
  have h1 := bys_at hi
  rw [← ht, List.getElem?_take] at h1
  split at h1
  ·simpa using h1
  ·cases h1
end

section
set_option linter.unusedVariables false
set_option linter.unusedSimpArgs false
namespace Dsk
abbrev By := List UInt8
inductive Ch where
 | wr (a : Nat) (d : By)
 | cut (a : Nat)
namespace Ch
def units : Ch → Nat
 | .wr _ d => d.length
 | .cut _ => 1
def place : Ch → Nat
 | .wr a _ => a
 | .cut a => a
def apply : Ch → By → Nat → By
 | .wr a d, b, n => b.take a ++ d.take n ++ b.drop (a + (d.take n).length)
 | .cut a, b, _ => b.take a
theorem apply_len (c : Ch) (b : By) (n : Nat) (h : c.place ≤ b.length) : (c.apply b n).length ≤ b.length + min n c.units := by
 cases c with
 | wr a d => simp only [apply, units, place, List.length_append, List.length_take, List.length_drop] at *; omega
 | cut a => simp only [apply, List.length_take]; omega
end Ch
def runs : By → List Ch → By
 | b, [] => b
 | b, c :: r => runs (c.apply b c.units) r
def fits : By → List Ch → Prop
 | _, [] => True
 | b, c :: r => c.place ≤ b.length ∧ fits (c.apply b c.units) r
def unitsOf : List Ch → Nat
 | [] => 0
 | c :: r => c.units + unitsOf r
def torn : By → List Ch → Nat → By
 | b, [], _ => b
 | b, c :: r, n => if n = 0 then b else torn (c.apply b (min n c.units)) r (n - min n c.units)
theorem runs_snoc (b : By) (r : List Ch) (c : Ch) : runs b (r ++ [c]) = c.apply (runs b r) c.units := by
 induction r generalizing b with
 | nil => rfl
 | cons x r ih => simp only [List.cons_append, runs, ih]
theorem fits_snoc (b : By) (r : List Ch) (c : Ch) : fits b (r ++ [c]) ↔ fits b r ∧ c.place ≤ (runs b r).length := by
 induction r generalizing b with
 | nil => simp [fits, runs]
 | cons x r ih => simp only [List.cons_append, fits, runs, ih, and_assoc]
theorem unitsOf_snoc (r : List Ch) (c : Ch) : unitsOf (r ++ [c]) = unitsOf r + c.units := by
 induction r with
 | nil => simp [unitsOf]
 | cons x r ih => simp only [List.cons_append, unitsOf, ih]; omega
theorem runs_len (b : By) (r : List Ch) (h : fits b r) : (runs b r).length ≤ b.length + unitsOf r := by
 induction r generalizing b with
 | nil => simp [runs, unitsOf]
 | cons x r ih =>
  have h1 := ih _ h.2
  have h2 := x.apply_len b x.units h.1
  simp only [runs, unitsOf]
  omega
theorem torn_zero (b : By) (r : List Ch) : torn b r 0 = b := by
 cases r <;> simp [torn]
theorem torn_len (b : By) (r : List Ch) (n : Nat) (h : fits b r) : (torn b r n).length ≤ b.length + unitsOf r := by
 induction r generalizing b n with
 | nil => simp [torn, unitsOf]
 | cons c r ih =>
  simp only [torn, unitsOf]
  split
  ·omega
  ·by_cases hn : c.units ≤ n
   ·rw [Nat.min_eq_right hn]
    have h1 := ih _ (n - c.units) h.2
    have h2 := c.apply_len b c.units h.1
    omega
   ·rw [Nat.min_eq_left (by omega), Nat.sub_self, torn_zero]
    have h2 := c.apply_len b n h.1
    omega
/-! ### names -/
abbrev Nm := List (By × Nat)
namespace Nm
def del (l : Nm) (n : By) : Nm := l.filter (fun p => !(p.1 == n))
def ins (x : By × Nat) : Nm → Nm
 | [] => [x]
 | y :: r => if bytesBefore x.1 y.1 then x :: y :: r else y :: ins x r
def put (l : Nm) (n : By) (k : Nat) : Nm := ins (n, k) (l.del n)
def get (l : Nm) (n : By) : Option Nat := (l.find? (fun p => p.1 == n)).map (·.2)
def Up (l : Nm) : Prop := l.Pairwise (fun p q => bytesBefore p.1 q.1 = true)
def ids (l : Nm) : List Nat := l.map (·.2)
def keys (l : Nm) : List By := l.map (·.1)
end Nm
theorem before_irrefl (a : By) : bytesBefore a a = false := by
 induction a with
 | nil => rfl
 | cons x r ih => simp [bytesBefore, ih]
theorem before_trans {a b c : By} (h : bytesBefore a b = true) (h2 : bytesBefore b c = true) : bytesBefore a c = true := by
 induction a generalizing b c with
 | nil => cases b with
  | nil => simp [bytesBefore] at h
  | cons y s => cases c with
   | nil => simp [bytesBefore] at h2
   | cons z t => rfl
 | cons x r ih => cases b with
  | nil => simp [bytesBefore] at h
  | cons y s => cases c with
   | nil => simp [bytesBefore] at h2
   | cons z t =>
    simp only [bytesBefore, Bool.or_eq_true, Bool.and_eq_true, decide_eq_true_eq, beq_iff_eq] at *
    rcases h with h | ⟨rfl, h⟩
    ·rcases h2 with h2 | ⟨rfl, h2⟩
     ·exact .inl (UInt8.lt_trans h h2)
     ·exact .inl h
    ·rcases h2 with h2 | ⟨rfl, h2⟩
     ·exact .inl h2
     ·exact .inr ⟨rfl, ih h h2⟩
theorem before_total {a b : By} (h : bytesBefore a b = false) (hne : a ≠ b) : bytesBefore b a = true := by
 induction a generalizing b with
 | nil => cases b with
  | nil => exact absurd rfl hne
  | cons y s => simp [bytesBefore] at h
 | cons x r ih => cases b with
  | nil => rfl
  | cons y s =>
   simp only [bytesBefore, Bool.or_eq_false_iff, Bool.and_eq_false_iff, decide_eq_false_iff_not, beq_eq_false_iff_ne, Bool.or_eq_true, Bool.and_eq_true, decide_eq_true_eq, beq_iff_eq] at *
   by_cases e : x = y
   ·subst e
    exact .inr ⟨rfl, ih (by rcases h.2 with h2 | h2; exact absurd rfl h2; exact h2) (fun e => hne (by rw [e]))⟩
   ·left
    have h1 := h.1
    rw [UInt8.lt_iff_toNat_lt] at *
    have : x.toNat ≠ y.toNat := fun e2 => e (UInt8.toNat_inj.1 e2)
    omega
namespace Nm
theorem mem_ins {x y : By × Nat} {l : Nm} : y ∈ ins x l ↔ y = x ∨ y ∈ l := by
 induction l with
 | nil => simp [ins]
 | cons z r ih =>
  simp only [ins]
  split
  ·simp
  ·simp [ih, or_left_comm]
theorem mem_del {l : Nm} {n : By} {p : By × Nat} : p ∈ l.del n ↔ p ∈ l ∧ p.1 ≠ n := by simp [del]
theorem mem_put {l : Nm} {n : By} {k : Nat} {p : By × Nat} : p ∈ l.put n k ↔ p = (n, k) ∨ (p ∈ l ∧ p.1 ≠ n) := by rw [put, mem_ins, mem_del]
theorem Up.del {l : Nm} (h : Up l) (n : By) : Up (l.del n) := h.filter _
theorem Up.ins {x : By × Nat} {l : Nm} (h : Up l) (hn : ∀ p ∈ l, p.1 ≠ x.1) : Up (ins x l) := by
 induction l with
 | nil => simp [Nm.ins, Up]
 | cons y r ih =>
  have h' := List.pairwise_cons.1 h
  simp only [Nm.ins]
  split
  ·rename_i hb
   refine List.pairwise_cons.2 ⟨fun p hp => ?_, h⟩
   rcases List.mem_cons.1 hp with rfl | hp
   ·exact hb
   ·exact before_trans hb (h'.1 p hp)
  ·rename_i hb
   refine List.pairwise_cons.2 ⟨fun p hp => ?_, ih h'.2 (fun p hp => hn p (by simp [hp]))⟩
   rcases mem_ins.1 hp with rfl | hp
   ·exact before_total (by simpa using hb) (fun e => hn y (by simp) e.symm)
   ·exact h'.1 p hp
theorem Up.put {l : Nm} (h : Up l) (n : By) (k : Nat) : Up (l.put n k) := (h.del n).ins (fun p hp => (mem_del.1 hp).2)
theorem Up.uniq {l : Nm} (h : Up l) {n : By} {j k : Nat} (hj : (n, j) ∈ l) (hk : (n, k) ∈ l) : j = k := by
 induction l with
 | nil => simp at hj
 | cons x r ih =>
  have h' := List.pairwise_cons.1 h
  rcases List.mem_cons.1 hj with e | hj <;> rcases List.mem_cons.1 hk with e2 | hk
  ·rw [← e] at e2; injection e2 with _ e2; exact e2.symm
  ·have := h'.1 _ hk; rw [← e, before_irrefl] at this; cases this
  ·have := h'.1 _ hj; rw [← e2, before_irrefl] at this; cases this
  ·exact ih h'.2 hj hk
theorem get_some {l : Nm} (h : Up l) {n : By} {k : Nat} : l.get n = some k ↔ (n, k) ∈ l := by
 constructor
 ·intro hg
  simp only [get, Option.map_eq_some_iff] at hg
  obtain ⟨p, hp, rfl⟩ := hg
  have h1 := List.mem_of_find?_eq_some hp
  have h2 := List.find?_some hp
  simp only [beq_iff_eq] at h2
  rw [← h2]
  exact h1
 ·intro hm
  cases hf : l.find? (fun p => p.1 == n) with
  | none => have := List.find?_eq_none.1 hf _ hm; simp at this
  | some p =>
   have h1 := List.mem_of_find?_eq_some hf
   have h2 := List.find?_some hf
   simp only [beq_iff_eq] at h2
   simp only [get, hf, Option.map_some, Option.some.injEq]
   exact h.uniq (n := n) (by rw [← h2]; exact h1) hm
theorem get_none {l : Nm} {n : By} : l.get n = none ↔ ∀ p ∈ l, p.1 ≠ n := by
 simp [get, List.find?_eq_none]
theorem ins_length (x : By × Nat) (l : Nm) : (ins x l).length = l.length + 1 := by
 induction l with
 | nil => rfl
 | cons y r ih => simp only [ins]; split <;> simp [ih]
theorem del_length_le (l : Nm) (n : By) : (l.del n).length ≤ l.length := List.length_filter_le _ _
theorem put_length_le (l : Nm) (n : By) (k : Nat) : (l.put n k).length ≤ l.length + 1 := by rw [put, ins_length]; have := del_length_le l n; omega
theorem ins_perm (x : By × Nat) (l : Nm) : (ins x l).Perm (x :: l) := by
 induction l with
 | nil => exact .refl _
 | cons y r ih =>
  simp only [ins]
  split
  ·exact .refl _
  ·exact (ih.cons y).trans (.swap _ _ _)
theorem del_ins {x : By × Nat} {n : By} (hne : x.1 ≠ n) (l : Nm) (h : Up l) (hx : ∀ p ∈ l, p.1 ≠ x.1) : (ins x l).del n = ins x (l.del n) := by
 induction l with
 | nil => simp [ins, del, hne]
 | cons y r ih =>
  have h' := List.pairwise_cons.1 h
  have ih' := ih h'.2 (fun p hp => hx p (by simp [hp]))
  by_cases hy : y.1 = n
  ·simp only [ins]
   split
   ·rename_i hb
    have e1 : del (x :: y :: r) n = x :: del r n := by simp [del, hne, hy]
    have e2 : del (y :: r) n = del r n := by simp [del, hy]
    rw [e1, e2]
    cases hr : del r n with
    | nil => rfl
    | cons z s =>
     have hz : z ∈ r := (mem_del.1 (by rw [hr]; simp : z ∈ del r n)).1
     simp only [ins]
     rw [if_pos (before_trans hb (h'.1 z hz))]
   ·have e1 : del (y :: ins x r) n = del (ins x r) n := by simp [del, hy]
    have e2 : del (y :: r) n = del r n := by simp [del, hy]
    rw [e1, e2, ih']
  ·have e2 : del (y :: r) n = y :: del r n := by simp [del, hy]
   rw [e2]
   simp only [ins]
   split
   ·simp [del, hne, hy]
   ·have e1 : del (y :: ins x r) n = y :: del (ins x r) n := by simp [del, hy]
    rw [e1, ih']
theorem del_comm (l : Nm) (a b : By) : (l.del a).del b = (l.del b).del a := by simp [del, List.filter_filter, Bool.and_comm]
theorem put_del {l : Nm} (h : Up l) {f t : By} (hne : f ≠ t) (k : Nat) : (l.put t k).del f = (l.del f).put t k := by
 rw [put, put, del_ins (fun e => hne e.symm) _ (h.del t) (fun p hp => (mem_del.1 hp).2), del_comm]
end Nm
inductive Nc where
 | mk (n : By) (k : Nat)
 | gv (f t : By)
 | tk (n : By)
namespace Nc
def apply : Nc → Nm → Nm
 | .mk n k, l => l.put n k
 | .gv f t, l => match l.get f with
  | some k => (l.put t k).del f
  | none => l
 | .tk n, l => l.del n
def ok (l : Nm) : Nc → Prop
 | .mk _ _ => True
 | .gv f t => f ≠ t ∧ ∃ k, l.get f = some k
 | .tk _ => True
def made : Nc → List Nat
 | .mk _ k => [k]
 | _ => []
end Nc
def runN : Nm → List Nc → Nm
 | l, [] => l
 | l, c :: r => runN (c.apply l) r
def okN : Nm → List Nc → Prop
 | _, [] => True
 | l, c :: r => c.ok l ∧ okN (c.apply l) r
def madeN (r : List Nc) : List Nat := r.flatMap Nc.made
theorem runN_snoc (l : Nm) (r : List Nc) (c : Nc) : runN l (r ++ [c]) = c.apply (runN l r) := by
 induction r generalizing l with
 | nil => rfl
 | cons x r ih => simp only [List.cons_append, runN, ih]
theorem okN_snoc (l : Nm) (r : List Nc) (c : Nc) : okN l (r ++ [c]) ↔ okN l r ∧ c.ok (runN l r) := by
 induction r generalizing l with
 | nil => simp [okN, runN]
 | cons x r ih => simp only [List.cons_append, okN, runN, ih, and_assoc]
theorem okN_take (l : Nm) (r : List Nc) (n : Nat) (h : okN l r) : okN l (r.take n) := by
 induction r generalizing l n with
 | nil => simpa using h
 | cons x r ih =>
  cases n with
  | zero => simp [okN]
  | succ n => exact ⟨h.1, ih _ n h.2⟩
theorem apply_up {l : Nm} (h : l.Up) (c : Nc) : (c.apply l).Up := by
 cases c with
 | mk n k => exact h.put n k
 | gv f t =>
  simp only [Nc.apply]
  split
  ·exact (h.put _ _).del _
  ·exact h
 | tk n => exact h.del n
theorem runN_up {l : Nm} (h : l.Up) (r : List Nc) : (runN l r).Up := by
 induction r generalizing l with
 | nil => exact h
 | cons c r ih => exact ih (apply_up h c)
theorem apply_len (l : Nm) (c : Nc) : (c.apply l).length ≤ l.length + 1 := by
 cases c with
 | mk n k => exact Nm.put_length_le l n k
 | gv f t =>
  simp only [Nc.apply]
  split
  ·exact Nat.le_trans (Nm.del_length_le _ _) (Nm.put_length_le l _ _)
  ·omega
 | tk n => exact Nat.le_trans (Nm.del_length_le l n) (by omega)
theorem runN_len (l : Nm) (r : List Nc) : (runN l r).length ≤ l.length + r.length := by
 induction r generalizing l with
 | nil => simp [runN]
 | cons c r ih => have := ih (c.apply l); have := apply_len l c; simp only [runN, List.length_cons]; omega
end Dsk
end

section
set_option linter.unusedVariables false
set_option linter.unusedSimpArgs false
namespace Dsk
structure Th where
 safe : By
 row : List Ch
 shown : By
def Th.new : Th := ⟨[], [], []⟩
def Th.ok (t : Th) : Prop := fits t.safe t.row ∧ t.shown = runs t.safe t.row
def Th.change (t : Th) (c : Ch) : Th := ⟨t.safe, t.row ++ [c], c.apply t.shown c.units⟩
def Th.sync (t : Th) : Th := ⟨t.shown, [], t.shown⟩
def rnd (p : Int) (n : Nat) : Nat := (p % ((n : Int) + 1)).toNat
def Th.crash (t : Th) (p : Int) : Th := ⟨torn t.safe t.row (rnd p (unitsOf t.row)), [], torn t.safe t.row (rnd p (unitsOf t.row))⟩
theorem rnd_le (p : Int) (n : Nat) : rnd p n ≤ n := by
 unfold rnd
 have h1 := Int.emod_nonneg p (b := (n : Int) + 1) (by omega)
 have h2 := Int.emod_lt_of_pos p (b := (n : Int) + 1) (by omega)
 omega
theorem Th.new_ok : Th.new.ok := ⟨trivial, rfl⟩
theorem Th.ok.change {t : Th} (h : t.ok) {c : Ch} (hc : c.place ≤ t.shown.length) : (t.change c).ok := by
 refine ⟨(fits_snoc _ _ _).2 ⟨h.1, by show c.place ≤ (runs t.safe t.row).length; rw [← h.2]; exact hc⟩, ?_⟩
 show c.apply t.shown c.units = runs t.safe (t.row ++ [c])
 rw [runs_snoc, ← h.2]
theorem Th.sync_ok (t : Th) : t.sync.ok := ⟨trivial, rfl⟩
theorem Th.crash_ok (t : Th) (p : Int) : (t.crash p).ok := ⟨trivial, rfl⟩
structure Span where
 name : By
 at_ : Nat
 n : Nat
structure Ds where
 room : Nat
 on : Bool
 safe : Nm
 row : List Nc
 shown : Nm
 th : Nat → Th
 nx : Nat
 strokes : Nat
 off : Int
 from_ : Int
 to : Int
 planned : Nat
 reads : List Span
def okByte (c : UInt8) : Bool := (97 ≤ c && c ≤ 122) || (48 ≤ c && c ≤ 57) || c == 46 || c == 45 || c == 95 || c == 43
def isNm (n : By) : Bool := decide (1 ≤ n.length) && decide (n.length ≤ 112) && n.all okByte
def upd {α : Type} (f : Nat → α) (k : Nat) (a : α) : Nat → α := fun j => if j = k then a else f j
theorem upd_same {α : Type} (f : Nat → α) (k : Nat) (a : α) : upd f k a k = a := by simp [upd]
theorem upd_other {α : Type} (f : Nat → α) {k j : Nat} (a : α) (h : j ≠ k) : upd f k a j = f j := by simp [upd, h]
namespace Ds
def used (S : Ds) : Nat := (S.shown.map (fun p => (S.th p.2).shown.length)).sum
def lacks (S : Ds) : Bool := decide (S.from_ ≤ (S.planned : Int) + 1) && decide ((S.planned : Int) + 1 ≤ S.to)
def full (S : Ds) (more : Int) : Bool := S.lacks || (decide (0 < more) && decide ((S.room : Int) < S.used + more))
def goesOff (S : Ds) : Bool := decide ((S.planned : Int) + 1 = S.off)
def tick (S : Ds) : Ds := { S with strokes := S.strokes + 1, planned := S.planned + 1, on := S.on && !S.goesOff }
def ans (S : Ds) (refused : Int) : Int := if S.goesOff then 50 else refused
def find (S : Ds) (n : By) : Int × Nat :=
 if S.on then (if isNm n then (match S.shown.get n with | some k => (0, k) | none => (53, 0)) else (51, 0)) else (50, 0)
def addName (S : Ds) (c : Nc) : Ds := { S with row := S.row ++ [c], shown := c.apply S.shown }
def addByte (S : Ds) (k : Nat) (c : Ch) : Ds := { S with th := upd S.th k ((S.th k).change c) }
def refusedCreate (S : Ds) : Int := if 256 ≤ S.shown.length then 56 else if S.lacks then 55 else 0
def create (S : Ds) (n : By) : Int × Ds :=
 if (S.find n).1 = 0 then (52, S)
 else if (S.find n).1 ≠ 53 then ((S.find n).1, S)
 else if S.refusedCreate = 0 then (S.ans 0, ({ S.tick with th := upd S.th S.nx Th.new, nx := S.nx + 1 } : Ds).addName (.mk n S.nx))
 else (S.ans S.refusedCreate, S.tick)
def write (S : Ds) (k : Nat) (a : Nat) (d : By) : Int × Ds :=
 if S.full ((a : Int) + d.length - (S.th k).shown.length) then (S.ans 55, S.tick)
 else (S.ans 0, S.tick.addByte k (.wr a d))
def writeAt (S : Ds) (n : By) (a : Int) (d : By) : Int × Ds :=
 if (S.find n).1 ≠ 0 then ((S.find n).1, S)
 else if a < 0 ∨ (S.th (S.find n).2).shown.length < a then (54, S)
 else S.write (S.find n).2 a.toNat d
def append (S : Ds) (n : By) (d : By) : Int × Ds :=
 if (S.find n).1 ≠ 0 then ((S.find n).1, S) else S.write (S.find n).2 (S.th (S.find n).2).shown.length d
def truncate (S : Ds) (n : By) (a : Int) : Int × Ds :=
 if (S.find n).1 ≠ 0 then ((S.find n).1, S)
 else if a < 0 ∨ (S.th (S.find n).2).shown.length < a then (54, S)
 else (S.ans 0, S.tick.addByte (S.find n).2 (.cut a.toNat))
def rename (S : Ds) (f t : By) : Int × Ds :=
 if S.on then
  (if isNm t then
   (if (S.find f).1 ≠ 0 then ((S.find f).1, S)
       else if f = t then (S.ans 0, S.tick) else (S.ans 0, S.tick.addName (.gv f t)))
     else (51, S))
 else (50, S)
def remove (S : Ds) (n : By) : Int × Ds :=
 if (S.find n).1 ≠ 0 then ((S.find n).1, S) else (S.ans 0, S.tick.addName (.tk n))
def sync (S : Ds) (n : By) : Int × Ds :=
 if (S.find n).1 ≠ 0 then ((S.find n).1, S)
 else if S.goesOff then (50, S.tick) else (0, { S.tick with th := upd S.th (S.find n).2 (S.th (S.find n).2).sync })
def syncNames (S : Ds) : Int × Ds :=
 if S.on then (if S.goesOff then (50, S.tick) else (0, { S.tick with safe := S.shown, row := [] })) else (50, S)
def readOk (S : Ds) (n : By) (a m : Int) : Int :=
 if (S.find n).1 ≠ 0 then (S.find n).1
 else if a < 0 ∨ m < 0 ∨ ((S.th (S.find n).2).shown.length : Int) < a ∨ ((S.th (S.find n).2).shown.length : Int) - a < m then 54 else 0
def readBytes (S : Ds) (n : By) (a m : Int) : By := if S.readOk n a m = 0 then ((S.th (S.find n).2).shown.drop a.toNat).take m.toNat else []
def read (S : Ds) (n : By) (a m : Int) : Ds := if S.readOk n a m = 0 then { S with reads := S.reads ++ [⟨n, a.toNat, m.toNat⟩] } else S
def size (S : Ds) (n : By) : Int := if (S.find n).1 ≠ 0 then 0 else (S.th (S.find n).2).shown.length
def list (S : Ds) (p : By) : List By := if S.on then S.shown.keys.filter (fun n => p.isPrefixOf n) else []
def setPlan (S : Ds) (o f t : Int) : Ds := if S.on then { S with off := o, from_ := f, to := t, planned := 0 } else S
def files (S : Ds) : List (By × By) := S.shown.map (fun p => (p.1, (S.th p.2).shown))
def safeFiles (S : Ds) : List (By × By) := S.safe.map (fun p => (p.1, (S.th p.2).safe))
def look (S : Ds) : Ds := { S with reads := [] }
def crashTh (ps : List Int) : Nat → Nm → (Nat → Th) → (Nat → Th)
 | _, [], th => th
 | i, p :: r, th => crashTh ps (i + 1) r (upd th p.2 ((th p.2).crash (ps.getD (i + 1) 0)))
def crashNm (S : Ds) (ps : List Int) : Nm := runN S.safe (S.row.take (rnd (ps.getD 0 0) S.row.length))
def crash (S : Ds) (ps : List Int) : Ds :=
 { S with on := true, safe := S.crashNm ps, row := [], shown := S.crashNm ps, th := crashTh ps 0 (S.crashNm ps) S.th, strokes := 0, off := 0, from_ := 0, to := 0, planned := 0 }
def fresh (room : Nat) : Ds := ⟨room, true, [], [], [], fun _ => Th.new, 0, 0, 0, 0, 0, 0, []⟩
structure Wf (S : Ds) : Prop where
 room : 1 ≤ S.room ∧ S.room ≤ 1048576
 up : S.safe.Up
 shown : S.shown = runN S.safe S.row
 ok : okN S.safe S.row
 nodup : (S.safe.ids ++ madeN S.row).Nodup
 lt : ∀ k ∈ S.safe.ids ++ madeN S.row, k < S.nx
 nm : ∀ p ∈ S.safe, isNm p.1 = true
 nmr : ∀ c ∈ S.row, match c with | .mk n _ => isNm n = true | .gv f t => isNm f = true ∧ isNm t = true | .tk n => isNm n = true
 th : ∀ k, k < S.nx → (S.th k).ok
structure Bd (S : Ds) (N : Nat) : Prop where
 nm : S.safe.length + S.row.length ≤ N
 th : ∀ k, k < S.nx → (S.th k).safe.length + unitsOf (S.th k).row + (S.th k).row.length ≤ N
 reads : S.reads.length ≤ N
 strokes : S.strokes ≤ N
 planned : S.planned ≤ N
end Ds
end Dsk
end

end Go.Proofs.YtodihkdmneihiaaGreatDoor
