import Derived.Test.YtmklodligplbaabGreatProg
import Derived.Deep.RegionHeld
import Derived.Tactics
import Derived.WalkKit
import Derived.WalkSpells
import Derived.WalkLawsBesides
import Derived.Maps.RangeRun
import Derived.Laws.IdiomRangeMap
import Derived.WideKeyEntry
import Derived.Deep.QuietTactic
import Derived.BigQuiet
import Derived.Laws.BitsAllLaws
import Derived.Laws.AppendOwnNone
import Derived.Deep.RegionWith
open Go.RowKit
set_option linter.unusedVariables false
set_option linter.unusedSimpArgs false
set_option maxRecDepth 100000
set_option maxHeartbeats 0
namespace Go.Proofs.YtmklodligplbaabGreat
section
theorem z1 {α : Type} {xs : List α} {i : Nat} (h : i < xs.toArray.size) : xs.toArray[i] = xs[i]'(by simpa using h) := List.getElem_toArray h
theorem z2 {α : Type} (a : α) (cs : List α) (h : 0 < (a :: cs).length) : (a :: cs)[0] = a := rfl
theorem z3 {α : Type} (a : α) (cs : List α) (i : Nat) (h : i + 1 < (a :: cs).length) : (a :: cs)[i + 1] = cs[i]'(Nat.lt_of_succ_lt_succ h) := rfl
theorem z4 (a : Act) (v : Value) (d : Tmp) : a.put (some d) v = { tmps := a.tmps.setIfInBounds d v, defers := a.defers } := rfl
theorem z5 (a : Act) (v : Value) : a.put none v = a := rfl
theorem z6 {α : Type} (l : List α) (i : Nat) (a : α) : l.toArray.setIfInBounds i a = (l.set i a).toArray := List.setIfInBounds_toArray l i a
theorem z7 {α : Type} {x : α} {xs : List α} {a : α} : (x :: xs).set 0 a = a :: xs := rfl
theorem z8 {α : Type} {x : α} {xs : List α} {i : Nat} {a : α} : (x :: xs).set (i + 1) a = x :: xs.set i a := rfl
theorem zz : (∀ {α : Type} {xs : List α} {i : Nat} (h : i < xs.toArray.size), xs.toArray[i] = xs[i]'(by simpa using h)) ∧ (∀ {α : Type} (a : α) (cs : List α) (h : 0 < (a :: cs).length), (a :: cs)[0] = a) ∧ (∀ {α : Type} (a : α) (cs : List α) (i : Nat) (h : i + 1 < (a :: cs).length), (a :: cs)[i + 1] = cs[i]'(Nat.lt_of_succ_lt_succ h)) ∧ (∀ (a : Act) (v : Value) (d : Tmp), a.put (some d) v = { tmps := a.tmps.setIfInBounds d v, defers := a.defers }) ∧ (∀ (a : Act) (v : Value), a.put none v = a) ∧ (∀ {α : Type} (l : List α) (i : Nat) (a : α), l.toArray.setIfInBounds i a = (l.set i a).toArray) ∧ (∀ {α : Type} {x : α} {xs : List α} {a : α}, (x :: xs).set 0 a = a :: xs) ∧ (∀ {α : Type} {x : α} {xs : List α} {i : Nat} {a : α}, (x :: xs).set (i + 1) a = x :: xs.set i a) := ⟨fun h => List.getElem_toArray h, fun _ _ _ => rfl, fun _ _ _ _ => rfl, fun _ _ _ => rfl, fun _ _ => rfl, fun l i a => List.setIfInBounds_toArray l i a, rfl, rfl⟩
section
variable {P : Program} {ops : Array Oper} {Q : Exit → Act → World → Prop} {md : Region.Mode} {S : World → Prop} {fuel : Nat} {listed : Array Bool} {a : Act} {w : World} {oi : Oper}
theorem t4 (i : Nat) (v : Value) (hi : ops[i]? = some oi) (hy : YieldsIf P ops S oi v a) (hS : S w) (h : wpAnyH P md ops Q S fuel (listed.setIfInBounds i true) (a.put oi.dst v) w) (hs : Region.noSelect ops = true := by kernel_rfl) (hf : Region.free md ops listed i = true := by kernel_rfl) (hr : (Region.ready md ops listed).contains i = true := by kernel_rfl) (hQ : ∀ c a w, Q (.panic c) (a.put oi.dst v) w → Q (.panic c) a w := by exact fun _ _ _ h => h) : wpAnyH P md ops Q S (fuel + 1) listed a w := wpAnyH_take hi hs hf hr hQ hy hS h
theorem t5 (i : Nat) (v : Value) (hi : ops[i]? = some oi) (hQ : ∀ c a w, Q (.panic c) (a.put oi.dst v) w → Q (.panic c) a w) (hy : YieldsIf P ops S oi v a) (hS : S w) (h : wpAnyH P md ops Q S fuel (listed.setIfInBounds i true) (a.put oi.dst v) w) (hs : Region.noSelect ops = true := by kernel_rfl) (hf : Region.free md ops listed i = true := by kernel_rfl) (hr : (Region.ready md ops listed).contains i = true := by kernel_rfl) : wpAnyH P md ops Q S (fuel + 1) listed a w := wpAnyH_take hi hs hf hr hQ hy hS h
theorem t1 (i : Nat) (v : Value) (hS : S w) (h : wpAnyH P md ops Q S fuel (listed.setIfInBounds i true) (a.put oi.dst v) w) (hi : ops[i]? = some oi := by exact rfl) (hs : Region.noSelect ops = true := by kernel_rfl) (hf : Region.free md ops listed i = true := by kernel_rfl) (hr : (Region.ready md ops listed).contains i = true := by kernel_rfl) (hQ : ∀ c a w, Q (.panic c) (a.put oi.dst v) w → Q (.panic c) a w := by exact fun _ _ _ h => h) (h1 : Region.wanted oi (yielded ops a.tmps) = true := by rfl) (h2 : ∀ w, S w → (execOp a.eval oi).run P w = .ok (.value v) w := by (intro w hSw; go_simp)) : wpAnyH P md ops Q S (fuel + 1) listed a w := wpAnyH_take hi hs hf hr hQ (.inl ⟨h1, h2⟩) hS h
theorem t2 (i : Nat) (v : Value) (hi : ops[i]? = some oi) (hS : S w) (h : wpAnyH P md ops Q S fuel (listed.setIfInBounds i true) (a.put oi.dst v) w) (h2 : ∀ w, S w → (execOp a.eval oi).run P w = .ok (.value v) w) (hs : Region.noSelect ops = true := by kernel_rfl) (hf : Region.free md ops listed i = true := by kernel_rfl) (hr : (Region.ready md ops listed).contains i = true := by kernel_rfl) (hQ : ∀ c a w, Q (.panic c) (a.put oi.dst v) w → Q (.panic c) a w := by exact fun _ _ _ h => h) (h1 : Region.wanted oi (yielded ops a.tmps) = true := by rfl) : wpAnyH P md ops Q S (fuel + 1) listed a w := wpAnyH_take hi hs hf hr hQ (.inl ⟨h1, h2⟩) hS h
theorem t3 (i : Nat) (hS : S w) (h : wpAnyH P md ops Q S fuel (listed.setIfInBounds i true) (a.put oi.dst undef) w) (hi : ops[i]? = some oi := by exact rfl) (hs : Region.noSelect ops = true := by kernel_rfl) (hf : Region.free md ops listed i = true := by kernel_rfl) (hr : (Region.ready md ops listed).contains i = true := by kernel_rfl) (hQ : ∀ c a w, Q (.panic c) (a.put oi.dst undef) w → Q (.panic c) a w := by exact fun _ _ _ h => h) (h1 : Region.wanted oi (yielded ops a.tmps) = false := by kernel_rfl) : wpAnyH P md ops Q S (fuel + 1) listed a w := wpAnyH_take hi hs hf hr hQ (.inr ⟨h1, rfl⟩) hS h
theorem rd (i : Nat) (h : ∀ K' : Act → World → Prop, Shut (∀ a w, S w → (S w → wpAnyH P md ops Q S fuel (listed.setIfInBounds i true) a w) → K' a w) → Oper.wp P oi a w K' Q) (hi : ops[i]? = some oi := by exact rfl) (hr : Region.ready md ops listed = [i] := by kernel_rfl) (h1 : Region.wanted oi (yielded ops a.tmps) = true := by rfl) : wpAnyH P md ops Q S (fuel + 1) listed a w := wpAnyH_ready hr (by simp) (AllReadyH.cons hi (fun K hK => by rw [if_pos h1]; exact h K hK) AllReadyH.nil)
theorem qd (h : Q .normal a w) (hr : Region.ready md ops listed = [] := by kernel_rfl) : wpAnyH P md ops Q S fuel listed a w := wpAnyH_done hr h fuel
end
theorem ai {a b : Prop} (h : a) (k : b) : a ∧ b := ⟨h, k⟩
theorem nm {α : Sort _} (x : α) : ∃ y, x = y := ⟨x, rfl⟩
theorem gs {α : Type _} {a : Array α} {i : Nat} {b : α} (h : a[i]? = some b) : ∃ h : i < a.size, a[i] = b := Array.getElem?_eq_some_iff.1 h
structure Kept (l : List Nat) (w w' : World) : Prop where
 os : w'.os = w.os
 tape : w'.tape = w.tape
 output : w'.output = w.output
 size : w.heap.size <= w'.heap.size
 block : ∀ k, k < w.heap.size -> k ∉ l -> w'.heap[k]? = w.heap[k]?
theorem Kept.refl (l : List Nat) (w : World) : Kept l w w := ⟨rfl, rfl, rfl, Nat.le_refl _, fun _ _ _ => rfl⟩
theorem Kept.trans {l l2 : List Nat} {a b c : World} (h : Kept l a b) (k : Kept l2 b c) (hl : ∀ i, i ∈ l2 -> i < a.heap.size -> i ∈ l) : Kept l a c :=
 ⟨k.os.trans h.os, k.tape.trans h.tape, k.output.trans h.output, Nat.le_trans h.size k.size,
  fun i hi hn => (k.block i (Nat.lt_of_lt_of_le hi h.size) (fun hm => hn (hl i hm hi))).trans (h.block i hi hn)⟩
theorem Kept.mono {l l2 : List Nat} {a b : World} (h : Kept l a b) (hl : ∀ i, i ∈ l -> i < a.heap.size -> i ∈ l2) : Kept l2 a b :=
 ⟨h.os, h.tape, h.output, h.size, fun i hi hn => h.block i hi (fun hm => hn (hl i hm hi))⟩
theorem Kept.drewN {l : List Nat} {a w : World} (h : Kept l a w) (n : Nat) : Kept l a (w.drewN n) := ⟨h.os, h.tape, h.output, h.size, h.block⟩
theorem Kept.drew {l : List Nat} {a w : World} (h : Kept l a w) : Kept l a w.drew := ⟨h.os, h.tape, h.output, h.size, h.block⟩
theorem Kept.alloc {l : List Nat} {a w : World} (h : Kept l a w) (o : Obj) : Kept l a (w.alloc o) :=
 h.trans (l2 := []) ⟨rfl, rfl, rfl, by simp, fun k hk _ => Below.heap_alloc _ _ _ hk⟩ (by simp)
theorem Kept.setCell {l : List Nat} {a w : World} (h : Kept l a w) {p : Addr} (hp : p.block < a.heap.size -> p.block ∈ l) (u : Value) : Kept l a (w.setCell p u) :=
 h.trans (l2 := [p.block]) ⟨rfl, rfl, rfl, by simp [World.setCell], fun k _ hn => Below.heap_setCell _ _ _ _ (by simpa using hn)⟩ (by simpa using hp)
theorem Kept.grown {l : List Nat} {a w w' : World} {row : Option Nat} (h : Kept l a w) (hg : w.grownBy w' row) (hr : ∀ k, row = some k -> k < a.heap.size -> k ∈ l) : Kept l a w' :=
 ⟨hg.os.trans h.os, hg.tape.trans h.tape, hg.output.trans h.output, Nat.le_trans h.size hg.size,
  fun i hi hn => (hg.block i (Nat.lt_of_lt_of_le hi h.size) (fun e => hn (hr i e.symm hi))).trans (h.block i hi hn)⟩
theorem Kept.of_below {w w' : World} (h : Below w.heap.size w w') : Kept [] w w' := ⟨h.os, h.tape, h.output, h.size, fun k hk _ => h.block k hk⟩
theorem Kept.below {B : Nat} {l : List Nat} {w w' : World} (h : Kept l w w') (hB : B <= w.heap.size) (hl : ∀ i, i ∈ l -> B <= i) : Below B w w' :=
 ⟨h.os, h.tape, h.output, h.size, fun k hk => h.block k (by omega) (fun hm => by have := hl k hm; omega)⟩
theorem Kept.cell {l : List Nat} {w w' : World} (h : Kept l w w') {p : Addr} (hp : p.block < w.heap.size) (hn : p.block ∉ l) : w'.cell? p = w.cell? p := World.cell?_of_block (w := w) (h.block p.block hp hn)
theorem Kept.cellOf {l : List Nat} {w w' : World} (h : Kept l w w') {p : Addr} {v : Value} (hc : w.cell? p = some v) (hn : p.block ∉ l) : w'.cell? p = some v := by
 rw [h.cell (World.block_lt_of_cell? _ _ hc) hn]; exact hc
theorem Kept.tr {l l2 : List Nat} {a b c : World} (h : Kept l a b) (k : Kept l2 b c) (hl : ∀ i, i ∈ l2 → i < a.heap.size → i ∈ l := by simp) : Kept l a c := h.trans k hl
theorem th {P : Program} {ops : Array Oper} {Q : Exit → Act → World → Prop} (w : World) {id : Nat} {a : Act} (h : Kept [] w w.drew → wpAnyH P .any ops Q (fun w' => Kept [] w w') ops.size (Array.replicate ops.size false) a w.drew) (hm : P.follows .mixedOrders = true := by kernel_rfl) : (Code.region id ops true).wp P Q a w := wp_region_held_drew (S := fun w' => Kept [] w w') hm ((Kept.refl [] w).drew) h
theorem qc {l : List Nat} {w w' : World} {p : Addr} {v : Value} (h : Kept l w w') (hc : w.cell? p = some v) (hn : p.block ∉ l := by simp) : w'.cell? p = some v := h.cellOf hc hn
theorem ka (w : World) (o : Obj) : Kept [] w (w.alloc o) := (Kept.refl [] w).alloc _
theorem Kept.frozen {l : List Nat} {w w' : World} (h : Kept l w w') {p : Addr} (hp : p.block < w.heap.size) (hn : p.block ∉ l) : w'.frozen? p = w.frozen? p := World.frozen?_of_block (w := w) (h.block p.block hp hn)
def Sl (w : World) (ao : Option Addr) (xs : List UInt8) : Prop :=
 ∀ i, i < xs.length -> ∃ b off, ao = some ⟨b, off, none⟩ ∧ w.cell? ⟨b, off + i, none⟩ = some (.int .u8 (xs.getD i 0).toNat)
theorem Sl.open {w : World} {ao : Option Addr} {xs : List UInt8} (h : Sl w ao xs) (hn : xs ≠ []) :
  ∃ b off, ao = some ⟨b, off, none⟩ ∧ b < w.heap.size ∧ ∀ i, i < xs.length -> w.cell? ⟨b, off + i, none⟩ = some (.int .u8 (xs.getD i 0).toNat) := by
 obtain ⟨b, off, e, hc⟩ := h 0 (List.length_pos_iff.2 hn)
 refine ⟨b, off, e, World.block_lt_of_cell? _ _ hc, fun i hi => ?_⟩
 obtain ⟨b', off', e', hc'⟩ := h i hi
 rw [e] at e'
 cases e'
 exact hc'
theorem Sl.nil (w : World) (ao : Option Addr) : Sl w ao [] := fun i hi => by simp at hi
theorem Sl.of {w : World} {b off : Nat} {xs : List UInt8} (h : ∀ i, i < xs.length -> w.cell? ⟨b, off + i, none⟩ = some (.int .u8 (xs.getD i 0).toNat)) : Sl w (some ⟨b, off, none⟩) xs :=
 fun i hi => ⟨b, off, rfl, h i hi⟩
theorem Sl.kept {l : List Nat} {w w' : World} {ao : Option Addr} {xs : List UInt8} (h : Sl w ao xs) (hk : Kept l w w') (hn : xs ≠ [] -> ∀ a, ao = some a -> a.block ∉ l) : Sl w' ao xs := by
 intro i hi
 obtain ⟨b, off, rfl, hc⟩ := h i hi
 exact ⟨b, off, rfl, hk.cellOf hc (hn (by rintro rfl; simp at hi) ⟨b, off, none⟩ rfl)⟩
theorem Sl.drewN {w : World} {ao : Option Addr} {xs : List UInt8} (h : Sl w ao xs) (n : Nat) : Sl (w.drewN n) ao xs := h.kept ((Kept.refl [] w).drewN n) (by simp)
theorem Sl.drop {w : World} {g off : Nat} {xs : List UInt8} (h : Sl w (some ⟨g, off, none⟩) xs) (k cap : Nat) (hk : k <= xs.length) (hc : xs.length <= cap) :
  Sl w (if cap = k then some ⟨g, off, none⟩ else some ⟨g, off + k, none⟩) (xs.drop k) := by
 intro i hi
 simp only [List.length_drop] at hi
 obtain ⟨b', off', e', hcell⟩ := h (k + i) (by omega)
 cases e'
 rw [if_neg (by omega)]
 refine ⟨g, off + k, rfl, ?_⟩
 rw [Nat.add_assoc, hcell]
 simp [List.getElem?_drop]
theorem Sl.take {w : World} {ao : Option Addr} {xs : List UInt8} (h : Sl w ao xs) (k : Nat) : Sl w ao (xs.take k) := by
 intro i hi
 simp only [List.length_take] at hi
 obtain ⟨b', off', e', hcell⟩ := h i (by omega)
 refine ⟨b', off', e', ?_⟩
 rw [hcell]
 simp [show i < k by omega]
def bys (xs : List UInt8) : List Value := xs.map (fun x => .int .u8 x.toNat)
theorem bys_length (xs : List UInt8) : (bys xs).length = xs.length := by simp [bys]
theorem bys_get {xs : List UInt8} {j : Nat} {u : Value} (h : (bys xs)[j]? = some u) : j < xs.length ∧ u = .int .u8 (xs.getD j 0).toNat := by
 have hj : j < xs.length := by
  have := (List.getElem?_eq_some_iff.1 h).1
  simpa [bys] using this
 refine ⟨hj, ?_⟩
 simp [bys, List.getElem?_eq_getElem hj] at h
 simp [List.getElem?_eq_getElem hj, h]
theorem bys_at {xs : List UInt8} {j : Nat} (hj : j < xs.length) : (bys xs)[j]? = some (.int .u8 (xs.getD j 0).toNat) := by
 simp [bys, List.getElem?_eq_getElem hj]
theorem bys_append (xs ys : List UInt8) : bys (xs ++ ys) = bys xs ++ bys ys := by simp [bys]
theorem bys_oneCell (xs : List UInt8) : ∀ u ∈ bys xs, u.oneCell' = true := by
 intro u hu
 simp only [bys, List.mem_map] at hu
 obtain ⟨x, _, rfl⟩ := hu
 rfl
theorem Sl.cells {w : World} {b off : Nat} {xs : List UInt8} (h : ∀ i, i < xs.length -> w.cell? ⟨b, off + i, none⟩ = some (.int .u8 (xs.getD i 0).toNat)) :
  ∀ j u, (bys xs)[j]? = some u -> w.cell? ((⟨b, off, none⟩ : Addr).add j) = some u := by
 intro j u hu
 obtain ⟨hj, rfl⟩ := bys_get hu
 have : (⟨b, off, none⟩ : Addr).add j = ⟨b, off + j, none⟩ := by unfold Addr.add; split <;> simp_all
 rw [this]
 exact h j hj
theorem bys_set (l : List UInt8) (i : Nat) (c : UInt8) : (bys l).set i (.int .u8 c.toNat) = bys (l.set i c) := by simp [bys, List.map_set]
theorem own_sl {w : World} {base : Nat} {e : TypeId} {v : Value} {n : Nat} {xs : List UInt8} (h : w.ownsRow base e 1 v n (bys xs)) (hv : v ≠ .slice none 0 0) :
  ∃ g cap, v = .slice (some ⟨g, 0, none⟩) n cap ∧ base <= g ∧ g < w.heap.size ∧ n <= cap ∧ Sl w (some ⟨g, 0, none⟩) xs := by
 rcases h.2 with ⟨rfl, _⟩ | ⟨g, cap, cur, rfl, hb, hg, hn, _, hs, ht⟩
 ·exact absurd rfl hv
 ·refine ⟨g, cap, rfl, hb, (gs hg).1, hn, ?_⟩
  intro i hi
  refine ⟨g, 0, rfl, ?_⟩
  rw [Nat.zero_add, cell_of_row w g i cur e (0, 0) hg]
  have h1 := bys_at hi
  rw [<-ht, List.getElem?_take] at h1
  split at h1
  ·simpa using h1
  ·cases h1
end

section
open Go.ChangeMaps (setBlock heap_setBlock_same heap_setBlock_other)
def ikv (i : Int) : Value := .int .i64 i
theorem ikv_inj {a b : Int} (h : ikv a = ikv b) : a = b := by
 unfold ikv at h
 injection h
theorem il_key (i : Int) : MapKept.IsKey (.int .i64) (ikv i) := rfl
theorem il_check (w : World) (em : Bool) (i : Int) : (Instr.checkKey em 10000 3 (ikv i)).run Tryz.prog w = .ok () w := MapKept.run_checkKey Tryz.underlying3 (il_key i) em 9999
theorem il_find (w : World) (i : Int) (es : List MapEntry) (h : ∀ x ∈ es, ∃ n, x.key = ikv n) :
  ((Instr.findKey 3 (ikv i) es).run Tryz.prog w = .ok none w ∧ ∀ e ∈ es, e.key ≠ ikv i) ∨ ∃ j e, (Instr.findKey 3 (ikv i) es).run Tryz.prog w = .ok (some (j, e.val)) w ∧ es[j]? = some e ∧ e.key = ikv i := by
 rcases MapKept.findNow_spec (il_key i) es 0 (fun x hx => by obtain ⟨n, e⟩ := h x hx; rw [e]; exact il_key n) with ⟨h1, h2⟩ | ⟨j, e, h1, h2, h3⟩
 ·exact .inl ⟨MapKept.run_findKey Tryz.underlying3 h1, h2⟩
 ·rw [Nat.zero_add] at h1
  exact .inr ⟨j, e, MapKept.run_findKey Tryz.underlying3 h1, h2, h3⟩
theorem il_stays (w : World) (i : Int) : (Instr.keyThatStays (ikv i) (ikv i)).run Tryz.prog w = .ok (ikv i) w := by
 have hb : Instr.sameBits 10000 (Value.int IntKind.i64 i) (Value.int IntKind.i64 i) = true := by simp [Instr.sameBits]
 simp [Instr.keyThatStays, ikv, hb]
def Ik (w : World) (b : Nat) (K : List Int) (V : List Value) : Prop :=
 ∃ es clock, w.heap[b]? = some (.map es clock) ∧ MapKept.Stamped es clock ∧ es.toList.map (·.key) = K.map ikv ∧ es.toList.map (·.val) = V ∧ ∀ i ∈ K, True
section
variable {w w' : World} {b : Nat} {K : List Int} {V : List Value}
theorem Ik.lt (h : Ik w b K V) : b < w.heap.size := by
 obtain ⟨es, clock, hb, _⟩ := h
 exact (gs hb).1
theorem Ik.same (h : Ik w b K V) (hb : w'.heap[b]? = w.heap[b]?) : Ik w' b K V := by
 obtain ⟨es, clock, h1, h2⟩ := h
 exact ⟨es, clock, hb.trans h1, h2⟩
theorem Ik.kept {l : List Nat} (h : Ik w b K V) (hk : Kept l w w') (hn : b ∉ l) : Ik w' b K V := h.same (hk.block b h.lt hn)
theorem Ik.len (h : Ik w b K V) : V.length = K.length := by
 obtain ⟨es, clock, _, _, h1, h2, _⟩ := h
 have e1 := congrArg List.length h1
 rw [<-h2]
 simpa using e1
theorem Ik.nodup (h : Ik w b K V) : K.Nodup := by
 obtain ⟨es, clock, _, ⟨_, _, hs⟩, h1, _⟩ := h
 rw [h1] at hs
 exact List.Pairwise.of_map ikv (fun a b h e => h (by rw [e])) hs
theorem keys_int {es : Array MapEntry} (h1 : es.toList.map (·.key) = K.map ikv) : ∀ x ∈ es.toList, ∃ n, x.key = ikv n := fun x hx => by
 have : x.key ∈ K.map ikv := by rw [<-h1]; exact List.mem_map_of_mem hx
 obtain ⟨i, hm, e⟩ := List.mem_map.1 this
 exact ⟨i, e.symm⟩
theorem Ik.look (h : Ik w b K V) {t e : TypeId} (ht : Tryz.prog.underlying t = some (.map 3 e)) {z : Value} (hz : ∀ W, (zeroValue e).run Tryz.prog W = .ok z W) (i : Int) (ok : Bool) :
  (i ∉ K ∧ (Instr.lookup t (.map (some b)) (ikv i) ok).run Tryz.prog w = .ok (if ok = true then .tuple #[z, .bool false] else z) w) ∨
  ∃ (j : Nat) (v : Value), K[j]? = some i ∧ V[j]? = some v ∧ (Instr.lookup t (.map (some b)) (ikv i) ok).run Tryz.prog w = .ok (if ok = true then .tuple #[v, .bool true] else v) w := by
 obtain ⟨es, clock, hb, hs, h1, h2, h3⟩ := h
 rcases il_find w i es.toList (keys_int h1) with ⟨g1, g2⟩ | ⟨j, e0, g1, g2, g3⟩
 ·refine .inl ⟨fun hm => ?_, ?_⟩
  ·have : ikv i ∈ es.toList.map (·.key) := by rw [h1]; exact List.mem_map_of_mem hm
   obtain ⟨x, hx, e⟩ := List.mem_map.1 this
   exact g2 x hx e
  ·cases ok <;> simp [Instr.lookup, run_underlying ht, MapKept.run_getObj_map hb, il_check w es.isEmpty i, g1, hz, Result.andThen]
 ·refine .inr ⟨j, e0.val, ?_, ?_, ?_⟩
  ·have : (es.toList.map (·.key))[j]? = some (ikv i) := by rw [List.getElem?_map, g2]; simp [g3]
   rw [h1, List.getElem?_map] at this
   obtain ⟨x, hx, e⟩ := Option.map_eq_some_iff.1 this
   rw [hx, ikv_inj e]
  ·rw [<-h2, List.getElem?_map, g2]; rfl
  ·cases ok <;> simp [Instr.lookup, run_underlying ht, MapKept.run_getObj_map hb, il_check w es.isEmpty i, g1, Result.andThen]
theorem kept_setBlock (hb : b < w.heap.size) {o : Obj} (o' : Obj) (h : w.heap[b]? = some o) : Kept [b] w (setBlock w b o') :=
 ⟨rfl, rfl, rfl, by simp [setBlock], fun k hk hn => by
  show (w.heap.setIfInBounds b o')[k]? = _
  rw [Array.getElem?_setIfInBounds]
  have : ¬ b = k := fun e => hn (by simp [e])
  simp [this]⟩
theorem heap_setBlock (hb : b < w.heap.size) (o' : Obj) : (setBlock w b o').heap[b]? = some o' := by
 show (w.heap.setIfInBounds b o')[b]? = _
 rw [Array.getElem?_setIfInBounds]
 simp [hb]
theorem Ik.put (h : Ik w b K V) {t e : TypeId} (ht : Tryz.prog.underlying t = some (.map 3 e)) (i : Int) (v : Value) :
  ∃ w', (Instr.mapUpdate t (.map (some b)) (ikv i) v).run Tryz.prog w = .ok () w' ∧ Kept [b] w w' ∧ w'.heap.size = w.heap.size ∧ ((i ∉ K ∧ Ik w' b (K ++ [i]) (V ++ [v])) ∨ ∃ j, K[j]? = some i ∧ Ik w' b K (V.set j v)) := by
 have hlt := h.lt
 obtain ⟨es, clock, hb, hs, h1, h2, h3⟩ := h
 rcases il_find w i es.toList (keys_int h1) with ⟨g1, g2⟩ | ⟨j, e0, g1, g2, g3⟩
 ·have hn : i ∉ K := fun hm => by
   have : ikv i ∈ es.toList.map (·.key) := by rw [h1]; exact List.mem_map_of_mem hm
   obtain ⟨x, hx, e⟩ := List.mem_map.1 this
   exact g2 x hx e
  refine ⟨setBlock w b (.map (es.push ⟨ikv i, v, clock⟩) (clock + 1)), ?_, kept_setBlock hlt _ hb, by simp [setBlock], .inl ⟨hn, _, _, heap_setBlock hlt _, ⟨?_, ?_, ?_⟩, ?_, ?_, ?_⟩⟩
  ·simp [Instr.mapUpdate, run_underlying ht, MapKept.run_getObj_map hb, il_check w false i, g1, MapKept.run_setObj_map _ hb, Result.andThen, setBlock]
  ·intro x hx
   rw [Array.toList_push, List.mem_append, List.mem_singleton] at hx
   rcases hx with hx | rfl
   ·have := hs.1 x hx; omega
   ·show clock < clock + 1; omega
  ·rw [Array.toList_push, List.map_append, List.nodup_append]
   refine ⟨hs.2.1, by simp, fun x hx y hy => ?_⟩
   obtain ⟨q, hq, rfl⟩ := List.mem_map.1 hx
   have := hs.1 q hq
   simp only [List.map_cons, List.map_nil, List.mem_singleton] at hy
   omega
  ·rw [Array.toList_push, List.map_append, List.nodup_append]
   refine ⟨hs.2.2, by simp, fun x hx y hy => ?_⟩
   obtain ⟨q, hq, rfl⟩ := List.mem_map.1 hx
   simp only [List.map_cons, List.map_nil, List.mem_singleton] at hy
   rw [hy]
   exact g2 q hq
  ·rw [Array.toList_push, List.map_append, h1]; simp
  ·rw [Array.toList_push, List.map_append, h2]; simp
  ·intro x hx
   rw [List.mem_append, List.mem_singleton] at hx
   rcases hx with hx | rfl
   ·exact h3 x hx
   ·trivial
 ·have hj : j < es.toList.length := (List.getElem?_eq_some_iff.1 g2).1
  have hj' : j < es.size := by simpa using hj
  have hej : es[j] = e0 := by rw [List.getElem?_eq_getElem hj] at g2; simpa using Option.some.inj g2
  have hKj : K[j]? = some i := by
   have : (es.toList.map (·.key))[j]? = some (ikv i) := by rw [List.getElem?_map, g2]; simp [g3]
   rw [h1, List.getElem?_map] at this
   obtain ⟨x, hx, e⟩ := Option.map_eq_some_iff.1 this
   rw [hx, ikv_inj e]
  have hes : es[j]? = some e0 := by rw [<-Array.getElem?_toList]; exact g2
  have hmod : (es.modify j fun e => { e with key := ikv i, val := v }).toList = es.toList.set j ⟨ikv i, v, e0.born⟩ := by
   rw [Array.toList_modify]
   apply List.ext_getElem?
   intro q
   rw [List.getElem?_modify, List.getElem?_set]
   by_cases hq : j = q
   ·subst hq
    simp [g2, hj, hj', hej]
   ·simp [hq]
  refine ⟨setBlock w b (.map (es.modify j fun e => { e with key := ikv i, val := v }) clock), ?_, kept_setBlock hlt _ hb, by simp [setBlock], .inr ⟨j, hKj, _, _, heap_setBlock hlt _, ⟨?_, ?_, ?_⟩, ?_, ?_, h3⟩⟩
  ·have hst := il_stays w i
   simp [Instr.mapUpdate, run_underlying ht, MapKept.run_getObj_map hb, il_check w false i, g1, hes, g3, hst, MapKept.run_setObj_map _ hb, Result.andThen, setBlock]
  ·rw [hmod]
   intro x hx
   rcases List.mem_or_eq_of_mem_set hx with hx | rfl
   ·exact hs.1 x hx
   ·exact hs.1 e0 (List.mem_of_getElem? g2)
  ·rw [hmod, List.map_set]
   have : (es.toList.map (·.born)).set j e0.born = es.toList.map (·.born) := by
    apply List.ext_getElem?
    intro q
    rw [List.getElem?_set]
    by_cases hq : j = q
    ·subst hq; simp [g2, hj, hj', hej]
    ·simp [hq]
   rw [this]
   exact hs.2.1
  ·rw [hmod, List.map_set]
   have : (es.toList.map (·.key)).set j (ikv i) = es.toList.map (·.key) := by
    apply List.ext_getElem?
    intro q
    rw [List.getElem?_set]
    by_cases hq : j = q
    ·subst hq; simp [g2, hj, hj', hej, g3]
    ·simp [hq]
   rw [this]
   exact hs.2.2
  ·rw [hmod, List.map_set]
   have : (es.toList.map (·.key)).set j (ikv i) = es.toList.map (·.key) := by
    apply List.ext_getElem?
    intro q
    rw [List.getElem?_set]
    by_cases hq : j = q
    ·subst hq; simp [g2, hj, hj', hej, g3]
    ·simp [hq]
   rw [this, h1]
  ·rw [hmod, List.map_set, h2]
end
end

section
theorem ret_int {k : IntKind} {a b : Int} (h : a = b) : Ending.returned (.int k a) = .returned (.int k b) := by rw [h]
structure Rd (w : World) (b : Nat) (e p : Int) (ao : Option Addr) (cap : Nat) (xs : List UInt8) (at_ : Nat) : Prop where
 c0 : w.cell? ⟨b, 0, none⟩ = some (.int .i64 e)
 c1 : w.cell? ⟨b, 1, none⟩ = some (.int .i64 p)
 c2 : w.cell? ⟨b, 2, none⟩ = some (.slice ao xs.length cap)
 c3 : w.cell? ⟨b, 3, none⟩ = some (.int .i64 at_)
 f0 : w.frozen? ⟨b, 0, none⟩ = false
 f1 : w.frozen? ⟨b, 1, none⟩ = false
 f3 : w.frozen? ⟨b, 3, none⟩ = false
 le : at_ <= xs.length
 lc : xs.length <= cap
 small : xs.length <= 140737488355328
 sl : Sl w ao xs
 nil : ao = none -> xs = [] ∧ cap = 0
 spot : ∀ a, ao = some a -> a.spot = none
 apart : ∀ a, ao = some a -> a.block ≠ b
theorem Rd.kept {l : List Nat} {w w' : World} {b : Nat} {e p : Int} {ao : Option Addr} {cap : Nat} {xs : List UInt8} {at_ : Nat} (h : Rd w b e p ao cap xs at_) (hk : Kept l w w') (hn : b ∉ l) (hs : xs ≠ [] -> ∀ a, ao = some a -> a.block ∉ l) : Rd w' b e p ao cap xs at_ := by
 have hb := World.block_lt_of_cell? _ _ h.c0
 exact ⟨hk.cellOf h.c0 hn, hk.cellOf h.c1 hn, hk.cellOf h.c2 hn, hk.cellOf h.c3 hn, (hk.frozen (p := ⟨b, 0, none⟩) hb hn).trans h.f0, (hk.frozen (p := ⟨b, 1, none⟩) hb hn).trans h.f1, (hk.frozen (p := ⟨b, 3, none⟩) hb hn).trans h.f3, h.le, h.lc, h.small, h.sl.kept hk hs, h.nil, h.spot, h.apart⟩
theorem Rd.lt {w : World} {b : Nat} {e p : Int} {ao : Option Addr} {cap : Nat} {xs : List UInt8} {at_ : Nat} (h : Rd w b e p ao cap xs at_) : b < w.heap.size := World.block_lt_of_cell? _ _ h.c0
theorem Rd.drewN {w : World} {b : Nat} {e p : Int} {ao : Option Addr} {cap : Nat} {xs : List UInt8} {at_ : Nat} (h : Rd w b e p ao cap xs at_) (n : Nat) : Rd (w.drewN n) b e p ao cap xs at_ :=
 h.kept ((Kept.refl [] w).drewN n) (by simp) (by simp)
theorem Rd.moved {w : World} {b : Nat} {e p : Int} {ao : Option Addr} {cap : Nat} {xs : List UInt8} {at_ : Nat} (h : Rd w b e p ao cap xs at_) (n : Nat) (hn : n <= xs.length) :
  Rd (w.setCell ⟨b, 3, none⟩ (.int .i64 n)) b e p ao cap xs n := by
 refine ⟨?_, ?_, ?_, ?_, ?_, ?_, ?_, hn, h.lc, h.small, ?_, h.nil, h.spot, h.apart⟩
 ·rw [World.cell?_setCell_other _ _ _ _ (by simp)]; exact h.c0
 ·rw [World.cell?_setCell_other _ _ _ _ (by simp)]; exact h.c1
 ·rw [World.cell?_setCell_other _ _ _ _ (by simp)]; exact h.c2
 ·exact World.cell?_setCell_same _ _ _ h.c3
 ·rw [World.frozen?_setCell]; exact h.f0
 ·rw [World.frozen?_setCell]; exact h.f1
 ·rw [World.frozen?_setCell]; exact h.f3
 ·exact h.sl.kept ((Kept.refl [b] w).setCell (by simp) _) (fun _ a ha => by simpa using h.apart a ha)
theorem Rd.refused {w : World} {b : Nat} {e p : Int} {ao : Option Addr} {cap : Nat} {xs : List UInt8} {at_ : Nat} (h : Rd w b e p ao cap xs at_) (e' p' : Int) :
  Rd ((w.setCell ⟨b, 0, none⟩ (.int .i64 e')).setCell ⟨b, 1, none⟩ (.int .i64 p')) b e' p' ao cap xs at_ := by
 refine ⟨?_, ?_, ?_, ?_, ?_, ?_, ?_, h.le, h.lc, h.small, ?_, h.nil, h.spot, h.apart⟩
 ·rw [World.cell?_setCell_other _ _ _ _ (by simp)]; exact World.cell?_setCell_same _ _ _ h.c0
 ·refine World.cell?_setCell_same _ _ _ (u := .int .i64 p) ?_
  rw [World.cell?_setCell_other _ _ _ _ (by simp)]; exact h.c1
 ·rw [World.cell?_setCell_other _ _ _ _ (by simp), World.cell?_setCell_other _ _ _ _ (by simp)]; exact h.c2
 ·rw [World.cell?_setCell_other _ _ _ _ (by simp), World.cell?_setCell_other _ _ _ _ (by simp)]; exact h.c3
 ·rw [World.frozen?_setCell, World.frozen?_setCell]; exact h.f0
 ·rw [World.frozen?_setCell, World.frozen?_setCell]; exact h.f1
 ·rw [World.frozen?_setCell, World.frozen?_setCell]; exact h.f3
 ·exact h.sl.kept (((Kept.refl [b] w).setCell (by simp) _).setCell (by simp) _) (fun _ a ha => by simpa using h.apart a ha)
theorem kept_moved (w : World) (b n : Nat) (v : Value) : Kept [b] w ((w.drewN n).setCell ⟨b, 3, none⟩ v) := ((Kept.refl [b] w).drewN n).setCell (by simp) _
theorem kept_refused (w : World) (b n : Nat) (u v : Value) : Kept [b] w (((w.drewN n).setCell ⟨b, 0, none⟩ u).setCell ⟨b, 1, none⟩ v) := (((Kept.refl [b] w).drewN n).setCell (by simp) _).setCell (by simp) _
theorem left_bad {w : World} {b : Nat} {e p : Int} {ao : Option Addr} {cap : Nat} {xs : List UInt8} {at_ : Nat} (h : Rd w b e p ao cap xs at_) (he : e ≠ 0) :
  Calls Tryz.prog 118 #[.pointer (some ⟨b, 0, none⟩)] w fun e' w' => e' = .returned (.int .i64 0) ∧ w' = w := by
 have h0 := h.c0
 have hne : (e != 0) = true := by simpa using he
 clear h
 go_enter Tryz.func118, Tryz.ntmps118
 go_wp2
 go_ret
 exact ⟨rfl, rfl⟩
theorem left_ok {w : World} {b : Nat} {p : Int} {ao : Option Addr} {cap : Nat} {xs : List UInt8} {at_ : Nat} (h : Rd w b 0 p ao cap xs at_) :
  Calls Tryz.prog 118 #[.pointer (some ⟨b, 0, none⟩)] w fun e' w' => e' = .returned (.int .i64 (xs.length - at_ : Nat)) ∧ ∃ n, w' = w.drewN n := by
 have h0 := h.c0
 have h2 := h.c2
 have h3 := h.c3
 have hs := h.small
 have hl := h.le
 have hlc := h.lc
 clear h
 go_enter Tryz.func118, Tryz.ntmps118
 go_wp2
 go_quiet (fail)
 go_wp2
 go_ret
 exact ⟨ret_int (by omega), _, rfl⟩
theorem refuse_ok (b : Nat) (p e' p' : Int) (w : World) (h0 : w.cell? ⟨b, 0, none⟩ = some (.int .i64 0)) (h1 : w.cell? ⟨b, 1, none⟩ = some (.int .i64 p)) (f0 : w.frozen? ⟨b, 0, none⟩ = false) (f1 : w.frozen? ⟨b, 1, none⟩ = false) :
  Calls Tryz.prog 103 #[.pointer (some ⟨b, 0, none⟩), .int .i64 e', .int .i64 p'] w fun r w' => r = .returned (.tuple #[]) ∧ w' = (w.setCell ⟨b, 0, none⟩ (.int .i64 e')).setCell ⟨b, 1, none⟩ (.int .i64 p') := by
 go_enter Tryz.func103, Tryz.ntmps103
 go_wp2
 go_end0
 exact ⟨rfl, rfl⟩
theorem rclosed_ok (b : Nat) (w : World) (h0 : w.cell? ⟨b, 0, none⟩ = some (.int .i64 0)) :
  Calls Tryz.prog 120 #[.pointer (some ⟨b, 0, none⟩)] w fun e w' => e = .returned (.bool false) ∧ w' = w := by
 go_enter Tryz.func120, Tryz.ntmps120
 go_wp2
 go_ret
 exact ⟨rfl, rfl⟩
theorem spoilt_any (b : Nat) (e0 : Int) (w : World) (h : w.cell? ⟨b, 0, none⟩ = some (.int .i64 e0)) :
  Calls Tryz.prog 126 #[.pointer (some ⟨b, 0, none⟩)] w fun e w' => e = .returned (.bool (e0 != 0)) ∧ w' = w := by
 go_enter Tryz.func126, Tryz.ntmps126
 go_wp2
 go_ret
 exact ⟨rfl, rfl⟩
end

section
namespace Pure
def numGo (xs : List UInt8) : Nat -> Nat -> Nat -> Nat × Nat × Nat
 | 0, _, _ => (0, 0, 11)
 | f + 1, k, x =>
  if k < xs.length then
   if (xs.getD k 0).toNat < 128 then
    if 2147483647 < x + (xs.getD k 0).toNat * 2 ^ (7 * k) ∨ (0 < k ∧ (xs.getD k 0).toNat = 0) then (0, 0, 11)
    else (x + (xs.getD k 0).toNat * 2 ^ (7 * k), k + 1, 0)
   else numGo xs f (k + 1) (x + ((xs.getD k 0).toNat - 128) * 2 ^ (7 * k))
  else (0, 0, 10)
def num (xs : List UInt8) : Nat × Nat × Nat := numGo xs 5 0 0
theorem numGo_short {xs : List UInt8} {f k x : Nat} (h : ¬ k < xs.length) : numGo xs (f + 1) k x = (0, 0, 10) := by simp only [numGo]; rw [if_neg h]
theorem numGo_bad {xs : List UInt8} {f k x : Nat} (h : k < xs.length) (h1 : (xs.getD k 0).toNat < 128) (h2 : 2147483647 < x + (xs.getD k 0).toNat * 2 ^ (7 * k) ∨ (0 < k ∧ (xs.getD k 0).toNat = 0)) : numGo xs (f + 1) k x = (0, 0, 11) := by
 simp only [numGo]; rw [if_pos h, if_pos h1, if_pos h2]
theorem numGo_good {xs : List UInt8} {f k x : Nat} (h : k < xs.length) (h1 : (xs.getD k 0).toNat < 128) (h2 : ¬ (2147483647 < x + (xs.getD k 0).toNat * 2 ^ (7 * k) ∨ (0 < k ∧ (xs.getD k 0).toNat = 0))) : numGo xs (f + 1) k x = (x + (xs.getD k 0).toNat * 2 ^ (7 * k), k + 1, 0) := by
 simp only [numGo]; rw [if_pos h, if_pos h1, if_neg h2]
theorem numGo_more {xs : List UInt8} {f k x : Nat} (h : k < xs.length) (h1 : ¬ (xs.getD k 0).toNat < 128) : numGo xs (f + 1) k x = numGo xs f (k + 1) (x + ((xs.getD k 0).toNat - 128) * 2 ^ (7 * k)) := by
 simp only [numGo]; rw [if_pos h, if_neg h1]
theorem pow_le4 {k : Nat} (h : k <= 4) : 2 ^ (7 * k) <= 268435456 := by
 obtain rfl | rfl | rfl | rfl | rfl : k = 0 ∨ k = 1 ∨ k = 2 ∨ k = 3 ∨ k = 4 := by omega
 all_goals decide
theorem numGo_facts (xs : List UInt8) : ∀ f k x, let r := numGo xs f k x; (r.2.2 = 0 ∧ r.1 <= 2147483647 ∧ r.2.1 <= xs.length ∧ k < r.2.1 ∧ r.2.1 <= k + f) ∨ (r.1 = 0 ∧ r.2.1 = 0 ∧ (r.2.2 = 10 ∨ r.2.2 = 11))
 | 0, k, x => by simp [numGo]
 | f + 1, k, x => by
  simp only [numGo]
  split
  ·rename_i h
   split
   ·split
    ·simp
    ·left; dsimp only; omega
   ·have := numGo_facts xs f (k + 1) (x + ((xs.getD k 0).toNat - 128) * 2 ^ (7 * k))
    simp only at this ⊢
    omega
  ·simp
theorem num_facts (xs : List UInt8) : ((num xs).2.2 = 0 ∧ (num xs).1 <= 2147483647 ∧ (num xs).2.1 <= xs.length ∧ 0 < (num xs).2.1 ∧ (num xs).2.1 <= 5) ∨ ((num xs).1 = 0 ∧ (num xs).2.1 = 0 ∧ ((num xs).2.2 = 10 ∨ (num xs).2.2 = 11)) := by
 have := numGo_facts xs 5 0 0
 simpa [num] using this
def be (l : List UInt8) : Nat := l.foldl (fun v c => 256 * v + c.toNat) 0
theorem be_snoc (l : List UInt8) (c : UInt8) : be (l ++ [c]) = 256 * be l + c.toNat := by simp [be]
theorem be_lt (l : List UInt8) : be l < 256 ^ l.length := by
 have : ∀ (l : List UInt8) (v : Nat) (m : Nat), v < m -> l.foldl (fun v c => 256 * v + c.toNat) v < m * 256 ^ l.length := by
  intro l
  induction l with
  | nil => intro v m h; simpa using h
  | cons c l ih =>
   intro v m h
   have hc := UInt8.toNat_lt c
   have := ih (256 * v + c.toNat) (m * 256) (by omega)
   simp only [List.foldl_cons, List.length_cons, Nat.pow_succ]
   rw [show m * (256 ^ l.length * 256) = m * 256 * 256 ^ l.length by rw [Nat.mul_assoc, Nat.mul_comm (256 ^ l.length)]]
   exact this
 simpa [be] using this l 0 1 (by omega)
theorem i64_or_join (v c : Nat) (hv : v < 4294967296) (hc : c < 256) : bits .or .i64 ((v : Int) * 256) (c : Int) = ((256 * v + c : Nat) : Int) := by
 rw [show ((v : Int) * 256) = ((256 * v : Nat) : Int) by omega]
 show IntKind.i64.wrap ((BitVec.ofInt 64 ((256 * v : Nat) : Int) ||| BitVec.ofInt 64 (c : Int)).toNat : Int) = _
 rw [BitVec.toNat_or, ofInt_u64 _ (by omega), ofInt_u64 _ (by omega), nat_join 8 (256 * v) c (by omega) (by omega)]
 simp [IntKind.wrap, IntKind.bits, IntKind.signed]
 split <;> omega
def enc (v : Nat) : List UInt8 := if h : v < 128 then [UInt8.ofNat v] else UInt8.ofNat (v % 128 + 128) :: enc (v / 128)
termination_by v
decreasing_by omega
theorem enc_small {v : Nat} (h : v < 128) : enc v = [UInt8.ofNat v] := by rw [enc, dif_pos h]
theorem enc_more {v : Nat} (h : ¬ v < 128) : enc v = UInt8.ofNat (v % 128 + 128) :: enc (v / 128) := by rw [enc, dif_neg h]
theorem enc_len (v : Nat) : ∀ k, v < 128 ^ (k + 1) -> (enc v).length <= k + 1 := by
 intro k
 induction k generalizing v with
 | zero => intro h; rw [enc_small (by simpa using h)]; simp
 | succ k ih =>
  intro h
  by_cases h1 : v < 128
  ·rw [enc_small h1]; simp
  ·rw [enc_more h1]
   have := ih (v / 128) (by rw [Nat.div_lt_iff_lt_mul (by omega)]; rw [Nat.pow_succ] at h; exact h)
   simp; omega
theorem enc_len5 {v : Nat} (h : v <= 2147483647) : (enc v).length <= 5 := enc_len v 4 (by omega)
theorem toNat_ofNat_small {n : Nat} (h : n < 256) : (UInt8.ofNat n).toNat = n := by
 simp [UInt8.toNat_ofNat', Nat.mod_eq_of_lt h]
def fix (v : Nat) : Nat -> List UInt8
 | 0 => []
 | k + 1 => UInt8.ofNat (v / 256 ^ k % 256) :: fix v k
theorem fix_len (v k : Nat) : (fix v k).length = k := by induction k with | zero => rfl | succ k ih => simp [fix, ih]
end Pure
end

section
theorem ret_num {a b c : Int} {n : Nat × Nat × Nat} (h1 : a = n.1) (h2 : b = n.2.1) (h3 : c = n.2.2) :
  Ending.returned (.tuple #[.int .i64 a, .int .i64 b, .int .i64 c]) = .returned (.tuple #[.int .i64 n.1, .int .i64 n.2.1, .int .i64 n.2.2]) := by rw [h1, h2, h3]
theorem shortest_some (b off len cap : Nat) (xs : List UInt8) (w : World) (hm : len <= 4611686018427387904) (hl : xs.length = len) (hc : ∀ i, i < xs.length -> w.cell? ⟨b, off + i, none⟩ = some (.int .u8 (xs.getD i 0).toNat)) :
  Calls Tryz.prog 132 #[.slice (some ⟨b, off, none⟩) len cap] w fun e w' => e = .returned (.tuple #[.int .i64 (Pure.num xs).1, .int .i64 (Pure.num xs).2.1, .int .i64 (Pure.num xs).2.2]) ∧ w' = w := by
 go_enter Tryz.func132, Tryz.ntmps132
 go_wp2
 go_step3
 go_wp2
 go_step3
 go_wp2
 go_loop [5, 6] (fun v i => ∃ k x : Nat, k <= 5 ∧ k <= len ∧ i = .int .i64 k ∧ v = .int .i64 x ∧ x < 2 ^ (7 * k) ∧ Hid (Pure.num xs = Pure.numGo xs (5 - k) k x)) (fun _ i => 5 - (intOf i).toNat)
 case atStart => exact ⟨0, 0, by omega, Nat.zero_le _, rfl, rfl, by simp, rfl⟩
 case round =>
  obtain ⟨k, x, hk5, hk, rfl, rfl, hx, HR⟩ := hrel
  by_cases h5 : k = 5
  ·subst h5
   have HR' : Hid (Pure.num xs = (0, 0, 11)) := HR.out
   clear hx HR hc
   go_wp2
   go_ret3
   exact ⟨ret_num (by rw [HR'.out]; rfl) (by rw [HR'.out]; rfl) (by rw [HR'.out]; rfl), rfl⟩
  ·have g5 : ((k : Int) == 5) = false := by simp; omega
   obtain ⟨f, hf⟩ : ∃ f, 5 - k = f + 1 := ⟨4 - k, by omega⟩
   have hp := Pure.pow_le4 (show k <= 4 by omega)
   by_cases hlt : k < len
   ·have g6 : ((k : Int) == (len : Int)) = false := by simp; omega
    have hcell := hc k (by omega)
    have hcb : (xs.getD k 0).toNat < 256 := UInt8.toNat_lt _
    clear hc
    by_cases h128 : (xs.getD k 0).toNat < 128
    ·obtain ⟨m, hmm⟩ : ∃ m, m = (xs.getD k 0).toNat * 2 ^ (7 * k) := ⟨_, rfl⟩
     have hml : m <= 127 * 268435456 := by rw [hmm]; exact Nat.mul_le_mul (by omega) hp
     have hsh : (((xs.getD k 0).toNat : Int) * 2 ^ (7 * k)) = (m : Int) := by rw [hmm]; simp
     have hxl : x < 268435456 := by omega
     by_cases hbad : 2147483647 < x + m ∨ (0 < k ∧ (xs.getD k 0).toNat = 0)
     ·have HR' : Hid (Pure.num xs = (0, 0, 11)) := by
       have := HR.out
       rw [hf, Pure.numGo_bad (by omega) h128 (by rw [<-hmm]; exact hbad)] at this
       exact this
      clear HR hmm hx hf hp
      generalize (xs.getD k 0).toNat = c at hcell hcb h128 hsh hbad
      by_cases hbig : 2147483647 < x + m
      ·clear hbad
       go_wp2
       go_ret3
       exact ⟨ret_num (by rw [HR'.out]; rfl) (by rw [HR'.out]; rfl) (by rw [HR'.out]; rfl), rfl⟩
      ·obtain ⟨hk0, rfl⟩ : 0 < k ∧ c = 0 := by omega
       clear hbad
       go_wp2
       go_ret3
       exact ⟨ret_num (by rw [HR'.out]; rfl) (by rw [HR'.out]; rfl) (by rw [HR'.out]; rfl), rfl⟩
     ·have HR' : Hid (Pure.num xs = (x + m, k + 1, 0)) := by
       have := HR.out
       rw [hf, Pure.numGo_good (by omega) h128 (by rw [<-hmm]; exact hbad), <-hmm] at this
       exact this
      clear HR hmm hx hf hp
      generalize (xs.getD k 0).toNat = c at hcell hcb h128 hsh hbad
      have hsm : x + m <= 2147483647 := by omega
      by_cases hk0 : 0 < k
      ·have hc0 : ((c : Int) == 0) = false := by simp; omega
       clear hbad
       go_wp2
       go_ret3
       exact ⟨ret_num (by rw [HR'.out]; simp) (by rw [HR'.out]; simp) (by rw [HR'.out]; rfl), rfl⟩
      ·clear hbad
       go_wp2
       go_ret3
       exact ⟨ret_num (by rw [HR'.out]; simp) (by rw [HR'.out]; simp) (by rw [HR'.out]; rfl), rfl⟩
    ·obtain ⟨m, hmm⟩ : ∃ m, m = ((xs.getD k 0).toNat - 128) * 2 ^ (7 * k) := ⟨_, rfl⟩
     have hml : m <= 127 * 268435456 := by rw [hmm]; exact Nat.mul_le_mul (by omega) hp
     have hml2 : m <= 127 * 2 ^ (7 * k) := by rw [hmm]; exact Nat.mul_le_mul (by omega) (Nat.le_refl _)
     have hsh : ((((xs.getD k 0).toNat : Int) - 128) * 2 ^ (7 * k)) = (m : Int) := by
      rw [hmm, show (((xs.getD k 0).toNat : Int) - 128) = (((xs.getD k 0).toNat - 128 : Nat) : Int) by omega]; simp
     have hxl : x < 268435456 := by omega
     have HR' : Hid (Pure.num xs = Pure.numGo xs (5 - (k + 1)) (k + 1) (x + m)) := by
      have := HR.out
      rw [hf, Pure.numGo_more (by omega) h128, <-hmm] at this
      rw [show 5 - (k + 1) = f by omega]
      exact this
     have HB : Hid (x + m < 2 ^ (7 * (k + 1))) := by
      have : 2 ^ (7 * (k + 1)) = 128 * 2 ^ (7 * k) := by rw [show 7 * (k + 1) = 7 * k + 7 by omega, Nat.pow_add]; omega
      show _ < _
      omega
     clear HR hmm hx hf hp hml2
     generalize (xs.getD k 0).toNat = c at hcell hcb h128 hsh
     go_wp2
     go_round
     case rel => exact ⟨k + 1, x + m, by omega, by omega, by go_num, by go_num, HB.out, HR'⟩
     case measure => simp [intOf]; omega
   ·have g6 : ((k : Int) == (len : Int)) = true := by simp; omega
    have HR' : Hid (Pure.num xs = (0, 0, 10)) := by
     have := HR.out
     rw [hf, Pure.numGo_short (by omega)] at this
     exact this
    clear hx HR hc hf hp
    go_wp2
    go_ret3
    exact ⟨ret_num (by rw [HR'.out]; rfl) (by rw [HR'.out]; rfl) (by rw [HR'.out]; rfl), rfl⟩
theorem shortest_empty (ao : Option Addr) (cap : Nat) (w : World) :
  Calls Tryz.prog 132 #[.slice ao 0 cap] w fun e w' => e = .returned (.tuple #[.int .i64 (Pure.num []).1, .int .i64 (Pure.num []).2.1, .int .i64 (Pure.num []).2.2]) ∧ w' = w := by
 go_enter Tryz.func132, Tryz.ntmps132
 go_wp2
 go_step3
 go_wp2
 go_step3
 go_wp2
 go_loop [5, 6] (fun v i => i = .int .i64 0 ∧ v = .int .i64 0) (fun _ i => 0)
 case atStart => exact ⟨rfl, rfl⟩
 case round =>
  obtain ⟨rfl, rfl⟩ := hrel
  go_wp2
  go_ret3
  exact ⟨ret_num rfl rfl rfl, rfl⟩
theorem shortest_any (ao : Option Addr) (cap : Nat) (xs : List UInt8) (w : World) (hm : xs.length <= 4611686018427387904) (h : Sl w ao xs) :
  Calls Tryz.prog 132 #[.slice ao xs.length cap] w fun e w' => e = .returned (.tuple #[.int .i64 (Pure.num xs).1, .int .i64 (Pure.num xs).2.1, .int .i64 (Pure.num xs).2.2]) ∧ w' = w := by
 by_cases hn : xs = []
 ·subst hn
  exact shortest_empty ao cap w
 ·obtain ⟨b, off, rfl, hb, hc⟩ := h.open hn
  exact shortest_some b off xs.length cap xs w hm rfl hc
theorem shortest_n (ao : Option Addr) (n cap : Nat) (xs : List UInt8) (w : World) (hn : xs.length = n) (hm : xs.length <= 4611686018427387904) (h : Sl w ao xs) :
  Calls Tryz.prog 132 #[.slice ao n cap] w fun e w' => e = .returned (.tuple #[.int .i64 (Pure.num xs).1, .int .i64 (Pure.num xs).2.1, .int .i64 (Pure.num xs).2.2]) ∧ w' = w := by
 subst hn
 exact shortest_any ao cap xs w hm h
end

section
theorem Tryz.infoByte : (Tryz.prog.info? 5).map (fun i => (i.zero, i.size, i.bytes)) = some (some (.int .u8 0), 1, 1) := by kernel_rfl
theorem clone_nil (w : World) :
  Calls Tryz.prog 131 #[.slice none 0 0] w fun e w' => e = .returned (.slice none 0 0) ∧ w' = w := by
 have hnil := fun (w : World) (a : Option Addr) (n c : Nat) => Lib.run_eql_slice_nil (P := Tryz.prog) w 27 5 a n c 0 0 Tryz.underlying27
 go_enter Tryz.func131, Tryz.ntmps131
 go_wp2
 go_ret
 exact ⟨rfl, rfl⟩
theorem clone_some (ad : Addr) (cap : Nat) (xs : List UInt8) (w : World) (hm : xs.length <= 140737488355328) (hc : ∀ j u, (bys xs)[j]? = some u -> (w.alloc (.cells #[] 5)).cell? (ad.add j) = some u) :
  Calls Tryz.prog 131 #[.slice (some ad) xs.length cap] w fun e w' => ∃ g cap', e = .returned (.slice (some ⟨g, 0, none⟩) xs.length cap') ∧ w.heap.size <= g ∧ g < w'.heap.size ∧ xs.length <= cap' ∧ Sl w' (some ⟨g, 0, none⟩) xs ∧ Kept [] w w' ∧ w'.ownsRow w.heap.size 5 1 (.slice (some ⟨g, 0, none⟩) xs.length cap') xs.length (bys xs) := by
 obtain ⟨i0, hi, hz0, hz1, hz2⟩ := info_parts Tryz.infoByte
 have hnil := fun (w : World) (a : Option Addr) (n c : Nat) => Lib.run_eql_slice_nil (P := Tryz.prog) w 27 5 a n c 0 0 Tryz.underlying27
 go_enter Tryz.func131, Tryz.ntmps131
 go_wp2_with (at_builtin; refine wpList_append_own _ rfl _ _ 27 rfl w.heap.size 5 i0 (.int .u8 0) 1 1 Tryz.underlying27 hi hz0 hz1 hz2 rfl (by decide) _ 0 [] rfl (World.ownsRow_made w #[] 0 (Nat.le_refl _) (by decide) rfl) ad xs.length cap (bys xs) rfl (by simp [bys_length]) hc (bys_oneCell xs) ?c3 ?c4 ?c5 ?_)
 case c3 => unfold maxLen; omega
 case c4 => omega
 case c5 => simp
 intro v' w1 hown hgrow hnn
 obtain ⟨g, cap', hv, hg, hgs, hcap, hsl⟩ := own_sl hown hnn
 have hk : Kept [] w w1 := ((Kept.refl [] w).alloc _).grown hgrow (by intro k hk hlt; simp [Value.ownBlock] at hk; omega)
 have HOW : Hid (w1.ownsRow w.heap.size 5 1 (.slice (some ⟨g, 0, none⟩) xs.length cap') xs.length (bys xs)) := by
  have h := hown
  rw [hv] at h
  exact h
 rw [hv]
 clear hown hgrow hnn hv hnil hc
 go_wp2
 go_ret
 exact ⟨g, cap', rfl, hg, hgs, hcap, hsl, hk, HOW.out⟩
def Fresh (w w' : World) (ao : Option Addr) (cap : Nat) (ys : List UInt8) : Prop :=
 Sl w' ao ys ∧ ys.length <= cap ∧ (ao = none -> ys = [] ∧ cap = 0) ∧ ∀ a, ao = some a -> w.heap.size <= a.block ∧ a.block < w'.heap.size ∧ a.spot = none
theorem Fresh.later {l : List Nat} {w w1 w2 : World} {ao : Option Addr} {cap : Nat} {ys : List UInt8} (h : Fresh w1 w2 ao cap ys) (hk : Kept l w w1) : Fresh w w2 ao cap ys :=
 ⟨h.1, h.2.1, h.2.2.1, fun a ha => ⟨Nat.le_trans hk.size (h.2.2.2 a ha).1, (h.2.2.2 a ha).2.1, (h.2.2.2 a ha).2.2⟩⟩
theorem clone_any (ao : Option Addr) (n cap : Nat) (xs : List UInt8) (w : World) (hxn : xs.length = n) (hm : xs.length <= 140737488355328) (h : Sl w ao xs) (hn : ao = none -> xs = [] ∧ cap = 0) :
  Calls Tryz.prog 131 #[.slice ao n cap] w fun e w' => ∃ ao' cap', e = .returned (.slice ao' n cap') ∧ Fresh w w' ao' cap' xs ∧ Kept [] w w' := by
 subst hxn
 cases ao with
 | none =>
  obtain ⟨rfl, rfl⟩ := hn rfl
  refine (clone_nil w).mono fun e w' ⟨he, hw⟩ => ?_
  subst he; subst hw
  exact ⟨none, 0, rfl, ⟨Sl.nil _ _, Nat.le_refl _, fun _ => ⟨rfl, rfl⟩, by simp⟩, Kept.refl _ _⟩
 | some a =>
  refine (clone_some a cap xs w hm ?_).mono fun e w' ⟨g, cap', he, hg, hgs, hcap, hsl, hk, _⟩ => ?_
  ·by_cases h0 : xs = []
   ·subst h0
    intro j u hu
    simp [bys] at hu
   ·obtain ⟨b, off, e', hb, hc⟩ := h.open h0
    cases e'
    refine Sl.cells fun i hi => ?_
    rw [World.cell?_alloc_lt _ _ _ hb]
    exact hc i hi
  ·exact ⟨_, cap', he, ⟨hsl, hcap, by simp, by simp [hg, hgs]⟩, hk⟩
end

section
theorem rnumber_some {w : World} {b : Nat} {p : Int} {g off cap : Nat} {xs : List UInt8} {at_ : Nat} (h : Rd w b 0 p (some ⟨g, off, none⟩) cap xs at_) :
  Calls Tryz.prog 115 #[.pointer (some ⟨b, 0, none⟩)] w fun e' w' => e' = .returned (.int .i64 (Pure.num (xs.drop at_)).1) ∧ Kept [b] w w' ∧ Rd w' b (Pure.num (xs.drop at_)).2.2 (if (Pure.num (xs.drop at_)).2.2 = 0 then p else at_) (some ⟨g, off, none⟩) cap xs (at_ + (Pure.num (xs.drop at_)).2.1) := by
 have h0 := h.c0
 have h1 := h.c1
 have h2 := h.c2
 have h3 := h.c3
 have hs := h.small
 have hl := h.le
 have hlc := h.lc
 have f0 := h.f0
 have f1 := h.f1
 have f3 := h.f3
 have H := (show Hid _ from h)
 clear h
 have hsl := (H.out.sl.drop at_ cap hl hlc)
 have hf := Pure.num_facts (xs.drop at_)
 simp only [List.length_drop] at hf
 by_cases he : (Pure.num (xs.drop at_)).2.2 = 0
 ·have hne : (((Pure.num (xs.drop at_)).2.2 : Int) != 0) = false := by simp [he]
  go_enter Tryz.func115, Tryz.ntmps115
  go_wp2
  go_quiet ((go_at_call 132; exact Calls.quiet_of_same (shortest_n _ _ _ (xs.drop at_) _ (by simp) (by simp; omega) (hsl.drewN _))))
  generalize (if cap = at_ then _ else _) = ao2
  go_wp2
  go_ret
  refine ⟨rfl, kept_moved _ _ _ _, ?_⟩
  have := (H.out.drewN nq).moved (at_ + (Pure.num (xs.drop at_)).2.1) (by omega)
  simpa using this
 ·have hne : (((Pure.num (xs.drop at_)).2.2 : Int) != 0) = true := by simp [he]
  go_enter Tryz.func115, Tryz.ntmps115
  go_wp2
  go_quiet ((go_at_call 132; exact Calls.quiet_of_same (shortest_n _ _ _ (xs.drop at_) _ (by simp) (by simp; omega) (hsl.drewN _))))
  generalize (if cap = at_ then _ else _) = ao2
  go_wp2
  go_region_with (go_at_call 103; refine (refuse_ok _ p _ _ _ (by simpa using h0) (by simpa using h1) (by simpa using f0) (by simpa using f1)).mono ?_; rintro e w' ⟨rfl, rfl⟩)
  go_wp2
  go_ret
  have z : (Pure.num (xs.drop at_)).1 = 0 ∧ (Pure.num (xs.drop at_)).2.1 = 0 := by omega
  refine ⟨ret_int (by omega), kept_refused _ _ _ _ _, ?_⟩
  have := (H.out.drewN (nq + 1)).refused (Pure.num (xs.drop at_)).2.2 at_
  rw [z.2, Nat.add_zero]
  exact this
theorem rnumber_none {w : World} {b : Nat} {p : Int} (h : Rd w b 0 p none 0 [] 0) :
  Calls Tryz.prog 115 #[.pointer (some ⟨b, 0, none⟩)] w fun e' w' => e' = .returned (.int .i64 0) ∧ Kept [b] w w' ∧ Rd w' b 10 0 none 0 [] 0 := by
 have h0 := h.c0
 have h1 := h.c1
 have h2 := h.c2
 have h3 := h.c3
 have f0 := h.f0
 have f1 := h.f1
 have f3 := h.f3
 have H := (show Hid _ from h)
 clear h
 simp only [List.length_nil] at h2
 go_enter Tryz.func115, Tryz.ntmps115
 go_wp2
 go_quiet ((go_at_call 132; exact Calls.quiet_of_same (shortest_n _ _ _ [] _ rfl (by simp) (Sl.nil _ _))))
 go_wp2
 go_region_with (go_at_call 103; refine (refuse_ok _ p _ _ _ (by simpa using h0) (by simpa using h1) (by simpa using f0) (by simpa using f1)).mono ?_; rintro e w' ⟨rfl, rfl⟩)
 go_wp2
 go_ret
 refine ⟨rfl, kept_refused _ _ _ _ _, ?_⟩
 exact (H.out.drewN (nq + 1)).refused 10 0
theorem rnumber_ok {w : World} {b : Nat} {p : Int} {ao : Option Addr} {cap : Nat} {xs : List UInt8} {at_ : Nat} (h : Rd w b 0 p ao cap xs at_) :
  Calls Tryz.prog 115 #[.pointer (some ⟨b, 0, none⟩)] w fun e' w' => e' = .returned (.int .i64 (Pure.num (xs.drop at_)).1) ∧ Kept [b] w w' ∧ Rd w' b (Pure.num (xs.drop at_)).2.2 (if (Pure.num (xs.drop at_)).2.2 = 0 then p else at_) ao cap xs (at_ + (Pure.num (xs.drop at_)).2.1) := by
 cases ao with
 | none =>
  obtain ⟨rfl, rfl⟩ := h.nil rfl
  obtain rfl : at_ = 0 := by have := h.le; simpa using this
  exact rnumber_none h
 | some a =>
  obtain ⟨g, off, spot⟩ := a
  obtain rfl : spot = none := h.spot _ rfl
  exact rnumber_some h
theorem rnumber_bad {w : World} {b : Nat} {e : Int} (h0 : w.cell? ⟨b, 0, none⟩ = some (.int .i64 e)) (he : (e != 0) = true) :
  Calls Tryz.prog 115 #[.pointer (some ⟨b, 0, none⟩)] w fun e' w' => e' = .returned (.int .i64 0) ∧ w' = w := by
 go_enter Tryz.func115, Tryz.ntmps115
 go_wp2
 go_ret
 exact ⟨rfl, rfl⟩
end

section
theorem ret_slice {a : Option Addr} {n m c : Nat} (h : n = m) : Ending.returned (.slice a n c) = .returned (.slice a m c) := by rw [h]
theorem kept_refused0 (w : World) (b : Nat) (u v : Value) : Kept [b] w ((w.setCell ⟨b, 0, none⟩ u).setCell ⟨b, 1, none⟩ v) := ((Kept.refl [b] w).setCell (by simp) _).setCell (by simp) _
theorem take_short {w : World} {b : Nat} {p : Int} {ao : Option Addr} {cap : Nat} {xs : List UInt8} {at_ : Nat} (h : Rd w b 0 p ao cap xs at_) (n began : Int) (hn : (xs.length - at_ : Nat) < n) :
  Calls Tryz.prog 121 #[.pointer (some ⟨b, 0, none⟩), .int .i64 n, .int .i64 began] w fun e' w' => e' = .returned (.slice none 0 0) ∧ Kept [b] w w' ∧ Rd w' b 10 began ao cap xs at_ := by
 have h0 := h.c0
 have h1 := h.c1
 have f0 := h.f0
 have f1 := h.f1
 have H := (show Hid _ from h)
 clear h
 go_enter Tryz.func121, Tryz.ntmps121
 go_wp2_with (first | (go_at_call 118; refine (left_ok H.out).mono ?_; rintro e w' ⟨rfl, nq, rfl⟩) | (go_at_call 103; refine (refuse_ok _ p _ _ _ (by simpa using h0) (by simpa using h1) (by simpa using f0) (by simpa using f1)).mono ?_; rintro e w' ⟨rfl, rfl⟩))
 go_ret
 exact ⟨rfl, kept_refused _ _ _ _ _, (H.out.drewN _).refused 10 began⟩
theorem take_some {w : World} {b : Nat} {p : Int} {g off cap : Nat} {xs : List UInt8} {at_ : Nat} (h : Rd w b 0 p (some ⟨g, off, none⟩) cap xs at_) (n : Nat) (began : Int) (hn : n <= xs.length - at_) :
  Calls Tryz.prog 121 #[.pointer (some ⟨b, 0, none⟩), .int .i64 n, .int .i64 began] w fun e' w' => ∃ ao' cap', e' = .returned (.slice ao' n cap') ∧ Sl w' ao' ((xs.drop at_).take n) ∧ (ao' = none -> n = 0 ∧ cap' = 0) ∧ (∀ a, ao' = some a -> a.spot = none) ∧ Kept [b] w w' ∧ Rd w' b 0 p (some ⟨g, off, none⟩) cap xs (at_ + n) := by
 have h0 := h.c0
 have h2 := h.c2
 have h3 := h.c3
 have hs := h.small
 have hl := h.le
 have hlc := h.lc
 have f3 := h.f3
 have hsl := (h.sl.drop at_ cap hl hlc).take n
 have hsp : ∃ a, (if cap = at_ then some (⟨g, off, none⟩ : Addr) else some ⟨g, off + at_, none⟩) = some a ∧ a.spot = none ∧ a.block = g := by
  by_cases hc : cap = at_
  ·rw [if_pos hc]; exact ⟨_, rfl, rfl, rfl⟩
  ·rw [if_neg hc]; exact ⟨_, rfl, rfl, rfl⟩
 have hap := h.apart _ rfl
 have H := (show Hid _ from h)
 clear h
 go_enter Tryz.func121, Tryz.ntmps121
 go_wp2_with (go_at_call 118; refine (left_ok H.out).mono ?_; rintro e w' ⟨rfl, nq0, rfl⟩)
 go_quiet (fail)
 generalize (if cap = at_ then some (⟨g, off, none⟩ : Addr) else some ⟨g, off + at_, none⟩) = ao2 at hsl hsp ⊢
 obtain ⟨a2, rfl, hsp1, hsp2⟩ := hsp
 go_wp2
 go_ret
 refine ⟨some a2, cap - at_, ret_slice (by omega), ?_, by simp, by rintro a ⟨⟩; exact hsp1, kept_moved _ _ _ _, ?_⟩
 ·exact hsl.kept (kept_moved _ _ _ _) (by rintro _ a ⟨⟩; simp [hsp2]; exact hap)
 ·have := (H.out.drewN (nq0 + nq)).moved (at_ + n) (by omega)
  simpa using this
theorem take_none {w : World} {b : Nat} {p : Int} (h : Rd w b 0 p none 0 [] 0) (began : Int) :
  Calls Tryz.prog 121 #[.pointer (some ⟨b, 0, none⟩), .int .i64 0, .int .i64 began] w fun e' w' => e' = .returned (.slice none 0 0) ∧ Kept [b] w w' ∧ Rd w' b 0 p none 0 [] 0 := by
 have h0 := h.c0
 have h2 := h.c2
 have h3 := h.c3
 have f3 := h.f3
 have H := (show Hid _ from h)
 clear h
 simp only [List.length_nil] at h2
 go_enter Tryz.func121, Tryz.ntmps121
 go_wp2_with (go_at_call 118; refine (left_ok H.out).mono ?_; rintro e w' ⟨rfl, nq0, rfl⟩)
 go_quiet (fail)
 go_wp2
 go_ret
 refine ⟨rfl, kept_moved _ _ _ _, ?_⟩
 exact (H.out.drewN (nq0 + nq)).moved 0 (by simp)
theorem take_ok {w : World} {b : Nat} {p : Int} {ao : Option Addr} {cap : Nat} {xs : List UInt8} {at_ : Nat} (h : Rd w b 0 p ao cap xs at_) (n : Nat) (began : Int) (hn : n <= xs.length - at_) :
  Calls Tryz.prog 121 #[.pointer (some ⟨b, 0, none⟩), .int .i64 n, .int .i64 began] w fun e' w' => ∃ ao' cap', e' = .returned (.slice ao' n cap') ∧ Sl w' ao' ((xs.drop at_).take n) ∧ (ao' = none -> n = 0 ∧ cap' = 0) ∧ (∀ a, ao' = some a -> a.spot = none) ∧ Kept [b] w w' ∧ Rd w' b 0 p ao cap xs (at_ + n) := by
 cases ao with
 | none =>
  obtain ⟨rfl, rfl⟩ := h.nil rfl
  obtain rfl : at_ = 0 := by have := h.le; simpa using this
  obtain rfl : n = 0 := by simpa using hn
  refine (take_none h began).mono fun e w' ⟨he, hk, hr⟩ => ?_
  exact ⟨none, 0, he, Sl.nil _ _, fun _ => ⟨rfl, rfl⟩, by simp, hk, hr⟩
 | some a =>
  obtain ⟨g, off, spot⟩ := a
  obtain rfl : spot = none := h.spot _ rfl
  exact take_some h n began hn
end

section
theorem raw_neg {w : World} {b : Nat} {p : Int} {ao : Option Addr} {cap : Nat} {xs : List UInt8} {at_ : Nat} (h : Rd w b 0 p ao cap xs at_) (n : Int) (hn : n < 0) :
  Calls Tryz.prog 119 #[.pointer (some ⟨b, 0, none⟩), .int .i64 n] w fun e' w' => e' = .returned (.slice none 0 0) ∧ Kept [b] w w' ∧ Rd w' b 1 at_ ao cap xs at_ := by
 have h0 := h.c0
 have h1 := h.c1
 have h3 := h.c3
 have hs := h.small
 have hl := h.le
 have hlc := h.lc
 have f0 := h.f0
 have f1 := h.f1
 have H := (show Hid _ from h)
 clear h
 go_enter Tryz.func119, Tryz.ntmps119
 go_wp2
 go_region_with (go_at_call 103; refine (refuse_ok _ p _ _ _ (by simpa using h0) (by simpa using h1) (by simpa using f0) (by simpa using f1)).mono ?_; rintro e w' ⟨rfl, rfl⟩)
 go_wp2
 go_ret
 exact ⟨rfl, kept_refused _ _ 1 _ _, (H.out.drewN 1).refused 1 at_⟩
theorem raw_short {w : World} {b : Nat} {p : Int} {ao : Option Addr} {cap : Nat} {xs : List UInt8} {at_ : Nat} (h : Rd w b 0 p ao cap xs at_) (n : Int) (hn0 : 0 <= n) (hn : (xs.length - at_ : Nat) < n) :
  Calls Tryz.prog 119 #[.pointer (some ⟨b, 0, none⟩), .int .i64 n] w fun e' w' => e' = .returned (.slice none 0 0) ∧ Kept [b] w w' ∧ Rd w' b 10 at_ ao cap xs at_ := by
 have h0 := h.c0
 have h1 := h.c1
 have h3 := h.c3
 have hs := h.small
 have hl := h.le
 have hlc := h.lc
 have f0 := h.f0
 have f1 := h.f1
 have H := (show Hid _ from h)
 clear h
 go_enter Tryz.func119, Tryz.ntmps119
 go_wp2_with (first | (go_at_call 120; refine (rclosed_ok _ _ h0).mono ?_; rintro e w' ⟨rfl, hw⟩; obtain rfl := hw.symm) | (go_at_call 121; refine (take_short H.out _ _ hn).mono ?_; rintro e w' ⟨rfl, hk, hr⟩) | (go_at_call 131; refine (clone_nil _).mono ?_; rintro e w' ⟨rfl, rfl⟩))
 go_ret
 exact ⟨rfl, by assumption, by assumption⟩
theorem raw_ok {w : World} {b : Nat} {p : Int} {ao : Option Addr} {cap : Nat} {xs : List UInt8} {at_ : Nat} (h : Rd w b 0 p ao cap xs at_) (n : Nat) (hn : n <= xs.length - at_) :
  Calls Tryz.prog 119 #[.pointer (some ⟨b, 0, none⟩), .int .i64 n] w fun e' w' => ∃ ao' cap', e' = .returned (.slice ao' n cap') ∧ Fresh w w' ao' cap' ((xs.drop at_).take n) ∧ Kept [b] w w' ∧ Rd w' b 0 p ao cap xs (at_ + n) := by
 have h0 := h.c0
 have h1 := h.c1
 have h3 := h.c3
 have hs := h.small
 have hl := h.le
 have hlc := h.lc
 have f0 := h.f0
 have f1 := h.f1
 have H := (show Hid _ from h)
 clear h
 go_enter Tryz.func119, Tryz.ntmps119
 go_wp2_with (first | (go_at_call 120; refine (rclosed_ok _ _ h0).mono ?_; rintro e w' ⟨rfl, hw⟩; obtain rfl := hw.symm) | (go_at_call 121; refine (take_ok H.out _ _ hn).mono ?_; rintro e w1 ⟨ao1, cap1, rfl, hsl1, hnn1, hsp1, hk1, hr1⟩))
 refine (clone_any ao1 n cap1 ((xs.drop at_).take n) w1 (by simp; omega) (by simp; omega) hsl1 (fun h => by obtain ⟨rfl, rfl⟩ := hnn1 h; simp)).mono ?_
 rintro e w2 ⟨ao2, cap2, rfl, hfr2, hk2⟩
 go_wp2
 go_ret
 exact ⟨ao2, cap2, rfl, hfr2.later hk1, hk1.tr hk2, hr1.kept hk2 (by simp) (by simp)⟩
end

section
theorem rnumber_as {w : World} {b : Nat} {p : Int} {ao : Option Addr} {cap : Nat} {xs : List UInt8} {at_ : Nat} (h : Rd w b 0 p ao cap xs at_) {v k : Nat} (hr : Pure.num (xs.drop at_) = (v, k, 0)) :
  Calls Tryz.prog 115 #[.pointer (some ⟨b, 0, none⟩)] w fun e' w' => e' = .returned (.int .i64 v) ∧ Kept [b] w w' ∧ Rd w' b 0 p ao cap xs (at_ + k) := by
 refine (rnumber_ok h).mono fun e w' ⟨he, hk, hR⟩ => ?_
 rw [hr] at he hR
 exact ⟨he, hk, hR⟩
theorem rnumber_no {w : World} {b : Nat} {p : Int} {ao : Option Addr} {cap : Nat} {xs : List UInt8} {at_ : Nat} (h : Rd w b 0 p ao cap xs at_) {v k c : Nat} (hr : Pure.num (xs.drop at_) = (v, k, c)) (hc : c ≠ 0) :
  Calls Tryz.prog 115 #[.pointer (some ⟨b, 0, none⟩)] w fun e' w' => e' = .returned (.int .i64 0) ∧ Kept [b] w w' ∧ Rd w' b c at_ ao cap xs at_ := by
 have hf := Pure.num_facts (xs.drop at_)
 rw [hr] at hf
 obtain ⟨rfl, rfl⟩ : v = 0 ∧ k = 0 := by simp only at hf; omega
 refine (rnumber_ok h).mono fun e w' ⟨he, hk, hR⟩ => ?_
 rw [hr] at he hR
 rw [if_neg hc] at hR
 exact ⟨he, hk, hR⟩
theorem text_neg {w : World} {b : Nat} {p : Int} {ao : Option Addr} {cap : Nat} {xs : List UInt8} {at_ : Nat} (h : Rd w b 0 p ao cap xs at_) (most : Int) (hn : most < 0) :
  Calls Tryz.prog 133 #[.pointer (some ⟨b, 0, none⟩), .int .i64 most] w fun e' w' => e' = .returned (.slice none 0 0) ∧ Kept [b] w w' ∧ Rd w' b 1 at_ ao cap xs at_ := by
 have h0 := h.c0
 have h1 := h.c1
 have h3 := h.c3
 have hs := h.small
 have hl := h.le
 have hlc := h.lc
 have f0 := h.f0
 have f1 := h.f1
 have H := (show Hid _ from h)
 clear h
 go_enter Tryz.func133, Tryz.ntmps133
 go_wp2_with (first | (go_at_call 120; refine (rclosed_ok _ _ h0).mono ?_; rintro e w' ⟨rfl, hw⟩; obtain rfl := hw.symm) | (go_at_call 103; refine (refuse_ok _ p _ _ _ h0 h1 f0 f1).mono ?_; rintro e w' ⟨rfl, rfl⟩))
 go_ret
 exact ⟨rfl, kept_refused0 _ _ _ _, H.out.refused 1 at_⟩
theorem text_form {w : World} {b : Nat} {p : Int} {ao : Option Addr} {cap : Nat} {xs : List UInt8} {at_ : Nat} (h : Rd w b 0 p ao cap xs at_) (most : Int) (hn : 0 <= most) {v k c : Nat} (hr : Pure.num (xs.drop at_) = (v, k, c)) (hc : c ≠ 0) :
  Calls Tryz.prog 133 #[.pointer (some ⟨b, 0, none⟩), .int .i64 most] w fun e' w' => e' = .returned (.slice none 0 0) ∧ Kept [b] w w' ∧ Rd w' b c at_ ao cap xs at_ := by
 have HR : Hid (Pure.num (xs.drop at_) = (v, k, c)) := hr
 have h0 := h.c0
 have h1 := h.c1
 have h3 := h.c3
 have hs := h.small
 have hl := h.le
 have hlc := h.lc
 have f0 := h.f0
 have f1 := h.f1
 have H := (show Hid _ from h)
 clear h
 clear hr
 have hc1 : ((c : Int) != 0) = true := by simp [hc]
 go_enter Tryz.func133, Tryz.ntmps133
 go_wp2_with (first | (go_at_call 120; refine (rclosed_ok _ _ h0).mono ?_; rintro e w' ⟨rfl, hw⟩; obtain rfl := hw.symm) | (go_at_call 115; refine (rnumber_no H.out HR.out hc).mono ?_; rintro e w1 ⟨rfl, hk1, hr1⟩; have c10 := hr1.c0; have c11 := hr1.c1; have g10 := hr1.f0; have g11 := hr1.f1; have H1 := (show Hid _ from hr1); clear hr1) | (go_at_call 126; refine (spoilt_any _ _ _ c10).mono ?_; rintro e w' ⟨rfl, hw⟩; obtain rfl := hw.symm))
 go_ret
 exact ⟨rfl, hk1, H1.out⟩
theorem text_long {w : World} {b : Nat} {p : Int} {ao : Option Addr} {cap : Nat} {xs : List UInt8} {at_ : Nat} (h : Rd w b 0 p ao cap xs at_) (most : Int) (hn : 0 <= most) {v k : Nat} (hr : Pure.num (xs.drop at_) = (v, k, 0)) (hv : most < v) :
  Calls Tryz.prog 133 #[.pointer (some ⟨b, 0, none⟩), .int .i64 most] w fun e' w' => e' = .returned (.slice none 0 0) ∧ Kept [b] w w' ∧ Rd w' b 2 at_ ao cap xs (at_ + k) := by
 have HR : Hid (Pure.num (xs.drop at_) = (v, k, 0)) := hr
 have h0 := h.c0
 have h1 := h.c1
 have h3 := h.c3
 have hs := h.small
 have hl := h.le
 have hlc := h.lc
 have f0 := h.f0
 have f1 := h.f1
 have H := (show Hid _ from h)
 clear h
 clear hr
 go_enter Tryz.func133, Tryz.ntmps133
 go_wp2_with (first | (go_at_call 120; refine (rclosed_ok _ _ h0).mono ?_; rintro e w' ⟨rfl, hw⟩; obtain rfl := hw.symm) | (go_at_call 115; refine (rnumber_as H.out HR.out).mono ?_; rintro e w1 ⟨rfl, hk1, hr1⟩; have c10 := hr1.c0; have c11 := hr1.c1; have g10 := hr1.f0; have g11 := hr1.f1; have H1 := (show Hid _ from hr1); clear hr1) | (go_at_call 126; refine (spoilt_any _ _ _ c10).mono ?_; rintro e w' ⟨rfl, hw⟩; obtain rfl := hw.symm) | (go_at_call 103; refine (refuse_ok _ p _ _ _ c10 c11 g10 g11).mono ?_; rintro e w2 ⟨rfl, rfl⟩))
 go_ret
 exact ⟨rfl, hk1.tr (kept_refused0 _ _ _ _), H1.out.refused 2 at_⟩
theorem text_short {w : World} {b : Nat} {p : Int} {ao : Option Addr} {cap : Nat} {xs : List UInt8} {at_ : Nat} (h : Rd w b 0 p ao cap xs at_) (most : Int) (hn : 0 <= most) {v k : Nat} (hr : Pure.num (xs.drop at_) = (v, k, 0)) (hv : v <= most) (hsh : xs.length - (at_ + k) < v) :
  Calls Tryz.prog 133 #[.pointer (some ⟨b, 0, none⟩), .int .i64 most] w fun e' w' => e' = .returned (.slice none 0 0) ∧ Kept [b] w w' ∧ Rd w' b 10 at_ ao cap xs (at_ + k) := by
 have HR : Hid (Pure.num (xs.drop at_) = (v, k, 0)) := hr
 have h0 := h.c0
 have h1 := h.c1
 have h3 := h.c3
 have hs := h.small
 have hl := h.le
 have hlc := h.lc
 have f0 := h.f0
 have f1 := h.f1
 have H := (show Hid _ from h)
 clear h
 clear hr
 go_enter Tryz.func133, Tryz.ntmps133
 go_wp2_with (first | (go_at_call 120; refine (rclosed_ok _ _ h0).mono ?_; rintro e w' ⟨rfl, hw⟩; obtain rfl := hw.symm) | (go_at_call 115; refine (rnumber_as H.out HR.out).mono ?_; rintro e w1 ⟨rfl, hk1, hr1⟩; have c10 := hr1.c0; have c11 := hr1.c1; have g10 := hr1.f0; have g11 := hr1.f1; have H1 := (show Hid _ from hr1); clear hr1) | (go_at_call 126; refine (spoilt_any _ _ _ c10).mono ?_; rintro e w' ⟨rfl, hw⟩; obtain rfl := hw.symm) | (go_at_call 121; refine (take_short H1.out _ _ (by omega)).mono ?_; rintro e w2 ⟨rfl, hk2, hr2⟩) | (go_at_call 131; refine (clone_nil _).mono ?_; rintro e w' ⟨rfl, hw⟩; obtain rfl := hw.symm))
 go_ret
 exact ⟨rfl, hk1.tr hk2, hr2⟩
theorem text_ok {w : World} {b : Nat} {p : Int} {ao : Option Addr} {cap : Nat} {xs : List UInt8} {at_ : Nat} (h : Rd w b 0 p ao cap xs at_) (most : Int) (hn : 0 <= most) {v k : Nat} (hr : Pure.num (xs.drop at_) = (v, k, 0)) (hv : v <= most) (hsh : v <= xs.length - (at_ + k)) :
  Calls Tryz.prog 133 #[.pointer (some ⟨b, 0, none⟩), .int .i64 most] w fun e' w' => ∃ ao' cap', e' = .returned (.slice ao' v cap') ∧ Fresh w w' ao' cap' ((xs.drop (at_ + k)).take v) ∧ Kept [b] w w' ∧ Rd w' b 0 p ao cap xs (at_ + k + v) := by
 have HR : Hid (Pure.num (xs.drop at_) = (v, k, 0)) := hr
 have h0 := h.c0
 have h1 := h.c1
 have h3 := h.c3
 have hs := h.small
 have hl := h.le
 have hlc := h.lc
 have f0 := h.f0
 have f1 := h.f1
 have H := (show Hid _ from h)
 clear h
 clear hr
 go_enter Tryz.func133, Tryz.ntmps133
 go_wp2_with (first | (go_at_call 120; refine (rclosed_ok _ _ h0).mono ?_; rintro e w' ⟨rfl, hw⟩; obtain rfl := hw.symm) | (go_at_call 115; refine (rnumber_as H.out HR.out).mono ?_; rintro e w1 ⟨rfl, hk1, hr1⟩; have c10 := hr1.c0; have c11 := hr1.c1; have g10 := hr1.f0; have g11 := hr1.f1; have H1 := (show Hid _ from hr1); clear hr1) | (go_at_call 126; refine (spoilt_any _ _ _ c10).mono ?_; rintro e w' ⟨rfl, hw⟩; obtain rfl := hw.symm) | (go_at_call 121; refine (take_ok H1.out _ _ hsh).mono ?_; rintro e w2 ⟨ao1, cap1, rfl, hsl1, hnn1, hsp1, hk2, hr2⟩))
 refine (clone_any ao1 v cap1 ((xs.drop (at_ + k)).take v) w2 (by simp; omega) (by simp; omega) hsl1 (fun h => by obtain ⟨rfl, rfl⟩ := hnn1 h; simp)).mono ?_
 rintro e w3 ⟨ao2, cap2, rfl, hfr2, hk3⟩
 go_wp2
 go_ret
 exact ⟨ao2, cap2, rfl, hfr2.later (hk1.tr hk2), (hk1.tr hk2).tr hk3, hr2.kept hk3 (by simp) (by simp)⟩
end

section
namespace Pure
def tbl : List Nat := [0, 498536548, 997073096, 651767980, 1994146192, 1802195444, 1303535960, 1342533948, 3988292384, 4027552580, 3604390888, 3412177804, 2607071920, 2262029012, 2685067896, 3183342108]
def tb (i : Nat) : Nat := tbl.getD i 0
theorem tb_lt (i : Nat) : tb i < 4294967296 := by
 unfold tb
 by_cases h : i < 16
 ·have : ∀ i, i < 16 -> tbl.getD i 0 < 4294967296 := by decide
  exact this i h
 ·have : tbl.length <= i := by simp [tbl]; omega
  simp [List.getElem?_eq_none this]
theorem xor_lt32 {a b : Nat} (ha : a < 4294967296) (hb : b < 4294967296) : a ^^^ b < 4294967296 := Nat.xor_lt_two_pow (n := 32) ha hb
def nib (y : Nat) : Nat := (y / 16) ^^^ tb (y % 16)
theorem nib_lt {y : Nat} (h : y < 4294967296) : nib y < 4294967296 := xor_lt32 (by omega) (tb_lt _)
def crcStep (x c : Nat) : Nat := nib (nib (x ^^^ c))
theorem crcStep_lt {x c : Nat} (h : x < 4294967296) (hc : c < 4294967296) : crcStep x c < 4294967296 := nib_lt (nib_lt (xor_lt32 h hc))
def crc (x : Nat) (l : List UInt8) : Nat := l.foldl (fun x c => crcStep x c.toNat) x
theorem crc_snoc (x : Nat) (l : List UInt8) (c : UInt8) : crc x (l ++ [c]) = crcStep (crc x l) c.toNat := by simp [crc]
theorem crc_lt {x : Nat} (h : x < 4294967296) (l : List UInt8) : crc x l < 4294967296 := by
 induction l generalizing x with
 | nil => exact h
 | cons c l ih => exact ih (crcStep_lt h (Nat.lt_trans (UInt8.toNat_lt c) (by omega)))
theorem ones_xor {x : Nat} (h : x < 4294967296) : 4294967295 ^^^ x = 4294967295 - x := by
 have h1 : (BitVec.allOnes 32 ^^^ BitVec.ofNat 32 x).toNat = (~~~ (BitVec.ofNat 32 x)).toNat := by rw [BitVec.allOnes_xor]
 rw [BitVec.toNat_xor, BitVec.toNat_not, BitVec.toNat_allOnes, BitVec.toNat_ofNat, Nat.mod_eq_of_lt (by omega)] at h1
 simpa using h1
def sum (l : List UInt8) : Nat := 4294967295 - crc 4294967295 l
theorem take_snoc {α : Type} (l : List α) (d : α) (k : Nat) (h : k < l.length) : l.take (k + 1) = l.take k ++ [l.getD k d] := by
 rw [List.take_succ_eq_append_getElem h]; simp [List.getElem?_eq_getElem h]
end Pure
end

end Go.Proofs.YtmklodligplbaabGreat
