import Derived.WalkKit
import Derived.WalkSpells
import Derived.WalkLawsBesides
import Derived.Test.YtngaimahhgmciabGreatDoorProg
import Derived.WideKeyArr2
import Derived.Maps.RangeRun
import Derived.Laws.IdiomRangeMap
import Derived.WideKeyEntry
namespace Go.Proofs.YtngaimahhgmciabGreatDoor
section
open Go.RowKit
set_option linter.unusedVariables false

/-- w' is w but for new blocks and what lies in the blocks of l. -/
structure Kept (l : List Nat) (w w' : World) : Prop where
  os : w'.os = w.os
  tape : w'.tape = w.tape
  output : w'.output = w.output
  size : w.heap.size ≤ w'.heap.size
  block : ∀ k, k < w.heap.size → k ∉ l → w'.heap[k]? = w.heap[k]?

theorem Kept.refl (l : List Nat) (w : World) : Kept l w w := ⟨rfl, rfl, rfl, Nat.le_refl _, fun _ _ _ => rfl⟩

theorem Kept.trans {l l2 : List Nat} {a b c : World} (h : Kept l a b) (k : Kept l2 b c) (hl : ∀ i, i ∈ l2 → i < a.heap.size → i ∈ l) : Kept l a c :=
  ⟨k.os.trans h.os, k.tape.trans h.tape, k.output.trans h.output, Nat.le_trans h.size k.size,
    fun i hi hn => (k.block i (Nat.lt_of_lt_of_le hi h.size) (fun hm => hn (hl i hm hi))).trans (h.block i hi hn)⟩

theorem Kept.mono {l l2 : List Nat} {a b : World} (h : Kept l a b) (hl : ∀ i, i ∈ l → i < a.heap.size → i ∈ l2) : Kept l2 a b :=
  ⟨h.os, h.tape, h.output, h.size, fun i hi hn => h.block i hi (fun hm => hn (hl i hm hi))⟩

theorem Kept.drewN {l : List Nat} {a w : World} (h : Kept l a w) (n : Nat) : Kept l a (w.drewN n) := ⟨h.os, h.tape, h.output, h.size, h.block⟩
theorem Kept.drew {l : List Nat} {a w : World} (h : Kept l a w) : Kept l a w.drew := ⟨h.os, h.tape, h.output, h.size, h.block⟩

theorem Kept.alloc {l : List Nat} {a w : World} (h : Kept l a w) (o : Obj) : Kept l a (w.alloc o) :=
  h.trans (l2 := []) ⟨rfl, rfl, rfl, by simp, fun k hk _ => Below.heap_alloc _ _ _ hk⟩ (by simp)

theorem Kept.setCell {l : List Nat} {a w : World} (h : Kept l a w) {p : Addr} (hp : p.block < a.heap.size → p.block ∈ l) (u : Value) : Kept l a (w.setCell p u) :=
  h.trans (l2 := [p.block]) ⟨rfl, rfl, rfl, by simp [World.setCell], fun k _ hn => Below.heap_setCell _ _ _ _ (by simpa using hn)⟩ (by simpa using hp)

theorem Kept.grown {l : List Nat} {a w w' : World} {row : Option Nat} (h : Kept l a w) (hg : w.grownBy w' row) (hr : ∀ k, row = some k → k < a.heap.size → k ∈ l) : Kept l a w' :=
  ⟨hg.os.trans h.os, hg.tape.trans h.tape, hg.output.trans h.output, Nat.le_trans h.size hg.size,
    fun i hi hn => (hg.block i (Nat.lt_of_lt_of_le hi h.size) (fun e => hn (hr i e.symm hi))).trans (h.block i hi hn)⟩

theorem Kept.of_below {w w' : World} (h : Below w.heap.size w w') : Kept [] w w' := ⟨h.os, h.tape, h.output, h.size, fun k hk _ => h.block k hk⟩
theorem Kept.below {B : Nat} {l : List Nat} {w w' : World} (h : Kept l w w') (hB : B ≤ w.heap.size) (hl : ∀ i, i ∈ l → B ≤ i) : Below B w w' :=
  ⟨h.os, h.tape, h.output, h.size, fun k hk => h.block k (by omega) (fun hm => by have := hl k hm; omega)⟩

theorem Kept.cell {l : List Nat} {w w' : World} (h : Kept l w w') {p : Addr} (hp : p.block < w.heap.size) (hn : p.block ∉ l) : w'.cell? p = w.cell? p := World.cell?_of_block (w := w) (h.block p.block hp hn)
theorem Kept.cellOf {l : List Nat} {w w' : World} (h : Kept l w w') {p : Addr} {v : Value} (hc : w.cell? p = some v) (hn : p.block ∉ l) : w'.cell? p = some v := by
  rw [h.cell (World.block_lt_of_cell? _ _ hc) hn]; exact hc
theorem Kept.frozen {l : List Nat} {w w' : World} (h : Kept l w w') {p : Addr} (hp : p.block < w.heap.size) (hn : p.block ∉ l) : w'.frozen? p = w.frozen? p := World.frozen?_of_block (w := w) (h.block p.block hp hn)

/-- A slice of bytes with these elements, in memory that lies there: of a slice without elements nothing is asked. -/
def Sl (w : World) (ao : Option Addr) (xs : List UInt8) : Prop :=
  ∀ i, i < xs.length → ∃ b off, ao = some ⟨b, off, none⟩ ∧ w.cell? ⟨b, off + i, none⟩ = some (.int .u8 (xs.getD i 0).toNat)

theorem Sl.open {w : World} {ao : Option Addr} {xs : List UInt8} (h : Sl w ao xs) (hn : xs ≠ []) :
    ∃ b off, ao = some ⟨b, off, none⟩ ∧ b < w.heap.size ∧ ∀ i, i < xs.length → w.cell? ⟨b, off + i, none⟩ = some (.int .u8 (xs.getD i 0).toNat) := by
  obtain ⟨b, off, e, hc⟩ := h 0 (List.length_pos_iff.2 hn)
  refine ⟨b, off, e, World.block_lt_of_cell? _ _ hc, fun i hi => ?_⟩
  obtain ⟨b', off', e', hc'⟩ := h i hi
  rw [e] at e'
  cases e'
  exact hc'

theorem Sl.nil (w : World) (ao : Option Addr) : Sl w ao [] := fun i hi => by simp at hi

theorem Sl.of {w : World} {b off : Nat} {xs : List UInt8} (h : ∀ i, i < xs.length → w.cell? ⟨b, off + i, none⟩ = some (.int .u8 (xs.getD i 0).toNat)) : Sl w (some ⟨b, off, none⟩) xs :=
  fun i hi => ⟨b, off, rfl, h i hi⟩

/-- A slice keeps its elements where its own block is not written. -/
theorem Sl.kept {l : List Nat} {w w' : World} {ao : Option Addr} {xs : List UInt8} (h : Sl w ao xs) (hk : Kept l w w') (hn : xs ≠ [] → ∀ a, ao = some a → a.block ∉ l) : Sl w' ao xs := by
  intro i hi
  obtain ⟨b, off, rfl, hc⟩ := h i hi
  exact ⟨b, off, rfl, hk.cellOf hc (hn (by rintro rfl; simp at hi) ⟨b, off, none⟩ rfl)⟩

theorem Sl.drewN {w : World} {ao : Option Addr} {xs : List UInt8} (h : Sl w ao xs) (n : Nat) : Sl (w.drewN n) ao xs := h.kept ((Kept.refl [] w).drewN n) (by simp)

/-- A cut slice, as the walk spells it. -/
theorem Sl.drop {w : World} {g off : Nat} {xs : List UInt8} (h : Sl w (some ⟨g, off, none⟩) xs) (k cap : Nat) (hk : k ≤ xs.length) (hc : xs.length ≤ cap) :
    Sl w (if cap = k then some ⟨g, off, none⟩ else some ⟨g, off + k, none⟩) (xs.drop k) := by
  intro i hi
  simp only [List.length_drop] at hi
  obtain ⟨b', off', e', hcell⟩ := h (k + i) (by omega)
  cases e'
  rw [if_neg (by omega)]
  refine ⟨g, off + k, rfl, ?_⟩
  rw [Nat.add_assoc, hcell]
  simp [List.getElem?_drop]

/-- The first elements of a slice. -/
theorem Sl.take {w : World} {ao : Option Addr} {xs : List UInt8} (h : Sl w ao xs) (k : Nat) : Sl w ao (xs.take k) := by
  intro i hi
  simp only [List.length_take] at hi
  obtain ⟨b', off', e', hcell⟩ := h i (by omega)
  refine ⟨b', off', e', ?_⟩
  rw [hcell]
  simp [show i < k by omega]

/-- Bytes as cells. -/
def bys (xs : List UInt8) : List Value := xs.map (fun x => .int .u8 x.toNat)
theorem bys_length (xs : List UInt8) : (bys xs).length = xs.length := by simp [bys]
theorem bys_get {xs : List UInt8} {j : Nat} {u : Value} (h : (bys xs)[j]? = some u) : j < xs.length ∧ u = .int .u8 (xs.getD j 0).toNat := by
  have hj : j < xs.length := by
    have := (List.getElem?_eq_some_iff.1 h).1
    simpa [bys] using this
  refine ⟨hj, ?_⟩
  simp [bys, List.getElem?_eq_getElem hj] at h
  simp [List.getElem?_eq_getElem hj, h]
theorem bys_at {xs : List UInt8} {j : Nat} (hj : j < xs.length) : (bys xs)[j]? = some (.int .u8 (xs.getD j 0).toNat) := by
  simp [bys, List.getElem?_eq_getElem hj]
theorem bys_append (xs ys : List UInt8) : bys (xs ++ ys) = bys xs ++ bys ys := by simp [bys]
theorem bys_oneCell (xs : List UInt8) : ∀ u ∈ bys xs, u.oneCell' = true := by
  intro u hu
  simp only [bys, List.mem_map] at hu
  obtain ⟨x, _, rfl⟩ := hu
  rfl

theorem Sl.cells {w : World} {b off : Nat} {xs : List UInt8} (h : ∀ i, i < xs.length → w.cell? ⟨b, off + i, none⟩ = some (.int .u8 (xs.getD i 0).toNat)) :
    ∀ j u, (bys xs)[j]? = some u → w.cell? ((⟨b, off, none⟩ : Addr).add j) = some u := by
  intro j u hu
  obtain ⟨hj, rfl⟩ := bys_get hu
  have : (⟨b, off, none⟩ : Addr).add j = ⟨b, off + j, none⟩ := by unfold Addr.add; split <;> simp_all
  rw [this]
  exact h j hj

theorem bys_set (l : List UInt8) (i : Nat) (c : UInt8) : (bys l).set i (.int .u8 c.toNat) = bys (l.set i c) := by simp [bys, List.map_set]

/-- What a call owns is a slice of bytes. -/
theorem own_sl {w : World} {base : Nat} {e : TypeId} {v : Value} {n : Nat} {xs : List UInt8} (h : w.ownsRow base e 1 v n (bys xs)) (hv : v ≠ .slice none 0 0) :
    ∃ g cap, v = .slice (some ⟨g, 0, none⟩) n cap ∧ base ≤ g ∧ g < w.heap.size ∧ n ≤ cap ∧ Sl w (some ⟨g, 0, none⟩) xs := by
  rcases h.2 with ⟨rfl, _⟩ | ⟨g, cap, cur, rfl, hb, hg, hn, _, hs, ht⟩
  · exact absurd rfl hv
  · refine ⟨g, cap, rfl, hb, (Array.getElem?_eq_some_iff.1 hg).1, hn, ?_⟩
    intro i hi
    refine ⟨g, 0, rfl, ?_⟩
    rw [Nat.zero_add, cell_of_row w g i cur e (0, 0) hg]
    have h1 := bys_at hi
    rw [← ht, List.getElem?_take] at h1
    split at h1
    · simpa using h1
    · cases h1
end

section
open Go.RowKit
open Go.ChangeMaps (setBlock heap_setBlock_same heap_setBlock_other)
set_option linter.unusedVariables false
set_option linter.unusedSimpArgs false

/-- An id as a value. -/
def idv (i : List UInt8) : Value := .agg (bys i).toArray
theorem bys_inj {a b : List UInt8} (h : bys a = bys b) : a = b := by
  induction a generalizing b with
  | nil => cases b with
    | nil => rfl
    | cons y r => simp [bys] at h
  | cons x l ih => cases b with
    | nil => simp [bys] at h
    | cons y r =>
      simp only [bys, List.map_cons, List.cons.injEq, Value.int.injEq, true_and, Int.natCast_inj] at h
      rw [UInt8.toNat_inj.1 h.1, ih h.2]
theorem idv_inj {a b : List UInt8} (h : idv a = idv b) : a = b := by
  unfold idv at h
  injection h with h
  exact bys_inj (by simpa using h)

theorem Tryz.arrID : WideMaps.ArrKey Tryz.prog 36 5 32 := ⟨Tryz.underlying36, by kernel_rfl, by kernel_rfl, by kernel_rfl⟩
theorem Tryz.lawID : WideMaps.KeyLaw Tryz.prog 36 := Tryz.arrID.law
theorem Tryz.keyTypeID : Tryz.prog.keyType 36 = true := by kernel_rfl
theorem Tryz.typesSz : Tryz.prog.types.size + 1 = (Tryz.prog.types.size - 1) + 1 + 1 := by kernel_rfl

theorem mapM_isSome {α β : Type} {f : α → Option β} : ∀ (L : List α), (∀ x ∈ L, ∃ y, f x = some y) → ∃ ys, L.mapM f = some ys
  | [], _ => ⟨[], rfl⟩
  | x :: L, h => by
    obtain ⟨y, hy⟩ := h x (by simp)
    obtain ⟨ys, hys⟩ := mapM_isSome L (fun z hz => h z (by simp [hz]))
    exact ⟨y :: ys, by rw [List.mapM_cons, hy, hys]; rfl⟩
theorem u8_wf (a : UInt8) : (Lit.int .u8 (a.toNat : Int)).wf = true := by
  have := UInt8.toNat_lt a
  simp [Lit.wf, IntKind.min, IntKind.max, IntKind.bits, IntKind.signed]
  omega
theorem idv_key (i : List UInt8) (h : i.length = 32) : ∃ l, keyOf Tryz.prog 36 (idv i) = some l := by
  have hu := Tryz.underlying36
  have hb := Tryz.underlying5
  have hs := Tryz.arrID.size
  have ho := Tryz.arrID.one
  unfold keyOf idv
  rw [hu]
  have hsz : (bys i).toArray.size = 32 := by simp [bys_length, h]
  simp only [Tryz.keyTypeID, Value.formed, hu, hs, Bool.true_and]
  rw [Tryz.typesSz]
  generalize Tryz.prog.types.size - 1 = m
  have hcs : (bys i).length = 32 := by rw [bys_length, h]
  obtain ⟨ys, hys⟩ := mapM_isSome (f := fun k => Tryz.prog.keyLits (m + 1) 5 (((bys i).drop (k * 1)).take 1)) (List.range 32) (fun k hk => by
    have hk' : k < 32 := by simpa using hk
    rw [Nat.mul_one, List.drop_eq_getElem_cons (by omega), List.take_succ_cons, List.take_zero]
    have : (bys i)[k]'(by omega) = .int .u8 ((i.getD k 0).toNat : Int) := by
      have := bys_at (xs := i) (j := k) (by omega)
      rw [List.getElem?_eq_getElem (by omega)] at this
      exact Option.some.inj this
    rw [this]
    exact ⟨[.int .u8 ((i.getD k 0).toNat : Int)], by simp [Program.keyLits, hb, u8_wf]⟩)
  have hkl : ∃ ls, Tryz.prog.keyLits (m + 1 + 1) 36 (Value.agg (bys i).toArray).cells.toList = some ls := by
    refine ⟨ys.flatten, ?_⟩
    show Tryz.prog.keyLits (m + 1 + 1) 36 (bys i) = _
    unfold Program.keyLits
    simp only [hu, hs, ho, hcs, hys, if_true, Option.map_some]
  obtain ⟨ls, hls⟩ := hkl
  exact ⟨_, by rw [hsz, if_pos (by decide), hls]; rfl⟩

/-- The map in block b has these keys, with these values. -/
def Im (w : World) (b : Nat) (K : List (List UInt8)) (V : List Value) : Prop :=
  ∃ es clock, w.heap[b]? = some (.map es clock) ∧ MapKept.Stamped es clock ∧ es.toList.map (·.key) = K.map idv ∧ es.toList.map (·.val) = V ∧ ∀ i ∈ K, i.length = 32

section
variable {w w' : World} {b : Nat} {K : List (List UInt8)} {V : List Value}

theorem Im.lt (h : Im w b K V) : b < w.heap.size := by
  obtain ⟨es, clock, hb, _⟩ := h
  exact (Array.getElem?_eq_some_iff.1 hb).1
theorem Im.same (h : Im w b K V) (hb : w'.heap[b]? = w.heap[b]?) : Im w' b K V := by
  obtain ⟨es, clock, h1, h2⟩ := h
  exact ⟨es, clock, hb.trans h1, h2⟩
theorem Im.kept {l : List Nat} (h : Im w b K V) (hk : Kept l w w') (hn : b ∉ l) : Im w' b K V := h.same (hk.block b h.lt hn)
theorem Im.len (h : Im w b K V) : V.length = K.length := by
  obtain ⟨es, clock, _, _, h1, h2, _⟩ := h
  have e1 := congrArg List.length h1
  rw [← h2]
  simpa using e1
theorem Im.nodup (h : Im w b K V) : K.Nodup := by
  obtain ⟨es, clock, _, ⟨_, _, hs⟩, h1, _⟩ := h
  rw [h1] at hs
  exact List.Pairwise.of_map idv (fun a b h e => h (by rw [e])) hs
theorem Im.ids (h : Im w b K V) : ∀ i ∈ K, i.length = 32 := by
  obtain ⟨_, _, _, _, _, _, h⟩ := h
  exact h

theorem keys_key {es : Array MapEntry} (h1 : es.toList.map (·.key) = K.map idv) (hi : ∀ i ∈ K, i.length = 32) : ∀ x ∈ es.toList, ∃ l, keyOf Tryz.prog 36 x.key = some l := fun x hx => by
  have : x.key ∈ K.map idv := by rw [← h1]; exact List.mem_map_of_mem hx
  obtain ⟨i, hm, e⟩ := List.mem_map.1 this
  rw [← e]
  exact idv_key i (hi i hm)

/-- m[k]. -/
theorem Im.look (h : Im w b K V) {t e : TypeId} (ht : Tryz.prog.underlying t = some (.map 36 e)) {z : Value} (hz : ∀ W, (zeroValue e).run Tryz.prog W = .ok z W) (i : List UInt8) (hi : i.length = 32) (ok : Bool) :
    (i ∉ K ∧ (Instr.lookup t (.map (some b)) (idv i) ok).run Tryz.prog w = .ok (if ok = true then .tuple #[z, .bool false] else z) w) ∨
    ∃ (j : Nat) (v : Value), K[j]? = some i ∧ V[j]? = some v ∧ (Instr.lookup t (.map (some b)) (idv i) ok).run Tryz.prog w = .ok (if ok = true then .tuple #[v, .bool true] else v) w := by
  obtain ⟨es, clock, hb, hs, h1, h2, h3⟩ := h
  obtain ⟨kl, hkey⟩ := idv_key i hi
  have L := Tryz.lawID
  rcases L.find w hkey es.toList (keys_key h1 h3) with ⟨g1, g2⟩ | ⟨j, e0, g1, g2, g3⟩
  · refine .inl ⟨fun hm => ?_, ?_⟩
    · have : idv i ∈ es.toList.map (·.key) := by rw [h1]; exact List.mem_map_of_mem hm
      obtain ⟨x, hx, e⟩ := List.mem_map.1 this
      exact g2 x hx e
    · cases ok <;> simp [Instr.lookup, run_underlying ht, MapKept.run_getObj_map hb, L.check w es.isEmpty hkey, g1, hz, Result.andThen]
  · refine .inr ⟨j, e0.val, ?_, ?_, ?_⟩
    · have : (es.toList.map (·.key))[j]? = some (idv i) := by rw [List.getElem?_map, g2]; simp [g3]
      rw [h1, List.getElem?_map] at this
      obtain ⟨x, hx, e⟩ := Option.map_eq_some_iff.1 this
      rw [hx, idv_inj e]
    · rw [← h2, List.getElem?_map, g2]; rfl
    · cases ok <;> simp [Instr.lookup, run_underlying ht, MapKept.run_getObj_map hb, L.check w es.isEmpty hkey, g1, Result.andThen]

theorem kept_setBlock (hb : b < w.heap.size) {o : Obj} (o' : Obj) (h : w.heap[b]? = some o) : Kept [b] w (setBlock w b o') :=
  ⟨rfl, rfl, rfl, by simp [setBlock], fun k hk hn => by
    show (w.heap.setIfInBounds b o')[k]? = _
    rw [Array.getElem?_setIfInBounds]
    have : ¬ b = k := fun e => hn (by simp [e])
    simp [this]⟩
theorem heap_setBlock (hb : b < w.heap.size) (o' : Obj) : (setBlock w b o').heap[b]? = some o' := by
  show (w.heap.setIfInBounds b o')[b]? = _
  rw [Array.getElem?_setIfInBounds]
  simp [hb]

/-- m[k] = v. -/
theorem Im.put (h : Im w b K V) {t e : TypeId} (ht : Tryz.prog.underlying t = some (.map 36 e)) (i : List UInt8) (hi : i.length = 32) (v : Value) :
    ∃ w', (Instr.mapUpdate t (.map (some b)) (idv i) v).run Tryz.prog w = .ok () w' ∧ Kept [b] w w' ∧ w'.heap.size = w.heap.size ∧ ((i ∉ K ∧ Im w' b (K ++ [i]) (V ++ [v])) ∨ ∃ j, K[j]? = some i ∧ Im w' b K (V.set j v)) := by
  have hlt := h.lt
  obtain ⟨es, clock, hb, hs, h1, h2, h3⟩ := h
  obtain ⟨kl, hkey⟩ := idv_key i hi
  have L := Tryz.lawID
  rcases L.find w hkey es.toList (keys_key h1 h3) with ⟨g1, g2⟩ | ⟨j, e0, g1, g2, g3⟩
  · have hn : i ∉ K := fun hm => by
      have : idv i ∈ es.toList.map (·.key) := by rw [h1]; exact List.mem_map_of_mem hm
      obtain ⟨x, hx, e⟩ := List.mem_map.1 this
      exact g2 x hx e
    refine ⟨setBlock w b (.map (es.push ⟨idv i, v, clock⟩) (clock + 1)), ?_, kept_setBlock hlt _ hb, by simp [setBlock], .inl ⟨hn, _, _, heap_setBlock hlt _, ⟨?_, ?_, ?_⟩, ?_, ?_, ?_⟩⟩
    · simp [Instr.mapUpdate, run_underlying ht, MapKept.run_getObj_map hb, L.check w false hkey, g1, MapKept.run_setObj_map _ hb, Result.andThen, setBlock]
    · intro x hx
      rw [Array.toList_push, List.mem_append, List.mem_singleton] at hx
      rcases hx with hx | rfl
      · have := hs.1 x hx; omega
      · show clock < clock + 1; omega
    · rw [Array.toList_push, List.map_append, List.nodup_append]
      refine ⟨hs.2.1, by simp, fun x hx y hy => ?_⟩
      obtain ⟨q, hq, rfl⟩ := List.mem_map.1 hx
      have := hs.1 q hq
      simp only [List.map_cons, List.map_nil, List.mem_singleton] at hy
      omega
    · rw [Array.toList_push, List.map_append, List.nodup_append]
      refine ⟨hs.2.2, by simp, fun x hx y hy => ?_⟩
      obtain ⟨q, hq, rfl⟩ := List.mem_map.1 hx
      simp only [List.map_cons, List.map_nil, List.mem_singleton] at hy
      rw [hy]
      exact g2 q hq
    · rw [Array.toList_push, List.map_append, h1]; simp
    · rw [Array.toList_push, List.map_append, h2]; simp
    · intro x hx
      rw [List.mem_append, List.mem_singleton] at hx
      rcases hx with hx | rfl
      · exact h3 x hx
      · exact hi
  · have hj : j < es.toList.length := (List.getElem?_eq_some_iff.1 g2).1
    have hj' : j < es.size := by simpa using hj
    have hej : es[j] = e0 := by rw [List.getElem?_eq_getElem hj] at g2; simpa using Option.some.inj g2
    have hKj : K[j]? = some i := by
      have : (es.toList.map (·.key))[j]? = some (idv i) := by rw [List.getElem?_map, g2]; simp [g3]
      rw [h1, List.getElem?_map] at this
      obtain ⟨x, hx, e⟩ := Option.map_eq_some_iff.1 this
      rw [hx, idv_inj e]
    have hes : es[j]? = some e0 := by rw [← Array.getElem?_toList]; exact g2
    have hmod : (es.modify j fun e => { e with key := idv i, val := v }).toList = es.toList.set j ⟨idv i, v, e0.born⟩ := by
      rw [Array.toList_modify]
      apply List.ext_getElem?
      intro q
      rw [List.getElem?_modify, List.getElem?_set]
      by_cases hq : j = q
      · subst hq
        simp [g2, hj, hj', hej]
      · simp [hq]
    refine ⟨setBlock w b (.map (es.modify j fun e => { e with key := idv i, val := v }) clock), ?_, kept_setBlock hlt _ hb, by simp [setBlock], .inr ⟨j, hKj, _, _, heap_setBlock hlt _, ⟨?_, ?_, ?_⟩, ?_, ?_, h3⟩⟩
    · have hst := L.stays w hkey
      simp [Instr.mapUpdate, run_underlying ht, MapKept.run_getObj_map hb, L.check w false hkey, g1, hes, g3, hst, MapKept.run_setObj_map _ hb, Result.andThen, setBlock]
    · rw [hmod]
      intro x hx
      rcases List.mem_or_eq_of_mem_set hx with hx | rfl
      · exact hs.1 x hx
      · exact hs.1 e0 (List.mem_of_getElem? g2)
    · rw [hmod, List.map_set]
      have : (es.toList.map (·.born)).set j e0.born = es.toList.map (·.born) := by
        apply List.ext_getElem?
        intro q
        rw [List.getElem?_set]
        by_cases hq : j = q
        · subst hq; simp [g2, hj, hj', hej]
        · simp [hq]
      rw [this]
      exact hs.2.1
    · rw [hmod, List.map_set]
      have : (es.toList.map (·.key)).set j (idv i) = es.toList.map (·.key) := by
        apply List.ext_getElem?
        intro q
        rw [List.getElem?_set]
        by_cases hq : j = q
        · subst hq; simp [g2, hj, hj', hej, g3]
        · simp [hq]
      rw [this]
      exact hs.2.2
    · rw [hmod, List.map_set]
      have : (es.toList.map (·.key)).set j (idv i) = es.toList.map (·.key) := by
        apply List.ext_getElem?
        intro q
        rw [List.getElem?_set]
        by_cases hq : j = q
        · subst hq; simp [g2, hj, hj', hej, g3]
        · simp [hq]
      rw [this, h1]
    · rw [hmod, List.map_set, h2]

theorem Im.size (h : Im w b K V) {t e : TypeId} (ht : Tryz.prog.underlying t = some (.map 36 e)) (ty : TypeId) : (Builtin.len_ #[t] ty #[.map (some b)]).run Tryz.prog w = .ok (.int .i64 K.length) w := by
  obtain ⟨es, clock, hb, hs, h1, h2, h3⟩ := h
  have : es.size = K.length := by have := congrArg List.length h1; simpa using this
  rw [← this]
  simp [Builtin.len_, run_underlying ht, MapKept.run_getObj_map hb, goInt, Result.andThen]

/-- A range over it under way: r is the iterator's block; left: what is still to come. -/
def Ir (w : World) (b r : Nat) (K : List (List UInt8)) (V : List Value) (left : List (List UInt8 × Value)) : Prop :=
  ∃ es clock since seen c0, w.heap[b]? = some (.map es clock) ∧ MapKept.Stamped es clock ∧ es.toList.map (·.key) = K.map idv ∧ es.toList.map (·.val) = V ∧ (∀ i ∈ K, i.length = 32) ∧
    w.heap[r]? = some (.mapIter (some b) since seen c0) ∧ (∀ x ∈ es.toList, x.born < since) ∧ since ≤ c0 ∧ since ≤ clock ∧ (leftOf es seen).toList.map (fun x => (x.key, x.val)) = left.map (fun p => (idv p.1, p.2))

theorem Ir.im {r : Nat} {left : List (List UInt8 × Value)} (h : Ir w b r K V left) : Im w b K V := by
  obtain ⟨es, clock, since, seen, c0, h1, h2, h3, h4, h5, _⟩ := h
  exact ⟨es, clock, h1, h2, h3, h4, h5⟩
theorem Ir.lt {r : Nat} {left : List (List UInt8 × Value)} (h : Ir w b r K V left) : r < w.heap.size := by
  obtain ⟨es, clock, since, seen, c0, h1, h2, h3, h4, h5, h6, _⟩ := h
  exact (Array.getElem?_eq_some_iff.1 h6).1
theorem Ir.ne {r : Nat} {left : List (List UInt8 × Value)} (h : Ir w b r K V left) : r ≠ b := by
  obtain ⟨es, clock, since, seen, c0, h1, h2, h3, h4, h5, h6, _⟩ := h
  rintro rfl
  rw [h1] at h6
  cases h6
theorem Ir.same {r : Nat} {left : List (List UInt8 × Value)} (h : Ir w b r K V left) (hb : w'.heap[b]? = w.heap[b]?) (hr : w'.heap[r]? = w.heap[r]?) : Ir w' b r K V left := by
  obtain ⟨es, clock, since, seen, c0, h1, h2, h3, h4, h5, h6, h7⟩ := h
  exact ⟨es, clock, since, seen, c0, hb.trans h1, h2, h3, h4, h5, hr.trans h6, h7⟩
theorem Ir.kept {r : Nat} {left : List (List UInt8 × Value)} {l : List Nat} (h : Ir w b r K V left) (hk : Kept l w w') (hb : b ∉ l) (hr : r ∉ l) : Ir w' b r K V left := h.same (hk.block b h.im.lt hb) (hk.block r h.lt hr)
theorem Ir.meas {r : Nat} {left : List (List UInt8 × Value)} (h : Ir w b r K V left) : w.rangeLeft b r = left.length := by
  obtain ⟨es, clock, since, seen, c0, h1, h2, h3, h4, h5, h6, h7, h8, h9, h10⟩ := h
  simp only [World.rangeLeft, h1, h6]
  have := congrArg List.length h10
  simpa using this

theorem map_pair {es : List MapEntry} (h1 : es.map (·.key) = K.map idv) (h2 : es.map (·.val) = V) : es.map (fun x => (x.key, x.val)) = (K.zip V).map (fun p => (idv p.1, p.2)) := by
  subst h2
  induction es generalizing K with
  | nil => cases K with
    | nil => rfl
    | cons a r => simp at h1
  | cons x r ih => cases K with
    | nil => simp at h1
    | cons a q =>
      simp only [List.map_cons, List.cons.injEq] at h1
      simp only [List.map_cons, List.zip_cons_cons, ih h1.2, h1.1]

/-- range m. -/
theorem Im.range (h : Im w b K V) {t e : TypeId} (ht : Tryz.prog.underlying t = some (.map 36 e)) :
    ∃ w', (Instr.range t (.map (some b))).run Tryz.prog w = .ok (.pointer (some ⟨w.heap.size, 0, none⟩)) w' ∧ Kept [] w w' ∧ Ir w' b w.heap.size K V (K.zip V) := by
  have hlt := h.lt
  obtain ⟨es, clock, hb, hs, h1, h2, h3⟩ := h
  refine ⟨_, run_range_map w t _ e b es clock ht hb, (Kept.refl [] w).alloc _, es, clock, clock, #[], clock, ?_, hs, h1, h2, h3, ?_, hs.1, Nat.le_refl _, Nat.le_refl _, ?_⟩
  · rw [((Kept.refl [] w).alloc _).block b hlt (by simp)]; exact hb
  · exact (MapKept.heap_alloc w _).1
  · have : leftOf es #[] = es := by simp [leftOf]
    rw [this]
    exact map_pair h1 h2

theorem filter_born {l : List MapEntry} (hn : (l.map (·.born)).Nodup) {j : Nat} {x : MapEntry} (hj : l[j]? = some x) : l.filter (fun e => !(e.born == x.born)) = l.eraseIdx j := by
  induction l generalizing j with
  | nil => simp at hj
  | cons a r ih =>
    simp only [List.map_cons, List.nodup_cons] at hn
    cases j with
    | zero =>
      simp only [List.getElem?_cons_zero, Option.some.injEq] at hj
      subst hj
      simp only [List.filter_cons, beq_self_eq_true, Bool.not_true, Bool.false_eq_true, if_false, List.eraseIdx_zero, List.tail_cons]
      refine List.filter_eq_self.2 (fun e he => ?_)
      simp only [Bool.not_eq_true', beq_eq_false_iff_ne, ne_eq]
      intro hh
      exact hn.1 (by rw [← hh]; exact List.mem_map_of_mem he)
    | succ k =>
      simp only [List.getElem?_cons_succ] at hj
      have hx : x ∈ r := List.mem_of_getElem? hj
      have hne : ¬ a.born = x.born := fun hh => hn.1 (by rw [hh]; exact List.mem_map_of_mem hx)
      simp only [List.filter_cons, hne, beq_iff_eq, Bool.not_eq_true', beq_eq_false_iff_ne, ne_eq, not_false_eq_true, if_true, List.eraseIdx_cons_succ, ih hn.2 hj]

theorem erase_map {α β : Type} (f : α → β) (l : List α) (j : Nat) : (l.eraseIdx j).map f = (l.map f).eraseIdx j := by
  induction l generalizing j with
  | nil => rfl
  | cons a r ih => cases j with
    | zero => rfl
    | succ k => simp [ih]

theorem left_push (es : Array MapEntry) (seen : Array Nat) (x : Nat) : (leftOf es (seen.push x)).toList = (leftOf es seen).toList.filter (fun e => !(e.born == x)) := by
  simp only [leftOf, Array.toList_filter, List.filter_filter]
  congr 1
  funext e
  rw [Array.contains_push, Bool.not_or, Bool.and_comm]

/-- The next one. -/
theorem Ir.next {r : Nat} {left : List (List UInt8 × Value)} (h : Ir w b r K V left) (ty : TypeId) :
    (left = [] ∧ (Instr.next (.pointer (some ⟨r, 0, none⟩)) false ty).run Tryz.prog w = .ok (.tuple #[.bool false]) w) ∨
    ∃ (j : Nat) (p : List UInt8 × Value) (w' : World), left[j]? = some p ∧ (Instr.next (.pointer (some ⟨r, 0, none⟩)) false ty).run Tryz.prog w = .ok (.tuple #[.bool true, idv p.1, p.2]) w' ∧ Kept [r] w w' ∧ w'.heap.size = w.heap.size ∧ Ir w' b r K V (left.eraseIdx j) ∧
      (Instr.entry (.pointer (some ⟨r, 0, none⟩))).run Tryz.prog w' = .ok (.tuple #[idv p.1, p.2]) w' := by
  have hlb := h.im.lt
  have hlr := h.lt
  have hne := h.ne
  obtain ⟨es, clock, since, seen, c0, h1, h2, h3, h4, h5, h6, h7, h8, h9, h10⟩ := h
  rcases run_next_at (P := Tryz.prog) w ty r b since c0 seen es clock h6 h1 h7 h8 with ⟨g1, g2⟩ | ⟨e, ge, w1, gw, g2⟩
  · refine .inl ⟨?_, g2⟩
    have := congrArg List.length h10
    simp [g1] at this
    exact List.eq_nil_of_length_eq_zero (by omega)
  · obtain ⟨j, hj⟩ := List.getElem?_of_mem ge
    have hp : ∃ p, left[j]? = some p ∧ idv p.1 = e.key ∧ p.2 = e.val := by
      have : ((leftOf es seen).toList.map (fun x => (x.key, x.val)))[j]? = some (e.key, e.val) := by rw [List.getElem?_map, hj]; rfl
      rw [h10, List.getElem?_map] at this
      obtain ⟨p, hp, e1⟩ := Option.map_eq_some_iff.1 this
      injection e1 with e1 e2
      exact ⟨p, hp, e1, e2⟩
    obtain ⟨p, hp1, hp2, hp3⟩ := hp
    have hk1 : Kept [] w w1 := by rcases gw with rfl | rfl; exact Kept.refl [] _; exact (Kept.refl [] _).drew
    have hs1 : w1.heap.size = w.heap.size := by rcases gw with rfl | rfl <;> rfl
    have hr1 : w1.heap[r]? = some (.mapIter (some b) since seen c0) := by rcases gw with rfl | rfl <;> exact h6
    have hb1 : w1.heap[b]? = some (.map es clock) := by rcases gw with rfl | rfl <;> exact h1
    have hkk : Kept [r] w1 (setBlock w1 r (.mapIter (some b) since (seen.push e.born) clock)) := kept_setBlock (by omega) _ hr1
    have hb2 : (setBlock w1 r (.mapIter (some b) since (seen.push e.born) clock)).heap[b]? = some (.map es clock) := by rw [hkk.block b (by omega) (by simp; exact fun e => hne e.symm)]; exact hb1
    have hr2 := heap_setBlock (w := w1) (b := r) (by omega) (.mapIter (some b) since (seen.push e.born) clock)
    have hem : e ∈ es.toList := by simp [leftOf] at ge; simpa using ge.1
    refine .inr ⟨j, p, _, hp1, by rw [g2, hp2, hp3], (hk1.mono (by simp)).trans hkk (by simp), by simp [setBlock, hs1], ⟨es, clock, since, seen.push e.born, clock, hb2, h2, h3, h4, h5, hr2, h7, h9, h9, ?_⟩, ?_⟩
    · rw [left_push, filter_born (j := j) ?_ hj, erase_map, h10, ← erase_map]
      exact List.Nodup.sublist (List.Sublist.map _ (by simp [leftOf])) h2.2.1
    · rw [hp2, hp3]
      exact run_entry_at (P := Tryz.prog) _ r b since seen es clock e hr2 hb2 hem h2.2.1

/-- Nothing of a nil map. -/
theorem new_im (w : World) : Im (w.alloc (.map #[] 0)) w.heap.size [] [] := ⟨#[], 0, (MapKept.heap_alloc w _).1, ⟨by simp, by simp, by simp⟩, rfl, rfl, by simp⟩
end
end

end Go.Proofs.YtngaimahhgmciabGreatDoor
