import Derived.Test.YtngaimahhgmciabGreatDoorNjv
import Derived.Laws.AppendOwn
import Derived.Test.YtngaimahhgmciabGreatDoorMemv
import Derived.Deep.MidRow
import Derived.Great.BuildSlice
import Derived.WalkKit
import Derived.ProofKit
import Derived.Lib.Bytealg
import Derived.Laws.StructEq
import Derived.ChangeKeysEq
import Derived.Deep.QuietTactic
import Derived.BigQuiet
import Derived.Shelf.SlSortCmp.WholeK
import Derived.Test.YtngaimahhgmciabGreatDoorProg
namespace Go.Proofs.YtngaimahhgmciabGreatDoor
section
open Go.RowKit
set_option linter.unusedVariables false
set_option linter.unusedSimpArgs false

/-- append of as many elements as lie in a row yb. -/
theorem run_apps {P : Program} (w : World) (t ty e : TypeId) {z : Value} {s bs : Nat} (ht : P.underlying t = some (.slice e)) (hi : (P.info? e).map (fun i => (i.zero, i.size, i.bytes)) = some (some z, s, bs)) (hzs : z.cells.size = s) (hs : 0 < s)
    (v : Value) (n : Nat) (xs : List Value) (hown : w.ownsRow 0 e s v n xs) (yb yo m c0 : Nat) (ys : List Value) (hl : ys.length = m * s) (hy : ∀ j u, ys[j]? = some u → w.cell? ⟨yb, yo + j, none⟩ = some u) (h1 : ∀ u ∈ ys, u.oneCell' = true) (hm : 0 < m) (hn : n + m ≤ maxLen) (hb : (n + m) * bs ≤ 140737488355328) :
    ∃ g c w', (Builtin.append_ #[t, t] ty #[v, .slice (some ⟨yb, yo, none⟩) m c0]).run P w = .ok (.slice (some ⟨g, 0, none⟩) (n + m) c) w' ∧ w'.ownsRow 0 e s (.slice (some ⟨g, 0, none⟩) (n + m) c) (n + m) (xs ++ ys) ∧ w.grownBy w' v.ownBlock ∧ (some g = v.ownBlock ∨ g = w.heap.size) ∧ g < w'.heap.size := by
  obtain ⟨i0, hi, hz0, hz1, hz2⟩ := info_parts hi
  obtain ⟨v', w', hrun, h1', h2, h3, h4⟩ := run_append_own_at (P := P) w 0 t ty e i0 z s bs ht hi hz0 hz1 hz2 hzs hs v n xs hown ⟨yb, yo, none⟩ m c0 ys hl
    (fun j u hj => by rw [show ((⟨yb, yo, none⟩ : Addr).add j) = ⟨yb, yo + j, none⟩ from by unfold Addr.add; by_cases h : j = 0 <;> simp [h]]; exact hy j u hj) h1 hn hb (Nat.zero_le _)
  obtain ⟨g, c, hv⟩ : ∃ g c, v' = .slice (some ⟨g, 0, none⟩) (n + m) c := by
    rcases h1'.2 with ⟨e, e2⟩ | ⟨g, cap', cur, e, _⟩
    · omega
    · exact ⟨g, cap', e⟩
  subst hv
  refine ⟨g, c, w', hrun, h1', h2, ?_, (h1'.lt g rfl).2⟩
  rcases h4 with h4 | h4
  · exact .inl h4
  · simp only [Value.ownBlock, Option.some.injEq] at h4
    exact .inr h4

/-- append, its run known. -/
theorem wp_append_run {P : Program} {o : Oper} {a : Act} {w : World} {K : Act → World → Prop} {Q : Exit → Act → World → Prop} (s x : Operand) (t t2 : TypeId) (ho : o.op = .call { callee := .builtin .append, args := #[s, x], argTypes := #[t, t2] }) (vs vx : Value) (hs : a.eval s = vs) (hx : a.eval x = vx) (v' : Value) (w' : World)
    (hrun : (Builtin.append_ #[t, t2] o.type #[vs, vx]).run P w = .ok v' w') (hK : K (a.put o.dst v') w') : o.wp P a w K Q := by
  unfold Oper.wp execOp
  simp only [ho, resolve, invoke, builtin, Sem.run_bind, Sem.run_pure, Result.andThen_ok, List.map_toArray, List.map_cons, List.map_nil, hs, hx, hrun]
  exact hK

theorem wpList_app_run {P : Program} {ops : Array Oper} {rest : List Oper} {o : Oper} {a : Act} {w : World} {Q : Exit → Act → World → Prop} (hg : o.guard = none) (s x : Operand) (t t2 : TypeId) (ho : o.op = .call { callee := .builtin .append, args := #[s, x], argTypes := #[t, t2] }) (vs vx : Value) (hs : a.eval s = vs) (hx : a.eval x = vx) (v' : Value) (w' : World)
    (hrun : (Builtin.append_ #[t, t2] o.type #[vs, vx]).run P w = .ok v' w') (hK : wpList P ops Q rest (a.put o.dst v') w') : wpList P ops Q (o :: rest) a w :=
  wpList_plain hg fun K' hK' => wp_append_run s x t t2 ho vs vx hs hx v' w' hrun (hK' _ _ hK)

theorem own_shape {w : World} {base : Nat} {e : TypeId} {s : Nat} {v : Value} {n : Nat} {xs : List Value} (h : w.ownsRow base e s v n xs) : ∃ bo bc, v = .slice bo n bc ∧ n ≤ bc := by
  rcases h.2 with ⟨rfl, rfl⟩ | ⟨g, cap, cur, rfl, _, _, hn, _⟩
  · exact ⟨none, 0, rfl, Nat.le_refl _⟩
  · exact ⟨_, _, rfl, hn⟩

/-- The cells of entries, one behind the other. -/
def rows (L : List Ent) : List Value := L.flatMap Ent.cells

theorem rows_snoc (L : List Ent) (e : Ent) : rows (L ++ [e]) = rows L ++ e.cells := by simp [rows]

theorem rows_len {L : List Ent} (h : ∀ e ∈ L, EntOk e) : (rows L).length = L.length * 34 := by
  induction L with
  | nil => rfl
  | cons e r ih =>
    have h1 := (h e (by simp)).len
    have := ih (fun x hx => h x (by simp [hx]))
    simp only [rows, List.flatMap_cons, List.length_append, List.length_cons] at this ⊢
    omega

theorem rows_at {L : List Ent} (h : ∀ e ∈ L, EntOk e) : ∀ (i j : Nat) (v : Value), i < L.length → (L.getD i ent0).cells[j]? = some v → (rows L)[i * 34 + j]? = some v := by
  induction L with
  | nil => intro i j v hi; simp at hi
  | cons e r ih =>
    intro i j v hi hv
    have h1 := (h e (by simp)).len
    cases i with
    | zero =>
      have hj := (List.getElem?_eq_some_iff.1 hv).1
      simp only [List.getD, List.getElem?_cons_zero, Option.getD_some] at hv hj
      simp only [rows, List.flatMap_cons, Nat.zero_mul, Nat.zero_add]
      rw [List.getElem?_append_left hj]; exact hv
    | succ i =>
      have := ih (fun x hx => h x (by simp [hx])) i j v (by simpa using hi) (by simpa [List.getD] using hv)
      simp only [rows, List.flatMap_cons] at this ⊢
      rw [List.getElem?_append_right (by omega), h1]
      rw [show (i + 1) * 34 + j - 34 = i * 34 + j by omega]
      exact this

theorem rows_one (L : List Ent) : ∀ u ∈ rows L, u.oneCell' = true := by
  intro u hu
  simp only [rows, List.mem_flatMap] at hu
  obtain ⟨e, _, h⟩ := hu
  exact ent_one e u h

/-- Entries in memory of a call's own. -/
def OwnE (w : World) (base : Nat) (v : Value) (L : List Ent) : Prop := w.ownsRow base 45 34 v L.length (rows L) ∧ ∀ e ∈ L, EntOk e

theorem getD_mem {L : List Ent} {i : Nat} (h : i < L.length) : L.getD i ent0 ∈ L := by
  simp [List.getD, List.getElem?_eq_getElem h]

theorem OwnE.ents {w : World} {base : Nat} {v : Value} {L : List Ent} (h : OwnE w base v L) : ∃ ao cap, v = .slice ao L.length cap ∧ L.length ≤ cap ∧ Ents w ao L ∧ (∀ a, ao = some a → ∃ g, a = ⟨g, 0, none⟩ ∧ base ≤ g ∧ g < w.heap.size ∧ v.ownBlock = some g) ∧ cap ≤ 9223372036854775807 := by
  rcases h.1.2 with ⟨rfl, h0⟩ | ⟨g, cap, cur, rfl, hb, hg, hn, hc, hs, ht⟩
  · have h0' : L.length = 0 := h0
    have : L = [] := List.eq_nil_of_length_eq_zero h0'
    subst this
    exact ⟨none, 0, rfl, Nat.le_refl _, Ents.nil _ _, by simp, by omega⟩
  · refine ⟨_, cap, rfl, hn, fun i hi => ⟨g, 0, rfl, fun j u hu => ?_, h.2 _ (getD_mem hi)⟩, fun a ha => ?_, by unfold maxLen at hc; omega⟩
    · have h1 := rows_at h.2 i j u hi hu
      rw [← ht, List.getElem?_take] at h1
      rw [Nat.zero_add, cell_of_row _ _ _ _ _ _ hg]
      split at h1
      · simpa using h1
      · cases h1
    · cases ha
      exact ⟨g, rfl, hb, (Array.getElem?_eq_some_iff.1 hg).1, rfl⟩

theorem OwnE.kept {l : List Nat} {w w' : World} {base : Nat} {v : Value} {L : List Ent} (h : OwnE w base v L) (hk : Kept l w w') (hn : ∀ g, v.ownBlock = some g → g ∉ l) : OwnE w' base v L := by
  refine ⟨⟨h.1.1, ?_⟩, h.2⟩
  rcases h.1.2 with h0 | ⟨g, cap, cur, hv, hb, hg, rest⟩
  · exact .inl h0
  · refine .inr ⟨g, cap, cur, hv, hb, ?_, rest⟩
    rw [hk.block g (Array.getElem?_eq_some_iff.1 hg).1 (hn g (by rw [hv]; rfl))]
    exact hg

theorem Tryz.infoEnt3 : (Tryz.prog.info? 45).map (fun i => (i.zero, i.size, i.bytes)) = some (some (.agg zeroE), 34, 56) := by kernel_rfl

/-- append(entries, entry): the entry lies in a new block. -/
theorem run_appE (w : World) (base : Nat) (v : Value) (L : List Ent) (e : Ent) (h : OwnE w base v L) (he : EntOk e) (hl : (L.length + 1) * 56 ≤ 140737488355328) (hb : base ≤ w.heap.size) :
    ∃ v' w', (Builtin.append_ #[43, 43] 43 #[v, .slice (some ⟨w.heap.size, 0, none⟩) 1 1]).run Tryz.prog (w.alloc (.cells e.cells.toArray 45)) = .ok v' w' ∧ OwnE w' base v' (L ++ [e]) ∧ (∀ l, (∀ g, v.ownBlock = some g → g ∈ l) → Kept l w w') ∧ (∀ g, v'.ownBlock = some g → v.ownBlock = some g ∨ w.heap.size ≤ g) := by
  obtain ⟨i0, hi, hz0, hz1, hz2⟩ := info_parts Tryz.infoEnt3
  have hnew := heap_new w (.cells e.cells.toArray 45)
  have hown : (w.alloc (.cells e.cells.toArray 45)).ownsRow base 45 34 v L.length (rows L) := (h.kept ((Kept.refl [] w).alloc _) (by simp)).1
  obtain ⟨v', w', hrun, h1', h2, h3, h4⟩ := run_append_own_at (P := Tryz.prog) (w.alloc (.cells e.cells.toArray 45)) base 43 43 45 i0 (.agg zeroE) 34 56 Tryz.underlying43 hi hz0 hz1 hz2 rfl (by omega) v L.length (rows L) hown ⟨w.heap.size, 0, none⟩ 1 1 e.cells (by rw [he.len])
    (fun j u hj => by rw [Addr.add_mid, Nat.zero_add, cell_of_row _ _ _ _ _ _ hnew]; simpa using hj) (ent_one e) (by unfold maxLen; omega) (by omega) (by simp; omega)
  refine ⟨v', w', hrun, ⟨by rw [rows_snoc, List.length_append]; exact h1', fun x hx => ?_⟩, fun l hl2 => ((Kept.refl l w).alloc _).grown h2 (fun k hk _ => hl2 k hk), fun g hg => ?_⟩
  · simp only [List.mem_append, List.mem_singleton] at hx
    rcases hx with hx | rfl
    · exact h.2 x hx
    · exact he
  · rcases h4 with h4 | h4
    · exact .inl (by rw [← h4]; exact hg)
    · rw [h4] at hg
      simp only [Option.some.injEq] at hg
      right
      have : (w.alloc (.cells e.cells.toArray 45)).heap.size = w.heap.size + 1 := by simp
      omega

theorem fill32 (nm : ByteArray) (k : Int) (f : Nat → UInt8) : Instr.fill (fun i => some (i * 34, 34)) ((Array.range (1 * 34)).map ((Value.agg zeroE).cells[· % (Value.agg zeroE).cells.size]!)) [(0, .agg (Value.string nm :: Value.int .i64 k :: bys ((List.range 32).map f)).toArray)] = some (Value.string nm :: Value.int .i64 k :: bys ((List.range 32).map f)).toArray := by kernel_rfl

theorem range32 {L : List UInt8} (h : L.length = 32) : (List.range 32).map (fun i => L.getD i 0) = L := by
  apply List.ext_getElem
  · simp [h]
  · intro i h1 h2
    simp [List.getElem?_eq_getElem h2]

theorem fillE {e : Ent} (he : EntOk e) : Instr.fill (fun i => some (i * 34, 34)) ((Array.range (1 * 34)).map ((Value.agg zeroE).cells[· % (Value.agg zeroE).cells.size]!)) [(0, .agg e.cells.toArray)] = some e.cells.toArray := by
  have := fill32 ⟨e.name.toArray⟩ e.kind (fun i => e.id.getD i 0)
  rw [range32 he.idl] at this
  exact this

theorem wpList_build1 {ops : Array Oper} {rest : List Oper} {o : Oper} {a : Act} {w : World} {Q : Exit → Act → World → Prop} (hg : o.guard = none) (x : Operand) (ho : o.op = .buildSlice 43 1 #[(0, x)]) (e : Ent) (hx : a.eval x = .agg e.cells.toArray) (he : EntOk e)
    (h : wpList Tryz.prog ops Q rest (a.put o.dst (.slice (some ⟨w.heap.size, 0, none⟩) 1 1)) (w.alloc (.cells e.cells.toArray 45))) : wpList Tryz.prog ops Q (o :: rest) a w := by
  obtain ⟨i0, hi, hz0, hz1, hz2⟩ := info_parts Tryz.infoEnt3
  refine wpList_buildSlice hg 43 45 1 #[(0, x)] ho e.cells.toArray i0 (.agg zeroE) Tryz.underlying43 hi hz0 (by rw [hz1]; decide) (by rw [hz1]; decide) ?_ h
  rw [hz1]
  have : (#[(0, x)].map fun (i, x) => (i, a.eval x)).toList = [(0, .agg e.cells.toArray)] := by simp [hx]
  rw [this]
  exact fillE he
end

section
open Go.RowKit
set_option linter.unusedVariables false
set_option linter.unusedSimpArgs false

/-- Ids at an address. -/
def Ids (w : World) (ao : Option Addr) (L : List (List UInt8)) : Prop :=
  (∀ k, k < L.length → ∃ b off, ao = some ⟨b, off, none⟩ ∧ w.rangeAt b (off + k * 32) (bys (L.getD k []))) ∧ ∀ i ∈ L, i.length = 32
def unitv : Value := .agg #[]
/-- A set of ids. -/
def Is (w : World) (b : Nat) (K : List (List UInt8)) : Prop := Im w b K (K.map fun _ => unitv)
def insI (K : List (List UInt8)) (i : List UInt8) : List (List UInt8) := if i ∈ K then K else K ++ [i]
def insA (K L : List (List UInt8)) : List (List UInt8) := L.foldl insI K
theorem insA_snoc (K L : List (List UInt8)) (k : Nat) (h : k < L.length) : insA K (L.take (k + 1)) = insI (insA K (L.take k)) (L.getD k []) := by
  have e : L.getD k [] = L[k] := by simp [List.getElem?_eq_getElem h]
  rw [List.take_succ_eq_append_getElem h, e]
  unfold insA
  rw [List.foldl_append]
  rfl
theorem mem_insI {K : List (List UInt8)} {i x : List UInt8} : x ∈ insI K i ↔ x ∈ K ∨ x = i := by
  unfold insI
  split
  · rename_i h
    exact ⟨.inl, fun h' => h'.elim id (fun e => e ▸ h)⟩
  · simp
theorem mem_insA {L K : List (List UInt8)} {x : List UInt8} : x ∈ insA K L ↔ x ∈ K ∨ x ∈ L := by
  induction L generalizing K with
  | nil => simp [insA]
  | cons a r ih =>
    show x ∈ insA (insI K a) r ↔ _
    rw [ih, mem_insI, List.mem_cons, or_assoc]
theorem insI_nodup {K : List (List UInt8)} {i : List UInt8} (h : K.Nodup) : (insI K i).Nodup := by
  unfold insI
  split
  · exact h
  · rename_i hn
    rw [List.nodup_append]
    exact ⟨h, by simp, fun a ha b hb e => by simp at hb; subst hb; exact hn (e ▸ ha)⟩

section
variable {w w' : World} {b : Nat} {K : List (List UInt8)}
theorem Is.lt (h : Is w b K) : b < w.heap.size := Im.lt h
theorem Is.kept {l : List Nat} (h : Is w b K) (hk : Kept l w w') (hn : b ∉ l) : Is w' b K := Im.kept h hk hn
theorem Is.put (h : Is w b K) {t e : TypeId} (ht : Tryz.prog.underlying t = some (.map 36 e)) (i : List UInt8) (hi : i.length = 32) :
    ∃ w', (Instr.mapUpdate t (.map (some b)) (idv i) unitv).run Tryz.prog w = .ok () w' ∧ Kept [b] w w' ∧ Is w' b (insI K i) := by
  obtain ⟨w', h1, h2, h3, h4⟩ := Im.put h ht i hi unitv
  refine ⟨w', h1, h2, ?_⟩
  unfold insI
  rcases h4 with ⟨g1, g2⟩ | ⟨j, g1, g2⟩
  · rw [if_neg g1]
    unfold Is
    rw [List.map_append]
    exact g2
  · rw [if_pos (List.mem_of_getElem? g1)]
    have : (K.map fun _ => unitv).set j unitv = K.map fun _ => unitv := by
      apply List.ext_getElem?
      intro q
      rw [List.getElem?_set]
      by_cases hq : j = q
      · subst hq
        have := (List.getElem?_eq_some_iff.1 g1).1
        simp [this]
      · simp [hq]
    rw [this] at g2
    exact g2
/-- A block that has cells is no map. -/
theorem Im.ne_cells {V : List Value} (h : Im w b K V) {g o : Nat} {v : Value} (hc : w.cell? ⟨g, o, none⟩ = some v) : g ≠ b := by
  rintro rfl
  obtain ⟨es, clock, hb, _⟩ := h
  simp [World.cell?, hb] at hc
theorem Ids.kept {l : List Nat} {ao : Option Addr} {L : List (List UInt8)} (h : Ids w ao L) (hk : Kept l w w') (hn : L ≠ [] → ∀ a, ao = some a → a.block ∉ l) : Ids w' ao L :=
  ⟨fun k hk1 => by
    obtain ⟨g, off, e, hr⟩ := h.1 k hk1
    exact ⟨g, off, e, fun j v hv => hk.cellOf (hr j v hv) (show g ∉ l from hn (by rintro rfl; simp at hk1) ⟨g, off, none⟩ e)⟩, h.2⟩
theorem Ids.far {V : List Value} {ao : Option Addr} {L : List (List UInt8)} (h : Ids w ao L) (hs : Im w b K V) : L ≠ [] → ∀ a, ao = some a → a.block ∉ [b] := fun hn a ha => by
  have hl := List.length_pos_iff.2 hn
  obtain ⟨g, off, e, hr⟩ := h.1 0 hl
  rw [ha] at e
  injection e with e
  subst e
  have h32 : (L.getD 0 []).length = 32 := h.2 _ (by rw [List.getD_eq_getElem?_getD, List.getElem?_eq_getElem hl]; exact List.getElem_mem _)
  have := hs.ne_cells (hr 0 _ (bys_at (by omega)))
  simpa using this
end

theorem wpList_mapUpdate {P : Program} {ops : Array Oper} {rest : List Oper} {o : Oper} {a : Act} {w : World} {Q : Exit → Act → World → Prop} (hg : o.guard = none) (t : TypeId) (m k x : Operand) (ho : o.op = .mapUpdate t m k x) (hd : o.dst = none) (vm vk vx : Value) (hm : a.eval m = vm) (hk : a.eval k = vk) (hx : a.eval x = vx) (w' : World)
    (hrun : (Instr.mapUpdate t vm vk vx).run P w = .ok () w') (hK : wpList P ops Q rest a w') : wpList P ops Q (o :: rest) a w := by
  refine wpList_plain hg fun K' hK' => ?_
  unfold Oper.wp execOp
  simp only [ho, Sem.run_bind, Sem.run_pure, Result.andThen_ok, hm, hk, hx, hrun]
  refine hK' _ _ ?_
  rw [hd]
  exact hK

def zeroI : Array Value := (bys (List.replicate 32 0)).toArray
theorem Tryz.zeroId (W : World) : (zeroValue 36).run Tryz.prog W = .ok (.agg zeroI) W := by kernel_rfl
theorem Tryz.infoId : (Tryz.prog.info? 36).map (·.size) = some 32 := by kernel_rfl
theorem idl (i : List UInt8) (h : i.length = 32) : (Tryz.prog.info? 36).map (·.size) = some (bys i).length := by rw [bys_length, h]; exact Tryz.infoId
theorem ida (i : List UInt8) (h : i.length = 32) : (Tryz.prog.info? 36).map (·.size) = some (bys i).toArray.size := by rw [List.size_toArray, bys_length, h]; exact Tryz.infoId
theorem idz (i : List UInt8) (h : i.length = 32) : zeroI.size = (bys i).toArray.size := by
  have : (bys i).toArray.size = 32 := by rw [List.size_toArray, bys_length, h]
  rw [this]; rfl
theorem idall (i : List UInt8) : (bys i).toArray.all (·.oneCell') = true := by
  rw [Array.all_eq_true]
  intro k hk
  exact bys_oneCell i _ (by simp)
theorem new_atK (w : World) (o : Obj) : (w.alloc o).heap[w.heap.size]? = some o := (MapKept.heap_alloc w o).1
theorem kept_rowK {l : List Nat} {a w : World} (h : Kept l a w) {g : Nat} (hp : g < a.heap.size → g ∈ l) (cs : Array Value) : Kept l a (w.setRow g cs) :=
  h.trans (l2 := [g]) ⟨rfl, rfl, rfl, by simp, fun k _ hn => setRow_other w g k _ (by simpa using hn)⟩ (by simpa using hp)
/-- An id in a variable of its own. -/
def withId (w : World) (i : List UInt8) : World := (w.alloc (.cells zeroI 36)).setRow w.heap.size (bys i).toArray
theorem withId_kept (w : World) (i : List UInt8) : Kept [] w (withId w i) := kept_rowK ((Kept.refl [] w).alloc _) (fun h => absurd h (Nat.lt_irrefl _)) _
theorem withId_row (w : World) (i : List UInt8) : (withId w i).heap[w.heap.size]? = some (.cells (bys i).toArray 36 (0, 0)) := setRow_heap _ _ _ _ _ _ (new_atK _ _)
theorem row_rangeK {w : World} {g : Nat} {cs : List Value} {t : TypeId} (h : w.heap[g]? = some (.cells cs.toArray t (0, 0))) : w.rangeAt g 0 cs := fun j v hv => by
  rw [Nat.zero_add, cell_of_row _ _ _ _ _ _ h]; simpa using hv

set_option maxHeartbeats 1600000 in
set_option maxRecDepth 100000 in
theorem sadd_ok (b : Nat) (ao : Option Addr) (n c : Nat) (K L : List (List UInt8)) (w : World) (hs : Is w b K) (hl : L.length = n) (hL : Ids w ao L) (hn : n ≤ 4611686018427387904) :
    Calls Tryz.prog 44 #[.map (some b), .slice ao n c] w fun e w' => e = .returned (.tuple #[]) ∧ Is w' b (insA K L) ∧ Kept [b] w w' := by
  have HS := hide hs
  have HN := hide hl
  have HL := hide hL
  have HF := hide (hL.far hs)
  have hz := Tryz.zeroId
  clear hs hl hL
  go_enter Tryz.func44, Tryz.ntmps44
  go_wp2
  go_loopw [8] (fun x wr => ∃ k : Nat, k ≤ n ∧ x = .int .i64 k ∧ Hid (Is wr b (insA K (L.take k)) ∧ Kept [b] w wr)) (fun x wr => n - (intOf x).toNat)
  case atStart => exact ⟨0, Nat.zero_le _, rfl, hide ⟨HS.out, Kept.refl _ _⟩⟩
  case round =>
    clear HS
    obtain ⟨k, hk, rfl, HI⟩ := hrel
    by_cases hlt : k < n
    · have hkl : k < L.length := by rw [HN.out]; exact hlt
      obtain ⟨g, off, rfl, hrg⟩ := (HL.out.kept HI.out.2 HF.out).1 k hkl
      have hi : (L.getD k []).length = 32 := HL.out.2 _ (by rw [List.getD_eq_getElem?_getD, List.getElem?_eq_getElem hkl]; exact List.getElem_mem _)
      have HT := hide (insA_snoc K L k hkl)
      generalize L.getD k [] = i at *
      have hil := idl i hi
      have hia := ida i hi
      have hiz := idz i hi
      have hal := idall i
      have hnz := new_atK wr (.cells zeroI 36)
      have HWK := hide (withId_kept wr i)
      have hrW := row_rangeK (withId_row wr i)
      obtain ⟨w5, hrun, hk5, hs5⟩ := (HI.out.1.kept HWK.out (by simp)).put (t := 77) Tryz.underlying77 i hi
      have H5 : Hid (Is w5 b (insA K (L.take (k + 1))) ∧ Kept [b] w w5) := hide ⟨by rw [HT.out]; exact hs5, (HI.out.2.trans HWK.out (by simp)).trans hk5 (fun j hj _ => hj)⟩
      clear hkl hk5 hs5 HT HWK HI
      go_upto_region 3 with (first
        | refine wpList_load_mid rfl 36 (.tmp 10) rfl g (off + k * 32) rfl (bys i) _ hrg Tryz.underlying36 rfl hil ?_
        | refine wpList_store_rowTo rfl 36 (.tmp 5) (.tmp 11) rfl rfl wr.heap.size (bys i).toArray rfl rfl 36 zeroI hnz hia hiz hal ?_)
      have hW : (wr.alloc (.cells zeroI 36)).setRow wr.heap.size (bys i).toArray = withId wr i := rfl
      rw [hW]
      clear hrg hia hiz hal hnz hW
      generalize withId wr i = W at *
      generalize wr.heap.size = G at *
      go_wp2_with (first
        | refine wpList_load_mid rfl 36 (.tmp 5) rfl G 0 rfl (bys i) _ hrW Tryz.underlying36 rfl hil ?_
        | refine wpList_mapUpdate rfl 77 (.tmp 12) (.tmp 13) (.tmp 14) rfl rfl (.map (some b)) (idv i) unitv rfl rfl rfl w5 hrun ?_)
      go_roundw
      case rel => exact ⟨k + 1, by omega, by go_num, H5⟩
      case measure => simp [intOf]; omega
    · go_wp2
      go_end0
      have : L.take k = L := List.take_of_length_le (by have := HN.out; omega)
      have h := HI.out
      rw [this] at h
      exact ⟨rfl, h⟩
end

section
open Go.RowKit
open Go.Lib (compareBytes)
set_option linter.unusedVariables false
set_option linter.unusedSimpArgs false

theorem gmem9 {L : List (List UInt8)} {k : Nat} (h : k < L.length) : L.getD k [] ∈ L := by
  rw [List.getD_eq_getElem?_getD, List.getElem?_eq_getElem h]; exact List.getElem_mem _
theorem Tryz.aggByte (W : World) : (isAgg 5).run Tryz.prog W = .ok false W := by kernel_rfl
theorem Tryz.aggID (W : World) : (isAgg 36).run Tryz.prog W = .ok true W := by kernel_rfl
theorem Tryz.sizeID (W : World) : (sizeOf 36).run Tryz.prog W = .ok 32 W := by kernel_rfl
theorem Tryz.cellsByte : Tryz.prog.cellsOf 5 = 1 := by kernel_rfl
theorem Tryz.partByte (L : List UInt8) (i : Nat) (hi : i < L.length) (W : World) : (part 5 (bys L).toArray i).run Tryz.prog W = .ok (.int .u8 (L.getD i 0).toNat) W := by
  simp only [part, Sem.run_bind, Tryz.aggByte, Result.andThen_ok, Bool.false_eq_true, if_false, List.getElem?_toArray, bys_at hi, Sem.run_pure]
theorem eqItems_bytes (d : Nat) (A B : List UInt8) (hA : A.length = 32) (hB : B.length = 32) (W : World) : ∀ (is : List Nat), (∀ i ∈ is, i < 32) →
    (Op.eqItems (d + 1) 5 1 (bys A).toArray (bys B).toArray is).run Tryz.prog W = .ok (is.all fun i => A.getD i 0 == B.getD i 0) W
  | [], _ => by simp [Op.eqItems]
  | i :: is, h => by
    have hi := h i (by simp)
    have ih := eqItems_bytes d A B hA hB W is (fun j hj => h j (by simp [hj]))
    have e : (((A.getD i 0).toNat : Int) == ((B.getD i 0).toNat : Int)) = (A.getD i 0 == B.getD i 0) := by
      rw [Bool.eq_iff_iff]
      simp only [beq_iff_eq]
      constructor
      · intro h
        exact UInt8.toNat_inj.1 (by omega)
      · intro h
        rw [h]
    simp only [Op.eqItems, Sem.run_bind, Nat.mul_one, Tryz.partByte A i (by omega), Tryz.partByte B i (by omega), Result.andThen_ok, run_equalIn_int _ d 5 .u8 .u8 _ _ Tryz.underlying5, e]
    cases hab : (A.getD i 0 == B.getD i 0)
    · simp only [Bool.not_false, if_true, Sem.run_pure, List.all_cons, hab, Bool.false_and]
    · simp only [Bool.not_true, Bool.false_eq_true, if_false, List.all_cons, hab, Bool.true_and]
      exact ih
theorem all_eq {A B : List UInt8} (hA : A.length = 32) (hB : B.length = 32) : ((List.range 32).all fun i => A.getD i 0 == B.getD i 0) = decide (A = B) := by
  rw [Bool.eq_iff_iff]
  simp only [List.all_eq_true, List.mem_range, beq_iff_eq, decide_eq_true_eq]
  constructor
  · intro h
    apply List.ext_getElem (by omega)
    intro i h1 h2
    have := h i (by omega)
    simpa [List.getElem?_eq_getElem h1, List.getElem?_eq_getElem h2] using this
  · intro h i _
    rw [h]
theorem Tryz.equalID (d : Nat) (A B : List UInt8) (hA : A.length = 32) (hB : B.length = 32) (W : World) :
    (Op.equalIn (d + 2) 36 (.agg (bys A).toArray) (.agg (bys B).toArray)).run Tryz.prog W = .ok (decide (A = B)) W := by
  obtain ⟨i0, hi, _⟩ := info_parts Tryz.infoByte
  rw [run_equalIn_array (P := Tryz.prog) W (d + 1) (bys A).toArray (bys B).toArray Tryz.underlying36 hi, Tryz.cellsByte, eqItems_bytes d A B hA hB W _ (fun i hi => List.mem_range.1 hi), all_eq hA hB]

theorem Tryz.eqlID (A B : List UInt8) (hA : A.length = 32) (hB : B.length = 32) (W : World) : (Op.equalIn 10000 36 (.agg (bys A).toArray) (.agg (bys B).toArray)).run Tryz.prog W = .ok (decide (A = B)) W :=
  Tryz.equalID 9998 A B hA hB W

/-- Which of two ids is ahead, byte by byte. -/
theorem cmpB_drop (a b : List UInt8) (i : Nat) (ha : i < a.length) (hb : i < b.length) :
    compareBytes (a.drop i) (b.drop i) = if (a.getD i 0).toNat < (b.getD i 0).toNat then -1 else if (b.getD i 0).toNat < (a.getD i 0).toNat then 1 else compareBytes (a.drop (i + 1)) (b.drop (i + 1)) := by
  rw [List.drop_eq_getElem_cons ha, List.drop_eq_getElem_cons hb, compareBytes]
  simp [List.getElem?_eq_getElem ha, List.getElem?_eq_getElem hb, UInt8.lt_iff_toNat_lt]

set_option maxHeartbeats 400000 in
set_option maxRecDepth 100000 in
theorem rcmp9_ok (a b : List UInt8) (ha : a.length = 32) (hb : b.length = 32) (w : World) :
    Calls Tryz.prog 11 #[.agg (bys a).toArray, .agg (bys b).toArray] w fun e w' => e = .returned (.int .i64 (compareBytes a b)) ∧ Kept [] w w' := by
  obtain ⟨A, hA⟩ : ∃ r, r = w.heap.size := ⟨_, rfl⟩
  obtain ⟨B, hB⟩ : ∃ r, r = w.heap.size + 1 := ⟨_, rfl⟩
  have h1 := heap_alloc2_old w (.cells (bys a).toArray 36) (.cells (bys b).toArray 36)
  have h2 := heap_alloc2_new w (.cells (bys a).toArray 36) (.cells (bys b).toArray 36)
  have HC : Hid (∀ i, i < 32 → ((w.alloc (.cells (bys a).toArray 36)).alloc (.cells (bys b).toArray 36)).cell? ⟨A, i, none⟩ = some (.int .u8 (a.getD i 0).toNat) ∧ ((w.alloc (.cells (bys a).toArray 36)).alloc (.cells (bys b).toArray 36)).cell? ⟨B, i, none⟩ = some (.int .u8 (b.getD i 0).toNat)) := fun i hi => by
    rw [hA, hB]
    exact ⟨by rw [cell_of_row _ _ _ _ _ _ h1, List.getElem?_toArray, bys_at (by omega)], by rw [cell_of_row _ _ _ _ _ _ h2, List.getElem?_toArray, bys_at (by omega)]⟩
  have HBL : Hid (Kept [] w ((w.alloc (.cells (bys a).toArray 36)).alloc (.cells (bys b).toArray 36))) := ((Kept.refl [] w).alloc _).alloc _
  go_enter Tryz.func11, Tryz.ntmps11
  go_wp2
  rw [← hB, ← hA]
  clear hA hB h1 h2
  generalize (w.alloc _).alloc _ = w1 at HC HBL ⊢
  go_loopw [5] (fun i wr => ∃ k : Nat, k ≤ 32 ∧ i = .int .i64 k ∧ Hid (compareBytes a b = compareBytes (a.drop k) (b.drop k)) ∧ Hid (∃ n, wr = w1.drewN n)) (fun i wr => 32 - (intOf i).toNat)
  case atStart => exact ⟨0, by omega, rfl, rfl, ⟨0, rfl⟩⟩
  case round =>
    obtain ⟨k, hk, rfl, HM, HE⟩ := hrel
    have HB : Hid (∀ n, Kept [] w (wr.drewN n)) := fun n => by
      obtain ⟨m, hm⟩ := HE.out
      rw [hm]
      exact (HBL.out.drewN _).drewN _
    by_cases hlt : k < 32
    · have ca : wr.cell? ⟨A, k, none⟩ = some (.int .u8 (a.getD k 0).toNat) := by obtain ⟨n, hn⟩ := HE.out; rw [hn]; exact (HC.out k hlt).1
      have cb : wr.cell? ⟨B, k, none⟩ = some (.int .u8 (b.getD k 0).toNat) := by obtain ⟨n, hn⟩ := HE.out; rw [hn]; exact (HC.out k hlt).2
      have HD : Hid (compareBytes a b = if (a.getD k 0).toNat < (b.getD k 0).toNat then -1 else if (b.getD k 0).toNat < (a.getD k 0).toNat then 1 else compareBytes (a.drop (k + 1)) (b.drop (k + 1))) := HM.out.trans (cmpB_drop a b k (by omega) (by omega))
      clear HM
      generalize (a.getD k 0).toNat = x at ca HD
      generalize (b.getD k 0).toNat = y at cb HD
      have lk : (k : Int) < 32 := by omega
      have hd32 : decide ((k : Int) < 32) = true := by simp; omega
      have HE1 : Hid (∀ n, ∃ m, wr.drewN n = w1.drewN m) := fun n => by obtain ⟨m, hm⟩ := HE.out; exact ⟨m + n, by rw [hm, World.drewN_drewN]⟩
      by_cases h1 : x < y
      · have HX : Hid (compareBytes a b = -1) := by rw [HD.out, if_pos h1]; exact rfl
        have g1 : decide ((x : Int) < (y : Int)) = true := by simp; omega
        go_wp2
        go_quiet (fail)
        go_wp2
        go_ret
        exact ⟨by rw [HX.out]; rfl, HB.out nq⟩
      · have g1 : decide ((x : Int) < (y : Int)) = false := by simp; omega
        by_cases h2 : y < x
        · have HX : Hid (compareBytes a b = 1) := by rw [HD.out, if_neg h1, if_pos h2]; exact rfl
          have g2 : decide ((y : Int) < (x : Int)) = true := by simp; omega
          go_wp2
          go_quiet (fail)
          go_wp2
          go_quiet (fail)
          go_wp2
          go_ret
          exact ⟨by rw [HX.out]; rfl, by rw [World.drewN_drewN]; exact HB.out _⟩
        · have HX : Hid (compareBytes a b = compareBytes (a.drop (k + 1)) (b.drop (k + 1))) := by rw [HD.out, if_neg h1, if_neg h2]; exact rfl
          have g2 : decide ((y : Int) < (x : Int)) = false := by simp; omega
          go_wp2
          go_quiet (fail)
          go_wp2
          go_quiet (fail)
          go_wp2
          go_roundw
          case rel => exact ⟨k + 1, by omega, by go_num, HX, HE1.out _⟩
          case measure => simp [intOf]; omega
    · obtain rfl : k = 32 := by omega
      have HX : Hid (compareBytes a b = 0) := by
        show compareBytes a b = 0
        rw [HM.out, List.drop_of_length_le (by omega), List.drop_of_length_le (by omega)]; rfl
      have HB0 := HB.out 0
      go_wp2
      go_ret
      exact ⟨by rw [HX.out]; rfl, HB0⟩
end

section
open Go.Shelf Go.RowKit Go.Lib Go.Sort
set_option linter.unusedVariables false

def laySortI_ren : Go.Shelf.Ren := ⟨fun | 6 => 35 | 15 => 49 | 14 => 48 | 28 => 64 | 29 => 65 | 20 => 56 | 21 => 57 | 22 => 58 | 23 => 59 | 24 => 60 | 25 => 61 | 26 => 62 | 27 => 63 | 46 => 70 | 47 => 71 | 48 => 72 | 49 => 73 | 50 => 74 | 57 => 82 | n => n, fun | 22 => 28 | 24 => 36 | 25 => 37 | 3 => 3 | 39 => 123 | 0 => 0 | 53 => 153 | 55 => 155 | 4 => 4 | 46 => 146 | 45 => 145 | 50 => 150 | 5 => 5 | 9 => 9 | 66 => 159 | 70 => 163 | 76 => 175 | 77 => 176 | n => n, fun | n => n⟩
theorem laySortI : Go.Proofs.SlLaysF0.n6 Tryz.prog laySortI_ren where
  mixed := by kernel_rfl
  f6 := ⟨ "slices.SortFunc[[]freight/api.ID,freight/api.ID]", by decide, Tryz.func35.trans (congrArg some (by kernel_rfl))⟩
  f14 := ⟨ "slices.pdqsortCmpFunc[freight/api.ID]", by decide, Tryz.func48.trans (congrArg some (by kernel_rfl))⟩
  f15 := Tryz.func49.trans (congrArg some (by kernel_rfl))
  f20 := ⟨ "slices.insertionSortCmpFunc[freight/api.ID]", by decide, Tryz.func56.trans (congrArg some (by kernel_rfl))⟩
  f21 := ⟨ "slices.heapSortCmpFunc[freight/api.ID]", by decide, Tryz.func57.trans (congrArg some (by kernel_rfl))⟩
  f22 := ⟨ "slices.breakPatternsCmpFunc[freight/api.ID]", by decide, Tryz.func58.trans (congrArg some (by kernel_rfl))⟩
  f23 := ⟨ "slices.choosePivotCmpFunc[freight/api.ID]", by decide, Tryz.func59.trans (congrArg some (by kernel_rfl))⟩
  f24 := ⟨ "slices.reverseRangeCmpFunc[freight/api.ID]", by decide, Tryz.func60.trans (congrArg some (by kernel_rfl))⟩
  f25 := ⟨ "slices.partialInsertionSortCmpFunc[freight/api.ID]", by decide, Tryz.func61.trans (congrArg some (by kernel_rfl))⟩
  f26 := ⟨ "slices.partitionEqualCmpFunc[freight/api.ID]", by decide, Tryz.func62.trans (congrArg some (by kernel_rfl))⟩
  f27 := ⟨ "slices.partitionCmpFunc[freight/api.ID]", by decide, Tryz.func63.trans (congrArg some (by kernel_rfl))⟩
  f28 := Tryz.func64.trans (congrArg some (by kernel_rfl))
  f29 := Tryz.func65.trans (congrArg some (by kernel_rfl))
  f46 := ⟨ "slices.siftDownCmpFunc[freight/api.ID]", by decide, Tryz.func70.trans (congrArg some (by kernel_rfl))⟩
  f47 := Tryz.func71.trans (congrArg some (by kernel_rfl))
  f48 := Tryz.func72.trans (congrArg some (by kernel_rfl))
  f49 := ⟨ "slices.medianAdjacentCmpFunc[freight/api.ID]", by decide, Tryz.func73.trans (congrArg some (by kernel_rfl))⟩
  f50 := ⟨ "slices.medianCmpFunc[freight/api.ID]", by decide, Tryz.func74.trans (congrArg some (by kernel_rfl))⟩
  f57 := ⟨ "slices.order2CmpFunc[freight/api.ID]", by decide, Tryz.func82.trans (congrArg some (by kernel_rfl))⟩
  t0 := Tryz.underlying0
  a0 := Tryz.isAgg0
  z0 := Tryz.sizeOf0
  v0 := Tryz.zeroValue0
  t3 := Tryz.underlying3
  a3 := Tryz.isAgg3
  z3 := Tryz.sizeOf3
  v3 := Tryz.zeroValue3
  t4 := Tryz.underlying4
  a4 := Tryz.isAgg4
  z4 := Tryz.sizeOf4
  v4 := Tryz.zeroValue4
  t5 := Tryz.underlying5
  a5 := Tryz.isAgg5
  z5 := Tryz.sizeOf5
  v5 := Tryz.zeroValue5
  t9 := Tryz.underlying9
  a9 := Tryz.isAgg9
  z9 := Tryz.sizeOf9
  v9 := Tryz.zeroValue9
  t22 := Tryz.underlying28
  a22 := Tryz.isAgg28
  z22 := Tryz.sizeOf28
  v22 := Tryz.zeroValue28
  t25 := Tryz.underlying37
  a25 := Tryz.isAgg37
  z25 := Tryz.sizeOf37
  v25 := Tryz.zeroValue37
  t39 := Tryz.underlying123
  a39 := Tryz.isAgg123
  z39 := Tryz.sizeOf123
  v39 := Tryz.zeroValue123
  t45 := Tryz.underlying145
  a45 := Tryz.isAgg145
  z45 := Tryz.sizeOf145
  v45 := Tryz.zeroValue145
  t46 := Tryz.underlying146
  a46 := Tryz.isAgg146
  z46 := Tryz.sizeOf146
  v46 := Tryz.zeroValue146
  t50 := Tryz.underlying150
  a50 := Tryz.isAgg150
  z50 := Tryz.sizeOf150
  v50 := Tryz.zeroValue150
  t53 := Tryz.underlying153
  a53 := Tryz.isAgg153
  z53 := Tryz.sizeOf153
  v53 := Tryz.zeroValue153
  t55 := Tryz.underlying155
  a55 := Tryz.isAgg155
  z55 := Tryz.sizeOf155
  v55 := Tryz.zeroValue155
  t66 := Tryz.underlying159
  a66 := Tryz.isAgg159
  z66 := Tryz.sizeOf159
  v66 := Tryz.zeroValue159
  t70 := Tryz.underlying163
  a70 := Tryz.isAgg163
  z70 := Tryz.sizeOf163
  v70 := Tryz.zeroValue163
  t76 := Tryz.underlying175
  a76 := Tryz.isAgg175
  z76 := Tryz.sizeOf175
  v76 := Tryz.zeroValue175
  t77 := Tryz.underlying176
  a77 := Tryz.isAgg176
  z77 := Tryz.sizeOf176
  v77 := Tryz.zeroValue176
end

end Go.Proofs.YtngaimahhgmciabGreatDoor
