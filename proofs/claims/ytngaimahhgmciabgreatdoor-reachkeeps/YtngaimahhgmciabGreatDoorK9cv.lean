import Derived.Test.YtngaimahhgmciabGreatDoorNmv
import Derived.Lib.BytesEntry
import Derived.Laws.Externs
import Derived.Laws.StructEq
import Derived.ProofKit
import Derived.Deep.QuietTactic
import Derived.BigQuiet
import Derived.Shelf.SlSortCmp.InsertionK
import Derived.Shelf.SlSortFuncK.RowK2
import Derived.OwnWalk
namespace Go.Proofs.YtngaimahhgmciabGreatDoor
section
open Go.Shelf Go.RowKit Go.Lib Go.Sort
set_option linter.unusedVariables false
set_option linter.unusedSimpArgs false

structure I32 where
  xs : List UInt8
  h : xs.length = 32
def i320 : I32 := ⟨List.replicate 32 0, rfl⟩
instance : Inhabited I32 := ⟨i320⟩
def I32.cells (e : I32) : List Value := bys e.xs
theorem I32.len (e : I32) : e.cells.length = 32 := by simp [I32.cells, bys_length, e.h]
theorem i32_one (e : I32) : ∀ u ∈ e.cells, u.oneCell' = true := bys_oneCell e.xs
theorem I32.act {e : I32} {j : Nat} (hj : j < 32) : e.cells[j]? = some (.int .u8 (e.xs.getD j 0).toNat) := bys_at (by rw [e.h]; exact hj)
def Idz (w : World) (ao : Option Addr) (L : List I32) : Prop := ∀ i, i < L.length → ∃ b off, ao = some ⟨b, off, none⟩ ∧ w.rangeAt b (off + i * 32) (L.getD i i320).cells

/-- The model's entry for a comparison, of two rows of bytes. -/
theorem run_cmpRows {P : Program} (w : World) (b1 o1 c1 b2 o2 c2 : Nat) (X Y : List UInt8) (hx : ∀ j x, X[j]? = some x → w.cell? ⟨b1, o1 + j, none⟩ = some (.int .u8 x.toNat)) (hy : ∀ j x, Y[j]? = some x → w.cell? ⟨b2, o2 + j, none⟩ = some (.int .u8 x.toNat)) :
    (Extern.BytealgCompare.compare #[.slice (some ⟨b1, o1, none⟩) X.length c1, .slice (some ⟨b2, o2, none⟩) Y.length c2]).run P w = .ok (.int .i64 (Lib.compareBytes X Y)) w := by
  have key : ∀ (b o : Nat) (L : List UInt8), (∀ j x, L[j]? = some x → w.cell? ⟨b, o + j, none⟩ = some (.int .u8 x.toNat)) → (Extern.Bytes.loadBytes ⟨b, o, none⟩ L.length .empty).run P w = .ok ⟨L.toArray⟩ w := by
    intro b o L h
    have := Lib.run_loadBytesX (P := P) w (L.map fun x => (x.toNat : Int)) ⟨b, o, none⟩ .empty (fun j x hj => by
      rw [List.getElem?_map] at hj
      cases hl : L[j]? with
      | none => rw [hl] at hj; cases hj
      | some y =>
        rw [hl] at hj
        cases hj
        rw [Addr.add_lit]
        exact h j y hl)
    rw [List.length_map] at this
    rw [this]
    congr 1
    apply ByteArray.ext
    have hb : ∀ M : List UInt8, Lib.bytesOf (M.map fun x => (x.toNat : Int)) = M := by
      intro M
      induction M with
      | nil => rfl
      | cons a r ih => simp only [Lib.bytesOf, List.map_cons] at ih ⊢; rw [ih]; congr 1; simp
    rw [hb]
    show (#[] : Array UInt8) ++ L.toArray = L.toArray
    simp
  have k1 := key b1 o1 X hx
  have k2 := key b2 o2 Y hy
  change Sem.run P (do pure (goInt (Extern.BytealgCompare.cmp (← Extern.Bytes.bytesOf (.slice (some ⟨b1, o1, none⟩) X.length c1)) (← Extern.Bytes.bytesOf (.slice (some ⟨b2, o2, none⟩) Y.length c2))))) w = _
  simp only [Extern.Bytes.bytesOf, Sem.run_bind, Sem.run_pure, k1, k2, Result.andThen]
  rw [Lib.cmp_eq]
  rfl

set_option maxHeartbeats 800000 in
set_option maxRecDepth 100000 in
theorem bcompare_ok (w : World) (b1 o1 c1 b2 o2 c2 : Nat) (X Y : List UInt8) (hx : ∀ j x, X[j]? = some x → w.cell? ⟨b1, o1 + j, none⟩ = some (.int .u8 x.toNat)) (hy : ∀ j x, Y[j]? = some x → w.cell? ⟨b2, o2 + j, none⟩ = some (.int .u8 x.toNat)) :
    Calls Tryz.prog 50 #[.slice (some ⟨b1, o1, none⟩) X.length c1, .slice (some ⟨b2, o2, none⟩) Y.length c2] w fun e w' => e = .returned (.int .i64 (Lib.compareBytes X Y)) ∧ w' = w := by
  have hr := run_cmpRows (P := Tryz.prog) w b1 o1 c1 b2 o2 c2 X Y hx hy
  clear hx hy
  generalize Lib.compareBytes X Y = R at hr ⊢
  generalize X.length = n1 at hr ⊢
  generalize Y.length = n2 at hr ⊢
  go_enter Tryz.func50, Tryz.ntmps50
  go_wp2
  rw [run_callFunc_extern Tryz.func66 (by kernel_rfl) (by kernel_rfl) (by kernel_rfl) (e := Extern.BytealgCompare.compare) (by kernel_rfl), hr]
  simp only [Result.andThen]
  rw [Oper.upon_value]
  go_wp2
  go_ret
  exact ⟨rfl, rfl⟩

theorem cmp_self : ∀ a : List UInt8, compareBytes a a = 0
  | [] => rfl
  | x :: a => by unfold compareBytes; simp [UInt8.lt_irrefl, cmp_self a]
theorem cmp_swap : ∀ a b : List UInt8, compareBytes b a = - compareBytes a b
  | [], [] => rfl
  | [], _ :: _ => rfl
  | _ :: _, [] => rfl
  | x :: a, y :: b => by
    unfold compareBytes
    by_cases h1 : x < y
    · have h2 : ¬ y < x := fun h => UInt8.lt_irrefl x (UInt8.lt_trans h1 h)
      simp [h1, h2]
    · by_cases h2 : y < x
      · simp [h1, h2]
      · simp only [h1, h2, if_false]; exact cmp_swap a b
theorem cmp_zero : ∀ {a b : List UInt8}, compareBytes a b = 0 → a = b
  | [], [], _ => rfl
  | [], _ :: _, h => by simp [compareBytes] at h
  | _ :: _, [], h => by simp [compareBytes] at h
  | x :: a, y :: b, h => by
    unfold compareBytes at h
    by_cases h1 : x < y
    · simp [h1] at h
    · by_cases h2 : y < x
      · simp [h1, h2] at h
      · simp only [h1, h2, if_false] at h
        have e : x = y := UInt8.le_antisymm (UInt8.not_lt.1 h2) (UInt8.not_lt.1 h1)
        rw [e, cmp_zero h]
theorem cmp_trans : ∀ {a b c : List UInt8}, compareBytes a b < 0 → compareBytes b c < 0 → compareBytes a c < 0
  | [], [], _, h, _ => by simp [compareBytes] at h
  | [], _ :: _, [], _, h => by simp [compareBytes] at h
  | [], _ :: _, _ :: _, _, _ => by simp [compareBytes]
  | _ :: _, [], _, h, _ => by simp [compareBytes] at h
  | _ :: _, _ :: _, [], _, h => by simp [compareBytes] at h
  | x :: a, y :: b, z :: c, h1, h2 => by
    unfold compareBytes at h1 h2 ⊢
    by_cases hxy : x < y
    · by_cases hyz : y < z
      · simp [UInt8.lt_trans hxy hyz]
      · by_cases hzy : z < y
        · simp [hyz, hzy] at h2
        · have e : y = z := UInt8.le_antisymm (UInt8.not_lt.1 hzy) (UInt8.not_lt.1 hyz)
          subst e
          simp [hxy]
    · by_cases hyx : y < x
      · simp [hxy, hyx] at h1
      · have e : x = y := UInt8.le_antisymm (UInt8.not_lt.1 hyx) (UInt8.not_lt.1 hxy)
        subst e
        by_cases hyz : x < z
        · simp [hyz]
        · by_cases hzy : z < x
          · simp [hyz, hzy] at h2
          · simp only [hxy, hyx, hyz, hzy, if_false] at h1 h2 ⊢
            exact cmp_trans h1 h2


def cfI (a b : I32) : Int := Lib.compareBytes a.xs b.xs
theorem cfI_swap (a b : I32) : cfI b a = - cfI a b := cmp_swap _ _
theorem cmp_le_trans {a b c : List UInt8} (h1 : compareBytes a b ≤ 0) (h2 : compareBytes b c ≤ 0) : compareBytes a c ≤ 0 := by
  by_cases e1 : compareBytes a b = 0
  · rw [cmp_zero e1]; exact h2
  · by_cases e2 : compareBytes b c = 0
    · rw [← cmp_zero e2]; exact h1
    · have := cmp_trans (a := a) (b := b) (c := c) (by omega) (by omega)
      omega
theorem swoI : SWO (ltOf cfI) where
  irrefl x := by simp [ltOf, cfI, cmp_self]
  trans x y z h1 h2 := by simp only [ltOf, decide_eq_true_eq] at *; exact cmp_trans h1 h2
  ntrans x y z h1 h2 := by
    simp only [ltOf, decide_eq_false_iff_not, Int.not_lt] at *
    have a1 := cfI_swap x y
    have a2 := cfI_swap y z
    have a3 := cfI_swap x z
    have b1 : compareBytes z.xs y.xs ≤ 0 := by
      have : cfI z y ≤ 0 := by omega
      exact this
    have b2 : compareBytes y.xs x.xs ≤ 0 := by
      have : cfI y x ≤ 0 := by omega
      exact this
    have b3 : cfI z x ≤ 0 := cmp_le_trans b1 b2
    omega
theorem Tryz.eCompareI : ∀ args w, (callFunc 36 args).run Tryz.prog w = .ok (.enter 36 args) w := enters_of Tryz.func36 (by kernel_rfl) rfl

theorem heap_old {w : World} {o : Obj} {k : Nat} (h : k < w.heap.size) : (w.alloc o).heap[k]? = w.heap[k]? := by
  show (w.heap.push o)[k]? = _
  rw [Array.getElem?_push]
  rw [if_neg (by omega)]
theorem grow_of_alloc2 (w : World) (a b : Obj) (n : Nat) : ∃ q os, ((w.alloc a).alloc b).drewN n = grow (w.drewN q) os := ⟨n, #[a, b], by rw [alloc_eq_grow, alloc_eq_grow, grow_grow]; rfl⟩

set_option maxHeartbeats 1600000 in
set_option maxRecDepth 100000 in
theorem icompare_ok (x y : I32) (w : World) : Calls Tryz.prog 36 #[.agg x.cells.toArray, .agg y.cells.toArray] w fun e w' => e = .returned (.int .i64 (cfI x y)) ∧ ∃ q os, w' = grow (w.drewN q) os := by
  obtain ⟨W1, hW1⟩ : ∃ W1, (w.alloc (.cells x.cells.toArray 36)).alloc (.cells y.cells.toArray 36) = W1 := ⟨_, rfl⟩
  have hx : ∀ j u, x.xs[j]? = some u → ∀ n, (W1.drewN n).cell? ⟨w.heap.size, 0 + j, none⟩ = some (.int .u8 u.toNat) := by
    intro j u hj n
    have hjl := (List.getElem?_eq_some_iff.1 hj).1
    have h0 := heap_new w (.cells x.cells.toArray 36)
    have h1 : W1.heap[w.heap.size]? = some (.cells x.cells.toArray 36) := by
      rw [← hW1, heap_old (by simp)]
      exact h0
    rw [World.cell?_drewN, Nat.zero_add, cell_of_row _ _ _ _ _ _ h1]
    have := I32.act (e := x) (j := j) (by rw [← x.h]; exact hjl)
    simp only [List.getElem?_toArray]
    rw [this, List.getD_eq_getElem?_getD, hj]
    rfl
  have hy : ∀ j u, y.xs[j]? = some u → ∀ n, (W1.drewN n).cell? ⟨w.heap.size + 1, 0 + j, none⟩ = some (.int .u8 u.toNat) := by
    intro j u hj n
    have hjl := (List.getElem?_eq_some_iff.1 hj).1
    have h0 := heap_new (w.alloc (.cells x.cells.toArray 36)) (.cells y.cells.toArray 36)
    rw [hW1] at h0
    rw [show (w.alloc (.cells x.cells.toArray 36)).heap.size = w.heap.size + 1 by simp] at h0
    rw [World.cell?_drewN, Nat.zero_add, cell_of_row _ _ _ _ _ _ h0]
    have := I32.act (e := y) (j := j) (by rw [← y.h]; exact hjl)
    simp only [List.getElem?_toArray]
    rw [this, List.getD_eq_getElem?_getD, hj]
    rfl
  have hcall : ∀ n, Calls Tryz.prog 50 #[.slice (some ⟨w.heap.size, 0, none⟩) 32 32, .slice (some ⟨w.heap.size + 1, 0, none⟩) 32 32] (W1.drewN n) fun e w' => e = .returned (.int .i64 (cfI x y)) ∧ w' = W1.drewN n := by
    intro n
    have := bcompare_ok (W1.drewN n) w.heap.size 0 32 (w.heap.size + 1) 0 32 x.xs y.xs (fun j u h => hx j u h n) (fun j u h => hy j u h n)
    rw [x.h, y.h] at this
    exact this
  have hd : ∀ n, ∃ q os, W1.drewN n = grow (w.drewN q) os := by rw [← hW1]; exact grow_of_alloc2 w _ _
  generalize cfI x y = R at hcall ⊢
  clear hx hy
  go_enter Tryz.func36, Tryz.ntmps36
  go_wp2
  clear hW1
  go_quiet ((go_at_call 50; exact Calls.quiet_of_same (hcall _)))
  go_wp2
  go_ret
  exact ⟨rfl, hd _⟩

theorem kept_sorted (w : World) (g m : Nat) (d : Array I32) (os : Array Obj) : Kept [g] w (sortWorldK I32.cells 32 w g 0 m d os) := by
  refine ⟨rfl, rfl, rfl, ?_, fun k hk hn => ?_⟩
  · show w.heap.size ≤ ((putRowK I32.cells 32 (Sort.ahead w m) g 0 d).heap ++ os).size
    rw [Array.size_append, size_putRowK]
    show w.heap.size ≤ w.heap.size + os.size
    omega
  · show ((putRowK I32.cells 32 (Sort.ahead w m) g 0 d).heap ++ os)[k]? = _
    rw [Array.getElem?_append_left (by rw [size_putRowK]; exact hk)]
    show (w.heap.modify g _)[k]? = _
    rw [Array.getElem?_modify]
    have : ¬ g = k := fun e => hn (by simp [e])
    simp [this]
theorem sorted_shape (w : World) (g m : Nat) (d : Array I32) (os : Array Obj) {cur : Array Value} {t : TypeId} {fr : Nat × Nat} (hg : w.heap[g]? = some (.cells cur t fr)) : ∃ cur', (sortWorldK I32.cells 32 w g 0 m d os).heap[g]? = some (.cells cur' t fr) ∧ cur'.size = cur.size := by
  have hlt := (Array.getElem?_eq_some_iff.1 hg).1
  refine ⟨putCells id 0 (flatK I32.cells 32 d) cur, ?_, by simp [putCells]⟩
  show ((putRowK I32.cells 32 (Sort.ahead w m) g 0 d).heap ++ os)[g]? = _
  rw [Array.getElem?_append_left (by rw [size_putRowK]; exact hlt)]
  show (w.heap.modify g _)[g]? = _
  rw [Array.getElem?_modify, if_pos rfl, hg]
  rfl
theorem holds_row {w : World} {b : Nat} {L : List I32} (h : Idz w (some ⟨b, 0, none⟩) L) (ht : w.there b 0 (L.length * 32)) : HoldsK I32.cells 32 w b 0 L.toArray := by
  intro j hj
  rw [size_flatK, List.size_toArray] at hj
  refine ⟨?_, (ht j hj).2⟩
  rw [get_flatK _ _ _ _ (by simpa using hj)]
  have h1 : j / 32 < L.length := Nat.div_lt_of_lt_mul (by omega)
  have e1 : L.toArray[j / 32]! = L.getD (j / 32) i320 := by
    rw [getElem!_pos _ _ (by simpa using h1)]
    simp [List.getElem?_eq_getElem h1]
  rw [e1]
  obtain ⟨b', o', e, hc⟩ := h _ h1
  cases e
  have h2 : j % 32 < (L.getD (j / 32) i320).cells.length := by rw [I32.len]; omega
  have := hc (j % 32) _ (List.getElem?_eq_getElem h2)
  rw [show 0 + j / 32 * 32 + j % 32 = 0 + j by omega] at this
  show _ = some ((L.getD (j / 32) i320).cells[j % 32]!)
  rw [getElem!_pos (L.getD (j / 32) i320).cells (j % 32) h2]
  exact this
theorem row_holds {w : World} {b : Nat} {d : Array I32} (h : HoldsK I32.cells 32 w b 0 d) : Idz w (some ⟨b, 0, none⟩) d.toList ∧ w.there b 0 (d.size * 32) := by
  constructor
  · intro i hi
    refine ⟨b, 0, rfl, fun j v hv => ?_⟩
    have hj : j < 32 := by have := (List.getElem?_eq_some_iff.1 hv).1; rwa [I32.len] at this
    have := (HoldsK.cell h (i := i) (c := j) (by simpa using hi) hj).1
    rw [this]
    have e1 : d[i]! = d.toList.getD i i320 := by
      rw [getElem!_pos d i (by simpa using hi)]
      simp [Array.getElem?_eq_getElem (show i < d.size by simpa using hi)]
    rw [e1, getElem!_pos (d.toList.getD i i320).cells j (List.getElem?_eq_some_iff.1 hv).1]
    rw [List.getElem?_eq_getElem (List.getElem?_eq_some_iff.1 hv).1] at hv
    exact hv
  · intro j hj
    have := h j (by rw [size_flatK]; exact hj)
    exact ⟨by rw [this.1]; rfl, this.2⟩
theorem isort_ok (b cap n : Nat) (L : List I32) (w : World) (hn : L.length = n) (hL : Idz w (some ⟨b, 0, none⟩) L) (ht : w.there b 0 (n * 32)) (hb : b < w.heap.size) (hm : n < 4611686018427387904) :
    Calls Tryz.prog 35 #[.slice (some ⟨b, 0, none⟩) n cap, .func (.func 36) #[] #[]] w fun e w' => e = .returned (.tuple #[]) ∧ ∃ M : List I32, M.Perm L ∧ (∀ i j, i < j → j < M.length → cfI (M.getD i i320) (M.getD j i320) ≤ 0) ∧ Idz w' (some ⟨b, 0, none⟩) M ∧ w'.there b 0 (n * 32) ∧ Kept [b] w w' ∧ ∀ cur t fr, w.heap[b]? = some (.cells cur t fr) → ∃ cur', w'.heap[b]? = some (.cells cur' t fr) ∧ cur'.size = cur.size := by
  subst hn
  have hH := holds_row hL ht
  have h := AnyQ.slices_SortFunc laySortI 32 Tryz.isAgg36 Tryz.sizeOf36 I32.cells I32.len i32_one cfI swoI 36 #[] b 0 cap L.toArray w Tryz.eCompareI
    (fun m os dk _ x y => by
      show Calls Tryz.prog 36 #[.agg x.cells.toArray, .agg y.cells.toArray] _ _
      exact icompare_ok x y _) hH hb (by simpa using hm)
  rw [List.size_toArray] at h
  refine h.mono ?_
  rintro e w' ⟨he, d', m, os, hp, hs, hw⟩
  have hsz : d'.size = L.length := by have := hp.1; simpa using this
  have hH' : HoldsK I32.cells 32 w' b 0 d' := by
    rw [hw]
    exact holdsK_grow I32.cells 32 _ os b 0 d' (by rw [size_putRowK]; exact hb) (holdsK_putRowK I32.cells 32 _ b 0 L.toArray d' (holdsK_ahead I32.cells 32 w m b 0 L.toArray hH) (by simpa using hsz))
  obtain ⟨hR, hT⟩ := row_holds hH'
  refine ⟨he, d'.toList, ?_, fun i j hij hj => ?_, hR, by rw [← hsz]; exact hT, by rw [hw]; exact kept_sorted w b m d' os, fun cur t fr hc => by rw [hw]; exact sorted_shape w b m d' os hc⟩
  · have := hp.2.2
    rw [Array.extract_eq_self_of_le (by omega)] at this
    rw [show (L.toArray.extract 0 L.length).toList = L by simp] at this
    exact this
  · have hj' : j < d'.size := by simpa using hj
    have h1 := hs i j (Nat.zero_le _) hij (by omega)
    simp only [ltOf, decide_eq_false_iff_not, Int.not_lt] at h1
    have e1 : ∀ k, k < d'.size → d'[k]! = d'.toList.getD k i320 := fun k hk => by
      rw [getElem!_pos d' k hk]; simp [Array.getElem?_eq_getElem hk]
    rw [e1 i (by omega), e1 j hj'] at h1
    have := cfI_swap (d'.toList.getD i i320) (d'.toList.getD j i320)
    omega
end

section
open Go.RowKit Go.Lib Go.Sort
set_option linter.unusedVariables false
set_option linter.unusedSimpArgs false

/-- The cells of ids, one behind the other. -/
def idrows (C : List (List UInt8)) : List Value := C.flatMap bys

theorem idrows_snoc (C : List (List UInt8)) (i : List UInt8) : idrows (C ++ [i]) = idrows C ++ bys i := by simp [idrows]

theorem idrows_len {C : List (List UInt8)} (h : ∀ i ∈ C, i.length = 32) : (idrows C).length = C.length * 32 := by
  induction C with
  | nil => rfl
  | cons i r ih =>
    have h1 := h i (by simp)
    have := ih (fun x hx => h x (by simp [hx]))
    simp only [idrows, List.flatMap_cons, List.length_append, List.length_cons, bys_length] at this ⊢
    omega

/-- Ids in memory of a call's own. -/
def OwnI (w : World) (base : Nat) (v : Value) (C : List (List UInt8)) : Prop := w.ownsRow base 36 32 v C.length (idrows C) ∧ ∀ i ∈ C, i.length = 32

/-- Rising. -/
def Up (R : List (List UInt8)) : Prop := R.Pairwise fun a b => compareBytes a b < 0

theorem getD_memI {L : List (List UInt8)} {k : Nat} (h : k < L.length) : L.getD k [] ∈ L := by
  rw [List.getD_eq_getElem?_getD, List.getElem?_eq_getElem h]; exact List.getElem_mem _

theorem idrows_at {C : List (List UInt8)} (h : ∀ i ∈ C, i.length = 32) {k j : Nat} (hk : k < C.length) (hj : j < 32) : (idrows C)[k * 32 + j]? = (bys (C.getD k []))[j]? := by
  induction C generalizing k with
  | nil => simp at hk
  | cons a r ih =>
    have ha : (bys a).length = 32 := by rw [bys_length]; exact h a (by simp)
    have e : idrows (a :: r) = bys a ++ idrows r := rfl
    cases k with
    | zero =>
      rw [e, List.getElem?_append_left (by omega)]
      simp
    | succ q =>
      rw [e, List.getElem?_append_right (by omega), ha, show (q + 1) * 32 + j - 32 = q * 32 + j by omega, ih (fun x hx => h x (by simp [hx])) (by simpa using hk)]
      rfl

theorem OwnI.ids {w : World} {base : Nat} {ao : Option Addr} {n c : Nat} {C : List (List UInt8)} (h : OwnI w base (.slice ao n c) C) : Ids w ao C ∧ n = C.length ∧ n ≤ c := by
  obtain ⟨⟨hl, h0⟩, h32⟩ := h
  rcases h0 with ⟨e, e2⟩ | ⟨g, cap, cur, e, hb, hg, hn, hm, hs, ht⟩
  · injection e with e1 e3 e4
    subst e1 e3 e4
    refine ⟨⟨fun k hk => by omega, h32⟩, by omega, Nat.le_refl _⟩
  · injection e with e1 e3 e4
    subst e1 e3 e4
    refine ⟨⟨fun k hk => ⟨g, 0, rfl, fun j v hv => ?_⟩, h32⟩, rfl, hn⟩
    have hj : j < 32 := by have := (List.getElem?_eq_some_iff.1 hv).1; rw [bys_length, h32 _ (getD_memI hk)] at this; exact this
    rw [cell_of_row _ _ _ _ _ _ hg, Nat.zero_add, ← idrows_at h32 hk hj] at *
    rw [← ht, List.getElem?_take, if_pos (by omega)] at hv
    simpa using hv

theorem OwnI.kept {l : List Nat} {w w' : World} {base : Nat} {v : Value} {C : List (List UInt8)} (h : OwnI w base v C) (hk : Kept l w w') (hn : ∀ g, v.ownBlock = some g → g ∉ l) : OwnI w' base v C := by
  refine ⟨⟨h.1.1, ?_⟩, h.2⟩
  rcases h.1.2 with h0 | ⟨g, cap, cur, hv, hb, hg, rest⟩
  · exact .inl h0
  · refine .inr ⟨g, cap, cur, hv, hb, ?_, rest⟩
    rw [hk.block g (Array.getElem?_eq_some_iff.1 hg).1 (hn g (by rw [hv]; rfl))]
    exact hg

theorem Tryz.infoIdx : (Tryz.prog.info? 36).map (fun i => (i.zero, i.size, i.bytes)) = some (some (.agg zeroI), 32, 32) := by kernel_rfl

theorem fillI32 (f : Nat → UInt8) : Instr.fill (fun i => some (i * 32, 32)) ((Array.range (1 * 32)).map ((Value.agg zeroI).cells[· % (Value.agg zeroI).cells.size]!)) [(0, .agg (bys ((List.range 32).map f)).toArray)] = some (bys ((List.range 32).map f)).toArray := by kernel_rfl

theorem range32i {i : List UInt8} (h : i.length = 32) : (List.range 32).map (fun k => i.getD k 0) = i := by
  apply List.ext_getElem
  · simp [h]
  · intro k h1 h2
    simp [List.getElem?_eq_getElem h2]

theorem fillI {i : List UInt8} (h : i.length = 32) : Instr.fill (fun i => some (i * 32, 32)) ((Array.range (1 * 32)).map ((Value.agg zeroI).cells[· % (Value.agg zeroI).cells.size]!)) [(0, .agg (bys i).toArray)] = some (bys i).toArray := by
  have := fillI32 (fun k => i.getD k 0)
  rw [range32i h] at this
  exact this

theorem wp_buildI {o : Oper} {a : Act} {w : World} {K : Act → World → Prop} {Q : Exit → Act → World → Prop} (x : Operand) (ho : o.op = .buildSlice 28 1 #[(0, x)]) (i : List UInt8) (hx : a.eval x = .agg (bys i).toArray) (hi : i.length = 32)
    (h : K (a.put o.dst (.slice (some ⟨w.heap.size, 0, none⟩) 1 1)) (w.alloc (.cells (bys i).toArray 36))) : o.wp Tryz.prog a w K Q := by
  obtain ⟨i0, hi0, hz0, hz1, hz2⟩ := info_parts Tryz.infoIdx
  refine wp_buildSlice 28 36 1 #[(0, x)] ho (bys i).toArray i0 (.agg zeroI) Tryz.underlying28 hi0 hz0 (by rw [hz1]; decide) (by rw [hz1]; decide) ?_ h
  rw [hz1]
  have : (#[(0, x)].map fun (i, x) => (i, a.eval x)).toList = [(0, .agg (bys i).toArray)] := by simp [hx]
  rw [this]
  exact fillI hi

theorem wpList_buildI {ops : Array Oper} {rest : List Oper} {o : Oper} {a : Act} {w : World} {Q : Exit → Act → World → Prop} (hg : o.guard = none) (x : Operand) (ho : o.op = .buildSlice 28 1 #[(0, x)]) (i : List UInt8) (hx : a.eval x = .agg (bys i).toArray) (hi : i.length = 32)
    (h : wpList Tryz.prog ops Q rest (a.put o.dst (.slice (some ⟨w.heap.size, 0, none⟩) 1 1)) (w.alloc (.cells (bys i).toArray 36))) : wpList Tryz.prog ops Q (o :: rest) a w :=
  wpList_plain hg fun _ hK => wp_buildI x ho i hx hi (hK _ _ h)

section
variable {P : Program} {ops : Array Oper} {rest : List Oper} {o : Oper} {a : Act} {w : World} {Q : Exit → Act → World → Prop}

theorem wpList_rangeI (hg : o.guard = none) (t : TypeId) (m : Operand) (ho : o.op = .range t m) (vm : Value) (hm : a.eval m = vm) (v' : Value) (w' : World) (hrun : (Instr.range t vm).run P w = .ok v' w') (hK : wpList P ops Q rest (a.put o.dst v') w') : wpList P ops Q (o :: rest) a w := by
  refine wpList_plain hg fun K' hK' => ?_
  unfold Oper.wp
  simp [execOp, ho, hm, hrun, Result.andThen]
  exact hK' _ _ hK

theorem wpList_nextI (hg : o.guard = none) (m : Operand) (ho : o.op = .next m false) (vm : Value) (hm : a.eval m = vm) (v' : Value) (w' : World) (hrun : (Instr.next vm false o.type).run P w = .ok v' w') (hK : wpList P ops Q rest (a.put o.dst v') w') : wpList P ops Q (o :: rest) a w := by
  refine wpList_plain hg fun K' hK' => ?_
  unfold Oper.wp
  simp [execOp, ho, hm, hrun, Result.andThen]
  exact hK' _ _ hK

theorem wpList_entryI (hg : o.guard = none) (m : Operand) (ho : o.op = .entry m) (vm : Value) (hm : a.eval m = vm) (v' : Value) (w' : World) (hrun : (Instr.entry vm).run P w = .ok v' w') (hK : wpList P ops Q rest (a.put o.dst v') w') : wpList P ops Q (o :: rest) a w := by
  refine wpList_plain hg fun K' hK' => ?_
  unfold Oper.wp
  simp [execOp, ho, hm, hrun, Result.andThen]
  exact hK' _ _ hK

theorem wpList_lenI (hg : o.guard = none) (t : TypeId) (m : Operand) (ho : o.op = .call { callee := .builtin .len, args := #[m], argTypes := #[t] }) (vm : Value) (hm : a.eval m = vm) (v' : Value) (w' : World) (hrun : (Builtin.len_ #[t] o.type #[vm]).run P w = .ok v' w') (hK : wpList P ops Q rest (a.put o.dst v') w') : wpList P ops Q (o :: rest) a w := by
  refine wpList_plain hg fun K' hK' => ?_
  unfold Oper.wp
  simp [execOp, ho, resolve, invoke, builtin, hm, hrun, Result.andThen]
  exact hK' _ _ hK
end

theorem perm_erase {α : Type} {l : List α} {j : Nat} {p : α} (h : l[j]? = some p) : l.Perm (p :: l.eraseIdx j) := by
  induction l generalizing j with
  | nil => simp at h
  | cons a r ih => cases j with
    | zero => simp at h; subst h; simp
    | succ k =>
      simp only [List.getElem?_cons_succ] at h
      simp only [List.eraseIdx_cons_succ]
      exact ((ih h).cons a).trans (List.Perm.swap _ _ _)

theorem up_of_sorted {M : List I32} (hs : ∀ i j, i < j → j < M.length → cfI (M.getD i i320) (M.getD j i320) ≤ 0) (hn : (M.map (·.xs)).Nodup) : Up (M.map (·.xs)) := by
  unfold Up
  rw [List.pairwise_iff_getElem]
  intro i j hi hj hij
  have hi' : i < M.length := by simpa using hi
  have hj' : j < M.length := by simpa using hj
  have h1 := hs i j hij hj'
  rw [List.getD_eq_getElem?_getD, List.getD_eq_getElem?_getD, List.getElem?_eq_getElem hi', List.getElem?_eq_getElem hj'] at h1
  have hne : (M.map (·.xs))[i] ≠ (M.map (·.xs))[j] := (List.pairwise_iff_getElem.1 hn) i j hi hj hij
  simp only [List.getElem_map] at hne ⊢
  have h2 : compareBytes M[i].xs M[j].xs ≤ 0 := h1
  rcases Int.lt_or_eq_of_le h2 with h | h
  · exact h
  · exact absurd (cmp_zero h) hne
end

end Go.Proofs.YtngaimahhgmciabGreatDoor
