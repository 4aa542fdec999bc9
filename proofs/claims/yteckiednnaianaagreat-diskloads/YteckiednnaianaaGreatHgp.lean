import Derived.Shelf.SlIter.Nil
import Derived.Shelf.SortM.Plain
import Derived.Shelf.SortM.SortNone
import Derived.Test.YteckiednnaianaaGreatGpp
import Derived.Test.YteckiednnaianaaGreatHep
namespace Go.Proofs.YteckiednnaianaaGreat
section
open Go.RowKit Go.Maps Go.Sort Go.Shelf
set_option linter.unusedVariables false
def Tryz.keysL_ren : Go.Shelf.Ren := ⟨fun | 7 => 102 | 10 => 113 | n => n, fun | 23 => 56 | 26 => 9 | 3 => 63 | 28 => 171 | 0 => 0 | 27 => 170 | 33 => 69 | 4 => 4 | n => n, fun | n => n⟩
theorem Tryz.keysL : Go.Proofs.SlLaysZ.n7 Tryz.prog Tryz.keysL_ren where
 mixed := by kernel_rfl
 f7 := ⟨"maps.Keys[freight/disk.names,string,*freight/disk.thing]", by decide, Tryz.func102.trans (congrArg some (by kernel_rfl))⟩
 f10 := ⟨"maps.Keys[freight/disk.names,string,*freight/disk.thing]$1", by decide, Tryz.func113.trans (congrArg some (by kernel_rfl))⟩
 t0 := Tryz.underlying0
 a0 := Tryz.isAgg0
 z0 := Tryz.sizeOf0
 v0 := Tryz.zeroValue0
 t4 := Tryz.underlying4
 a4 := Tryz.isAgg4
 z4 := Tryz.sizeOf4
 v4 := Tryz.zeroValue4
 t23 := Tryz.underlying56
 a23 := Tryz.isAgg56
 z23 := Tryz.sizeOf56
 v23 := Tryz.zeroValue56
 t26 := Tryz.underlying9
 a26 := Tryz.isAgg9
 z26 := Tryz.sizeOf9
 v26 := Tryz.zeroValue9
 t27 := Tryz.underlying170
 a27 := Tryz.isAgg170
 z27 := Tryz.sizeOf170
 v27 := Tryz.zeroValue170
 t28 := Tryz.underlying171
 a28 := Tryz.isAgg171
 z28 := Tryz.sizeOf171
 v28 := Tryz.zeroValue171
 t33 := Tryz.underlying69
 a33 := Tryz.isAgg69
 z33 := Tryz.sizeOf69
 v33 := Tryz.zeroValue69
def Tryz.sortedL_ren : Go.Shelf.Ren := ⟨fun | 6 => 101 | 8 => 111 | 9 => 112 | 11 => 116 | 13 => 118 | 12 => 117 | 23 => 129 | 24 => 130 | 14 => 120 | 15 => 121 | 16 => 122 | 17 => 123 | 18 => 124 | 19 => 125 | 20 => 126 | 21 => 127 | 22 => 128 | 25 => 131 | 26 => 132 | 27 => 133 | 28 => 134 | 29 => 135 | 30 => 136 | 31 => 137 | n => n, fun | 26 => 9 | 28 => 171 | 24 => 99 | 0 => 0 | 3 => 3 | 37 => 189 | 48 => 200 | 50 => 202 | 4 => 4 | 40 => 193 | 39 => 192 | 45 => 197 | 5 => 5 | 9 => 9 | 51 => 203 | 55 => 207 | 57 => 209 | 58 => 140 | 33 => 69 | n => n, fun | n => n⟩
theorem Tryz.sortedL : Go.Proofs.SlLaysZ.n6 Tryz.prog Tryz.sortedL_ren where
 mixed := by kernel_rfl
 f6 := ⟨"slices.Sorted[string]", by decide, Tryz.func101.trans (congrArg some (by kernel_rfl))⟩
 f8 := ⟨"slices.Collect[string]", by decide, Tryz.func111.trans (congrArg some (by kernel_rfl))⟩
 f11 := ⟨"slices.AppendSeq[[]string,string]", by decide, Tryz.func116.trans (congrArg some (by kernel_rfl))⟩
 t0 := Tryz.underlying0
 a0 := Tryz.isAgg0
 z0 := Tryz.sizeOf0
 v0 := Tryz.zeroValue0
 t24 := Tryz.underlying99
 a24 := Tryz.isAgg99
 z24 := Tryz.sizeOf99
 v24 := Tryz.zeroValue99
 t26 := Tryz.underlying9
 a26 := Tryz.isAgg9
 z26 := Tryz.sizeOf9
 v26 := Tryz.zeroValue9
 t28 := Tryz.underlying171
 a28 := Tryz.isAgg171
 z28 := Tryz.sizeOf171
 v28 := Tryz.zeroValue171
 i26 := by kernel_rfl
def Tryz.sortL_ren : Go.Shelf.Ren := ⟨fun | 6 => 112 | 8 => 118 | 9 => 117 | 19 => 129 | 20 => 130 | 21 => 120 | 22 => 121 | 23 => 122 | 24 => 123 | 25 => 124 | 26 => 125 | 27 => 126 | 28 => 127 | 29 => 128 | 36 => 131 | 31 => 132 | 32 => 133 | 37 => 134 | 38 => 135 | 39 => 136 | 41 => 137 | n => n, fun | 27 => 99 | 29 => 9 | 3 => 3 | 32 => 189 | 26 => 99 | 0 => 0 | 44 => 200 | 46 => 202 | 4 => 4 | 36 => 193 | 35 => 192 | 41 => 197 | 5 => 5 | 9 => 9 | 53 => 203 | 57 => 207 | 63 => 209 | 64 => 140 | n => n, fun | n => n⟩
theorem Tryz.sortL : Go.Proofs.SlLaysM.n6 Tryz.prog Tryz.sortL_ren where
 mixed := by kernel_rfl
 f6 := ⟨"slices.Sort[[]string,string]", by decide, Tryz.func112.trans (congrArg some (by kernel_rfl))⟩
 f8 := Tryz.func118.trans (congrArg some (by kernel_rfl))
 f9 := ⟨"slices.pdqsortOrdered[string]", by decide, Tryz.func117.trans (congrArg some (by kernel_rfl))⟩
 f19 := Tryz.func129.trans (congrArg some (by kernel_rfl))
 f20 := Tryz.func130.trans (congrArg some (by kernel_rfl))
 f21 := ⟨"slices.insertionSortOrdered[string]", by decide, Tryz.func120.trans (congrArg some (by kernel_rfl))⟩
 f22 := ⟨"slices.heapSortOrdered[string]", by decide, Tryz.func121.trans (congrArg some (by kernel_rfl))⟩
 f23 := ⟨"slices.breakPatternsOrdered[string]", by decide, Tryz.func122.trans (congrArg some (by kernel_rfl))⟩
 f24 := ⟨"slices.choosePivotOrdered[string]", by decide, Tryz.func123.trans (congrArg some (by kernel_rfl))⟩
 f25 := ⟨"slices.reverseRangeOrdered[string]", by decide, Tryz.func124.trans (congrArg some (by kernel_rfl))⟩
 f26 := ⟨"slices.partialInsertionSortOrdered[string]", by decide, Tryz.func125.trans (congrArg some (by kernel_rfl))⟩
 f27 := ⟨"cmp.Less[string]", by decide, Tryz.func126.trans (congrArg some (by kernel_rfl))⟩
 f28 := ⟨"slices.partitionEqualOrdered[string]", by decide, Tryz.func127.trans (congrArg some (by kernel_rfl))⟩
 f29 := ⟨"slices.partitionOrdered[string]", by decide, Tryz.func128.trans (congrArg some (by kernel_rfl))⟩
 f31 := Tryz.func132.trans (congrArg some (by kernel_rfl))
 f32 := Tryz.func133.trans (congrArg some (by kernel_rfl))
 f36 := ⟨"slices.siftDownOrdered[string]", by decide, Tryz.func131.trans (congrArg some (by kernel_rfl))⟩
 f37 := ⟨"slices.medianAdjacentOrdered[string]", by decide, Tryz.func134.trans (congrArg some (by kernel_rfl))⟩
 f38 := ⟨"slices.medianOrdered[string]", by decide, Tryz.func135.trans (congrArg some (by kernel_rfl))⟩
 f39 := ⟨"cmp.isNaN[string]", by decide, Tryz.func136.trans (congrArg some (by kernel_rfl))⟩
 f41 := ⟨"slices.order2Ordered[string]", by decide, Tryz.func137.trans (congrArg some (by kernel_rfl))⟩
 t0 := Tryz.underlying0
 a0 := Tryz.isAgg0
 z0 := Tryz.sizeOf0
 v0 := Tryz.zeroValue0
 t3 := Tryz.underlying3
 a3 := Tryz.isAgg3
 z3 := Tryz.sizeOf3
 v3 := Tryz.zeroValue3
 t4 := Tryz.underlying4
 a4 := Tryz.isAgg4
 z4 := Tryz.sizeOf4
 v4 := Tryz.zeroValue4
 t5 := Tryz.underlying5
 a5 := Tryz.isAgg5
 z5 := Tryz.sizeOf5
 v5 := Tryz.zeroValue5
 t9 := Tryz.underlying9
 a9 := Tryz.isAgg9
 z9 := Tryz.sizeOf9
 v9 := Tryz.zeroValue9
 t26 := Tryz.underlying99
 a26 := Tryz.isAgg99
 z26 := Tryz.sizeOf99
 v26 := Tryz.zeroValue99
 t27 := Tryz.underlying99
 a27 := Tryz.isAgg99
 z27 := Tryz.sizeOf99
 v27 := Tryz.zeroValue99
 t29 := Tryz.underlying9
 a29 := Tryz.isAgg9
 z29 := Tryz.sizeOf9
 v29 := Tryz.zeroValue9
 t32 := Tryz.underlying189
 a32 := Tryz.isAgg189
 z32 := Tryz.sizeOf189
 v32 := Tryz.zeroValue189
 t35 := Tryz.underlying192
 a35 := Tryz.isAgg192
 z35 := Tryz.sizeOf192
 v35 := Tryz.zeroValue192
 t36 := Tryz.underlying193
 a36 := Tryz.isAgg193
 z36 := Tryz.sizeOf193
 v36 := Tryz.zeroValue193
 t41 := Tryz.underlying197
 a41 := Tryz.isAgg197
 z41 := Tryz.sizeOf197
 v41 := Tryz.zeroValue197
 t44 := Tryz.underlying200
 a44 := Tryz.isAgg200
 z44 := Tryz.sizeOf200
 v44 := Tryz.zeroValue200
 t46 := Tryz.underlying202
 a46 := Tryz.isAgg202
 z46 := Tryz.sizeOf202
 v46 := Tryz.zeroValue202
 t53 := Tryz.underlying203
 a53 := Tryz.isAgg203
 z53 := Tryz.sizeOf203
 v53 := Tryz.zeroValue203
 t57 := Tryz.underlying207
 a57 := Tryz.isAgg207
 z57 := Tryz.sizeOf207
 v57 := Tryz.zeroValue207
 t63 := Tryz.underlying209
 a63 := Tryz.isAgg209
 z63 := Tryz.sizeOf209
 v63 := Tryz.zeroValue209
 t64 := Tryz.underlying140
 a64 := Tryz.isAgg140
 z64 := Tryz.sizeOf140
 v64 := Tryz.zeroValue140
theorem Tryz.sortsL (m : Nat) : AnyZ.SortsIn Tryz.prog Tryz.sortedL_ren Fence.wide m :=
 ⟨fun blk off cap ss W hH hblk hsz => callsIn_wide.2 (AnyM.slices_Sort_string Tryz.sortL blk off cap ss W hH hblk hsz),
   fun p cap W => callsIn_wide.2 (AnyM.slices_Sort_string_none Tryz.sortL p cap W)⟩
theorem Tryz.keysIn (mb : Option Nat) (W : World) : CallsIn Fence.wide 5 Tryz.prog 102 #[.map mb] W fun e w' => e = .returned (.func (.func 113) #[] #[.pointer (some ⟨W.heap.size, 0, none⟩)]) ∧ w' = W.alloc (.cells #[.map mb] 56) :=
 AnyZ.keys_in Tryz.keysL Fence.wide 5 trivial rfl mb W
set_option maxHeartbeats 1000000 in
theorem Tryz.sortedIn {H : Type} (b nn : Nat) (D0 : DataW H) (R : Value → Option (DataW H × List MemPlace)) (w : World) (hown : w.ownsMap Tryz.prog 9 R b nn D0) (hmax : Maps.size D0 ≤ maxLen) (hbytes : Maps.size D0 * 16 ≤ 140737488355328) :
  CallsIn Fence.wide 5 Tryz.prog 101 #[.func (.func 113) #[] #[.pointer (some ⟨w.heap.size, 0, none⟩)]] (w.alloc (.cells #[.map (some b)] 56)) fun e w' => ∃ (v : Value) (ss : List (List UInt8)), e = .returned v ∧ ss.Perm (strKeys D0) ∧
   w'.ownsRow (w.alloc (.cells #[.map (some b)] 56)).heap.size 9 1 v ss.length ((ss.mergeSort (fun x y => decide (x ≤ y))).map encStr) ∧ (v = .slice none 0 0 ↔ ss = []) ∧ Below (w.alloc (.cells #[.map (some b)] 56)).heap.size (w.alloc (.cells #[.map (some b)] 56)) w' := by
 have hbl := hown.lt
 have hseq : SeqGives Fence.wide 2 Tryz.prog 113 #[.pointer (some ⟨w.heap.size, 0, none⟩)] encStr (fun ss => ss.Perm (strKeys D0)) (Maps.size D0) (w.alloc (.cells #[.map (some b)] 56)) :=
  AnyZ.keys_gives (ρ := Tryz.keysL_ren) { Tryz.keysL with } Fence.wide _ trivial rfl (by omega) w.heap.size b nn D0 _ (by simp) (by simp) (by
   obtain ⟨es, clock, hb, Ft, hs, hD⟩ := hown
   exact ⟨es, clock, (Below.heap_alloc _ _ b hbl).trans hb, Ft, hs, hD⟩)
 exact AnyZ.sorted_in Tryz.sortedL Fence.wide 5 trivial trivial trivial trivial rfl (by omega) (Tryz.sortsL _) (enters_of Tryz.func112 (by kernel_rfl) rfl) 113 #[.pointer (some ⟨w.heap.size, 0, none⟩)] trivial (enters_of Tryz.func113 (by kernel_rfl) rfl) _ _ hmax hbytes _ hseq
open Dsk in
set_option maxHeartbeats 1000000 in
set_option maxRecDepth 100000 in
theorem rising_ok (b : Nat) (A : Nat → Nat) (l : Nm) (w : World) (h : Mp w b A l) (hup : l.Up) (hl : l.length ≤ 1073741824) :
  Calls Tryz.prog 76 #[.map (some b)] w fun e w' => ∃ v, e = .returned v ∧ w'.ownsRow w.heap.size 9 1 v l.length (l.keys.map encStr) ∧ Below w.heap.size w w' := by
 have hmax : Maps.size (nmD A l) ≤ maxLen := by rw [nmD_size]; unfold maxLen; omega
 have hbytes : Maps.size (nmD A l) * 16 ≤ 140737488355328 := by rw [nmD_size]; omega
 have hS := Tryz.sortedIn b l.length (nmD A l) ptrElem w h hmax hbytes
 have hfK : Fence.wide.fn 102 := trivial
 have hfS : Fence.wide.fn 101 := trivial
 refine (callsIn_wide (n := 6)).1 ?_
 refine callsIn_of_wp Tryz.func76 rfl trivial ?_ rfl
 simp only [Tryz.ntmps76, List.size_toArray, List.length_cons, List.length_nil, Nat.reduceAdd, Nat.reduceSub, Array.replicate_succ, Array.replicate_zero, List.push_toArray, List.append_toArray, List.nil_append, List.cons_append]
 gi_wp2_with (first
  | (gi_at_call 102; refine (Tryz.keysIn _ _).mono ?_; rintro e w' ⟨rfl, rfl⟩)
  | (gi_at_call 101; refine hS.mono ?_; rintro e w' ⟨v, ss, rfl, hP, hrow, hnil, hb⟩))
 go_ret
 rw [nmD_keys] at hP
 rw [keys_sorted hup ss hP] at hrow
 have hlen : ss.length = l.length := by rw [hP.length_eq]; simp [Nm.keys]
 rw [hlen] at hrow
 exact ⟨v, rfl, ownsRow_base_a hrow (by simp), ((Below.refl _ w).alloc (Nat.le_refl _) _).trans (hb.mono (by simp))⟩
end

section
open Go.RowKit Dsk
set_option linter.unusedVariables false
set_option linter.unusedSimpArgs false
theorem Tryz.infoFile : (Tryz.prog.info? 26).map (fun i => (i.zero, i.size, i.bytes)) = some (some (.agg #[.string ⟨#[]⟩, .slice none 0 0]), 2, 40) := by kernel_rfl
def fcells : List (By × By) → List Value → List Value
 | f :: L, v :: vs => encStr f.1 :: v :: fcells L vs
 | _, _ => []
theorem fcells_snoc {L : List (By × By)} {vs : List Value} (h : vs.length = L.length) (f : By × By) (v : Value) : fcells (L ++ [f]) (vs ++ [v]) = fcells L vs ++ [encStr f.1, v] := by
 induction L generalizing vs with
 | nil => have : vs = [] := List.eq_nil_of_length_eq_zero (by simpa using h); subst this; rfl
 | cons x L ih =>
  cases vs with
  | nil => simp at h
  | cons u vs =>
   simp only [List.cons_append, fcells]
   rw [ih (by simpa using h)]
structure Fls (w : World) (B : Nat) (v : Value) (L : List (By × By)) (vs : List Value) : Prop where
 len : vs.length = L.length
 row : w.ownsRow B 26 2 v L.length (fcells L vs)
 own : ∀ (i : Nat) (f : By × By) (u : Value), L[i]? = some f → vs[i]? = some u → OwnB w u f.2.length f.2
 new : ∀ u ∈ vs, ∀ g, u.ownBlock = some g → B ≤ g
 apart : vs.Pairwise (fun a b => ∀ k, a.ownBlock = some k → b.ownBlock ≠ some k)
theorem Fls.start (w : World) (B : Nat) : Fls w B (.slice none 0 0) [] [] := ⟨rfl, World.ownsRow_nil _ _ _ _, by simp, by simp, List.Pairwise.nil⟩
theorem Fls.kept {w w' : World} {B : Nat} {v : Value} {L : List (By × By)} {vs : List Value} (h : Fls w B v L vs) (hk : Kept [] w w') : Fls w' B v L vs :=
 ⟨h.len, own_keeps h.row (Keep.ofNone (F := fun _ => False) hk) (fun _ _ h => h), fun i f u h1 h2 => (h.own i f u h1 h2).kept hk, h.new, h.apart⟩
theorem Fls.val_lt {w : World} {B : Nat} {v : Value} {L : List (By × By)} {vs : List Value} (h : Fls w B v L vs) {u : Value} (hu : u ∈ vs) {g : Nat} (hg : u.ownBlock = some g) : g < w.heap.size := by
 obtain ⟨i, hi, e⟩ := List.mem_iff_getElem.1 hu
 have h1 : vs[i]? = some u := by rw [List.getElem?_eq_getElem hi, e]
 have h2 : i < L.length := by rw [← h.len]; exact hi
 exact (h.own i _ u (List.getElem?_eq_getElem h2) h1).lt hg
theorem Fls.step {w w4 w5 : World} {B : Nat} {v v' u : Value} {L : List (By × By)} {vs : List Value} {f : By × By} (h : Fls w B v L vs) (hk : Kept [] w w4) (hB : B ≤ w.heap.size) (hu : OwnB w4 u f.2.length f.2) (hn : ∀ g, u.ownBlock = some g → w.heap.size ≤ g)
  (ho : w5.ownsRow 0 26 2 v' (L.length + 1) (fcells L vs ++ [encStr f.1, u])) (hK : ∀ F : Nat → Prop, (∀ k, v.ownBlock = some k → F k) → Keep F w4 w5) (hl : ∀ g, v'.ownBlock = some g → v.ownBlock = some g ∨ w4.heap.size ≤ g) : Fls w5 B v' (L ++ [f]) (vs ++ [u]) := by
 have h4 := h.kept hk
 have hK5 := hK (fun k => v.ownBlock = some k) (fun _ e => e)
 have hsz := hk.size
 refine ⟨by simp [h.len], ?_, fun i f' u' hf hu' => ?_, fun u' hm g hg => ?_, ?_⟩
 ·rw [fcells_snoc h.len]
  refine ⟨by have := ho.1; simpa using this, ?_⟩
  rcases ho.2 with ⟨rfl, h0⟩ | ⟨g, cap, cur, rfl, _, r⟩
  ·omega
  ·refine .inr ⟨g, cap, cur, by simp, ?_, by simpa using r⟩
   rcases hl g rfl with e | e
   ·exact (h.row.lt g e).1
   ·omega
 ·by_cases hi : i < L.length
  ·rw [List.getElem?_append_left hi] at hf
   rw [List.getElem?_append_left (by rw [h.len]; exact hi)] at hu'
   exact (h4.own i f' u' hf hu').keep hK5 (fun g hg e => OwnB.two h4.row (h4.own i f' u' hf hu') (by decide) g e hg)
  ·have hi2 : i = L.length := by
    have := (List.getElem?_eq_some_iff.1 hf).1
    simp at this
    omega
   subst hi2
   rw [List.getElem?_append_right (Nat.le_refl _)] at hf
   rw [List.getElem?_append_right (by rw [h.len]; exact Nat.le_refl _), h.len] at hu'
   simp at hf hu'
   subst hf hu'
   exact hu.keep hK5 (fun g hg e => OwnB.two h4.row hu (by decide) g e hg)
 ·rcases List.mem_append.1 hm with h1 | h1
  ·exact h.new u' h1 g hg
  ·simp only [List.mem_singleton] at h1
   subst h1
   exact Nat.le_trans hB (hn g hg)
 ·refine List.pairwise_append.2 ⟨h.apart, List.pairwise_singleton _ _, fun a ha b hb k hka hkb => ?_⟩
  simp only [List.mem_singleton] at hb
  subst hb
  have := h.val_lt ha hka
  have := hn k hkb
  omega
structure Lp (w wr : World) (B : Nat) (nv : Value) (ks : List By) (v : Value) (L : List (By × By)) (vs : List Value) : Prop where
 fls : Fls wr B v L vs
 keep : Kept [] w wr
 names : wr.ownsRow 0 9 1 nv ks.length (ks.map encStr)
theorem Lp.step {w wr w4 w5 : World} {B : Nat} {nv v v' u : Value} {ks : List By} {L : List (By × By)} {vs : List Value} {f : By × By} (h : Lp w wr B nv ks v L vs) (hBw : B = w.heap.size) (hk : Kept [] wr w4) (hu : OwnB w4 u f.2.length f.2) (hn : ∀ g, u.ownBlock = some g → wr.heap.size ≤ g)
  (ho : w5.ownsRow 0 26 2 v' (L.length + 1) (fcells L vs ++ [encStr f.1, u])) (hK : ∀ F : Nat → Prop, (∀ k, v.ownBlock = some k → F k) → Keep F w4 w5) (hl : ∀ g, v'.ownBlock = some g → v.ownBlock = some g ∨ w4.heap.size ≤ g) : Lp w w5 B nv ks v' (L ++ [f]) (vs ++ [u]) := by
 have hs := h.keep.size
 refine ⟨h.fls.step hk (by omega) hu hn ho hK hl, ?_, ?_⟩
 ·have h1 := h.keep.trans hk (by simp)
  have hK5 := hK (fun k => w.heap.size ≤ k) (fun k e => by have := (h.fls.row.lt k e).1; omega)
  exact ⟨hK5.os.trans h1.os, hK5.tape.trans h1.tape, hK5.output.trans h1.output, Nat.le_trans h1.size hK5.size, fun i hi _ => (hK5.block i (Nat.lt_of_lt_of_le hi h1.size) (by omega)).trans (h1.block i hi (by simp))⟩
 ·have h4 := own_keeps h.names (Keep.ofNone (F := fun _ => False) hk) (fun _ _ h => h)
  have hK5 := hK (fun k => v.ownBlock = some k) (fun _ e => e)
  exact own_keeps h4 hK5 (fun g hg e => own_two h4 (h.fls.kept hk).row (by decide) g hg e)
set_option maxHeartbeats 1600000 in
set_option maxRecDepth 100000 in
theorem files_ok {w : World} {p : Nat} {S : Ds} {A : Nat → Nat} {o : Lab} {N : Nat} (h : PD w p S A o) (hB : S.Bd N) (hN : N ≤ 268435456) : Calls Tryz.prog 33 #[.pointer (some ⟨p, 0, none⟩)] w fun e w' => ∃ v vs, e = .returned v ∧ Fls w' w.heap.size v S.files vs ∧ Kept [] w w' := by
 obtain ⟨ms, mh, rv, sv, h⟩ := h
 have hup : S.shown.Up := h.wf.sup
 have hlen : S.shown.length ≤ N := hB.shown h.wf
 have hrs := rising_ok mh A S.shown w h.shown hup (by omega)
 have cm := h.c4
 have HP : Hid (∀ v, Kept [] w v → PDx v p S A o ms mh rv sv) := fun v hv => h.keep (Keep.ofNone (F := fun _ => False) hv) (fun _ _ h => h)
 have HB := hide (And.intro h.wf hB)
 have hLl : S.files.length = S.shown.length := by simp [Ds.files]
 clear h hB
 go_enter Tryz.func33, Tryz.ntmps33
 go_wp2_with (go_at_call 76; refine hrs.mono ?_; rintro e w1 ⟨nv, rfl, hrow, hbl⟩; obtain ⟨no, nc, rfl, _⟩ := own_shape hrow; have HLP := hide (Lp.mk (Fls.start w1 w.heap.size) (Kept.of_below hbl) (show w1.ownsRow 0 9 1 _ (S.shown.keys).length (S.shown.keys.map encStr) by simpa [Nm.keys] using ownsRow_base_a hrow (Nat.zero_le _))); clear hrow hbl hrs)
 generalize hLe : S.shown.length = M at *
 have HL := hide hLe
 clear cm hLe
 go_loopw [15, 3, 5] (fun i f _ wr => ∃ k : Nat, k ≤ M ∧ i = .int .i64 k ∧ Hid (∃ vs, Lp w wr w.heap.size (.slice no M nc) S.shown.keys f (S.files.take k) vs) ∧ ∃ fo fc, f = .slice fo k fc) (fun i _ _ wr => M - (intOf i).toNat)
 case atStart => exact ⟨0, by omega, rfl, hide ⟨[], by simpa using HLP.out⟩, none, 0, rfl⟩
 case round =>
  clear HLP
  obtain ⟨k, hk, rfl, HR, fo, fc, rfl⟩ := hrel
  obtain ⟨vs, hR⟩ := HR.out
  clear HR
  by_cases hlt : k < M
  ·have hlt2 : k < S.shown.length := by rw [HL.out]; exact hlt
   obtain ⟨⟨n, id⟩, hq⟩ : ∃ q, S.shown[k]? = some q := ⟨S.shown[k], List.getElem?_eq_getElem hlt2⟩
   have hmem : (n, id) ∈ S.shown := List.mem_of_getElem? hq
   have hPr := HP.out wr hR.keep
   have hget := (Nm.get_some hup).2 hmem
   have hnl : n.length ≤ 112 := isNm_len (HB.out.1.snm _ hmem)
   have hid : id < S.nx := HB.out.1.slt hmem
   have hlk := hPr.shown.look n (by unfold maxLen; omega)
   rw [hget] at hlk
   have cm := hPr.c4
   obtain ⟨rv1, sv1, ht⟩ := hPr.th id hid
   obtain ⟨so, sc, rfl, hsc, _, hs0, _⟩ := ht.shown.shape
   have it := ht.th0.c2
   have hil := HB.out.2.th id hid
   have hls := HB.out.2.len HB.out.1 hid
   obtain ⟨g, hg⟩ : ∃ g, no = some ⟨g, 0, none⟩ := by
    rcases hR.names.2 with ⟨e, e2⟩ | ⟨g, cap, cur, e, _⟩
    ·have h2 : S.shown.keys.length = S.shown.length := by simp [Nm.keys]
     omega
    ·injection e with e _ _; exact ⟨g, e⟩
   subst hg
   have hcell : wr.cell? ⟨g, k, none⟩ = some (encStr n) := by
    have := hR.names.cells (g := g) rfl k (encStr n) (by simp [Nm.keys, hq])
    rwa [add0] at this
   have htk : S.files.take (k + 1) = S.files.take k ++ [(n, (S.th id).shown)] := by
    rw [List.take_add_one]
    congr 1
    simp [Ds.files, hq]
   have htl : (S.files.take k).length = k := by rw [List.length_take]; simp [Ds.files]; omega
   have HST : Hid (∀ w4 w5 u v', Kept [] wr w4 → OwnB w4 u (S.th id).shown.length (S.th id).shown → (∀ g, u.ownBlock = some g → wr.heap.size ≤ g) → w5.ownsRow 0 26 2 v' (k + 1) (fcells (S.files.take k) vs ++ [encStr n, u]) → (∀ F : Nat → Prop, (∀ j, (Value.slice fo k fc).ownBlock = some j → F j) → Keep F w4 w5) → (∀ g, v'.ownBlock = some g → (Value.slice fo k fc).ownBlock = some g ∨ w4.heap.size ≤ g) → ∃ vs', Lp w w5 w.heap.size (.slice (some ⟨g, 0, none⟩) M nc) S.shown.keys v' (S.files.take (k + 1)) vs') := fun w4 w5 u v' h1 h2 h3 h4 h5 h6 => by
    rw [htk]
    exact ⟨_, hR.step rfl h1 (f := (n, (S.th id).shown)) h2 h3 (by rw [htl]; exact h4) h5 h6⟩
   have HAP : Hid (∀ w4, Kept [] wr w4 → ∀ u : Value, u.oneCell' = true → ∃ g c w', (Builtin.append_ #[22, 22] 22 #[.slice fo k fc, .slice (some ⟨w4.heap.size, 0, none⟩) 1 1]).run Tryz.prog (w4.alloc (.cells #[encStr n, u] 26)) = .ok (.slice (some ⟨g, 0, none⟩) (k + 1) c) w' ∧ w'.ownsRow 0 26 2 (.slice (some ⟨g, 0, none⟩) (k + 1) c) (k + 1) (fcells (S.files.take k) vs ++ [encStr n, u]) ∧ (∀ F : Nat → Prop, (∀ j, (Value.slice fo k fc).ownBlock = some j → F j) → Keep F w4 w') ∧ (∀ g', (Value.slice (some ⟨g, 0, none⟩) (k + 1) c).ownBlock = some g' → (Value.slice fo k fc).ownBlock = some g' ∨ w4.heap.size ≤ g')) := fun w4 h4 u hu => by
    have hr4 := own_keeps (ownsRow_base_a hR.fls.row (Nat.zero_le _)) (Keep.ofNone (F := fun _ => False) h4) (fun _ _ h => h)
    rw [htl] at hr4
    obtain ⟨g, c, w', e1, e2, e3, e4, _⟩ := run_app (P := Tryz.prog) w4 22 22 26 Tryz.underlying22 Tryz.infoFile rfl (by decide) _ k _ hr4 [encStr n, u] rfl (fun z hz => by simp only [List.mem_cons, List.not_mem_nil, or_false] at hz; rcases hz with rfl | rfl; rfl; exact hu) (by unfold maxLen; omega) (by omega)
    refine ⟨g, c, w', e1, e2, e3, fun g' hg' => ?_⟩
    simp only [Value.ownBlock, Option.some.injEq] at hg'
    subst hg'
    rcases e4 with e | e
    ·exact .inl e.symm
    ·exact .inr e
   have hcl := cloneB_ok so (S.th id).shown.length sc (S.th id).shown wr rfl ht.shown.sl hs0 (by omega)
   clear hR hPr hget ht hq htk hmem htl hs0
   go_wp2_with (first
    | (go_at_call 14; have Ha := hcl; refine hcl.mono ?_; rintro e w4 ⟨u, rfl, hu4, hk4, hn4⟩; obtain ⟨uo, uc, rfl, _⟩ := hu4.shape; obtain ⟨ga, gc, w5, hap, ho5, hK5, hl5⟩ := HAP.out w4 hk4 (.slice uo (S.th id).shown.length uc) rfl; have H5 := hide (HST.out w4 w5 _ _ hk4 hu4 hn4 ho5 hK5 hl5); clear hu4 hn4 ho5 hK5 hl5 HST HAP Ha hcl)
    | (at_builtin; refine wpList_app_run rfl _ _ 22 22 rfl _ _ rfl rfl _ _ hap ?_))
   go_roundw
   case rel => exact ⟨k + 1, by omega, by go_num, H5, _, _, rfl⟩
   case measure => simp [intOf]; omega
  ·have hkM : k = M := by omega
   subst hkM
   have HE : Hid (S.files.take k = S.files) := hide (List.take_of_length_le (by omega))
   have HRR := hide hR
   clear hR
   go_wp2
   go_ret
   rw [HE.out] at HRR
   exact ⟨_, vs, rfl, HRR.out.fls, HRR.out.keep⟩
end

end Go.Proofs.YteckiednnaianaaGreat
