import Derived.Test.YtmklodligplbaabGreatMemo
import Derived.Deep.MidRow
import Derived.StillTailTactics
import Derived.Deep.RegionHeld3
import Derived.Laws.CopyOwn
open Go.RowKit
set_option linter.unusedVariables false
set_option linter.unusedSimpArgs false
set_option maxRecDepth 100000
set_option maxHeartbeats 0
namespace Go.Proofs.YtmklodligplbaabGreat
section
def wrow (e p : Int) (q : Option Addr) (last : List UInt8) (n : Nat) : List Value :=
 .int .i64 e :: .int .i64 p :: .pointer q :: (bys last ++ [.int .i64 n])
structure Wb (w : World) (b : Nat) (e p : Int) (q : Option Addr) (last : List UInt8) (n : Nat) : Prop where
 row : w.heap[b]? = some (.cells (wrow e p q last n).toArray 123 (0, 0))
 len : last.length = 64
theorem wrow_len (e p : Int) (q : Option Addr) (last : List UInt8) (n : Nat) : (wrow e p q last n).length = last.length + 4 := by simp [wrow, bys_length]
theorem Wb.cell {w : World} {b : Nat} {e p : Int} {q : Option Addr} {last : List UInt8} {n : Nat} (h : Wb w b e p q last n) (j : Nat) : w.cell? ⟨b, j, none⟩ = (wrow e p q last n)[j]? := by
 rw [cell_of_row w b j _ _ _ h.row]; simp
theorem Wb.frozen {w : World} {b : Nat} {e p : Int} {q : Option Addr} {last : List UInt8} {n : Nat} (h : Wb w b e p q last n) (j : Nat) : w.frozen? ⟨b, j, none⟩ = false := frozen_of_row w b j _ _ h.row
theorem wrow_size (e p : Int) (q : Option Addr) (last : List UInt8) (n : Nat) (h : last.length = 64) : (wrow e p q last n)[67]? = some (.int .i64 n) := by
 simp [wrow, bys_length, h]
theorem Tryz.follows : Tryz.prog.follows .mixedOrders = true := by kernel_rfl
theorem Tryz.slice64 (W : World) (b o s : Nat) (hs : s < 64) :
  (Instr.sliceAt 121 (.pointer (some ⟨b, o, none⟩)) (some (.int .i64 s)) none none).run Tryz.prog W = .ok (.slice (some ⟨b, o + s, none⟩) (64 - s) (64 - s)) W := by
 have ha : Tryz.prog.arrayLen 121 = 64 := by kernel_rfl
 have hz : (sizeOf (Tryz.prog.elem 121)).run Tryz.prog W = .ok 1 W := by kernel_rfl
 have h := run_sliceAt_array_l (P := Tryz.prog) W 121 ⟨b, o, none⟩ (by kernel_rfl) .i64 s (by omega) (by rw [ha]; omega)
 rw [h, hz, ha]
 simp [slicedAt, Addr.add_mid, show 64 ≠ s by omega]
theorem Tryz.slice64all (W : World) (b o : Nat) :
  (Instr.sliceAt 121 (.pointer (some ⟨b, o, none⟩)) none none none).run Tryz.prog W = .ok (.slice (some ⟨b, o, none⟩) 64 64) W := by
 have ha : Tryz.prog.arrayLen 121 = 64 := by kernel_rfl
 have hz : (sizeOf (Tryz.prog.elem 121)).run Tryz.prog W = .ok 1 W := by kernel_rfl
 have h := run_sliceAt_array_all (P := Tryz.prog) W 121 ⟨b, o, none⟩ (by kernel_rfl)
 rw [h, hz, ha]
 simp [slicedAt, Addr.add_mid]
theorem Tryz.cutFrom (W : World) (ao : Option Addr) (g off L cap m : Nat) (hm : m <= L) :
  (Instr.slice 27 (.slice (some ⟨g, off, none⟩) L cap) (some (.int .i64 m)) none none).run Tryz.prog W = .ok (.slice (if cap = m then some ⟨g, off, none⟩ else some ⟨g, off + m, none⟩) (L - m) (cap - m)) W := by
 have hz : (sizeOf (Tryz.prog.elem 27)).run Tryz.prog W = .ok 1 W := by kernel_rfl
 have h := run_slice_l (P := Tryz.prog) W 27 (some ⟨g, off, none⟩) L cap (by kernel_rfl) .i64 m (by omega) (by omega)
 rw [h, hz]
 by_cases hc : cap = m <;> simp [sliced, Addr.add_mid, hc]
theorem Tryz.cutTo (W : World) (ao : Option Addr) (L cap m : Nat) (hm : m <= cap) :
  (Instr.slice 27 (.slice ao L cap) none (some (.int .i64 m)) none).run Tryz.prog W = .ok (.slice ao m cap) W := by
 have hz : (sizeOf (Tryz.prog.elem 27)).run Tryz.prog W = .ok 1 W := by kernel_rfl
 have h := run_slice_h (P := Tryz.prog) W 27 ao L cap (by kernel_rfl) .i64 m (by omega) (by omega)
 rw [h, hz]
 cases ao <;> simp [sliced, Addr.add]
theorem Tryz.arr64 : (Tryz.prog.info? 121).map (·.size) = some 64 := by kernel_rfl
theorem Tryz.built77 (f : Nat -> UInt8) (q : Option Addr) : Tryz.prog.built 182 [(0, .agg (bys ((List.range 64).map f)).toArray), (1, .pointer q)] = some (bys ((List.range 64).map f) ++ [Value.pointer q]).toArray := by kernel_rfl
theorem range_of_len {L : List UInt8} (h : L.length = 64) : (List.range 64).map (fun i => L.getD i 0) = L := by
 apply List.ext_getElem
 ·simp [h]
 ·intro i h1 h2
  simp [List.getElem?_eq_getElem h2]
theorem Tryz.builtPiece (L : List UInt8) (h : L.length = 64) (q : Option Addr) : Tryz.prog.built 182 [(0, .agg (bys L).toArray), (1, .pointer q)] = some (bys L ++ [Value.pointer q]).toArray := by
 have := Tryz.built77 (fun i => L.getD i 0) q
 rwa [range_of_len h] at this
theorem Tryz.sizeByte : (Tryz.prog.info? 5).map (·.size) = some 1 := by kernel_rfl
theorem wrow_splice (e p : Int) (q : Option Addr) (last ys : List UInt8) (n s : Nat) (h : s + ys.length <= last.length) :
  (wrow e p q last n).take (3 + s) ++ (bys ys ++ (wrow e p q last n).drop (3 + s + ys.length)) = wrow e p q (splice last s ys) n := by
 have h1 : (bys last).length = last.length := bys_length _
 have e1 : (wrow e p q last n).take (3 + s) = .int .i64 e :: .int .i64 p :: .pointer q :: bys (last.take s) := by
  rw [show 3 + s = s + 1 + 1 + 1 by omega]
  simp only [wrow, List.take_succ_cons]
  rw [List.take_append_of_le_length (by omega)]
  simp [bys, List.map_take]
 have e2 : (wrow e p q last n).drop (3 + s + ys.length) = bys (last.drop (s + ys.length)) ++ [.int .i64 n] := by
  rw [show 3 + s + ys.length = (s + ys.length) + 1 + 1 + 1 by omega]
  simp only [wrow, List.drop_succ_cons]
  rw [List.drop_append_of_le_length (by omega)]
  simp [bys, List.map_drop]
 rw [e1, e2]
 simp [wrow, splice, bys, List.map_append]
theorem wrow_n (e p : Int) (q : Option Addr) (last : List UInt8) (n m : Nat) (h : last.length = 64) : (wrow e p q last n).set 67 (.int .i64 m) = wrow e p q last m := by
 simp only [wrow, List.set_cons_succ]
 rw [List.set_append_right _ _ (by simp [bys_length, h])]
 simp [bys_length, h]
theorem wrow_q (e p : Int) (q q' : Option Addr) (last : List UInt8) (n : Nat) : (wrow e p q last n).set 2 (.pointer q') = wrow e p q' last n := by
 simp only [wrow, List.set_cons_succ, List.set_cons_zero]
theorem Wb.setN {w : World} {b : Nat} {e p : Int} {q : Option Addr} {last : List UInt8} {n : Nat} (h : Wb w b e p q last n) (m : Nat) : Wb (w.setCell ⟨b, 67, none⟩ (.int .i64 m)) b e p q last m := by
 refine ⟨?_, h.len⟩
 rw [heap_setCell_same w b 67 _ _ _ h.row]
 simp only [List.setIfInBounds_toArray, wrow_n _ _ _ _ _ _ h.len]
theorem Wb.setQ {w : World} {b : Nat} {e p : Int} {q : Option Addr} {last : List UInt8} {n : Nat} (h : Wb w b e p q last n) (q' : Option Addr) : Wb (w.setCell ⟨b, 2, none⟩ (.pointer q')) b e p q' last n := by
 refine ⟨?_, h.len⟩
 rw [heap_setCell_same w b 2 _ _ _ h.row]
 simp only [List.setIfInBounds_toArray, wrow_q]
theorem Wb.kept {l : List Nat} {w w' : World} {b : Nat} {e p : Int} {q : Option Addr} {last : List UInt8} {n : Nat} (h : Wb w b e p q last n) (hk : Kept l w w') (hn : b ∉ l) : Wb w' b e p q last n :=
 ⟨by rw [hk.block b (gs h.row).1 hn]; exact h.row, h.len⟩
inductive Chain (w : World) : Option Addr -> List Nat -> List UInt8 -> Prop
 | nil : Chain w none [] []
 | cons {q : Option Addr} {bs : List Nat} {ys p : List UInt8} {g : Nat} (hp : p.length = 64) (hg : w.heap[g]? = some (.cells (bys p ++ [Value.pointer q]).toArray 182 (0, 0))) (hc : Chain w q bs ys) : Chain w (some ⟨g, 0, none⟩) (g :: bs) (ys ++ p)
theorem Chain.kept {l : List Nat} {w w' : World} {q : Option Addr} {bs : List Nat} {ys : List UInt8} (h : Chain w q bs ys) (hk : Kept l w w') (hn : ∀ g, g ∈ bs -> g ∉ l) : Chain w' q bs ys := by
 induction h with
 | nil => exact .nil
 | cons hp hg hc ih =>
  refine .cons hp ?_ (ih (fun g hg => hn g (by simp [hg])))
  rw [hk.block _ (gs hg).1 (hn _ (by simp))]
  exact hg
theorem Chain.lt {w : World} {q : Option Addr} {bs : List Nat} {ys : List UInt8} (h : Chain w q bs ys) : ∀ g, g ∈ bs -> g < w.heap.size := by
 induction h with
 | nil => simp
 | cons hp hg hc ih =>
  intro g' hg'
  simp only [List.mem_cons] at hg'
  rcases hg' with rfl | hg'
  ·exact (gs hg).1
  ·exact ih g' hg'
structure Wr (w : World) (b : Nat) (bs : List Nat) (xs : List UInt8) : Prop where
 ex : ∃ q last, Wb w b 0 0 q last xs.length ∧ last.take (xs.length % 64) = xs.drop (xs.length - xs.length % 64) ∧ Chain w q bs (xs.take (xs.length - xs.length % 64))
 out : b ∉ bs
theorem Wr.kept {l : List Nat} {w w' : World} {b : Nat} {bs : List Nat} {xs : List UInt8} (h : Wr w b bs xs) (hk : Kept l w w') (hn : b ∉ l) (hs : ∀ g, g ∈ bs -> g ∉ l) : Wr w' b bs xs := by
 obtain ⟨q, last, h1, h2, h3⟩ := h.ex
 exact ⟨⟨q, last, h1.kept hk hn, h2, h3.kept hk hs⟩, h.out⟩
theorem kept_setRow {l : List Nat} {a w : World} (h : Kept l a w) {g : Nat} (hg : g < a.heap.size -> g ∈ l) (cs : Array Value) : Kept l a (w.setRow g cs) :=
 h.trans (l2 := [g]) ⟨rfl, rfl, rfl, by simp [World.setRow], fun k _ hn => setRow_other w g k cs (by simpa using hn)⟩ (by simpa using hg)
theorem last_splice {last zs t : List UInt8} {s : Nat} (hl : last.length = 64) (hs : s + t.length <= 64) (h : last.take s = zs) (hz : zs.length = s) :
  (splice last s t).take (s + t.length) = zs ++ t ∧ (splice last s t).length = 64 := by
 subst h
 refine ⟨?_, by rw [length_splice _ _ _ (by omega)]; exact hl⟩
 unfold splice
 rw [<-List.append_assoc, List.take_append_of_le_length (by simp; omega), List.take_of_length_le (by simp; omega)]
theorem wp_build_at {P : Program} {o : Oper} {a : Act} {w : World} {K : Act -> World -> Prop} {Q : Exit -> Act -> World -> Prop} (t : TypeId) (parts : List (Nat × Operand)) (ho : o.op = .build t parts.toArray)
  (cells : Array Value) (hc : P.built t (parts.map fun x => (x.1, a.eval x.2)) = some cells) (h : K (a.put o.dst (.agg cells)) w) : o.wp P a w K Q := by
 have e : (parts.toArray.map fun (i, x) => (i, a.eval x)).toList = parts.map fun x => (x.1, a.eval x.2) := by simp
 refine wp_build t parts.toArray ho ?_ ?_
 ·rw [e, hc]; rfl
 ·rw [e, hc]; exact h
theorem wp_box_at {P : Program} {o : Oper} {a : Act} {w : World} {K : Act -> World -> Prop} {Q : Exit -> Act -> World -> Prop} (t : TypeId) (x : Operand) (ho : o.op = .box t x) (cells : Array Value) (hx : a.eval x = .agg cells)
  (h : K (a.put o.dst (.pointer (some ⟨w.heap.size, 0, none⟩))) (w.alloc (.cells cells t))) : o.wp P a w K Q := by
 unfold Oper.wp execOp
 simp only [ho, hx]
 simp [Instr.box, newVar, newRow, Value.cells, go_sem]
 exact h
def lenOf : Value -> Nat | .slice _ n _ => n | _ => 0
structure PutRel (w wr : World) (b : Nat) (bs : List Nat) (ys xs : List UInt8) (k : Nat) (ao : Option Addr) (cap : Nat) (bs' : List Nat) : Prop where
 le : k <= xs.length
 lc : xs.length - k <= cap
 sl : Sl wr ao (xs.drop k)
 far : ∀ a, ao = some a -> a.block ≠ b
 wri : Wr wr b bs' (ys ++ xs.take k)
 kept : Kept [b] w wr
 sub : ∀ g, g ∈ bs' -> g ∈ bs ∨ w.heap.size <= g
theorem PutRel.next {w wr W2 : World} {b : Nat} {bs : List Nat} {ys xs : List UInt8} {k g off cap : Nat} {bs' bs'' : List Nat} (h : PutRel w wr b bs ys xs k (some ⟨g, off, none⟩) cap bs') (m : Nat) (hm : m <= xs.length - k)
  (hk : Kept [b] wr W2) (hw : Wr W2 b bs'' (ys ++ xs.take (k + m))) (hsub : ∀ g, g ∈ bs'' -> g ∈ bs' ∨ wr.heap.size <= g) :
  PutRel w W2 b bs ys xs (k + m) (if cap = m then some ⟨g, off, none⟩ else some ⟨g, off + m, none⟩) (cap - m) bs'' := by
 have hle := h.le
 have hlc := h.lc
 have hfar := h.far _ rfl
 refine ⟨by omega, by omega, ?_, ?_, hw, h.kept.tr hk, fun g hg => ?_⟩
 ·have h1 := (h.sl.kept hk (fun _ a ha => by simpa using h.far a ha)).drop m cap (by simp; omega) (by simp; omega)
  rwa [List.drop_drop] at h1
 ·intro a ha
  by_cases hc : cap = m
  ·rw [if_pos hc] at ha; cases ha; exact hfar
  ·rw [if_neg hc] at ha; cases ha; exact hfar
 ·rcases hsub g hg with h1 | h1
  ·exact h.sub g h1
  ·exact .inr (Nat.le_trans h.kept.size h1)
theorem wr_part {W2 : World} {b : Nat} {bs' : List Nat} {zs t last : List UInt8} {q : Option Addr} {n s : Nat} (hn : zs.length = n) (hs : s = n % 64) (hm : s + t.length < 64)
  (hw2 : Wb W2 b 0 0 q (splice last s t) (n + t.length)) (hl : (splice last s t).take (s + t.length) = zs.drop (n - s) ++ t) (hch : Chain W2 q bs' (zs.take (n - s))) (ho : b ∉ bs') : Wr W2 b bs' (zs ++ t) := by
 have e1 : (n + t.length) % 64 = s + t.length := by omega
 refine ⟨⟨q, splice last s t, ?_, ?_, ?_⟩, ho⟩
 ·simpa [hn] using hw2
 ·simp only [List.length_append, hn, e1]
  rw [hl, show n + t.length - (s + t.length) = n - s by omega, List.drop_append_of_le_length (by omega)]
 ·simp only [List.length_append, hn, e1]
  rw [show n + t.length - (s + t.length) = n - s by omega, List.take_append_of_le_length (by omega)]
  exact hch
theorem wr_full {W2 : World} {b g : Nat} {bs' : List Nat} {zs t last : List UInt8} {q : Option Addr} {n s : Nat} (hn : zs.length = n) (hs : s = n % 64) (hm : s + t.length = 64)
  (hw2 : Wb W2 b 0 0 (some ⟨g, 0, none⟩) (splice last s t) (n + t.length)) (hl : (splice last s t).take (s + t.length) = zs.drop (n - s) ++ t) (hll : (splice last s t).length = 64)
  (hg : W2.heap[g]? = some (.cells (bys (splice last s t) ++ [Value.pointer q]).toArray 182 (0, 0))) (hch : Chain W2 q bs' (zs.take (n - s))) (ho : b ∉ bs') (hgb : b ≠ g) : Wr W2 b (g :: bs') (zs ++ t) := by
 have e1 : (n + t.length) % 64 = 0 := by omega
 have e2 : splice last s t = zs.drop (n - s) ++ t := by rw [<-hl, List.take_of_length_le (by omega)]
 refine ⟨⟨some ⟨g, 0, none⟩, splice last s t, ?_, ?_, ?_⟩, by simp [hgb, ho]⟩
 ·simpa [hn] using hw2
 ·simp only [List.length_append, hn, e1, Nat.sub_zero]
  rw [List.drop_of_length_le (by simp; omega)]; rfl
 ·simp only [List.length_append, hn, e1, Nat.sub_zero]
  rw [List.take_of_length_le (by simp; omega)]
  have := Chain.cons (w := W2) hll hg hch
  rw [e2, <-List.append_assoc, List.take_append_drop] at this
  exact this
theorem put_any (b : Nat) (bs : List Nat) (ys xs : List UInt8) (ao : Option Addr) (cap : Nat) (w : World) (hW : Wr w b bs ys) (hs : Sl w ao xs) (hfar : ∀ a, ao = some a -> a.block ≠ b) (hlc : xs.length <= cap) (hsum : ys.length + xs.length <= 140737488355328) :
  Calls Tryz.prog 104 #[.pointer (some ⟨b, 0, none⟩), .slice ao xs.length cap] w fun e w' => e = .returned (.tuple #[]) ∧ ∃ bs', Wr w' b bs' (ys ++ xs) ∧ Kept [b] w w' ∧ ∀ g, g ∈ bs' -> g ∈ bs ∨ w.heap.size <= g := by
 have HI : Hid (PutRel w w b bs ys xs 0 ao cap bs) := ⟨Nat.zero_le _, by simpa using hlc, by simpa using hs, hfar, by simpa using hW, Kept.refl _ _, fun g hg => .inl hg⟩
 clear hW hs hfar
 go_enter Tryz.func104, Tryz.ntmps104
 go_wp2
 go_loopw [1] (fun v wr => ∃ k ao' cap' bs', v = .slice ao' (xs.length - k) cap' ∧ Hid (PutRel w wr b bs ys xs k ao' cap' bs')) (fun v wr => lenOf v)
 case atStart => exact ⟨0, ao, cap, bs, rfl, HI⟩
 case round =>
  clear HI
  obtain ⟨k, ao', cap', bs', rfl, HR⟩ := hrel
  have hk := HR.out.le
  have hlc' := HR.out.lc
  by_cases hr0 : xs.length - k = 0
  ·have hfin : Hid (∃ bs', Wr wr b bs' (ys ++ xs) ∧ Kept [b] w wr ∧ ∀ g, g ∈ bs' -> g ∈ bs ∨ w.heap.size <= g) := by
    have := HR.out.wri
    rw [List.take_of_length_le (by omega)] at this
    exact ⟨bs', this, HR.out.kept, HR.out.sub⟩
   clear HR
   rw [hr0]
   go_wp2
   go_end0
   exact ⟨rfl, hfin.out⟩
  ·obtain ⟨q, last, hwb, hlast, hch⟩ := HR.out.wri.ex
   have hnl : (ys ++ xs.take k).length = ys.length + k := by simp; omega
   obtain ⟨n, hn⟩ : ∃ n, n = ys.length + k := ⟨_, rfl⟩
   rw [hnl, <-hn] at hwb hlast hch
   have hn47 : n <= 140737488355328 := by omega
   obtain ⟨s, hs⟩ : ∃ s, s = n % 64 := ⟨_, rfl⟩
   have hs64 : s < 64 := by omega
   rw [<-hs] at hlast hch
   have htm : (n : Int).tmod 64 = (s : Int) := by rw [Int.tmod_eq_emod_of_nonneg (by omega)]; omega
   obtain ⟨g, off, hao, hgb, hcells⟩ := HR.out.sl.open (by intro h; simp at h; omega)
   have hfar := HR.out.far _ hao
   obtain ⟨m, hm⟩ : ∃ m, m = Nat.min (xs.length - k) (64 - s) := ⟨_, rfl⟩
   have hm1 : m <= xs.length - k := by rw [hm]; exact Nat.min_le_left _ _
   have hm2 : m <= 64 - s := by rw [hm]; exact Nat.min_le_right _ _
   have hm3 : 0 < m := by rw [hm]; simp only [Nat.min_def]; split <;> omega
   have HM : Hid (m = Nat.min (xs.length - k) (64 - s)) := hm
   have HSn : Hid (s = n % 64) := hs
   have HN : Hid (n = ys.length + k) := hn
   clear hm hs hn hnl
   have htl : ((xs.drop k).take m).length = m := by simp; omega
   obtain ⟨t, ht⟩ := nm ((xs.drop k).take m)
   rw [ht] at htl
   have HT : Hid ((xs.drop k).take m = t) := ht
   clear ht
   have hls := last_splice hwb.len (t := t) (s := s) (by omega) hlast (by have := HSn.out; have := HN.out; simp; omega)
   have c67 : wr.cell? ⟨b, 67, none⟩ = some (.int .i64 n) := by rw [hwb.cell]; exact wrow_size _ _ _ _ _ hwb.len
   have hrow : wr.drew.heap[b]? = some (.cells (wrow 0 0 q last n).toArray 123 (0, 0)) := hwb.row
   have hsrc : ∀ j u, (bys t)[j]? = some u -> wr.drew.cell? ((⟨g, off, none⟩ : Addr).add j) = some u := by
    refine Sl.cells fun i hi => ?_
    rw [World.cell?_drew, hcells i (by simp; omega), <-HT.out]
    simp [show i < m by omega]
   have hw1 : Wb (wr.drew.setRow b ((wrow 0 0 q last n).take (3 + s) ++ (bys t ++ (wrow 0 0 q last n).drop (3 + s + (bys t).length))).toArray) b 0 0 q (splice last s t) n := by
    refine ⟨?_, hls.2⟩
    rw [bys_length, wrow_splice _ _ _ _ _ _ _ (by have := hwb.len; omega)]
    exact setRow_heap _ _ _ _ _ _ hrow
   have hk1 : Kept [b] wr (wr.drew.setRow b ((wrow 0 0 q last n).take (3 + s) ++ (bys t ++ (wrow 0 0 q last n).drop (3 + s + (bys t).length))).toArray) := kept_setRow ((Kept.refl _ _).drew) (by simp) _
   have hsl := fun W => Tryz.slice64 W b 3 s hs64
   subst hao
   clear hcells
   obtain ⟨ao2, hao2⟩ : ∃ ao2, ao2 = (if cap' = m then some (⟨g, off, none⟩ : Addr) else some ⟨g, off + m, none⟩) := ⟨_, rfl⟩
   have hcut : ∀ W, (Instr.slice 27 (.slice (some ⟨g, off, none⟩) (xs.length - k) cap') (some (.int .i64 m)) none none).run Tryz.prog W = .ok (.slice ao2 (xs.length - k - m) (cap' - m)) W := fun W => by rw [hao2]; exact Tryz.cutFrom W none g off _ _ _ hm1
   have HA : Hid (ao2 = (if cap' = m then some (⟨g, off, none⟩ : Addr) else some ⟨g, off + m, none⟩)) := hao2
   clear hao2
   have HX := (show Hid (_ ∧ _ ∧ _ ∧ _ ∧ _) from ⟨hlast, hch, hls, hgb, hfar⟩)
   clear hlast hch hls hgb hfar
   go_wp2
   go_still_tail 10, Tryz.follows
   rw [World.drew_eq]
   refine wpList_copy_own rfl (.tmp 16) (.tmp 17) 27 27 rfl 5 Tryz.underlying27 Tryz.sizeByte b (3 + s) (64 - s) (64 - s) ⟨g, off, none⟩ (xs.length - k) cap' rfl rfl _ _ hrow (bys t) (by rw [bys_length, htl]; exact HM.out) hsrc (by rw [bys_length]; have := wrow_len 0 0 q last n; have := hwb.len; simp; omega) (bys_oneCell t) ?_
   clear hrow hsrc hsl c67 hwb
   rw [show (goInt (bys t).length) = .int .i64 m by rw [bys_length, htl]; rfl]
   generalize wr.drew.setRow b _ = w1 at hw1 hk1 ⊢
   have d67 : w1.cell? ⟨b, 67, none⟩ = some (.int .i64 n) := by rw [hw1.cell]; exact wrow_size _ _ _ _ _ hw1.len
   have g67 : w1.frozen? ⟨b, 67, none⟩ = false := hw1.frozen 67
   have hw2 := hw1.setN (n + m)
   have hk2 : Kept [b] wr (w1.setCell ⟨b, 67, none⟩ (.int .i64 (n + m : Nat))) := hk1.setCell (by simp) _
   by_cases hfull : s + m = 64
   ·have htm2 : ((n : Int) + (m : Int)).tmod 64 = 0 := by rw [Int.tmod_eq_emod_of_nonneg (by omega)]; have := HSn.out; omega
    clear hw1 hk1 htm
    have hcast : ((n + m : Nat) : Int) = (n : Int) + (m : Int) := by omega
    rw [hcast] at hw2 hk2
    clear hcast
    go_wp2
    generalize w1.setCell _ _ = w2 at hw2 hk2 ⊢
    clear d67 g67 hcut
    have c2 : w2.cell? ⟨b, 2, none⟩ = some (.pointer q) := by rw [hw2.cell]; rfl
    have f2 : w2.frozen? ⟨b, 2, none⟩ = false := hw2.frozen 2
    have hrg : w2.rangeAt b 3 (bys (splice last s t)) := fun j v hv => by
     rw [hw2.cell, show 3 + j = j + 1 + 1 + 1 by omega]
     simp only [wrow, List.getElem?_cons_succ]
     have hj := (List.getElem?_eq_some_iff.1 hv).1
     rw [List.getElem?_append_left hj]
     exact hv
    have hun := Tryz.underlying121
    have hin : (Tryz.prog.info? 121).map (·.size) = some (bys (splice last s t)).length := by rw [bys_length, hw2.len]; exact Tryz.arr64
    have hcl : (bys (splice last s t)).length = 64 := by rw [bys_length, hw2.len]
    have hoc := bys_oneCell (splice last s t)
    have FIN : Hid (PutRel w ((w2.setCell ⟨b, 2, none⟩ (.pointer (some ⟨w2.heap.size, 0, none⟩))).alloc (.cells (bys (splice last s t) ++ [Value.pointer q]).toArray 182)).drew b bs ys xs (k + m) ao2 (cap' - m) (w2.heap.size :: bs')) := by
     have hbs : b < w2.heap.size := (gs hw2.row).1
     have hzl : (ys ++ xs.take k).length = n := by have := HN.out; simp; omega
     have hk3 : Kept [b] wr ((w2.setCell ⟨b, 2, none⟩ (.pointer (some ⟨w2.heap.size, 0, none⟩))).alloc (.cells (bys (splice last s t) ++ [Value.pointer q]).toArray 182)).drew := ((hk2.setCell (by simp) _).alloc _).drew
     have hw3 : Wb ((w2.setCell ⟨b, 2, none⟩ (.pointer (some ⟨w2.heap.size, 0, none⟩))).alloc (.cells (bys (splice last s t) ++ [Value.pointer q]).toArray 182)).drew b 0 0 (some ⟨w2.heap.size, 0, none⟩) (splice last s t) (n + m) :=
      (hw2.setQ (some ⟨w2.heap.size, 0, none⟩)).kept (l := []) ((Kept.refl [] _).alloc _).drew (by simp)
     have hg3 : ((w2.setCell ⟨b, 2, none⟩ (.pointer (some ⟨w2.heap.size, 0, none⟩))).alloc (.cells (bys (splice last s t) ++ [Value.pointer q]).toArray 182)).drew.heap[w2.heap.size]? = some (.cells (bys (splice last s t) ++ [Value.pointer q]).toArray 182 (0, 0)) := by
      have := heap_alloc_new (w2.setCell ⟨b, 2, none⟩ (.pointer (some ⟨w2.heap.size, 0, none⟩))) (.cells (bys (splice last s t) ++ [Value.pointer q]).toArray 182)
      rw [World.size_setCell] at this
      exact this
     have h1 := wr_full hzl HSn.out (by omega) (by rw [htl]; exact hw3) HX.out.2.2.1.1 HX.out.2.2.1.2 hg3 (HX.out.2.1.kept hk3 (fun g hg => by simp; rintro rfl; exact HR.out.wri.out hg)) HR.out.wri.out (by omega)
     have he : (ys ++ xs.take k) ++ t = ys ++ xs.take (k + m) := by rw [<-HT.out, List.append_assoc, <-List.take_add]
     rw [he] at h1
     show PutRel _ _ _ _ _ _ _ _ _ _
     rw [HA.out]
     exact HR.out.next m hm1 hk3 h1 (fun g hg => by
      simp only [List.mem_cons] at hg
      rcases hg with rfl | hg
      ·exact .inr hk2.size
      ·exact .inl hg)
    have hbs : b < w2.heap.size := (gs hw2.row).1
    have hbp := Tryz.builtPiece (splice last s t) hw2.len q
    have hrg1 : w2.drew.rangeAt b 3 (bys (splice last s t)) := hrg
    refine wp_region_any Tryz.follows ?_
    rw [World.drew_eq]
    (refine wpAny_take (i := 0) (v := ?_) rfl (by kernel_rfl) (by kernel_rfl) (by kernel_rfl) (fun _ _ _ h => h) (Or.inl ⟨by rfl, ?_⟩) ?_; rotate_left; (intro w; go_simp; try (with_reducible rfl)); simp only [zz])
    (refine wpAny_take (i := 1) (v := ?_) rfl (by kernel_rfl) (by kernel_rfl) (by kernel_rfl) (fun _ _ _ h => h) (Or.inl ⟨by rfl, ?_⟩) ?_; rotate_left; (intro w; go_simp; try (with_reducible rfl)); simp only [zz])
    (refine wpAny_take (i := 2) (v := ?_) rfl (by kernel_rfl) (by kernel_rfl) (by kernel_rfl) (fun _ _ _ h => h) (Or.inl ⟨by rfl, ?_⟩) ?_; rotate_left; (intro w; go_simp; try (with_reducible rfl)); simp only [zz])
    (refine wpAny_take (i := 3) (v := ?_) rfl (by kernel_rfl) (by kernel_rfl) (by kernel_rfl) (fun _ _ _ h => h) (Or.inl ⟨by rfl, ?_⟩) ?_; rotate_left; (intro w; go_simp; try (with_reducible rfl)); simp only [zz])
    (refine wpAny_take (i := 5) (v := ?_) rfl (by kernel_rfl) (by kernel_rfl) (by kernel_rfl) (fun _ _ _ h => h) (Or.inl ⟨by rfl, ?_⟩) ?_; rotate_left; (intro w; go_simp; try (with_reducible rfl)); simp only [zz])
    (refine wpAny_take (i := 6) (v := ?_) rfl (by kernel_rfl) (by kernel_rfl) (by kernel_rfl) (fun _ _ _ h => h) (Or.inl ⟨by rfl, ?_⟩) ?_; rotate_left; (intro w; go_simp; try (with_reducible rfl)); simp only [zz])
    (refine wpAny_take (i := 7) (v := ?_) rfl (by kernel_rfl) (by kernel_rfl) (by kernel_rfl) (fun _ _ _ h => h) (Or.inl ⟨by rfl, ?_⟩) ?_; rotate_left; (intro w; go_simp; try (with_reducible rfl)); simp only [zz])
    refine wpAny_all (rs := [4, 8]) (by kernel_rfl) (by decide) (fun j hj => ?_)
    have hj2 : j = 4 ∨ j = 8 := by simpa using hj
    clear hj
    rcases hj2 with rfl | rfl
    ·(refine wpOp_step rfl (fun K hK => ?_); rw [if_pos (by simp [Region.wanted])]; refine wp_load_mid 121 (.tmp 39) rfl b 3 rfl (bys (splice last s t)) _ hrg1 hun rfl hin ?_; refine hK _ _ ?_; clear hK K; try simp only [zz])
     (refine wpAny_all (rs := [8]) (by kernel_rfl) (by decide) (fun j hj => ?_); obtain rfl : j = 8 := (by simpa using hj); clear hj; refine wpOp_step rfl (fun K hK => ?_); rw [if_pos (by simp [Region.wanted])]; go_simp; refine hK _ _ ?_; clear hK K; try simp only [zz])
     (refine wpAny_all (rs := [9]) (by kernel_rfl) (by decide) (fun j hj => ?_); obtain rfl : j = 9 := (by simpa using hj); clear hj; refine wpOp_step rfl (fun K hK => ?_); rw [if_pos (by simp [Region.wanted])]; refine wp_build_at 182 [(0, .tmp 40), (1, .tmp 44)] rfl _ hbp ?_; refine hK _ _ ?_; clear hK K; try simp only [zz])
     (refine wpAny_all (rs := [10]) (by kernel_rfl) (by decide) (fun j hj => ?_); obtain rfl : j = 10 := (by simpa using hj); clear hj; refine wpOp_step rfl (fun K hK => ?_); rw [if_pos (by simp [Region.wanted])]; refine wp_box_at 182 (.tmp 45) rfl _ rfl ?_; refine hK _ _ ?_; clear hK K; try simp only [zz])
     (refine wpAny_all (rs := [11]) (by kernel_rfl) (by decide) (fun j hj => ?_); obtain rfl : j = 11 := (by simpa using hj); clear hj; refine wpOp_step rfl (fun K hK => ?_); rw [if_pos (by simp [Region.wanted])]; go_simp; refine hK _ _ ?_; clear hK K; try simp only [zz])
     (refine wpAny_all (rs := [12]) (by kernel_rfl) (by decide) (fun j hj => ?_); obtain rfl : j = 12 := (by simpa using hj); clear hj; refine wpOp_step rfl (fun K hK => ?_); rw [if_pos (by simp [Region.wanted])]; go_simp; refine hK _ _ ?_; clear hK K; try simp only [zz])
     (refine wpAny_all (rs := [13]) (by kernel_rfl) (by decide) (fun j hj => ?_); obtain rfl : j = 13 := (by simpa using hj); clear hj; refine wpOp_step rfl (fun K hK => ?_); rw [if_pos (by simp [Region.wanted])]; go_simp; refine hK _ _ ?_; clear hK K; try simp only [zz])
     refine wpAny_done (by kernel_rfl) ?_ _
     go_wp2
     exact ⟨⟨k + m, ao2, cap' - m, w2.heap.size :: bs', by rw [show xs.length - k - m = xs.length - (k + m) by omega], FIN.out⟩, by simp only [lenOf]; omega⟩
    ·(refine wpOp_step rfl (fun K hK => ?_); rw [if_pos (by simp [Region.wanted])]; go_simp; refine hK _ _ ?_; clear hK K; try simp only [zz])
     (refine wpAny_all (rs := [4]) (by kernel_rfl) (by decide) (fun j hj => ?_); obtain rfl : j = 4 := (by simpa using hj); clear hj; refine wpOp_step rfl (fun K hK => ?_); rw [if_pos (by simp [Region.wanted])]; refine wp_load_mid 121 (.tmp 39) rfl b 3 rfl (bys (splice last s t)) _ hrg1 hun rfl hin ?_; refine hK _ _ ?_; clear hK K; try simp only [zz])
     (refine wpAny_all (rs := [9]) (by kernel_rfl) (by decide) (fun j hj => ?_); obtain rfl : j = 9 := (by simpa using hj); clear hj; refine wpOp_step rfl (fun K hK => ?_); rw [if_pos (by simp [Region.wanted])]; refine wp_build_at 182 [(0, .tmp 40), (1, .tmp 44)] rfl _ hbp ?_; refine hK _ _ ?_; clear hK K; try simp only [zz])
     (refine wpAny_all (rs := [10]) (by kernel_rfl) (by decide) (fun j hj => ?_); obtain rfl : j = 10 := (by simpa using hj); clear hj; refine wpOp_step rfl (fun K hK => ?_); rw [if_pos (by simp [Region.wanted])]; refine wp_box_at 182 (.tmp 45) rfl _ rfl ?_; refine hK _ _ ?_; clear hK K; try simp only [zz])
     (refine wpAny_all (rs := [11]) (by kernel_rfl) (by decide) (fun j hj => ?_); obtain rfl : j = 11 := (by simpa using hj); clear hj; refine wpOp_step rfl (fun K hK => ?_); rw [if_pos (by simp [Region.wanted])]; go_simp; refine hK _ _ ?_; clear hK K; try simp only [zz])
     (refine wpAny_all (rs := [12]) (by kernel_rfl) (by decide) (fun j hj => ?_); obtain rfl : j = 12 := (by simpa using hj); clear hj; refine wpOp_step rfl (fun K hK => ?_); rw [if_pos (by simp [Region.wanted])]; go_simp; refine hK _ _ ?_; clear hK K; try simp only [zz])
     (refine wpAny_all (rs := [13]) (by kernel_rfl) (by decide) (fun j hj => ?_); obtain rfl : j = 13 := (by simpa using hj); clear hj; refine wpOp_step rfl (fun K hK => ?_); rw [if_pos (by simp [Region.wanted])]; go_simp; refine hK _ _ ?_; clear hK K; try simp only [zz])
     refine wpAny_done (by kernel_rfl) ?_ _
     go_wp2
     exact ⟨⟨k + m, ao2, cap' - m, w2.heap.size :: bs', by rw [show xs.length - k - m = xs.length - (k + m) by omega], FIN.out⟩, by simp only [lenOf]; omega⟩
   ·have htm2 : ((n : Int) + (m : Int)).tmod 64 = ((s + m : Nat) : Int) := by rw [Int.tmod_eq_emod_of_nonneg (by omega)]; have := HSn.out; omega
    have hz : (((s + m : Nat) : Int) == 0) = false := by simp; omega
    clear hw1 hk1 htm
    have hcast : ((n + m : Nat) : Int) = (n : Int) + (m : Int) := by omega
    rw [hcast] at hw2 hk2
    clear hcast
    go_wp2
    have hzl : (ys ++ xs.take k).length = n := by have := HN.out; simp; omega
    have hW2 : Wr (w1.setCell ⟨b, 67, none⟩ (.int .i64 ((n : Int) + (m : Int)))) b bs' (ys ++ xs.take (k + m)) := by
     have h1 := wr_part (W2 := w1.setCell ⟨b, 67, none⟩ (.int .i64 ((n : Int) + (m : Int)))) hzl HSn.out (by omega) (by rw [htl]; exact hw2) HX.out.2.2.1.1 (HX.out.2.1.kept hk2 (fun g hg => by simp; rintro rfl; exact HR.out.wri.out hg)) HR.out.wri.out
     rw [<-HT.out, List.append_assoc, <-List.take_add] at h1
     exact h1
    exact ⟨⟨k + m, ao2, cap' - m, bs', by rw [show xs.length - k - m = xs.length - (k + m) by omega], by rw [HA.out]; exact HR.out.next m hm1 hk2 hW2 (fun g hg => .inl hg)⟩, by simp only [lenOf]; omega⟩
end

section
theorem Wr.cell0 {w : World} {b : Nat} {bs : List Nat} {xs : List UInt8} (h : Wr w b bs xs) : w.cell? ⟨b, 0, none⟩ = some (.int .i64 0) := by
 obtain ⟨q, last, h1, _, _⟩ := h.ex; rw [h1.cell]; rfl
theorem Wr.cell67 {w : World} {b : Nat} {bs : List Nat} {xs : List UInt8} (h : Wr w b bs xs) : w.cell? ⟨b, 67, none⟩ = some (.int .i64 xs.length) := by
 obtain ⟨q, last, h1, _, _⟩ := h.ex; rw [h1.cell]; exact wrow_size _ _ _ _ _ h1.len
theorem Wr.frozen {w : World} {b : Nat} {bs : List Nat} {xs : List UInt8} (h : Wr w b bs xs) (j : Nat) : w.frozen? ⟨b, j, none⟩ = false := by
 obtain ⟨q, last, h1, _, _⟩ := h.ex; exact h1.frozen j
theorem Wr.lt {w : World} {b : Nat} {bs : List Nat} {xs : List UInt8} (h : Wr w b bs xs) : b < w.heap.size := World.block_lt_of_cell? _ _ h.cell0
theorem Wr.alloc {w : World} {b : Nat} {bs : List Nat} {xs : List UInt8} (h : Wr w b bs xs) (o : Obj) : Wr (w.alloc o) b bs xs := h.kept ((Kept.refl [] w).alloc o) (by simp) (by simp)
theorem Wr.drewN {w : World} {b : Nat} {bs : List Nat} {xs : List UInt8} (h : Wr w b bs xs) (n : Nat) : Wr (w.drewN n) b bs xs := h.kept ((Kept.refl [] w).drewN n) (by simp) (by simp)
def Wrote (w w' : World) (b : Nat) (bs : List Nat) (xs : List UInt8) : Prop :=
 ∃ bs', Wr w' b bs' xs ∧ Kept [b] w w' ∧ ∀ g, g ∈ bs' -> g ∈ bs ∨ w.heap.size <= g
theorem Wrote.trans {w w1 w2 : World} {b : Nat} {bs bs1 : List Nat} {xs : List UInt8} (hk : Kept [b] w w1) (hs : ∀ g, g ∈ bs1 -> g ∈ bs ∨ w.heap.size <= g) (h : Wrote w1 w2 b bs1 xs) : Wrote w w2 b bs xs := by
 obtain ⟨bs', h1, h2, h3⟩ := h
 refine ⟨bs', h1, hk.tr h2, fun g hg => ?_⟩
 rcases h3 g hg with h | h
 ·exact hs g h
 ·exact .inr (Nat.le_trans hk.size h)
theorem put_one (b : Nat) (bs : List Nat) (ys : List UInt8) (c : UInt8) (g : Nat) (w : World) (hW : Wr w b bs ys) (hc : w.cell? ⟨g, 0, none⟩ = some (.int .u8 c.toNat)) (hg : g ≠ b) (hsum : ys.length < 140737488355328) :
  Calls Tryz.prog 104 #[.pointer (some ⟨b, 0, none⟩), .slice (some ⟨g, 0, none⟩) 1 1] w fun e w' => e = .returned (.tuple #[]) ∧ Wrote w w' b bs (ys ++ [c]) :=
 put_any b bs ys [c] (some ⟨g, 0, none⟩) 1 w hW (Sl.of (fun i hi => by
  obtain rfl : i = 0 := by simpa using hi
  simpa using hc)) (by rintro a ⟨⟩; exact hg) (by simp) (by simp; omega)
theorem wclosed_ok (b : Nat) (w : World) (h0 : w.cell? ⟨b, 0, none⟩ = some (.int .i64 0)) :
  Calls Tryz.prog 102 #[.pointer (some ⟨b, 0, none⟩)] w fun e w' => e = .returned (.bool false) ∧ w' = w := by
 go_enter Tryz.func102, Tryz.ntmps102
 go_wp2
 go_ret
 exact ⟨rfl, rfl⟩
theorem wnumber_ok {b : Nat} {bs : List Nat} {ys : List UInt8} {w : World} (hW : Wr w b bs ys) (v : Nat) (hv : v <= 2147483647) (hsum : ys.length + 5 <= 140737488355328) :
  Calls Tryz.prog 72 #[.pointer (some ⟨b, 0, none⟩), .int .i64 v] w fun e w' => e = .returned (.tuple #[]) ∧ Wrote w w' b bs (ys ++ Pure.enc v) := by
 have h0 := hW.cell0
 have H := (show Hid _ from hW)
 clear hW
 have hel := Pure.enc_len5 hv
 go_enter Tryz.func72, Tryz.ntmps72
 go_wp2_with (go_at_call 102; refine (wclosed_ok _ _ h0).mono ?_; rintro e w' ⟨rfl, hw⟩; obtain rfl := hw.symm)
 go_loopw [1] (fun x wr => ∃ (n : Nat) (zs : List UInt8) (bs' : List Nat), x = .int .i64 n ∧ n <= 2147483647 ∧ Hid (ys ++ Pure.enc v = zs ++ Pure.enc n) ∧ zs.length + (Pure.enc n).length <= ys.length + 5 ∧ Hid (Wr wr b bs' zs ∧ Kept [b] w wr ∧ ∀ g, g ∈ bs' -> g ∈ bs ∨ w.heap.size <= g)) (fun x wr => (intOf x).toNat)
 case atStart => exact ⟨v, ys, bs, rfl, hv, rfl, by omega, H.out, Kept.refl _ _, fun g hg => .inl hg⟩
 case round =>
  clear H h0
  obtain ⟨n, zs, bs', rfl, hn, HE, hlen, HW⟩ := hrel
  by_cases h128 : n < 128
  ·have hg128 : ¬ ((128 : Int) <= (n : Int)) := by omega
   have HC : Hid (Pure.enc n = [UInt8.ofNat n]) := Pure.enc_small h128
   have hl1 : zs.length + 1 <= ys.length + 5 := by rw [HC.out] at hlen; simpa using hlen
   clear hlen
   have hcell : (wr.alloc (.cells #[.int .u8 (n : Int)] 5)).cell? ⟨wr.heap.size, 0, none⟩ = some (.int .u8 ((UInt8.ofNat n).toNat : Nat)) := by
    rw [World.cell?_alloc_new, Pure.toNat_ofNat_small (by omega)]; rfl
   go_wp2_with (fail)
   refine (put_one b bs' zs (UInt8.ofNat n) wr.heap.size _ (HW.out.1.alloc _) hcell (by have := HW.out.1.lt; omega) (by omega)).mono ?_
   rintro e w2 ⟨rfl, hwr⟩
   clear hcell
   have hfin : Hid (Wrote w w2 b bs (ys ++ Pure.enc v)) := by
    show Wrote _ _ _ _ _
    rw [HE.out, HC.out]
    exact Wrote.trans (HW.out.2.1.alloc _) HW.out.2.2 hwr
   clear hwr HW
   go_wp2
   go_end0
   exact ⟨rfl, hfin.out⟩
  ·have HC : Hid (Pure.enc n = UInt8.ofNat (n % 128 + 128) :: Pure.enc (n / 128)) := Pure.enc_more h128
   have hl1 : zs.length + 1 + (Pure.enc (n / 128)).length <= ys.length + 5 := by rw [HC.out] at hlen; simp at hlen; omega
   clear hlen
   have hcell : (wr.alloc (.cells #[.int .u8 ((n : Int) % 128 + 128)] 5)).cell? ⟨wr.heap.size, 0, none⟩ = some (.int .u8 ((UInt8.ofNat (n % 128 + 128)).toNat : Nat)) := by
    rw [World.cell?_alloc_new, Pure.toNat_ofNat_small (by omega)]; rfl
   go_wp2_with (fail)
   refine (put_one b bs' zs (UInt8.ofNat (n % 128 + 128)) wr.heap.size _ (HW.out.1.alloc _) hcell (by have := HW.out.1.lt; omega) (by omega)).mono ?_
   rintro e w2 ⟨rfl, hwr⟩
   clear hcell
   obtain ⟨bs2, hw2, hk2, hs2⟩ := hwr
   have hfin : Hid (Wr w2 b bs2 (zs ++ [UInt8.ofNat (n % 128 + 128)]) ∧ Kept [b] w w2 ∧ ∀ g, g ∈ bs2 -> g ∈ bs ∨ w.heap.size <= g) := by
    refine ⟨hw2, (HW.out.2.1.alloc _).tr hk2, fun g hg => ?_⟩
    rcases hs2 g hg with h | h
    ·exact HW.out.2.2 g h
    ·exact .inr (Nat.le_trans (HW.out.2.1.alloc _).size h)
   clear hw2 hk2 hs2 HW
   go_wp2
   go_roundw
   case rel => exact ⟨n / 128, zs ++ [UInt8.ofNat (n % 128 + 128)], bs2, by go_num, by omega, by show _ = _; rw [HE.out, HC.out]; simp, by simp; omega, hfin⟩
   case measure => simp [intOf]; omega
end

section
structure DataRel (w wr : World) (n : Nat) (xs : List UInt8) (k : Nat) (q : Option Addr) : Prop where
 ch : ∃ bs, Chain w q bs (xs.take k)
 le : k <= n
 row : ∃ R : List Value, wr.heap[w.heap.size]? = some (.cells R.toArray 5 (0, 0)) ∧ R.length = n ∧ R.drop k = bys (xs.drop k)
 below : Below w.heap.size w wr
theorem Chain.inv {w : World} {q : Option Addr} {bs : List Nat} {zs : List UInt8} (h : Chain w q bs zs) :
  (q = none ∧ zs = []) ∨ ∃ g q' bs' zs' p, q = some ⟨g, 0, none⟩ ∧ zs = zs' ++ p ∧ p.length = 64 ∧ w.heap[g]? = some (.cells (bys p ++ [Value.pointer q']).toArray 182 (0, 0)) ∧ Chain w q' bs' zs' := by
 cases h with
 | nil => exact .inl ⟨rfl, rfl⟩
 | cons hp hg hc => exact .inr ⟨_, _, _, _, _, rfl, rfl, hp, hg, hc⟩
theorem splice_drop {α : Type} (L cs : List α) (o k : Nat) (h : o + cs.length = k) (hk : k <= L.length) : (splice L o cs).drop o = cs ++ L.drop k ∧ (splice L o cs).length = L.length := by
 subst h
 refine ⟨?_, length_splice _ _ _ hk⟩
 unfold splice
 rw [List.drop_append, List.drop_eq_nil_of_le (by rw [List.length_take]; exact Nat.min_le_left _ _), List.length_take, Nat.min_eq_left (by omega)]
 simp
theorem wdata_own {b : Nat} {bs : List Nat} {xs : List UInt8} {w : World} (hW : Wr w b bs xs) (hsum : xs.length <= 140737488355328) :
  Calls Tryz.prog 106 #[.pointer (some ⟨b, 0, none⟩)] w fun e w' => ∃ ao cap, e = .returned (.tuple #[.slice ao xs.length cap, .int .i64 0]) ∧ Fresh w w' ao cap xs ∧ ao ≠ none ∧ Kept [] w w' ∧ w'.ownsRow w.heap.size 5 1 (.slice ao xs.length cap) xs.length (bys xs) := by
 have h0 := hW.cell0
 have h67 := hW.cell67
 have hbw := hW.lt
 obtain ⟨i0, hi, hz0, hz1, hz2⟩ := info_parts Tryz.infoByte
 obtain ⟨q, last, hwb, hlast, hch⟩ := hW.ex
 obtain ⟨n, hn⟩ := nm (xs.length)
 have hnx := hn
 rw [hn] at h67 hsum hwb hlast hch ⊢
 have HN : Hid (xs.length = n) := hn
 clear hn
 obtain ⟨s, hs⟩ := nm (n % 64)
 rw [hs] at hlast hch
 have hs64 : s < 64 := by omega
 have htm : (n : Int).tmod 64 = (s : Int) := by rw [Int.tmod_eq_emod_of_nonneg (by omega)]; omega
 have HSn : Hid (n % 64 = s) := hs
 have hsn : s <= n := by omega
 clear hs hnx
 have HX := (show Hid (_ ∧ _ ∧ _) from ⟨hwb, hlast, hch⟩)
 clear hwb hlast hch hW
 go_enter Tryz.func106, Tryz.ntmps106
 go_wp2_with (first | (go_at_call 102; refine (wclosed_ok _ _ h0).mono ?_; rintro e w' ⟨rfl, hw⟩; obtain rfl := hw.symm) | (at_make; refine wpList_make_full _ rfl _ _ 27 rfl w.heap.size 5 i0 (.int .u8 0) 1 Tryz.underlying27 hi hz0 hz1 .i64 .i64 n n n rfl rfl rfl rfl ?c1 ?c2 ?c3 ?_))
 case c1 => rw [hz2]; omega
 case c2 => unfold maxLen; omega
 case c3 => exact Nat.le_refl _
 intro w1 hown hgrow
 have hB1 : Below w.heap.size w w1 := (Below.refl _ _).grown hgrow (Nat.le_refl _) (by simp)
 obtain ⟨C, hClen, hrow⟩ : ∃ C : List Value, C.length = n ∧ w1.heap[w.heap.size]? = some (.cells C.toArray 5 (0, 0)) := by
  rcases hown.2 with ⟨h, _⟩ | ⟨g, cap, cur, hv, _, hg, _, _, hsz, _⟩
  ·cases h
  ·cases hv
   exact ⟨cur.toList, by simpa using hsz, by simpa using hg⟩
 clear hown hgrow
 have hb1 : w1.cell? ⟨b, 67, none⟩ = some (.int .i64 n) := (hB1.cell (p := ⟨b, 67, none⟩) hbw).trans h67
 have hq1 : w1.cell? ⟨b, 2, none⟩ = some (.pointer q) := (hB1.cell (p := ⟨b, 2, none⟩) hbw).trans (by rw [HX.out.1.cell]; rfl)
 have hsz1 : w.heap.size < w1.heap.size := (gs hrow).1
 clear h67
 go_wp2
 go_quiet (fail)
 obtain ⟨ao2, hao2⟩ : ∃ ao2, ao2 = (if n = n - s then some (⟨w.heap.size, 0, none⟩ : Addr) else some ⟨w.heap.size, 0 + (n - s), none⟩) := ⟨_, rfl⟩
 have hcut : ∀ W, (Instr.slice 27 (.slice (some ⟨w.heap.size, 0, none⟩) n n) (some (.int .i64 ((n : Int) - (s : Int)))) none none).run Tryz.prog W = .ok (.slice ao2 s s) W := fun W => by
  rw [hao2, show ((n : Int) - (s : Int)) = ((n - s : Nat) : Int) by omega]
  have := Tryz.cutFrom W none w.heap.size 0 n n (n - s) (by omega)
  rw [show n - (n - s) = s by omega] at this
  exact this
 have HA : Hid (ao2 = (if n = n - s then some (⟨w.heap.size, 0, none⟩ : Addr) else some ⟨w.heap.size, 0 + (n - s), none⟩)) := hao2
 clear hao2
 have hall := fun W => Tryz.slice64all W b 3
 obtain ⟨w2, hw2⟩ : ∃ w2, w2 = w1.drewN nq := ⟨_, rfl⟩
 have hB2 : Below w.heap.size w w2 := by rw [hw2]; exact ⟨hB1.os, hB1.tape, hB1.output, hB1.size, hB1.block⟩
 have hrow2 : w2.heap[w.heap.size]? = some (.cells C.toArray 5 (0, 0)) := by rw [hw2]; exact hrow
 have hq2 : w2.cell? ⟨b, 2, none⟩ = some (.pointer q) := by rw [hw2]; exact hq1
 rw [<-hw2]
 clear hw2 hB1 hrow hb1 hq1 hsz1
 go_wp2
 go_still_tail 7, Tryz.follows
 rw [World.drew_eq]
 obtain ⟨cs, hcs⟩ : ∃ cs, cs = bys (last.take s) := ⟨_, rfl⟩
 have hcsl : cs.length = s := by rw [hcs, bys_length, List.length_take, HX.out.1.len]; omega
 refine wpList_copy_splice rfl (.tmp 26) (.tmp 30) 27 27 rfl 5 Tryz.underlying27 Tryz.sizeByte ao2 (some ⟨b, 3, none⟩) s s 64 64 rfl rfl w.heap.size (n - s) C 5 hrow2 cs (by rw [hcsl]; simp only [Nat.min_def]; split <;> omega) ?k1 (by rw [hcsl]; omega) (by rw [hcs]; exact bys_oneCell _) w.heap.size w hB2.drew (Nat.le_refl _) ?_
 case k1 =>
  intro hpos
  rw [HA.out, if_neg (by omega)]
  refine ⟨by simp, ⟨b, 3, none⟩, rfl, fun j u hu => ?_⟩
  rw [hcs] at hu
  obtain ⟨hj, rfl⟩ := bys_get hu
  rw [Addr.add_mid, World.cell?_drew, hB2.cell (p := ⟨b, 3 + j, none⟩) hbw, HX.out.1.cell, show 3 + j = j + 1 + 1 + 1 by omega]
  simp only [wrow, List.getElem?_cons_succ]
  have hjl : j < last.length := by simp at hj; omega
  rw [List.getElem?_append_left (by rw [bys_length]; exact hjl), bys_at hjl]
  simp at hj
  simp [show j < s by omega]
 intro w3 hR3 hB3
 have hq3 : w3.cell? ⟨b, 2, none⟩ = some (.pointer q) := (hB3.cell (p := ⟨b, 2, none⟩) hbw).trans (by rw [HX.out.1.cell]; rfl)
 have HI : Hid (DataRel w w3 n xs (n - s) q) := by
  refine ⟨⟨bs, HX.out.2.2⟩, by omega, ⟨_, hR3.out, ?_, ?_⟩, hB3⟩
  ·rw [(splice_drop C cs (n - s) n (by omega) (by omega)).2]; exact hClen
  ·rw [(splice_drop C cs (n - s) n (by omega) (by omega)).1, List.drop_of_length_le (by omega), List.append_nil, hcs, HX.out.2.1]
 clear hR3 hB3 hrow2 hB2 hq2 hcs hcsl hcut hall HA htm
 go_wp2
 have hcast : ((n : Int) - (s : Int)) = ((n - s : Nat) : Int) := by omega
 rw [hcast]
 clear hcast hq3
 go_loopw [5, 6] (fun x y wr => ∃ (k : Nat) (q' : Option Addr), x = .int .i64 k ∧ y = .pointer q' ∧ Hid (DataRel w wr n xs k q')) (fun x y wr => (intOf x).toNat)
 case atStart => exact ⟨n - s, q, rfl, rfl, HI⟩
 case round =>
  clear HI
  obtain ⟨k, q', rfl, rfl, HR⟩ := hrel
  have hkn := HR.out.le
  obtain ⟨bs', hch⟩ := HR.out.ch
  obtain ⟨R, hrow, hRl, hRd⟩ := HR.out.row
  rcases hch.inv with ⟨rfl, hz⟩ | ⟨g, q2, bs2, zs, p, rfl, hz, hp, hg, hc2⟩
  ·have hk0 : k = 0 := by
    have := congrArg List.length hz
    rw [List.length_take, HN.out, List.length_nil] at this
    omega
   have hfin : Hid (Fresh w wr (some ⟨w.heap.size, 0, none⟩) n xs ∧ Kept [] w wr ∧ wr.ownsRow w.heap.size 5 1 (.slice (some ⟨w.heap.size, 0, none⟩) n n) n (bys xs)) := by
    subst hk0
    simp only [List.drop_zero] at hRd
    refine ⟨⟨Sl.of fun i hi => ?_, by rw [HN.out]; exact Nat.le_refl _, by simp, fun a ha => by cases ha; exact ⟨Nat.le_refl _, (gs hrow).1, rfl⟩⟩, Kept.of_below HR.out.below, by rw [bys_length, HN.out]; omega, .inr ⟨_, n, _, rfl, Nat.le_refl _, hrow, Nat.le_refl _, by unfold maxLen; omega, by simp [hRl], by rw [hRd, List.take_of_length_le (by rw [bys_length, HN.out]; omega)]⟩⟩
    rw [cell_of_row wr _ _ _ _ _ hrow, hRd]
    simpa using bys_at hi
   clear hrow hRl hRd hch hz HR hk0
   go_wp2
   go_ret2
   exact ⟨some ⟨w.heap.size, 0, none⟩, n, rfl, hfin.out.1, by simp, hfin.out.2.1, hfin.out.2.2⟩
  ·have hlen : zs.length + 64 = k := by
    have := congrArg List.length hz
    rw [List.length_take, HN.out, List.length_append, hp] at this
    omega
   obtain ⟨m, hm⟩ := nm (zs.length)
   rw [hm] at hlen
   have hmn : m + 64 <= n := by omega
   have hgw : g < w.heap.size := (gs hg).1
   have hgc : ∀ j, w.cell? ⟨g, j, none⟩ = (bys p ++ [Value.pointer q2])[j]? := fun j => by rw [cell_of_row w g j _ _ _ hg]; simp
   have hzs : zs = xs.take m := by
    have h1 : (xs.take k).take m = zs := by
     rw [hz, List.take_append_of_le_length (by omega), List.take_of_length_le (by omega)]
    rw [List.take_take, Nat.min_eq_left (by omega)] at h1
    exact h1.symm
   have hpd : p ++ xs.drop k = xs.drop m := by
    have h1 : xs = xs.take m ++ (p ++ xs.drop k) := by
     rw [<-List.append_assoc, <-hzs, <-hz, List.take_append_drop]
    have h2 := congrArg (List.drop m) h1
    rw [List.drop_append_of_le_length (by simp; have := HN.out; omega), List.drop_of_length_le (l := xs.take m) (by simp; omega), List.nil_append] at h2
    exact h2.symm
   have hcut : ∀ W, (Instr.slice 27 (.slice (some ⟨w.heap.size, 0, none⟩) n n) (some (.int .i64 ((k : Int) - 64))) none none).run Tryz.prog W = .ok (.slice (some ⟨w.heap.size, m, none⟩) (n - m) (n - m)) W := fun W => by
    rw [show ((k : Int) - 64) = (m : Int) by omega]
    have := Tryz.cutFrom W none w.heap.size 0 n n m (by omega)
    rw [if_neg (by omega), Nat.zero_add] at this
    exact this
   have hall := fun W => Tryz.slice64all W g 0
   have hB := HR.out.below
   have HZ := (show Hid (_ ∧ _ ∧ _ ∧ _) from ⟨hRd, hpd, hzs, hc2⟩)
   have HL : Hid (m + 64 = k) := hlen
   have hk64 : 64 <= k := by omega
   clear hRd hpd hzs hc2 hz hch HR hlen hm
   go_wp2
   go_still_tail 7, Tryz.follows
   rw [World.drew_eq]
   refine wpList_copy_splice rfl (.tmp 46) (.tmp 50) 27 27 rfl 5 Tryz.underlying27 Tryz.sizeByte (some ⟨w.heap.size, m, none⟩) (some ⟨g, 0, none⟩) (n - m) (n - m) 64 64 rfl rfl w.heap.size m R 5 hrow (bys p) (by rw [bys_length, hp]; simp only [Nat.min_def]; split <;> omega) ?k2 (by rw [bys_length, hp]; omega) (bys_oneCell _) w.heap.size w hB.drew (Nat.le_refl _) ?_
   case k2 =>
    intro hpos
    refine ⟨rfl, ⟨g, 0, none⟩, rfl, fun j u hu => ?_⟩
    rw [Addr.add_mid, World.cell?_drew, hB.cell (p := ⟨g, 0 + j, none⟩) hgw, hgc, Nat.zero_add, List.getElem?_append_left (List.getElem?_eq_some_iff.1 hu).1]
    exact hu
   intro w4 hR4 hB4
   have hq4 : w4.cell? ⟨g, 64, none⟩ = some (.pointer q2) := by
    rw [hB4.cell (p := ⟨g, 64, none⟩) hgw, hgc, List.getElem?_append_right (by rw [bys_length]; omega), bys_length, hp]
    rfl
   have HN4 : Hid (DataRel w w4 n xs m q2) := by
    have hl := HL.out
    refine ⟨⟨bs2, by rw [<-HZ.out.2.2.1]; exact HZ.out.2.2.2⟩, by omega, ⟨_, hR4.out, ?_, ?_⟩, hB4⟩
    ·rw [(splice_drop R (bys p) m k (by rw [bys_length, hp]; exact hl) (by omega)).2]; exact hRl
    ·rw [(splice_drop R (bys p) m k (by rw [bys_length, hp]; exact hl) (by omega)).1, HZ.out.1, <-bys_append, HZ.out.2.1]
   clear hR4 hB4 hrow hB hcut hall hgc hg
   go_wp2
   go_roundw
   case rel => exact ⟨m, q2, by have := HL.out; go_num, rfl, HN4⟩
   case measure => have := HL.out; simp [intOf]; omega
end

section
theorem wfixed_ok {b : Nat} {bs : List Nat} {ys : List UInt8} {w : World} (hW : Wr w b bs ys) (v n : Nat) (hn1 : 1 <= n) (hn4 : n <= 4) (hv : v < 256 ^ n) (hsum : ys.length + 4 <= 140737488355328) :
  Calls Tryz.prog 71 #[.pointer (some ⟨b, 0, none⟩), .int .i64 v, .int .i64 n] w fun e w' => e = .returned (.tuple #[]) ∧ Wrote w w' b bs (ys ++ Pure.fix v n) := by
 have h0 := hW.cell0
 have H := (show Hid _ from hW)
 clear hW
 have hz0 : v / 2 ^ (8 * n) = 0 := Nat.div_eq_of_lt (by rw [Nat.pow_mul]; exact hv)
 have hz : ((v : Int) / 2 ^ (8 * n) != 0) = false := by
  have : ((v : Int) / 2 ^ (8 * n)) = ((v / 2 ^ (8 * n) : Nat) : Int) := by simp
  rw [this, hz0]; rfl
 have d1 : decide ((n : Int) < 1) = false := by simp; omega
 have d2 : decide (4 < (n : Int)) = false := by simp; omega
 have d3 : decide ((v : Int) < 0) = false := by simp
 have HV : Hid (v < 256 ^ n) := hv
 clear hz0 hv
 go_enter Tryz.func71, Tryz.ntmps71
 go_wp2_with (go_at_call 102; refine (wclosed_ok _ _ h0).mono ?_; rintro e w' ⟨rfl, hw⟩; obtain rfl := hw.symm)
 go_loopw [6] (fun x wr => ∃ (k : Nat) (zs : List UInt8) (bs' : List Nat), x = .int .i64 ((k : Int) - 1) ∧ k <= n ∧ Hid (ys ++ Pure.fix v n = zs ++ Pure.fix v k) ∧ zs.length + k <= ys.length + 4 ∧ Hid (Wr wr b bs' zs ∧ Kept [b] w wr ∧ ∀ g, g ∈ bs' -> g ∈ bs ∨ w.heap.size <= g)) (fun x wr => (intOf x + 1).toNat)
 case atStart => exact ⟨n, ys, bs, rfl, Nat.le_refl _, rfl, by omega, H.out, Kept.refl _ _, fun g hg => .inl hg⟩
 case round =>
  clear H h0
  obtain ⟨k, zs, bs', rfl, hk, HE, hlen, HW⟩ := hrel
  cases k with
  | zero =>
   have hfin : Hid (Wrote w wr b bs (ys ++ Pure.fix v n)) := by
    show Wrote _ _ _ _ _
    rw [HE.out]
    simp only [Pure.fix, List.append_nil]
    exact ⟨bs', HW.out⟩
   clear HW
   go_wp2
   go_end0
   exact ⟨rfl, hfin.out⟩
  | succ j =>
   rw [show (((j + 1 : Nat) : Int) - 1) = (j : Int) by omega]
   have HC : Hid (Pure.fix v (j + 1) = UInt8.ofNat (v / 256 ^ j % 256) :: Pure.fix v j) := rfl
   have hcell : (wr.alloc (.cells #[.int .u8 ((v : Int) / 2 ^ (8 * j) % 256)] 5)).cell? ⟨wr.heap.size, 0, none⟩ = some (.int .u8 ((UInt8.ofNat (v / 256 ^ j % 256)).toNat : Nat)) := by
    rw [World.cell?_alloc_new, Pure.toNat_ofNat_small (by omega)]
    have : ((v : Int) / 2 ^ (8 * j) % 256) = ((v / 256 ^ j % 256 : Nat) : Int) := by
     rw [show (256 : Nat) ^ j = 2 ^ (8 * j) by rw [Nat.pow_mul]]
     simp
    rw [this]; rfl
   go_wp2_with (fail)
   refine (put_one b bs' zs (UInt8.ofNat (v / 256 ^ j % 256)) wr.heap.size _ (HW.out.1.alloc _) hcell (by have := HW.out.1.lt; omega) (by omega)).mono ?_
   rintro e w2 ⟨rfl, hwr⟩
   clear hcell
   obtain ⟨bs2, hw2, hk2, hs2⟩ := hwr
   have hfin : Hid (Wr w2 b bs2 (zs ++ [UInt8.ofNat (v / 256 ^ j % 256)]) ∧ Kept [b] w w2 ∧ ∀ g, g ∈ bs2 -> g ∈ bs ∨ w.heap.size <= g) := by
    refine ⟨hw2, (HW.out.2.1.alloc _).tr hk2, fun g hg => ?_⟩
    rcases hs2 g hg with h | h
    ·exact HW.out.2.2 g h
    ·exact .inr (Nat.le_trans (HW.out.2.1.alloc _).size h)
   clear hw2 hk2 hs2 HW
   go_wp2
   go_roundw
   case rel => exact ⟨j, zs ++ [UInt8.ofNat (v / 256 ^ j % 256)], bs2, by go_num, by omega, by show _ = _; rw [HE.out, HC.out]; simp, by simp; omega, hfin⟩
   case measure => simp [intOf]
end

section
theorem wraw_ok {b : Nat} {bs : List Nat} {ys : List UInt8} {w : World} (hW : Wr w b bs ys) (ao : Option Addr) (n cap : Nat) (xs : List UInt8) (hn : xs.length = n) (hs : Sl w ao xs) (hfar : ∀ a, ao = some a -> a.block ≠ b) (hlc : xs.length <= cap) (hsum : ys.length + xs.length <= 140737488355328) :
  Calls Tryz.prog 73 #[.pointer (some ⟨b, 0, none⟩), .slice ao n cap] w fun e w' => e = .returned (.tuple #[]) ∧ Wrote w w' b bs (ys ++ xs) := by
 subst hn
 have h0 := hW.cell0
 have H := (show Hid _ from hW)
 have HS : Hid (Sl w ao xs) := hs
 have HF := (show Hid _ from hfar)
 clear hW hs hfar
 go_enter Tryz.func73, Tryz.ntmps73
 go_wp2_with (first | (go_at_call 102; refine (wclosed_ok _ _ h0).mono ?_; rintro e w' ⟨rfl, hw⟩; obtain rfl := hw.symm) | (go_at_call 104; refine (put_any b bs ys xs ao cap _ H.out HS.out HF.out hlc hsum).mono ?_; rintro e w2 ⟨rfl, hwr⟩))
 go_end0
 exact ⟨rfl, hwr⟩
theorem wtext_ok {b : Nat} {bs : List Nat} {ys : List UInt8} {w : World} (hW : Wr w b bs ys) (ao : Option Addr) (n cap : Nat) (xs : List UInt8) (hn : xs.length = n) (hs : Sl w ao xs) (hfar : ∀ a, ao = some a -> a.block ≠ b) (hlc : xs.length <= cap) (hsum : ys.length + 5 + xs.length <= 140737488355328) (hmax : xs.length <= 2147483647) :
  Calls Tryz.prog 105 #[.pointer (some ⟨b, 0, none⟩), .slice ao n cap] w fun e w' => e = .returned (.tuple #[]) ∧ Wrote w w' b bs (ys ++ Pure.enc xs.length ++ xs) := by
 have H := (show Hid _ from hW)
 have HS : Hid (Sl w ao xs) := hs
 have HF := (show Hid _ from hfar)
 have hel := Pure.enc_len5 hmax
 clear hW hs hfar
 go_enter Tryz.func105, Tryz.ntmps105
 go_wp2_with (fail)
 rw [<-hn]
 refine (wnumber_ok H.out xs.length hmax (by omega)).mono ?_
 rintro e w1 ⟨rfl, bs1, hw1, hk1, hs1⟩
 have hsl1 := HS.out.kept hk1 (fun _ a ha => by simpa using HF.out a ha)
 have HW1 := (show Hid _ from hw1)
 have HS1 : Hid (Sl w1 ao xs) := hsl1
 clear hw1 hsl1 H
 go_wp2_with (fail)
 refine (wraw_ok HW1.out ao _ cap xs hn HS1.out HF.out hlc (by simp; omega)).mono ?_
 rintro e w2 ⟨rfl, hwr⟩
 have hfin : Hid (Wrote w w2 b bs (ys ++ Pure.enc xs.length ++ xs)) := Wrote.trans hk1 hs1 hwr
 clear hwr
 go_wp2
 go_end0
 exact ⟨rfl, hfin.out⟩
end

end Go.Proofs.YtmklodligplbaabGreat
