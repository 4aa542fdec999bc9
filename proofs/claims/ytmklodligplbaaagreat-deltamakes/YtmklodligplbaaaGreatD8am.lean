import Derived.Test.YtmklodligplbaaaGreatNim
import Derived.Test.YtmklodligplbaaaGreatProg
import Derived.Test.YtmklodligplbaaaGreatMemm
import Derived.Test.YtmklodligplbaaaGreatClonem
import Derived.Deep.MidRow
import Derived.StillTailTactics
import Derived.Deep.RegionHeld3
import Derived.Laws.CopyOwn
import Derived.Deep.QuietTactic
import Derived.BigQuiet
open Go.RowKit
set_option linter.unusedVariables false
set_option linter.unusedSimpArgs false
set_option maxRecDepth 100000
set_option maxHeartbeats 51200000
namespace Go.Proofs.YtmklodligplbaaaGreat
section
namespace Dlt
structure Wk where
 sum : Int
 id : List UInt8
 hid : id.length = 32
 hs : (Lit.int .i64 sum).wf = true
theorem Wk.ext' {a b : Wk} (h1 : a.sum = b.sum) (h2 : a.id = b.id) : a = b := by
 cases a; cases b; simp only at h1 h2; subst h1; subst h2; rfl
structure Sig where
 width : Int
 size : Int
 length : Int
 base : List UInt8
 blocks : List Wk
 hb : base.length = 32
theorem Sig.ext' {a b : Sig} (h1 : a.width = b.width) (h2 : a.size = b.size) (h3 : a.length = b.length) (h4 : a.base = b.base) (h5 : a.blocks = b.blocks) : a = b := by
 cases a; cases b; simp only at h1 h2 h3 h4 h5; subst h1; subst h2; subst h3; subst h4; subst h5; rfl
def wk0 : Wk := ⟨0, List.replicate 32 0, by simp, by decide⟩
def sig0 : Sig := ⟨0, 0, 0, List.replicate 32 0, [], by simp⟩
def within (v lo hi : Int) : Bool := decide (lo <= v) && decide (v <= hi)
def isW (w : Int) : Bool := within w 1 32
def isZ (s : Int) : Bool := within s 16 4096
def nought (w : Nat) (id : List UInt8) : Bool := (id.drop w).all (· == 0)
def okWk (w : Nat) (k : Wk) : Bool := within k.sum 0 4294967295 && nought w k.id
def may (s : Sig) : Bool :=
 isW s.width && isZ s.size && within s.length 0 131072 && decide ((s.blocks.length : Int) = s.length / s.size) && decide (s.blocks.length <= 2048) && s.blocks.all (okWk s.width.toNat) && nought s.width.toNat s.base
theorem within_iff {v lo hi : Int} : within v lo hi = true ↔ lo <= v ∧ v <= hi := by simp [within]
theorem within_no {v lo hi : Int} : within v lo hi = false ↔ v < lo ∨ hi < v := by
 rw [<-Bool.not_eq_true, within_iff]; omega
structure May (s : Sig) : Prop where
 w1 : 1 <= s.width
 w2 : s.width <= 32
 z1 : 16 <= s.size
 z2 : s.size <= 4096
 l1 : 0 <= s.length
 l2 : s.length <= 131072
 cnt : (s.blocks.length : Int) = s.length / s.size
 few : s.blocks.length <= 2048
 bks : ∀ k, k ∈ s.blocks -> 0 <= k.sum ∧ k.sum <= 4294967295 ∧ nought s.width.toNat k.id = true
 bas : nought s.width.toNat s.base = true
theorem may_iff {s : Sig} : may s = true ↔ May s := by
 constructor
 ·intro h
  simp only [may, isW, isZ, Bool.and_eq_true, within_iff, decide_eq_true_eq, List.all_eq_true, okWk] at h
  obtain ⟨⟨⟨⟨⟨⟨⟨a1, a2⟩, a3, a4⟩, a5, a6⟩, a7⟩, a8⟩, a9⟩, a10⟩ := h
  exact ⟨a1, a2, a3, a4, a5, a6, a7, a8, fun k hk => ⟨(a9 k hk).1.1, (a9 k hk).1.2, (a9 k hk).2⟩, a10⟩
 ·intro h
  simp only [may, isW, isZ, Bool.and_eq_true, within_iff, decide_eq_true_eq, List.all_eq_true, okWk]
  exact ⟨⟨⟨⟨⟨⟨⟨h.w1, h.w2⟩, h.z1, h.z2⟩, h.l1, h.l2⟩, h.cnt⟩, h.few⟩, fun k hk => ⟨⟨(h.bks k hk).1, (h.bks k hk).2.1⟩, (h.bks k hk).2.2⟩⟩, h.bas⟩
theorem wf64 {v : Int} (h1 : -9223372036854775808 <= v) (h2 : v <= 9223372036854775807) : (Lit.int .i64 v).wf = true := by
 simp only [Lit.wf, Bool.and_eq_true, decide_eq_true_eq]
 exact ⟨h1, h2⟩
theorem sum_wf (l : List UInt8) : (Lit.int .i64 (Rol.sum l : Nat)).wf = true := by
 have := Rol.sum_lt l
 exact wf64 (by omega) (by omega)
def weak (w : Int) (b : List UInt8) : Wk := ⟨(Rol.sum b : Nat), Sha.ident w b, Sha.ident_len _ _, sum_wf _⟩
def blk (z : Nat) (b : List UInt8) (k : Nat) : List UInt8 := (b.drop (k * z)).take z
def weaks (w : Int) (z : Nat) (b : List UInt8) (n : Nat) : List Wk := (List.range n).map fun k => weak w (blk z b k)
theorem weaks_len (w : Int) (z : Nat) (b : List UInt8) (n : Nat) : (weaks w z b n).length = n := by simp [weaks]
theorem weaks_snoc (w : Int) (z : Nat) (b : List UInt8) (n : Nat) : weaks w z b (n + 1) = weaks w z b n ++ [weak w (blk z b n)] := by simp [weaks, List.range_succ]
def sign (w : Int) (b : List UInt8) (z : Nat) : Sig := ⟨w, z, b.length, Sha.ident w b, weaks w z b (b.length / z), Sha.ident_len _ _⟩
def signE (w : Int) (n : Nat) (z : Int) : Int :=
 if (isW w && isZ z) = false then 1 else if 131072 < n then 2 else if 2048 < (n : Int) / z then 183 else 0
def sealed (xs : List UInt8) : List UInt8 := xs ++ Pure.fix (Pure.sum xs) 4
end Dlt
end

section
def wrow (e p : Int) (q : Option Addr) (last : List UInt8) (n : Nat) : List Value :=
 .int .i64 e :: .int .i64 p :: .pointer q :: (bys last ++ [.int .i64 n])
structure Wb (w : World) (b : Nat) (e p : Int) (q : Option Addr) (last : List UInt8) (n : Nat) : Prop where
 row : w.heap[b]? = some (.cells (wrow e p q last n).toArray 118 (0, 0))
 len : last.length = 64
theorem wrow_len (e p : Int) (q : Option Addr) (last : List UInt8) (n : Nat) : (wrow e p q last n).length = last.length + 4 := by simp [wrow, bys_length]
theorem Wb.cell {w : World} {b : Nat} {e p : Int} {q : Option Addr} {last : List UInt8} {n : Nat} (h : Wb w b e p q last n) (j : Nat) : w.cell? ⟨b, j, none⟩ = (wrow e p q last n)[j]? := by
 rw [cell_of_row w b j _ _ _ h.row]; simp
theorem Wb.frozen {w : World} {b : Nat} {e p : Int} {q : Option Addr} {last : List UInt8} {n : Nat} (h : Wb w b e p q last n) (j : Nat) : w.frozen? ⟨b, j, none⟩ = false := frozen_of_row w b j _ _ h.row
theorem wrow_size (e p : Int) (q : Option Addr) (last : List UInt8) (n : Nat) (h : last.length = 64) : (wrow e p q last n)[67]? = some (.int .i64 n) := by
 simp [wrow, bys_length, h]
theorem Tryz.follows : Tryz.prog.follows .mixedOrders = true := by kernel_rfl
theorem Tryz.slice64 (W : World) (b o s : Nat) (hs : s < 64) :
  (Instr.sliceAt 116 (.pointer (some ⟨b, o, none⟩)) (some (.int .i64 s)) none none).run Tryz.prog W = .ok (.slice (some ⟨b, o + s, none⟩) (64 - s) (64 - s)) W := by
 have ha : Tryz.prog.arrayLen 116 = 64 := by kernel_rfl
 have hz : (sizeOf (Tryz.prog.elem 116)).run Tryz.prog W = .ok 1 W := by kernel_rfl
 have h := run_sliceAt_array_l (P := Tryz.prog) W 116 ⟨b, o, none⟩ (by kernel_rfl) .i64 s (by omega) (by rw [ha]; omega)
 rw [h, hz, ha]
 simp [slicedAt, Addr.add_mid, show 64 ≠ s by omega]
theorem Tryz.slice64all (W : World) (b o : Nat) :
  (Instr.sliceAt 116 (.pointer (some ⟨b, o, none⟩)) none none none).run Tryz.prog W = .ok (.slice (some ⟨b, o, none⟩) 64 64) W := by
 have ha : Tryz.prog.arrayLen 116 = 64 := by kernel_rfl
 have hz : (sizeOf (Tryz.prog.elem 116)).run Tryz.prog W = .ok 1 W := by kernel_rfl
 have h := run_sliceAt_array_all (P := Tryz.prog) W 116 ⟨b, o, none⟩ (by kernel_rfl)
 rw [h, hz, ha]
 simp [slicedAt, Addr.add_mid]
theorem Tryz.cutFrom (W : World) (ao : Option Addr) (g off L cap m : Nat) (hm : m <= L) :
  (Instr.slice 22 (.slice (some ⟨g, off, none⟩) L cap) (some (.int .i64 m)) none none).run Tryz.prog W = .ok (.slice (if cap = m then some ⟨g, off, none⟩ else some ⟨g, off + m, none⟩) (L - m) (cap - m)) W := by
 have hz : (sizeOf (Tryz.prog.elem 22)).run Tryz.prog W = .ok 1 W := by kernel_rfl
 have h := run_slice_l (P := Tryz.prog) W 22 (some ⟨g, off, none⟩) L cap (by kernel_rfl) .i64 m (by omega) (by omega)
 rw [h, hz]
 by_cases hc : cap = m <;> simp [sliced, Addr.add_mid, hc]
theorem Tryz.cutTo (W : World) (ao : Option Addr) (L cap m : Nat) (hm : m <= cap) :
  (Instr.slice 22 (.slice ao L cap) none (some (.int .i64 m)) none).run Tryz.prog W = .ok (.slice ao m cap) W := by
 have hz : (sizeOf (Tryz.prog.elem 22)).run Tryz.prog W = .ok 1 W := by kernel_rfl
 have h := run_slice_h (P := Tryz.prog) W 22 ao L cap (by kernel_rfl) .i64 m (by omega) (by omega)
 rw [h, hz]
 cases ao <;> simp [sliced, Addr.add]
theorem Tryz.arr64 : (Tryz.prog.info? 116).map (·.size) = some 64 := by kernel_rfl
theorem Tryz.built77 (f : Nat -> UInt8) (q : Option Addr) : Tryz.prog.built 172 [(0, .agg (bys ((List.range 64).map f)).toArray), (1, .pointer q)] = some (bys ((List.range 64).map f) ++ [Value.pointer q]).toArray := by kernel_rfl
theorem range_of_len {L : List UInt8} (h : L.length = 64) : (List.range 64).map (fun i => L.getD i 0) = L := by
 apply List.ext_getElem
 ·simp [h]
 ·intro i h1 h2
  simp [List.getElem?_eq_getElem h2]
theorem Tryz.builtPiece (L : List UInt8) (h : L.length = 64) (q : Option Addr) : Tryz.prog.built 172 [(0, .agg (bys L).toArray), (1, .pointer q)] = some (bys L ++ [Value.pointer q]).toArray := by
 have := Tryz.built77 (fun i => L.getD i 0) q
 rwa [range_of_len h] at this
theorem Tryz.sizeByte : (Tryz.prog.info? 5).map (·.size) = some 1 := by kernel_rfl
theorem wrow_splice (e p : Int) (q : Option Addr) (last ys : List UInt8) (n s : Nat) (h : s + ys.length <= last.length) :
  (wrow e p q last n).take (3 + s) ++ (bys ys ++ (wrow e p q last n).drop (3 + s + ys.length)) = wrow e p q (splice last s ys) n := by
 have h1 : (bys last).length = last.length := bys_length _
 have e1 : (wrow e p q last n).take (3 + s) = .int .i64 e :: .int .i64 p :: .pointer q :: bys (last.take s) := by
  rw [show 3 + s = s + 1 + 1 + 1 by omega]
  simp only [wrow, List.take_succ_cons]
  rw [List.take_append_of_le_length (by omega)]
  simp [bys, List.map_take]
 have e2 : (wrow e p q last n).drop (3 + s + ys.length) = bys (last.drop (s + ys.length)) ++ [.int .i64 n] := by
  rw [show 3 + s + ys.length = (s + ys.length) + 1 + 1 + 1 by omega]
  simp only [wrow, List.drop_succ_cons]
  rw [List.drop_append_of_le_length (by omega)]
  simp [bys, List.map_drop]
 rw [e1, e2]
 simp [wrow, splice, bys, List.map_append]
theorem wrow_n (e p : Int) (q : Option Addr) (last : List UInt8) (n m : Nat) (h : last.length = 64) : (wrow e p q last n).set 67 (.int .i64 m) = wrow e p q last m := by
 simp only [wrow, List.set_cons_succ]
 rw [List.set_append_right _ _ (by simp [bys_length, h])]
 simp [bys_length, h]
theorem wrow_q (e p : Int) (q q' : Option Addr) (last : List UInt8) (n : Nat) : (wrow e p q last n).set 2 (.pointer q') = wrow e p q' last n := by
 simp only [wrow, List.set_cons_succ, List.set_cons_zero]
theorem Wb.setN {w : World} {b : Nat} {e p : Int} {q : Option Addr} {last : List UInt8} {n : Nat} (h : Wb w b e p q last n) (m : Nat) : Wb (w.setCell ⟨b, 67, none⟩ (.int .i64 m)) b e p q last m := by
 refine ⟨?_, h.len⟩
 rw [heap_setCell_same w b 67 _ _ _ h.row]
 simp only [List.setIfInBounds_toArray, wrow_n _ _ _ _ _ _ h.len]
theorem Wb.setQ {w : World} {b : Nat} {e p : Int} {q : Option Addr} {last : List UInt8} {n : Nat} (h : Wb w b e p q last n) (q' : Option Addr) : Wb (w.setCell ⟨b, 2, none⟩ (.pointer q')) b e p q' last n := by
 refine ⟨?_, h.len⟩
 rw [heap_setCell_same w b 2 _ _ _ h.row]
 simp only [List.setIfInBounds_toArray, wrow_q]
theorem Wb.kept {l : List Nat} {w w' : World} {b : Nat} {e p : Int} {q : Option Addr} {last : List UInt8} {n : Nat} (h : Wb w b e p q last n) (hk : Kept l w w') (hn : b ∉ l) : Wb w' b e p q last n :=
 ⟨by rw [hk.block b (gs h.row).1 hn]; exact h.row, h.len⟩
inductive Chain (w : World) : Option Addr -> List Nat -> List UInt8 -> Prop
 | nil : Chain w none [] []
 | cons {q : Option Addr} {bs : List Nat} {ys p : List UInt8} {g : Nat} (hp : p.length = 64) (hg : w.heap[g]? = some (.cells (bys p ++ [Value.pointer q]).toArray 172 (0, 0))) (hc : Chain w q bs ys) : Chain w (some ⟨g, 0, none⟩) (g :: bs) (ys ++ p)
theorem Chain.kept {l : List Nat} {w w' : World} {q : Option Addr} {bs : List Nat} {ys : List UInt8} (h : Chain w q bs ys) (hk : Kept l w w') (hn : ∀ g, g ∈ bs -> g ∉ l) : Chain w' q bs ys := by
 induction h with
 | nil => exact .nil
 | cons hp hg hc ih =>
  refine .cons hp ?_ (ih (fun g hg => hn g (by simp [hg])))
  rw [hk.block _ (gs hg).1 (hn _ (by simp))]
  exact hg
theorem Chain.lt {w : World} {q : Option Addr} {bs : List Nat} {ys : List UInt8} (h : Chain w q bs ys) : ∀ g, g ∈ bs -> g < w.heap.size := by
 induction h with
 | nil => simp
 | cons hp hg hc ih =>
  intro g' hg'
  simp only [List.mem_cons] at hg'
  rcases hg' with rfl | hg'
  ·exact (gs hg).1
  ·exact ih g' hg'
structure Wr (w : World) (b : Nat) (bs : List Nat) (xs : List UInt8) : Prop where
 ex : ∃ q last, Wb w b 0 0 q last xs.length ∧ last.take (xs.length % 64) = xs.drop (xs.length - xs.length % 64) ∧ Chain w q bs (xs.take (xs.length - xs.length % 64))
 out : b ∉ bs
theorem Wr.kept {l : List Nat} {w w' : World} {b : Nat} {bs : List Nat} {xs : List UInt8} (h : Wr w b bs xs) (hk : Kept l w w') (hn : b ∉ l) (hs : ∀ g, g ∈ bs -> g ∉ l) : Wr w' b bs xs := by
 obtain ⟨q, last, h1, h2, h3⟩ := h.ex
 exact ⟨⟨q, last, h1.kept hk hn, h2, h3.kept hk hs⟩, h.out⟩
theorem kept_setRow {l : List Nat} {a w : World} (h : Kept l a w) {g : Nat} (hg : g < a.heap.size -> g ∈ l) (cs : Array Value) : Kept l a (w.setRow g cs) :=
 h.trans (l2 := [g]) ⟨rfl, rfl, rfl, by simp [World.setRow], fun k _ hn => setRow_other w g k cs (by simpa using hn)⟩ (by simpa using hg)
theorem last_splice {last zs t : List UInt8} {s : Nat} (hl : last.length = 64) (hs : s + t.length <= 64) (h : last.take s = zs) (hz : zs.length = s) :
  (splice last s t).take (s + t.length) = zs ++ t ∧ (splice last s t).length = 64 := by
 subst h
 refine ⟨?_, by rw [length_splice _ _ _ (by omega)]; exact hl⟩
 unfold splice
 rw [<-List.append_assoc, List.take_append_of_le_length (by simp; omega), List.take_of_length_le (by simp; omega)]
theorem wp_build_at {P : Program} {o : Oper} {a : Act} {w : World} {K : Act -> World -> Prop} {Q : Exit -> Act -> World -> Prop} (t : TypeId) (parts : List (Nat × Operand)) (ho : o.op = .build t parts.toArray)
  (cells : Array Value) (hc : P.built t (parts.map fun x => (x.1, a.eval x.2)) = some cells) (h : K (a.put o.dst (.agg cells)) w) : o.wp P a w K Q := by
 have e : (parts.toArray.map fun (i, x) => (i, a.eval x)).toList = parts.map fun x => (x.1, a.eval x.2) := by simp
 refine wp_build t parts.toArray ho ?_ ?_
 ·rw [e, hc]; rfl
 ·rw [e, hc]; exact h
theorem wp_box_at {P : Program} {o : Oper} {a : Act} {w : World} {K : Act -> World -> Prop} {Q : Exit -> Act -> World -> Prop} (t : TypeId) (x : Operand) (ho : o.op = .box t x) (cells : Array Value) (hx : a.eval x = .agg cells)
  (h : K (a.put o.dst (.pointer (some ⟨w.heap.size, 0, none⟩))) (w.alloc (.cells cells t))) : o.wp P a w K Q := by
 unfold Oper.wp execOp
 simp only [ho, hx]
 simp [Instr.box, newVar, newRow, Value.cells, go_sem]
 exact h
def lenOf : Value -> Nat | .slice _ n _ => n | _ => 0
structure PutRel (w wr : World) (b : Nat) (bs : List Nat) (ys xs : List UInt8) (k : Nat) (ao : Option Addr) (cap : Nat) (bs' : List Nat) : Prop where
 le : k <= xs.length
 lc : xs.length - k <= cap
 sl : Sl wr ao (xs.drop k)
 far : ∀ a, ao = some a -> a.block ≠ b
 wri : Wr wr b bs' (ys ++ xs.take k)
 kept : Kept [b] w wr
 sub : ∀ g, g ∈ bs' -> g ∈ bs ∨ w.heap.size <= g
theorem PutRel.next {w wr W2 : World} {b : Nat} {bs : List Nat} {ys xs : List UInt8} {k g off cap : Nat} {bs' bs'' : List Nat} (h : PutRel w wr b bs ys xs k (some ⟨g, off, none⟩) cap bs') (m : Nat) (hm : m <= xs.length - k)
  (hk : Kept [b] wr W2) (hw : Wr W2 b bs'' (ys ++ xs.take (k + m))) (hsub : ∀ g, g ∈ bs'' -> g ∈ bs' ∨ wr.heap.size <= g) :
  PutRel w W2 b bs ys xs (k + m) (if cap = m then some ⟨g, off, none⟩ else some ⟨g, off + m, none⟩) (cap - m) bs'' := by
 have hle := h.le
 have hlc := h.lc
 have hfar := h.far _ rfl
 refine ⟨by omega, by omega, ?_, ?_, hw, h.kept.tr hk, fun g hg => ?_⟩
 ·have h1 := (h.sl.kept hk (fun _ a ha => by simpa using h.far a ha)).drop m cap (by simp; omega) (by simp; omega)
  rwa [List.drop_drop] at h1
 ·intro a ha
  by_cases hc : cap = m
  ·rw [if_pos hc] at ha; cases ha; exact hfar
  ·rw [if_neg hc] at ha; cases ha; exact hfar
 ·rcases hsub g hg with h1 | h1
  ·exact h.sub g h1
  ·exact .inr (Nat.le_trans h.kept.size h1)
theorem wr_part {W2 : World} {b : Nat} {bs' : List Nat} {zs t last : List UInt8} {q : Option Addr} {n s : Nat} (hn : zs.length = n) (hs : s = n % 64) (hm : s + t.length < 64)
  (hw2 : Wb W2 b 0 0 q (splice last s t) (n + t.length)) (hl : (splice last s t).take (s + t.length) = zs.drop (n - s) ++ t) (hch : Chain W2 q bs' (zs.take (n - s))) (ho : b ∉ bs') : Wr W2 b bs' (zs ++ t) := by
 have e1 : (n + t.length) % 64 = s + t.length := by omega
 refine ⟨⟨q, splice last s t, ?_, ?_, ?_⟩, ho⟩
 ·simpa [hn] using hw2
 ·simp only [List.length_append, hn, e1]
  rw [hl, show n + t.length - (s + t.length) = n - s by omega, List.drop_append_of_le_length (by omega)]
 ·simp only [List.length_append, hn, e1]
  rw [show n + t.length - (s + t.length) = n - s by omega, List.take_append_of_le_length (by omega)]
  exact hch
theorem wr_full {W2 : World} {b g : Nat} {bs' : List Nat} {zs t last : List UInt8} {q : Option Addr} {n s : Nat} (hn : zs.length = n) (hs : s = n % 64) (hm : s + t.length = 64)
  (hw2 : Wb W2 b 0 0 (some ⟨g, 0, none⟩) (splice last s t) (n + t.length)) (hl : (splice last s t).take (s + t.length) = zs.drop (n - s) ++ t) (hll : (splice last s t).length = 64)
  (hg : W2.heap[g]? = some (.cells (bys (splice last s t) ++ [Value.pointer q]).toArray 172 (0, 0))) (hch : Chain W2 q bs' (zs.take (n - s))) (ho : b ∉ bs') (hgb : b ≠ g) : Wr W2 b (g :: bs') (zs ++ t) := by
 have e1 : (n + t.length) % 64 = 0 := by omega
 have e2 : splice last s t = zs.drop (n - s) ++ t := by rw [<-hl, List.take_of_length_le (by omega)]
 refine ⟨⟨some ⟨g, 0, none⟩, splice last s t, ?_, ?_, ?_⟩, by simp [hgb, ho]⟩
 ·simpa [hn] using hw2
 ·simp only [List.length_append, hn, e1, Nat.sub_zero]
  rw [List.drop_of_length_le (by simp; omega)]; rfl
 ·simp only [List.length_append, hn, e1, Nat.sub_zero]
  rw [List.take_of_length_le (by simp; omega)]
  have := Chain.cons (w := W2) hll hg hch
  rw [e2, <-List.append_assoc, List.take_append_drop] at this
  exact this
theorem put_any (b : Nat) (bs : List Nat) (ys xs : List UInt8) (ao : Option Addr) (cap : Nat) (w : World) (hW : Wr w b bs ys) (hs : Sl w ao xs) (hfar : ∀ a, ao = some a -> a.block ≠ b) (hlc : xs.length <= cap) (hsum : ys.length + xs.length <= 140737488355328) :
  Calls Tryz.prog 97 #[.pointer (some ⟨b, 0, none⟩), .slice ao xs.length cap] w fun e w' => e = .returned (.tuple #[]) ∧ ∃ bs', Wr w' b bs' (ys ++ xs) ∧ Kept [b] w w' ∧ ∀ g, g ∈ bs' -> g ∈ bs ∨ w.heap.size <= g := by
 have HI : Hid (PutRel w w b bs ys xs 0 ao cap bs) := ⟨Nat.zero_le _, by simpa using hlc, by simpa using hs, hfar, by simpa using hW, Kept.refl _ _, fun g hg => .inl hg⟩
 clear hW hs hfar
 go_enter Tryz.func97, Tryz.ntmps97
 go_wp2
 go_loopw [1] (fun v wr => ∃ k ao' cap' bs', v = .slice ao' (xs.length - k) cap' ∧ Hid (PutRel w wr b bs ys xs k ao' cap' bs')) (fun v wr => lenOf v)
 case atStart => exact ⟨0, ao, cap, bs, rfl, HI⟩
 case round =>
  clear HI
  obtain ⟨k, ao', cap', bs', rfl, HR⟩ := hrel
  have hk := HR.out.le
  have hlc' := HR.out.lc
  by_cases hr0 : xs.length - k = 0
  ·have hfin : Hid (∃ bs', Wr wr b bs' (ys ++ xs) ∧ Kept [b] w wr ∧ ∀ g, g ∈ bs' -> g ∈ bs ∨ w.heap.size <= g) := by
    have := HR.out.wri
    rw [List.take_of_length_le (by omega)] at this
    exact ⟨bs', this, HR.out.kept, HR.out.sub⟩
   clear HR
   rw [hr0]
   go_wp2
   go_end0
   exact ⟨rfl, hfin.out⟩
  ·obtain ⟨q, last, hwb, hlast, hch⟩ := HR.out.wri.ex
   have hnl : (ys ++ xs.take k).length = ys.length + k := by simp; omega
   obtain ⟨n, hn⟩ : ∃ n, n = ys.length + k := ⟨_, rfl⟩
   rw [hnl, <-hn] at hwb hlast hch
   have hn47 : n <= 140737488355328 := by omega
   obtain ⟨s, hs⟩ : ∃ s, s = n % 64 := ⟨_, rfl⟩
   have hs64 : s < 64 := by omega
   rw [<-hs] at hlast hch
   have htm : (n : Int).tmod 64 = (s : Int) := by rw [Int.tmod_eq_emod_of_nonneg (by omega)]; omega
   obtain ⟨g, off, hao, hgb, hcells⟩ := HR.out.sl.open (by intro h; simp at h; omega)
   have hfar := HR.out.far _ hao
   obtain ⟨m, hm⟩ : ∃ m, m = Nat.min (xs.length - k) (64 - s) := ⟨_, rfl⟩
   have hm1 : m <= xs.length - k := by rw [hm]; exact Nat.min_le_left _ _
   have hm2 : m <= 64 - s := by rw [hm]; exact Nat.min_le_right _ _
   have hm3 : 0 < m := by rw [hm]; simp only [Nat.min_def]; split <;> omega
   have HM : Hid (m = Nat.min (xs.length - k) (64 - s)) := hm
   have HSn : Hid (s = n % 64) := hs
   have HN : Hid (n = ys.length + k) := hn
   clear hm hs hn hnl
   have htl : ((xs.drop k).take m).length = m := by simp; omega
   obtain ⟨t, ht⟩ := nm ((xs.drop k).take m)
   rw [ht] at htl
   have HT : Hid ((xs.drop k).take m = t) := ht
   clear ht
   have hls := last_splice hwb.len (t := t) (s := s) (by omega) hlast (by have := HSn.out; have := HN.out; simp; omega)
   have c67 : wr.cell? ⟨b, 67, none⟩ = some (.int .i64 n) := by rw [hwb.cell]; exact wrow_size _ _ _ _ _ hwb.len
   have hrow : wr.drew.heap[b]? = some (.cells (wrow 0 0 q last n).toArray 118 (0, 0)) := hwb.row
   have hsrc : ∀ j u, (bys t)[j]? = some u -> wr.drew.cell? ((⟨g, off, none⟩ : Addr).add j) = some u := by
    refine Sl.cells fun i hi => ?_
    rw [World.cell?_drew, hcells i (by simp; omega), <-HT.out]
    simp [show i < m by omega]
   have hw1 : Wb (wr.drew.setRow b ((wrow 0 0 q last n).take (3 + s) ++ (bys t ++ (wrow 0 0 q last n).drop (3 + s + (bys t).length))).toArray) b 0 0 q (splice last s t) n := by
    refine ⟨?_, hls.2⟩
    rw [bys_length, wrow_splice _ _ _ _ _ _ _ (by have := hwb.len; omega)]
    exact setRow_heap _ _ _ _ _ _ hrow
   have hk1 : Kept [b] wr (wr.drew.setRow b ((wrow 0 0 q last n).take (3 + s) ++ (bys t ++ (wrow 0 0 q last n).drop (3 + s + (bys t).length))).toArray) := kept_setRow ((Kept.refl _ _).drew) (by simp) _
   have hsl := fun W => Tryz.slice64 W b 3 s hs64
   subst hao
   clear hcells
   obtain ⟨ao2, hao2⟩ : ∃ ao2, ao2 = (if cap' = m then some (⟨g, off, none⟩ : Addr) else some ⟨g, off + m, none⟩) := ⟨_, rfl⟩
   have hcut : ∀ W, (Instr.slice 22 (.slice (some ⟨g, off, none⟩) (xs.length - k) cap') (some (.int .i64 m)) none none).run Tryz.prog W = .ok (.slice ao2 (xs.length - k - m) (cap' - m)) W := fun W => by rw [hao2]; exact Tryz.cutFrom W none g off _ _ _ hm1
   have HA : Hid (ao2 = (if cap' = m then some (⟨g, off, none⟩ : Addr) else some ⟨g, off + m, none⟩)) := hao2
   clear hao2
   have HX := (show Hid (_ ∧ _ ∧ _ ∧ _ ∧ _) from ⟨hlast, hch, hls, hgb, hfar⟩)
   clear hlast hch hls hgb hfar
   go_wp2
   go_still_tail 10, Tryz.follows
   rw [World.drew_eq]
   refine wpList_copy_own rfl (.tmp 16) (.tmp 17) 22 22 rfl 5 Tryz.underlying22 Tryz.sizeByte b (3 + s) (64 - s) (64 - s) ⟨g, off, none⟩ (xs.length - k) cap' rfl rfl _ _ hrow (bys t) (by rw [bys_length, htl]; exact HM.out) hsrc (by rw [bys_length]; have := wrow_len 0 0 q last n; have := hwb.len; simp; omega) (bys_oneCell t) ?_
   clear hrow hsrc hsl c67 hwb
   rw [show (goInt (bys t).length) = .int .i64 m by rw [bys_length, htl]; rfl]
   generalize wr.drew.setRow b _ = w1 at hw1 hk1 ⊢
   have d67 : w1.cell? ⟨b, 67, none⟩ = some (.int .i64 n) := by rw [hw1.cell]; exact wrow_size _ _ _ _ _ hw1.len
   have g67 : w1.frozen? ⟨b, 67, none⟩ = false := hw1.frozen 67
   have hw2 := hw1.setN (n + m)
   have hk2 : Kept [b] wr (w1.setCell ⟨b, 67, none⟩ (.int .i64 (n + m : Nat))) := hk1.setCell (by simp) _
   by_cases hfull : s + m = 64
   ·have htm2 : ((n : Int) + (m : Int)).tmod 64 = 0 := by rw [Int.tmod_eq_emod_of_nonneg (by omega)]; have := HSn.out; omega
    clear hw1 hk1 htm
    have hcast : ((n + m : Nat) : Int) = (n : Int) + (m : Int) := by omega
    rw [hcast] at hw2 hk2
    clear hcast
    go_wp2
    generalize w1.setCell _ _ = w2 at hw2 hk2 ⊢
    clear d67 g67 hcut
    have c2 : w2.cell? ⟨b, 2, none⟩ = some (.pointer q) := by rw [hw2.cell]; rfl
    have f2 : w2.frozen? ⟨b, 2, none⟩ = false := hw2.frozen 2
    have hrg : w2.rangeAt b 3 (bys (splice last s t)) := fun j v hv => by
     rw [hw2.cell, show 3 + j = j + 1 + 1 + 1 by omega]
     simp only [wrow, List.getElem?_cons_succ]
     have hj := (List.getElem?_eq_some_iff.1 hv).1
     rw [List.getElem?_append_left hj]
     exact hv
    have hun := Tryz.underlying116
    have hin : (Tryz.prog.info? 116).map (·.size) = some (bys (splice last s t)).length := by rw [bys_length, hw2.len]; exact Tryz.arr64
    have hcl : (bys (splice last s t)).length = 64 := by rw [bys_length, hw2.len]
    have hoc := bys_oneCell (splice last s t)
    have FIN : Hid (PutRel w ((w2.setCell ⟨b, 2, none⟩ (.pointer (some ⟨w2.heap.size, 0, none⟩))).alloc (.cells (bys (splice last s t) ++ [Value.pointer q]).toArray 172)).drew b bs ys xs (k + m) ao2 (cap' - m) (w2.heap.size :: bs')) := by
     have hbs : b < w2.heap.size := (gs hw2.row).1
     have hzl : (ys ++ xs.take k).length = n := by have := HN.out; simp; omega
     have hk3 : Kept [b] wr ((w2.setCell ⟨b, 2, none⟩ (.pointer (some ⟨w2.heap.size, 0, none⟩))).alloc (.cells (bys (splice last s t) ++ [Value.pointer q]).toArray 172)).drew := ((hk2.setCell (by simp) _).alloc _).drew
     have hw3 : Wb ((w2.setCell ⟨b, 2, none⟩ (.pointer (some ⟨w2.heap.size, 0, none⟩))).alloc (.cells (bys (splice last s t) ++ [Value.pointer q]).toArray 172)).drew b 0 0 (some ⟨w2.heap.size, 0, none⟩) (splice last s t) (n + m) :=
      (hw2.setQ (some ⟨w2.heap.size, 0, none⟩)).kept (l := []) ((Kept.refl [] _).alloc _).drew (by simp)
     have hg3 : ((w2.setCell ⟨b, 2, none⟩ (.pointer (some ⟨w2.heap.size, 0, none⟩))).alloc (.cells (bys (splice last s t) ++ [Value.pointer q]).toArray 172)).drew.heap[w2.heap.size]? = some (.cells (bys (splice last s t) ++ [Value.pointer q]).toArray 172 (0, 0)) := by
      have := heap_alloc_new (w2.setCell ⟨b, 2, none⟩ (.pointer (some ⟨w2.heap.size, 0, none⟩))) (.cells (bys (splice last s t) ++ [Value.pointer q]).toArray 172)
      rw [World.size_setCell] at this
      exact this
     have h1 := wr_full hzl HSn.out (by omega) (by rw [htl]; exact hw3) HX.out.2.2.1.1 HX.out.2.2.1.2 hg3 (HX.out.2.1.kept hk3 (fun g hg => by simp; rintro rfl; exact HR.out.wri.out hg)) HR.out.wri.out (by omega)
     have he : (ys ++ xs.take k) ++ t = ys ++ xs.take (k + m) := by rw [<-HT.out, List.append_assoc, <-List.take_add]
     rw [he] at h1
     show PutRel _ _ _ _ _ _ _ _ _ _
     rw [HA.out]
     exact HR.out.next m hm1 hk3 h1 (fun g hg => by
      simp only [List.mem_cons] at hg
      rcases hg with rfl | hg
      ·exact .inr hk2.size
      ·exact .inl hg)
    have hbs : b < w2.heap.size := (gs hw2.row).1
    have hbp := Tryz.builtPiece (splice last s t) hw2.len q
    have hrg1 : w2.drew.rangeAt b 3 (bys (splice last s t)) := hrg
    refine wp_region_any Tryz.follows ?_
    rw [World.drew_eq]
    (refine wpAny_take (i := 0) (v := ?_) rfl (by kernel_rfl) (by kernel_rfl) (by kernel_rfl) (fun _ _ _ h => h) (Or.inl ⟨by rfl, ?_⟩) ?_; rotate_left; (intro w; go_simp; try (with_reducible rfl)); simp only [zz])
    (refine wpAny_take (i := 1) (v := ?_) rfl (by kernel_rfl) (by kernel_rfl) (by kernel_rfl) (fun _ _ _ h => h) (Or.inl ⟨by rfl, ?_⟩) ?_; rotate_left; (intro w; go_simp; try (with_reducible rfl)); simp only [zz])
    (refine wpAny_take (i := 2) (v := ?_) rfl (by kernel_rfl) (by kernel_rfl) (by kernel_rfl) (fun _ _ _ h => h) (Or.inl ⟨by rfl, ?_⟩) ?_; rotate_left; (intro w; go_simp; try (with_reducible rfl)); simp only [zz])
    (refine wpAny_take (i := 3) (v := ?_) rfl (by kernel_rfl) (by kernel_rfl) (by kernel_rfl) (fun _ _ _ h => h) (Or.inl ⟨by rfl, ?_⟩) ?_; rotate_left; (intro w; go_simp; try (with_reducible rfl)); simp only [zz])
    (refine wpAny_take (i := 5) (v := ?_) rfl (by kernel_rfl) (by kernel_rfl) (by kernel_rfl) (fun _ _ _ h => h) (Or.inl ⟨by rfl, ?_⟩) ?_; rotate_left; (intro w; go_simp; try (with_reducible rfl)); simp only [zz])
    (refine wpAny_take (i := 6) (v := ?_) rfl (by kernel_rfl) (by kernel_rfl) (by kernel_rfl) (fun _ _ _ h => h) (Or.inl ⟨by rfl, ?_⟩) ?_; rotate_left; (intro w; go_simp; try (with_reducible rfl)); simp only [zz])
    (refine wpAny_take (i := 7) (v := ?_) rfl (by kernel_rfl) (by kernel_rfl) (by kernel_rfl) (fun _ _ _ h => h) (Or.inl ⟨by rfl, ?_⟩) ?_; rotate_left; (intro w; go_simp; try (with_reducible rfl)); simp only [zz])
    refine wpAny_all (rs := [4, 8]) (by kernel_rfl) (by decide) (fun j hj => ?_)
    have hj2 : j = 4 ∨ j = 8 := by simpa using hj
    clear hj
    rcases hj2 with rfl | rfl
    ·(refine wpOp_step rfl (fun K hK => ?_); rw [if_pos (by simp [Region.wanted])]; refine wp_load_mid 116 (.tmp 39) rfl b 3 rfl (bys (splice last s t)) _ hrg1 hun rfl hin ?_; refine hK _ _ ?_; clear hK K; try simp only [zz])
     (refine wpAny_all (rs := [8]) (by kernel_rfl) (by decide) (fun j hj => ?_); obtain rfl : j = 8 := (by simpa using hj); clear hj; refine wpOp_step rfl (fun K hK => ?_); rw [if_pos (by simp [Region.wanted])]; go_simp; refine hK _ _ ?_; clear hK K; try simp only [zz])
     (refine wpAny_all (rs := [9]) (by kernel_rfl) (by decide) (fun j hj => ?_); obtain rfl : j = 9 := (by simpa using hj); clear hj; refine wpOp_step rfl (fun K hK => ?_); rw [if_pos (by simp [Region.wanted])]; refine wp_build_at 172 [(0, .tmp 40), (1, .tmp 44)] rfl _ hbp ?_; refine hK _ _ ?_; clear hK K; try simp only [zz])
     (refine wpAny_all (rs := [10]) (by kernel_rfl) (by decide) (fun j hj => ?_); obtain rfl : j = 10 := (by simpa using hj); clear hj; refine wpOp_step rfl (fun K hK => ?_); rw [if_pos (by simp [Region.wanted])]; refine wp_box_at 172 (.tmp 45) rfl _ rfl ?_; refine hK _ _ ?_; clear hK K; try simp only [zz])
     (refine wpAny_all (rs := [11]) (by kernel_rfl) (by decide) (fun j hj => ?_); obtain rfl : j = 11 := (by simpa using hj); clear hj; refine wpOp_step rfl (fun K hK => ?_); rw [if_pos (by simp [Region.wanted])]; go_simp; refine hK _ _ ?_; clear hK K; try simp only [zz])
     (refine wpAny_all (rs := [12]) (by kernel_rfl) (by decide) (fun j hj => ?_); obtain rfl : j = 12 := (by simpa using hj); clear hj; refine wpOp_step rfl (fun K hK => ?_); rw [if_pos (by simp [Region.wanted])]; go_simp; refine hK _ _ ?_; clear hK K; try simp only [zz])
     (refine wpAny_all (rs := [13]) (by kernel_rfl) (by decide) (fun j hj => ?_); obtain rfl : j = 13 := (by simpa using hj); clear hj; refine wpOp_step rfl (fun K hK => ?_); rw [if_pos (by simp [Region.wanted])]; go_simp; refine hK _ _ ?_; clear hK K; try simp only [zz])
     refine wpAny_done (by kernel_rfl) ?_ _
     go_wp2
     exact ⟨⟨k + m, ao2, cap' - m, w2.heap.size :: bs', by rw [show xs.length - k - m = xs.length - (k + m) by omega], FIN.out⟩, by simp only [lenOf]; omega⟩
    ·(refine wpOp_step rfl (fun K hK => ?_); rw [if_pos (by simp [Region.wanted])]; go_simp; refine hK _ _ ?_; clear hK K; try simp only [zz])
     (refine wpAny_all (rs := [4]) (by kernel_rfl) (by decide) (fun j hj => ?_); obtain rfl : j = 4 := (by simpa using hj); clear hj; refine wpOp_step rfl (fun K hK => ?_); rw [if_pos (by simp [Region.wanted])]; refine wp_load_mid 116 (.tmp 39) rfl b 3 rfl (bys (splice last s t)) _ hrg1 hun rfl hin ?_; refine hK _ _ ?_; clear hK K; try simp only [zz])
     (refine wpAny_all (rs := [9]) (by kernel_rfl) (by decide) (fun j hj => ?_); obtain rfl : j = 9 := (by simpa using hj); clear hj; refine wpOp_step rfl (fun K hK => ?_); rw [if_pos (by simp [Region.wanted])]; refine wp_build_at 172 [(0, .tmp 40), (1, .tmp 44)] rfl _ hbp ?_; refine hK _ _ ?_; clear hK K; try simp only [zz])
     (refine wpAny_all (rs := [10]) (by kernel_rfl) (by decide) (fun j hj => ?_); obtain rfl : j = 10 := (by simpa using hj); clear hj; refine wpOp_step rfl (fun K hK => ?_); rw [if_pos (by simp [Region.wanted])]; refine wp_box_at 172 (.tmp 45) rfl _ rfl ?_; refine hK _ _ ?_; clear hK K; try simp only [zz])
     (refine wpAny_all (rs := [11]) (by kernel_rfl) (by decide) (fun j hj => ?_); obtain rfl : j = 11 := (by simpa using hj); clear hj; refine wpOp_step rfl (fun K hK => ?_); rw [if_pos (by simp [Region.wanted])]; go_simp; refine hK _ _ ?_; clear hK K; try simp only [zz])
     (refine wpAny_all (rs := [12]) (by kernel_rfl) (by decide) (fun j hj => ?_); obtain rfl : j = 12 := (by simpa using hj); clear hj; refine wpOp_step rfl (fun K hK => ?_); rw [if_pos (by simp [Region.wanted])]; go_simp; refine hK _ _ ?_; clear hK K; try simp only [zz])
     (refine wpAny_all (rs := [13]) (by kernel_rfl) (by decide) (fun j hj => ?_); obtain rfl : j = 13 := (by simpa using hj); clear hj; refine wpOp_step rfl (fun K hK => ?_); rw [if_pos (by simp [Region.wanted])]; go_simp; refine hK _ _ ?_; clear hK K; try simp only [zz])
     refine wpAny_done (by kernel_rfl) ?_ _
     go_wp2
     exact ⟨⟨k + m, ao2, cap' - m, w2.heap.size :: bs', by rw [show xs.length - k - m = xs.length - (k + m) by omega], FIN.out⟩, by simp only [lenOf]; omega⟩
   ·have htm2 : ((n : Int) + (m : Int)).tmod 64 = ((s + m : Nat) : Int) := by rw [Int.tmod_eq_emod_of_nonneg (by omega)]; have := HSn.out; omega
    have hz : (((s + m : Nat) : Int) == 0) = false := by simp; omega
    clear hw1 hk1 htm
    have hcast : ((n + m : Nat) : Int) = (n : Int) + (m : Int) := by omega
    rw [hcast] at hw2 hk2
    clear hcast
    go_wp2
    have hzl : (ys ++ xs.take k).length = n := by have := HN.out; simp; omega
    have hW2 : Wr (w1.setCell ⟨b, 67, none⟩ (.int .i64 ((n : Int) + (m : Int)))) b bs' (ys ++ xs.take (k + m)) := by
     have h1 := wr_part (W2 := w1.setCell ⟨b, 67, none⟩ (.int .i64 ((n : Int) + (m : Int)))) hzl HSn.out (by omega) (by rw [htl]; exact hw2) HX.out.2.2.1.1 (HX.out.2.1.kept hk2 (fun g hg => by simp; rintro rfl; exact HR.out.wri.out hg)) HR.out.wri.out
     rw [<-HT.out, List.append_assoc, <-List.take_add] at h1
     exact h1
    exact ⟨⟨k + m, ao2, cap' - m, bs', by rw [show xs.length - k - m = xs.length - (k + m) by omega], by rw [HA.out]; exact HR.out.next m hm1 hk2 hW2 (fun g hg => .inl hg)⟩, by simp only [lenOf]; omega⟩
end

end Go.Proofs.YtmklodligplbaaaGreat
