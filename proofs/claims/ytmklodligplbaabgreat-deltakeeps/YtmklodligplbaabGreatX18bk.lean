import Derived.Test.YtmklodligplbaabGreatD9wk
open Go.RowKit
set_option linter.unusedVariables false
set_option linter.unusedSimpArgs false
set_option maxRecDepth 100000
set_option maxHeartbeats 0
namespace Go.Proofs.YtmklodligplbaabGreat
section
open Dlt
def setAll : List Value -> Nat -> List Value -> List Value
 | l, _, [] => l
 | l, o, v :: r => setAll (l.set o v) (o + 1) r
theorem setAll_eq : ∀ (vs l : List Value) (o : Nat), o + vs.length <= l.length -> setAll l o vs = l.take o ++ vs ++ l.drop (o + vs.length)
 | [], l, o, h => by simp [setAll]
 | v :: r, l, o, h => by
  simp only [List.length_cons] at h
  have ho : o < l.length := by omega
  rw [setAll, setAll_eq r (l.set o v) (o + 1) (by simp; omega)]
  have e1 : (l.set o v).take (o + 1) = l.take o ++ [v] := by
   rw [List.take_set, List.take_succ_eq_append_getElem ho, List.set_append_right _ _ (by simp; omega)]
   simp [Nat.min_eq_left (Nat.le_of_lt ho)]
  have e2 : (l.set o v).drop (o + 1 + r.length) = l.drop (o + (r.length + 1)) := by
   rw [List.drop_set, if_pos (by omega), show o + 1 + r.length = o + (r.length + 1) by omega]
  rw [e1, e2]
  simp
theorem Rw.At.sets {e : TypeId} {s B g : Nat} : ∀ (vs : List Value) (o : Nat) (w : World) (r : Rw), r.At e s B w -> r.o = some ⟨g, 0, none⟩ -> (Rw.mk r.o r.c r.n (setAll r.vs o vs)).At e s B (w.setCells g o vs) ∧ w.grownBy (w.setCells g o vs) (some g)
 | [], o, w, r, h, ho => ⟨h, ⟨rfl, rfl, rfl, Nat.le_refl _, fun _ _ _ => rfl⟩⟩
 | v :: t, o, w, r, h, ho => by
  obtain ⟨h1, h2⟩ := h.set (k := o) ho v
  have hb : r.blk = some g := by unfold Rw.blk Rw.val; rw [ho]; rfl
  rw [hb] at h2
  obtain ⟨h3, h4⟩ := Rw.At.sets t (o + 1) (w.setCell ⟨g, o, none⟩ v) _ h1 ho
  rw [World.setCells, setAll]
  refine ⟨h3, ⟨h4.os.trans h2.os, h4.tape.trans h2.tape, h4.output.trans h2.output, Nat.le_trans h2.size h4.size, fun k hk hne => ?_⟩⟩
  rw [h4.block k (Nat.lt_of_lt_of_le hk h2.size) hne, h2.block k hk hne]
theorem wrows_cons (x : Wk) (L : List Wk) : wrows (x :: L) = x.cells ++ wrows L := by simp [wrows]
theorem wrows_take : ∀ (L : List Wk) (k : Nat), (wrows L).take (k * 33) = wrows (L.take k)
 | [], k => by simp [wrows]
 | x :: L, 0 => by simp [wrows]
 | x :: L, k + 1 => by
  rw [wrows_cons, List.take_succ_cons, wrows_cons, List.take_append, x.len, List.take_of_length_le (by rw [x.len]; omega), show (k + 1) * 33 - 33 = k * 33 by omega, wrows_take L k]
theorem wrows_drop : ∀ (L : List Wk) (k : Nat), (wrows L).drop (k * 33) = wrows (L.drop k)
 | [], k => by simp [wrows]
 | x :: L, 0 => by simp [wrows]
 | x :: L, k + 1 => by
  rw [wrows_cons, List.drop_succ_cons, List.drop_append, x.len, List.drop_eq_nil_of_le (by rw [x.len]; omega), List.nil_append, show (k + 1) * 33 - 33 = k * 33 by omega, wrows_drop L k]
theorem wrows_put {L : List Wk} {k : Nat} (hk : k < L.length) (e : Wk) : setAll (wrows L) (k * 33) e.cells = wrows (L.set k e) := by
 rw [setAll_eq _ _ _ (by rw [wrows_len, e.len]; omega), wrows_take, e.len, show k * 33 + 33 = (k + 1) * 33 by omega, wrows_drop, List.set_eq_take_append_cons_drop, if_pos hk, wrows_app, wrows_cons, List.append_assoc]
def wkOf (v : Int) : Wk := if h : (Lit.int .i64 v).wf = true then ⟨v, List.replicate 32 0, by simp, h⟩ else wk0
theorem wkOf_cells {v : Int} (h1 : -9223372036854775808 <= v) (h2 : v <= 9223372036854775807) : (wkOf v).cells = .int .i64 v :: bys (List.replicate 32 0) := by
 unfold wkOf
 rw [dif_pos (by simp [Lit.wf, IntKind.min, IntKind.max, IntKind.bits, IntKind.signed]; omega)]
 rfl
def wro (i k : Nat) : Wk := wkOf (10000 * (i : Int) + (k : Int))
def wpu (i : Nat) : Wk := wkOf (-1 - (i : Int))
def rwB (ao : Option Addr) (c : Nat) (xs : List UInt8) : Rw := ⟨ao, c, xs.length, bys xs⟩
def rwW (ao : Option Addr) (c : Nat) (L : List Wk) : Rw := ⟨ao, c, L.length, wrows L⟩
theorem Rw.At.base {e : TypeId} {s B B' : Nat} {w : World} {r : Rw} (h : r.At e s B w) (hB : B' <= B) : r.At e s B' w := own_base h hB
theorem Rw.At.ge {e : TypeId} {s B : Nat} {w : World} {r : Rw} (h : r.At e s B w) {k : Nat} (hk : r.blk = some k) : B <= k := (World.ownsRow.lt h k hk).1
theorem off_new {e e' : TypeId} {s s' B B' : Nat} {w w' : World} {r r' : Rw} (h : r.At e s B w) (h' : r'.At e' s' B' w') (hB : w.heap.size <= B') : Off r.blk r'.blk := fun k h1 h2 => by
 have := h.blk_lt h1
 have := h'.ge h2
 omega
structure Tk (w wr : World) (mb ml : Nat) (fb fl : Nat -> Rw) (vR vL : Value) : Prop where
 bel : Below w.heap.size w wr
 bf : Fam 5 1 w.heap.size wr mb fb
 lf : Fam 62 33 w.heap.size wr ml fl
 oR : wr.ownsRow w.heap.size 27 1 vR mb (vals mb fb)
 oL : wr.ownsRow w.heap.size 24 1 vL ml (vals ml fl)
section
variable {w wr wr' : World} {mb ml : Nat} {fb fl : Nat -> Rw} {vR vL : Value}
theorem Tk.start (w : World) (fb fl : Nat -> Rw) : Tk w w 0 0 fb fl (.slice none 0 0) (.slice none 0 0) :=
 ⟨Below.refl _ _, ⟨fun i hi => absurd hi (by omega), fun i j hi => absurd hi (by omega)⟩, ⟨fun i hi => absurd hi (by omega), fun i j hi => absurd hi (by omega)⟩, World.ownsRow_nil _ _ _ _, World.ownsRow_nil _ _ _ _⟩
theorem Tk.kept (h : Tk w wr mb ml fb fl vR vL) (hk : Kept [] wr wr') : Tk w wr' mb ml fb fl vR vL := by
 have hg : wr.grownBy wr' none := kept_grown (row := none) hk (by simp)
 exact ⟨h.bel.trans (hk.below h.bel.size (by simp)), h.bf.grow hg (fun _ _ => Off.none _), h.lf.grow hg (fun _ _ => Off.none _), own_keep h.oR hg (Off.none _), own_keep h.oL hg (Off.none _)⟩
theorem Tk.addB (h : Tk w wr mb ml fb fl vR vL) {r1 r2 : Rw} (h1 : r1.At 5 1 w.heap.size wr) (h2 : r2.At 5 1 w.heap.size wr) (o1 : ∀ i, i < mb -> Off (fb i).blk r1.blk) (o2 : ∀ i, i < mb -> Off (fb i).blk r2.blk) (o12 : Off r1.blk r2.blk)
  {vR' : Value} (hn : wr'.ownsRow w.heap.size 27 1 vR' (mb + 2) (vals mb fb ++ [r1.val, r2.val])) (hg : wr.grownBy wr' vR.ownBlock) : Tk w wr' (mb + 2) ml (upr (upr fb mb r1) (mb + 1) r2) fl vR' vL := by
 have f1 : Fam 5 1 w.heap.size wr (mb + 2) (upr (upr fb mb r1) (mb + 1) r2) := by
  refine (h.bf.more h1 o1).more h2 (fun i hi => ?_)
  by_cases e : i = mb
  ·subst e; rw [upr_same]; exact o12
  ·rw [upr_other _ _ _ _ e]; exact o2 i (by omega)
 have hbel : Below w.heap.size w wr' := by
  have hk : Kept vR.ownBlock.toList wr wr' := (Kept.refl _ wr).grown hg (fun k hk _ => by simp [hk])
  exact h.bel.trans (hk.below h.bel.size (fun g hg' => (World.ownsRow.lt h.oR g (by simpa using hg')).1))
 have hv : vals (mb + 2) (upr (upr fb mb r1) (mb + 1) r2) = vals mb fb ++ [r1.val, r2.val] := by
  rw [vals_succ, vals_succ, upr_same, upr_other _ _ _ _ (show mb ≠ mb + 1 by omega), upr_same]
  rw [vals_congr (f := upr (upr fb mb r1) (mb + 1) r2) (g := fb) (fun i hi => by rw [upr_other _ _ _ _ (by omega), upr_other _ _ _ _ (by omega)])]
  simp
 refine ⟨hbel, f1.grow hg (fun i hi => own_types (f1.own i hi) h.oR (by decide)), h.lf.grow hg (fun i hi => own_types (h.lf.own i hi) h.oR (by decide)), by rw [hv]; exact hn, own_keep h.oL hg (own_types h.oL h.oR (by decide))⟩
theorem Tk.addL (h : Tk w wr mb ml fb fl vR vL) {r1 r2 : Rw} (h1 : r1.At 62 33 w.heap.size wr) (h2 : r2.At 62 33 w.heap.size wr) (o1 : ∀ i, i < ml -> Off (fl i).blk r1.blk) (o2 : ∀ i, i < ml -> Off (fl i).blk r2.blk) (o12 : Off r1.blk r2.blk)
  {vL' : Value} (hn : wr'.ownsRow w.heap.size 24 1 vL' (ml + 2) (vals ml fl ++ [r1.val, r2.val])) (hg : wr.grownBy wr' vL.ownBlock) : Tk w wr' mb (ml + 2) fb (upr (upr fl ml r1) (ml + 1) r2) vR vL' := by
 have f1 : Fam 62 33 w.heap.size wr (ml + 2) (upr (upr fl ml r1) (ml + 1) r2) := by
  refine (h.lf.more h1 o1).more h2 (fun i hi => ?_)
  by_cases e : i = ml
  ·subst e; rw [upr_same]; exact o12
  ·rw [upr_other _ _ _ _ e]; exact o2 i (by omega)
 have hbel : Below w.heap.size w wr' := by
  have hk : Kept vL.ownBlock.toList wr wr' := (Kept.refl _ wr).grown hg (fun k hk _ => by simp [hk])
  exact h.bel.trans (hk.below h.bel.size (fun g hg' => (World.ownsRow.lt h.oL g (by simpa using hg')).1))
 have hv : vals (ml + 2) (upr (upr fl ml r1) (ml + 1) r2) = vals ml fl ++ [r1.val, r2.val] := by
  rw [vals_succ, vals_succ, upr_same, upr_other _ _ _ _ (show ml ≠ ml + 1 by omega), upr_same]
  rw [vals_congr (f := upr (upr fl ml r1) (ml + 1) r2) (g := fl) (fun i hi => by rw [upr_other _ _ _ _ (by omega), upr_other _ _ _ _ (by omega)])]
  simp
 refine ⟨hbel, h.bf.grow hg (fun i hi => own_types (h.bf.own i hi) h.oL (by decide)), f1.grow hg (fun i hi => own_types (f1.own i hi) h.oL (by decide)), own_keep h.oR hg (own_types h.oR h.oL (by decide)), by rw [hv]; exact hn⟩
theorem Tk.cellB (h : Tk w wr mb ml fb fl vR vL) {i : Nat} (hi : i < mb) : ∃ g c, vR = .slice (some ⟨g, 0, none⟩) mb c ∧ wr.cell? ⟨g, i, none⟩ = some (fb i).val := by
 rcases h.oR.2 with ⟨_, h0⟩ | ⟨g, cap, cur, hv, _, hg, _, _, _, ht⟩
 ·omega
 ·refine ⟨g, cap, hv, ?_⟩
  rw [cell_of_row _ _ _ _ _ _ hg]
  have h1 := vals_at mb fb i hi
  rw [<-ht, List.getElem?_take] at h1
  split at h1
  ·simpa using h1
  ·cases h1
theorem Tk.cellL (h : Tk w wr mb ml fb fl vR vL) {i : Nat} (hi : i < ml) : ∃ g c, vL = .slice (some ⟨g, 0, none⟩) ml c ∧ wr.cell? ⟨g, i, none⟩ = some (fl i).val := by
 rcases h.oL.2 with ⟨_, h0⟩ | ⟨g, cap, cur, hv, _, hg, _, _, _, ht⟩
 ·omega
 ·refine ⟨g, cap, hv, ?_⟩
  rw [cell_of_row _ _ _ _ _ _ hg]
  have h1 := vals_at ml fl i hi
  rw [<-ht, List.getElem?_take] at h1
  split at h1
  ·simpa using h1
  ·cases h1
end
section
variable {w wr wr' : World} {mb ml : Nat} {fb fl : Nat -> Rw} {vR vL : Value}
theorem Tk.turnB (h : Tk w wr mb ml fb fl vR vL) {i : Nat} (hi : i < mb) {vs : List Value} (hn : (Rw.mk (fb i).o (fb i).c (fb i).n vs).At 5 1 w.heap.size wr') (hg : wr.grownBy wr' (fb i).blk) : Tk w wr' mb ml (upr fb i ⟨(fb i).o, (fb i).c, (fb i).n, vs⟩) fl vR vL := by
 have hat := h.bf.own i hi
 have hk : Kept (fb i).blk.toList wr wr' := (Kept.refl _ wr).grown hg (fun k hk _ => by simp [hk])
 refine ⟨h.bel.trans (hk.below h.bel.size (fun g hg' => hat.ge (by simpa using hg'))), h.bf.turn hi hn hg, h.lf.grow hg (fun j hj => own_types (h.lf.own j hj) hat (by decide)), ?_, own_keep h.oL hg (own_types h.oL hat (by decide))⟩
 rw [vals_congr (fun j _ => upr_val fb i ⟨(fb i).o, (fb i).c, (fb i).n, vs⟩ rfl j)]
 exact own_keep h.oR hg (own_types h.oR hat (by decide))
theorem Tk.turnL (h : Tk w wr mb ml fb fl vR vL) {i : Nat} (hi : i < ml) {vs : List Value} (hn : (Rw.mk (fl i).o (fl i).c (fl i).n vs).At 62 33 w.heap.size wr') (hg : wr.grownBy wr' (fl i).blk) : Tk w wr' mb ml fb (upr fl i ⟨(fl i).o, (fl i).c, (fl i).n, vs⟩) vR vL := by
 have hat := h.lf.own i hi
 have hk : Kept (fl i).blk.toList wr wr' := (Kept.refl _ wr).grown hg (fun k hk _ => by simp [hk])
 refine ⟨h.bel.trans (hk.below h.bel.size (fun g hg' => hat.ge (by simpa using hg'))), h.bf.grow hg (fun j hj => own_types (h.bf.own j hj) hat (by decide)), h.lf.turn hi hn hg, own_keep h.oR hg (own_types h.oR hat (by decide)), ?_⟩
 rw [vals_congr (fun j _ => upr_val fl i ⟨(fl i).o, (fl i).c, (fl i).n, vs⟩ rfl j)]
 exact own_keep h.oL hg (own_types h.oL hat (by decide))
end
structure Tm (w wr : World) (m q : Nat) (fb fl : Nat -> Rw) (vR vL : Value) (i kb j kl : Nat) : Prop where
 tk : Tk w wr m q fb fl vR vL
 b : ∀ a, a < m -> ∃ xs : List UInt8, (fb a).n = xs.length ∧ (fb a).vs = bys xs ∧ xs.length <= 140737488355200 ∧ ∀ k, k < xs.length -> (a < i ∨ (a = i ∧ k < kb)) -> (xs.getD k 0).toNat = a
 l : ∀ a, a < q -> ∃ L : List Wk, (fl a).n = L.length ∧ (fl a).vs = wrows L ∧ L.length <= 2048 ∧ ∀ k, k < L.length -> (a < j ∨ (a = j ∧ k < kl)) -> L.getD k wk0 = wro a k
section
variable {w wr wr' : World} {m q : Nat} {fb fl : Nat -> Rw} {vR vL : Value} {i kb j kl : Nat}
theorem Tm.kept (h : Tm w wr m q fb fl vR vL i kb j kl) (hk : Kept [] wr wr') : Tm w wr' m q fb fl vR vL i kb j kl := ⟨h.tk.kept hk, h.b, h.l⟩
theorem Tm.setB (h : Tm w wr m q fb fl vR vL i kb j kl) (hm : m <= 100) (hi : i < m) {g : Nat} (ho : (fb i).o = some ⟨g, 0, none⟩) : ∃ fb', Tm w (wr.setCell ⟨g, kb, none⟩ (.int .u8 i)) m q fb' fl vR vL i (kb + 1) j kl ∧ (fb' i).o = (fb i).o ∧ (fb' i).n = (fb i).n ∧ (fb' i).c = (fb i).c := by
 obtain ⟨h1, h2⟩ := (h.tk.bf.own i hi).set (k := kb) ho (.int .u8 i)
 refine ⟨_, ⟨h.tk.turnB hi h1 h2, fun a ha => ?_, h.l⟩, by rw [upr_same], by rw [upr_same], by rw [upr_same]⟩
 obtain ⟨xs, q1, q2, q3, q4⟩ := h.b a ha
 by_cases e : a = i
 ·subst e
  have hx : (UInt8.ofNat a).toNat = a := by simp [UInt8.toNat_ofNat', Nat.mod_eq_of_lt (show a < 256 by omega)]
  refine ⟨xs.set kb (UInt8.ofNat a), by rw [upr_same]; simpa using q1, ?_, by simpa using q3, fun k hk hc => ?_⟩
  ·rw [upr_same]
   show (fb a).vs.set kb (.int .u8 a) = _
   rw [q2]
   simp [bys, List.map_set, hx]
  ·rw [List.length_set] at hk
   by_cases e2 : k = kb
   ·subst e2
    simp [List.getD, hk]
    omega
   ·have := q4 k hk (by omega)
    rw [<-this]
    simp [List.getD, List.getElem?_set, Ne.symm e2]
 ·rw [upr_other _ _ _ _ e]
  exact ⟨xs, q1, q2, q3, fun k hk hc => q4 k hk (by omega)⟩
theorem Tm.setL (h : Tm w wr m q fb fl vR vL i kb j kl) (hj : j < q) {g : Nat} (ho : (fl j).o = some ⟨g, 0, none⟩) (hk : kl < (fl j).n) : ∃ fl', Tm w (wr.setCells g (kl * 33) (wro j kl).cells) m q fb fl' vR vL i kb j (kl + 1) ∧ (fl' j).o = (fl j).o ∧ (fl' j).n = (fl j).n ∧ (fl' j).c = (fl j).c := by
 obtain ⟨ew, hew⟩ := nm (wro j kl)
 rw [hew]
 obtain ⟨h1, h2⟩ := Rw.At.sets ew.cells (kl * 33) wr (fl j) (h.tk.lf.own j hj) ho
 have hb : (fl j).blk = some g := by unfold Rw.blk Rw.val; rw [ho]; rfl
 rw [<-hb] at h2
 refine ⟨_, ⟨h.tk.turnL hj h1 h2, h.b, fun a ha => ?_⟩, by rw [upr_same], by rw [upr_same], by rw [upr_same]⟩
 obtain ⟨L, q1, q2, q3, q4⟩ := h.l a ha
 by_cases e : a = j
 ·subst e
  refine ⟨L.set kl ew, by rw [upr_same]; simpa using q1, ?_, by simpa using q3, fun k hk2 hc => ?_⟩
  ·rw [upr_same]
   dsimp only
   rw [q2, wrows_put (by omega)]
  ·rw [List.length_set] at hk2
   by_cases e2 : k = kl
   ·subst e2
    rw [hew]
    simp [List.getD, hk2]
   ·have := q4 k hk2 (by omega)
    rw [<-this]
    simp [List.getD, List.getElem?_set, Ne.symm e2]
 ·rw [upr_other _ _ _ _ e]
  exact ⟨L, q1, q2, q3, fun k hk hc => q4 k hk (by omega)⟩
theorem Tm.nextB (h : Tm w wr m q fb fl vR vL i kb j kl) (hb : (fb i).n <= kb) : Tm w wr m q fb fl vR vL (i + 1) 0 j kl := by
 refine ⟨h.tk, fun a ha => ?_, h.l⟩
 obtain ⟨xs, q1, q2, q3, q4⟩ := h.b a ha
 refine ⟨xs, q1, q2, q3, fun k hk hc => q4 k hk ?_⟩
 by_cases e : a = i
 ·subst e; right; omega
 ·left; omega
theorem Tm.nextL (h : Tm w wr m q fb fl vR vL i kb j kl) (hl : (fl j).n <= kl) : Tm w wr m q fb fl vR vL i kb (j + 1) 0 := by
 refine ⟨h.tk, h.b, fun a ha => ?_⟩
 obtain ⟨L, q1, q2, q3, q4⟩ := h.l a ha
 refine ⟨L, q1, q2, q3, fun k hk hc => q4 k hk ?_⟩
 by_cases e : a = j
 ·subst e; right; omega
 ·left; omega
theorem Tm.nB (h : Tm w wr m q fb fl vR vL i kb j kl) {a : Nat} (ha : a < m) : (fb a).n <= 140737488355200 := by
 obtain ⟨xs, q1, _, q3, _⟩ := h.b a ha
 omega
theorem Tm.nL (h : Tm w wr m q fb fl vR vL i kb j kl) {a : Nat} (ha : a < q) : (fl a).n <= 2048 := by
 obtain ⟨xs, q1, _, q3, _⟩ := h.l a ha
 omega
end
theorem Tryz.infoRow : (Tryz.prog.info? 27).map (fun i => (i.zero, i.size, i.bytes)) = some (some (.slice none 0 0), 1, 24) := by kernel_rfl
theorem Tryz.infoList : (Tryz.prog.info? 24).map (fun i => (i.zero, i.size, i.bytes)) = some (some (.slice none 0 0), 1, 24) := by kernel_rfl
theorem Tryz.infoByteQ : (Tryz.prog.info? 5).map (fun i => (i.zero, i.size, i.bytes)) = some (some (.int .u8 0), 1, 1) := by kernel_rfl
theorem rw_sl {B : Nat} {w : World} {r : Rw} {xs : List UInt8} (h : r.At 5 1 B w) (hn : r.n = xs.length) (hv : r.vs = bys xs) : Sl w r.o xs := by
 have h2 : OwnB w B (.slice r.o xs.length r.c) xs := by
  unfold Rw.At Rw.val at h
  rw [hn, hv] at h
  exact h
 obtain ⟨ao, cap, hv, _, hs, _⟩ := h2.shape
 cases hv
 exact hs
theorem rw_wks {B : Nat} {w : World} {r : Rw} {L : List Wk} (h : r.At 62 33 B w) (hn : r.n = L.length) (hv : r.vs = wrows L) : Wks w r.o L := by
 have h2 : OwnW w B (.slice r.o L.length r.c) L := by
  unfold Rw.At Rw.val at h
  rw [hn, hv] at h
  exact h
 obtain ⟨ao, cap, hv, _, hs, _⟩ := h2.wks
 cases hv
 exact hs
def yb (i : Nat) : List Value := [.int .u8 (100 + (i : Int))]
def yl (i : Nat) : List Value := (wpu i).cells
structure Tg (w wr : World) (m q : Nat) (fb fl : Nat -> Rw) (rR rL : Rw) (cb : Nat) (lb : Nat -> Rw) (ccb : Nat) (rG : Rw) (cl : Nat) (ll : Nat -> Rw) (ccl : Nat) (rH : Rw) : Prop where
 bel : Below w.heap.size w wr
 gb : Gx 5 27 1 w.heap.size wr m fb rR cb lb ccb rG
 gl : Gx 62 24 33 w.heap.size wr q fl rL cl ll ccl rH
section
variable {w wr wr' : World} {m q : Nat} {fb fl lb ll : Nat -> Rw} {rR rL rG rH : Rw} {cb cl ccb ccl i j : Nat}
theorem below_grown {row : Option Nat} (h : Below w.heap.size w wr) (hg : wr.grownBy wr' row) (hr : ∀ k, row = some k -> w.heap.size <= k) : Below w.heap.size w wr' :=
 h.trans ((grown_kept hg).below h.size (fun g hg' => hr g (by simpa using hg')))
theorem Tg.kept (T : Tg w wr m q fb fl rR rL cb lb ccb rG cl ll ccl rH) (hk : Kept [] wr wr') : Tg w wr' m q fb fl rR rL cb lb ccb rG cl ll ccl rH :=
 ⟨T.bel.trans (hk.below T.bel.size (by simp)), T.gb.kept hk, T.gl.kept hk⟩
theorem Tg.begin {oR oL : Option Addr} {cR cL : Nat} (h : Tk w wr m q fb fl (.slice oR m cR) (.slice oL q cL)) :
  Tg w wr m q fb fl ⟨oR, cR, m, vals m fb⟩ ⟨oL, cL, q, vals q fl⟩ 0 fb 0 rw0 0 fl 0 rw0 :=
 ⟨h.bel, Gx.begin (by decide) h.bf h.oR rfl rfl, Gx.begin (by decide) h.lf h.oL rfl rfl⟩
theorem Tg.startB (T : Tg w wr m q fb fl rR rL i lb i rG cl ll ccl rH) (hi : i < m) : Tg w wr m q fb fl rR rL (i + 1) (upr lb i (fb i)) i rG cl ll ccl rH := ⟨T.bel, T.gb.start hi, T.gl⟩
theorem Tg.startL (T : Tg w wr m q fb fl rR rL cb lb ccb rG j ll j rH) (hj : j < q) : Tg w wr m q fb fl rR rL cb lb ccb rG (j + 1) (upr ll j (fl j)) j rH := ⟨T.bel, T.gb, T.gl.start hj⟩
theorem Tg.appB (T : Tg w wr m q fb fl rR rL (i + 1) lb i rG cl ll ccl rH) (hi : i < m) (hl : (lb i).n <= 140737488355300) :
  ∃ r w', (Builtin.append_ #[27, 27] 27 #[(lb i).val, .slice (some ⟨wr.heap.size, 0, none⟩) 1 1]).run Tryz.prog (wr.alloc (.cells #[.int .u8 (100 + (i : Int))] 5)) = .ok r.val w' ∧ Tg w w' m q fb fl rR rL (i + 1) (upr lb i r) i rG cl ll ccl rH ∧ r.n = (lb i).n + 1 ∧ r.vs = (lb i).vs ++ yb i := by
 obtain ⟨r, w', hrun, G, h1, h2, h3, h4⟩ := T.gb.app 27 (.int .u8 0) 1 Tryz.underlying27 Tryz.infoByteQ rfl (by decide) hi (yb i) rfl (by simp [yb, Value.oneCell']) (by omega) (by omega) T.bel.size
 exact ⟨r, w', hrun, ⟨below_grown T.bel h4 (fun k hk => (World.ownsRow.lt h3 k hk).1), G, T.gl.other h3 (by decide) (by decide) h4⟩, h1, h2⟩
theorem Tg.appL (T : Tg w wr m q fb fl rR rL cb lb ccb rG (j + 1) ll j rH) (hj : j < q) (hl : (ll j).n <= 2000000) :
  ∃ r w', (Builtin.append_ #[24, 24] 24 #[(ll j).val, .slice (some ⟨wr.heap.size, 0, none⟩) 1 1]).run Tryz.prog (wr.alloc (.cells (wpu j).cells.toArray 62)) = .ok r.val w' ∧ Tg w w' m q fb fl rR rL cb lb ccb rG (j + 1) (upr ll j r) j rH ∧ r.n = (ll j).n + 1 ∧ r.vs = (ll j).vs ++ yl j := by
 obtain ⟨r, w', hrun, G, h1, h2, h3, h4⟩ := T.gl.app 24 (.agg zeroK) 40 Tryz.underlying24 Tryz.infoWeak rfl (by decide) hj (yl j) (wpu j).len (wk_one _) (by omega) (by omega) T.bel.size
 exact ⟨r, w', hrun, ⟨below_grown T.bel h4 (fun k hk => (World.ownsRow.lt h3 k hk).1), T.gb.other h3 (by decide) (by decide) h4, G⟩, h1, h2⟩
theorem Tg.pushB (T : Tg w wr m q fb fl rR rL (i + 1) lb i rG cl ll ccl rH) (hi : i < 100) :
  ∃ r w', (Builtin.append_ #[57, 57] 57 #[rG.val, .slice (some ⟨wr.heap.size, 0, none⟩) 1 1]).run Tryz.prog (wr.alloc (.cells #[(lb i).val] 27)) = .ok r.val w' ∧ Tg w w' m q fb fl rR rL (i + 1) lb (i + 1) r cl ll ccl rH := by
 obtain ⟨r, w', hrun, G, h3, h4⟩ := T.gb.push 57 Tryz.underlying57 Tryz.infoRow (by omega) T.bel.size
 exact ⟨r, w', hrun, ⟨below_grown T.bel h4 (fun k hk => (World.ownsRow.lt h3 k hk).1), G, T.gl.other h3 (by decide) (by decide) h4⟩⟩
theorem Tg.pushL (T : Tg w wr m q fb fl rR rL cb lb ccb rG (j + 1) ll j rH) (hj : j < 100) :
  ∃ r w', (Builtin.append_ #[58, 58] 58 #[rH.val, .slice (some ⟨wr.heap.size, 0, none⟩) 1 1]).run Tryz.prog (wr.alloc (.cells #[(ll j).val] 24)) = .ok r.val w' ∧ Tg w w' m q fb fl rR rL cb lb ccb rG (j + 1) ll (j + 1) r := by
 obtain ⟨r, w', hrun, G, h3, h4⟩ := T.gl.push 58 Tryz.underlying58 Tryz.infoList (by omega) T.bel.size
 exact ⟨r, w', hrun, ⟨below_grown T.bel h4 (fun k hk => (World.ownsRow.lt h3 k hk).1), T.gb.other h3 (by decide) (by decide) h4, G⟩⟩
theorem bys_ext (xs : List UInt8) (x : UInt8) (N : Nat) : ext (bys xs) N [.int .u8 x.toNat] = bys (xs ++ List.replicate N x) := by
 have h : bys (List.replicate N x) = (List.replicate N [Value.int .u8 x.toNat]).flatten := by
  induction N with
  | zero => rfl
  | succ n ih => rw [List.replicate_succ, List.replicate_succ, List.flatten_cons, <-ih]; simp [bys]
 unfold ext
 rw [<-h]
 simp [bys]
theorem wrows_ext (L : List Wk) (e : Wk) (N : Nat) : ext (wrows L) N e.cells = wrows (L ++ List.replicate N e) := by
 have h : wrows (List.replicate N e) = (List.replicate N e.cells).flatten := by
  induction N with
  | zero => rfl
  | succ n ih => rw [List.replicate_succ, List.replicate_succ, List.flatten_cons, <-ih]; simp [wrows]
 unfold ext
 rw [<-h, wrows_app]
theorem Tg.seeB (T : Tg w wr m q fb fl rR rL cb lb ccb rG cl ll ccl rH) (hm : m <= 100) (hcb : m <= cb) (hD : Cd fb lb 70 yb m) {a : Nat} (ha : a < m) (hb : ∃ xs : List UInt8, (fb a).n = xs.length ∧ (fb a).vs = bys xs ∧ xs.length <= 140737488355200 ∧ ∀ k, k < xs.length -> (xs.getD k 0).toNat = a) :
  ∃ xs ys : List UInt8, xs.length = (fb a).n ∧ ys.length = (lb a).n ∧ (lb a).n = (fb a).n + 70 ∧ (fb a).n <= 140737488355200 ∧ Sl wr (fb a).o xs ∧ Sl wr (lb a).o ys ∧ (∀ k, k < (fb a).n -> (xs.getD k 0).toNat = a) ∧ (∀ k, k < (fb a).n -> (ys.getD k 0).toNat = a) ∧ (∀ k, (fb a).n <= k -> k < (lb a).n -> (ys.getD k 0).toNat = 100 + a) := by
 obtain ⟨xs, h1, h2, h3, h4⟩ := hb
 obtain ⟨d1, d2⟩ := hD a ha
 have hx : (UInt8.ofNat (100 + a)).toNat = 100 + a := by simp [UInt8.toNat_ofNat', Nat.mod_eq_of_lt (show 100 + a < 256 by omega)]
 have e1 : yb a = [.int .u8 (UInt8.ofNat (100 + a)).toNat] := by rw [hx]; simp [yb]
 rw [h2, e1, bys_ext] at d2
 have hly : (xs ++ List.replicate 70 (UInt8.ofNat (100 + a))).length = (lb a).n := by simp [d1, h1]
 refine ⟨xs, xs ++ List.replicate 70 (UInt8.ofNat (100 + a)), h1.symm, hly, d1, by omega, rw_sl (T.gb.lx.fam.own a ha) h1 h2, rw_sl (T.gb.lx.own a (by omega)) hly.symm d2, fun k hk => h4 k (by omega), fun k hk => ?_, fun k hk hk2 => ?_⟩
 ·rw [<-h4 k (by omega)]
  simp [List.getD, List.getElem?_append_left (show k < xs.length by omega)]
 ·simp only [List.getD]
  rw [List.getElem?_append_right (by omega), List.getElem?_replicate, if_pos (by omega)]
  exact hx
theorem Tg.seeL (T : Tg w wr m q fb fl rR rL cb lb ccb rG cl ll ccl rH) (hcl : q <= cl) (hD : Cd fl ll 70 yl q) {a : Nat} (ha : a < q) (hb : ∃ L : List Wk, (fl a).n = L.length ∧ (fl a).vs = wrows L ∧ L.length <= 2048 ∧ ∀ k, k < L.length -> L.getD k wk0 = wro a k) :
  ∃ L M : List Wk, L.length = (fl a).n ∧ M.length = (ll a).n ∧ (ll a).n = (fl a).n + 70 ∧ (fl a).n <= 2048 ∧ Wks wr (fl a).o L ∧ Wks wr (ll a).o M ∧ (∀ k, k < (fl a).n -> L.getD k wk0 = wro a k) ∧ (∀ k, k < (fl a).n -> M.getD k wk0 = wro a k) ∧ (∀ k, (fl a).n <= k -> k < (ll a).n -> M.getD k wk0 = wpu a) := by
 obtain ⟨L, h1, h2, h3, h4⟩ := hb
 obtain ⟨d1, d2⟩ := hD a ha
 have e1 : yl a = (wpu a).cells := rfl
 rw [h2, e1, wrows_ext] at d2
 have hly : (L ++ List.replicate 70 (wpu a)).length = (ll a).n := by simp [d1, h1]
 refine ⟨L, L ++ List.replicate 70 (wpu a), h1.symm, hly, d1, by omega, rw_wks (T.gl.lx.fam.own a ha) h1 h2, rw_wks (T.gl.lx.own a (by omega)) hly.symm d2, fun k hk => h4 k (by omega), fun k hk => ?_, fun k hk hk2 => ?_⟩
 ·rw [<-h4 k (by omega)]
  simp [List.getD, List.getElem?_append_left (show k < L.length by omega)]
 ·simp only [List.getD]
  rw [List.getElem?_append_right (by omega), List.getElem?_replicate, if_pos (by omega)]
  rfl
end
end

section
open Dlt
theorem Tryz.builtW1a (f : Nat -> UInt8) (x : Int) (W : World) : (Instr.buildSlice 24 1 #[(0, .agg (.int .i64 x :: bys ((List.range 32).map f)).toArray)]).run Tryz.prog W = .ok (.slice (some ⟨W.heap.size, 0, none⟩) 1 1) (W.alloc (.cells (.int .i64 x :: bys ((List.range 32).map f)).toArray 62)) := by kernel_rfl
theorem Tryz.builtW1 (e : Wk) (W : World) : (Instr.buildSlice 24 1 #[(0, .agg e.cells.toArray)]).run Tryz.prog W = .ok (.slice (some ⟨W.heap.size, 0, none⟩) 1 1) (W.alloc (.cells e.cells.toArray 62)) := by
 have h := Tryz.builtW1a (fun i => e.id.getD i 0) e.sum W
 rw [range32 e.hid] at h
 exact h
theorem OwnW.add {w : World} {base : Nat} {v : Value} {L : List Wk} (h : OwnW w base v L) (hb : base <= w.heap.size) (N : Nat) (e : Wk) (hN : w.rangeAt N 0 e.cells) (hl : L.length <= 1000000) :
  ∃ v' w', (Builtin.append_ #[24, 24] 24 #[v, .slice (some ⟨N, 0, none⟩) 1 1]).run Tryz.prog w = .ok v' w' ∧ OwnW w' base v' (L ++ [e]) ∧ Kept v.ownBlock.toList w w' := by
 obtain ⟨i0, hi, hz0, hz1, hz2⟩ := info_parts Tryz.infoWeak
 obtain ⟨v', w', hrun, h4, h5, _, _⟩ := run_append_own_at (P := Tryz.prog) w base 24 24 62 i0 (.agg zeroK) 33 40 Tryz.underlying24 hi hz0 hz1 hz2 rfl (by decide) v _ _ h ⟨N, 0, none⟩ 1 1 e.cells (by rw [e.len]) (fun j u hv => by
   rw [Addr.add_mid]; exact hN j u hv) (wk_one e) (by unfold maxLen; omega) (by omega) hb
 refine ⟨v', w', hrun, ?_, (Kept.refl _ w).grown h5 (fun g hg _ => by rw [hg]; simp)⟩
 unfold OwnW
 rw [List.length_append, wrows_app, show wrows [e] = e.cells by simp [wrows]]
 exact h4
theorem rsized_ok (x z : Int) (w : World) :
  Calls Tryz.prog 35 #[.int .i64 x, .int .i64 z] w fun e w' => e = .returned (.bool (isW x && isZ z)) ∧ w' = w := by
 have HR : Hid ((isW x && isZ z) = (decide (1 <= x) && decide (x <= 32) && decide (16 <= z) && decide (z <= 4096))) := by
  show _ = _
  rw [Bool.eq_iff_iff]
  simp only [Bool.and_eq_true, decide_eq_true_eq, isW, isZ, Dlt.within_iff]
  omega
 by_cases h1 : 1 <= x <;> by_cases h2 : x <= 32 <;> by_cases h3 : 16 <= z <;> by_cases h4 : z <= 4096 <;>
  (go_enter Tryz.func35, Tryz.ntmps35; go_wp2; go_ret; exact ⟨by rw [HR.out]; simp [h1, h2, h3, h4], rfl⟩)
end

section
open Dlt
theorem made_bytes (m : Nat) : (madeCells #[.int .u8 0] m).toList = bys (List.replicate m 0) := by
 apply List.ext_getElem
 ·simp [madeCells, bys]
 ·intro i h1 h2
  simp [madeCells, bys, Nat.mod_one]
theorem i64_xor_nat (a b : Nat) (ha : a < 9223372036854775808) (hb : b < 9223372036854775808) : bits .xor .i64 (a : Int) (b : Int) = ((a ^^^ b : Nat) : Int) := by
 show IntKind.i64.wrap ((BitVec.ofInt 64 (a : Int) ^^^ BitVec.ofInt 64 (b : Int)).toNat : Int) = _
 have h : a ^^^ b < 9223372036854775808 := Nat.xor_lt_two_pow (n := 63) ha hb
 rw [BitVec.toNat_xor, ofInt_u64 a (by omega), ofInt_u64 b (by omega)]
 simp [IntKind.wrap, IntKind.bits, IntKind.signed]
 split <;> omega
theorem Ts_succ' (k y : Nat) : Pure.Ts (k + 1) y = Pure.T (Pure.Ts k y) := by
 rw [Pure.Ts_add k 1]; rfl
theorem Ts_lt (k : Nat) {y : Nat} (h : y < 4294967296) : Pure.Ts k y < 4294967296 := by
 induction k with
 | zero => exact h
 | succ k ih => rw [Ts_succ']; exact Pure.T_lt ih
structure EncRel (w wr : World) (v : Nat) (vb : Value) (ys : List UInt8) (x : Nat) : Prop where
 own : wr.ownsRow w.heap.size 5 1 vb ys.length (bys ys)
 eq : Pure.enc v = ys ++ Pure.enc x
 kept : Kept [] w wr
theorem one_cells8 (w : World) (c : Value) (t : TypeId) (fr : Nat × Nat) : ∀ (j : Nat) (u : Value), [c][j]? = some u -> (w.alloc (.cells #[c] t fr)).cell? ((⟨w.heap.size, 0, none⟩ : Addr).add j) = some u := by
 intro j u hu
 cases j with
 | zero =>
  simp at hu
  subst hu
  rw [Addr.add_mid, Nat.zero_add, World.cell?_alloc_mark]
  simp
 | succ j => simp at hu
theorem bys_one8 (c : UInt8) (n : Int) (h : n = (c.toNat : Int)) : [Value.int .u8 n] = bys [c] := by rw [h]; rfl
theorem refnumber_ok (v : Nat) (hv : v <= 2147483647) (w : World) :
  Calls Tryz.prog 55 #[.int .i64 v] w fun e w' => ∃ vb, e = .returned vb ∧ vb ≠ .slice none 0 0 ∧ w'.ownsRow w.heap.size 5 1 vb (Pure.enc v).length (bys (Pure.enc v)) ∧ Kept [] w w' := by
 obtain ⟨i0, hi, hz0, hz1, hz2⟩ := info_parts Tryz.infoByte
 have HI : Hid (EncRel w w v (.slice none 0 0) [] v) := ⟨World.ownsRow_nil _ _ _ _, rfl, Kept.refl _ _⟩
 go_enter Tryz.func55, Tryz.ntmps55
 go_wp2
 go_loopw [0, 3] (fun a b wr => ∃ (x : Nat) (ys : List UInt8), x <= 2147483647 ∧ ys.length <= 5 ∧ a = .int .i64 x ∧ Hid (EncRel w wr v b ys x)) (fun a b wr => (intOf a).toNat)
 case atStart => exact ⟨v, [], hv, by simp, rfl, HI⟩
 case round =>
  clear HI
  obtain ⟨x, ys, hx, hys, rfl, HR⟩ := hrel
  have HE5 : Hid (ys.length + (Pure.enc x).length <= 5) := by
   have h1 := Pure.enc_len5 hv
   rw [HR.out.eq, List.length_append] at h1
   exact h1
  by_cases h128 : 128 <= x
  ·go_wp2_with (at_builtin; refine wpList_append_own _ rfl _ _ 27 rfl w.heap.size 5 i0 (.int .u8 0) 1 1 Tryz.underlying27 hi hz0 hz1 hz2 rfl (by decide) _ _ _ rfl (HR.out.own.alloc _) ⟨wr.heap.size, 0, none⟩ 1 1 [.int .u8 (128 + (x : Int) % 128)] rfl rfl (one_cells8 _ _ _ _) (by simp [Value.oneCell']) ?c3 ?c4 ?c5 ?_)
   case c3 => unfold maxLen; omega
   case c4 => omega
   case c5 => have := HR.out.kept.size; simp; omega
   intro v' w1 hown hgrow hnn
   have HR2 : Hid (EncRel w w1 v v' (ys ++ [UInt8.ofNat (x % 128 + 128)]) (x / 128)) := by
    refine ⟨?_, ?_, ?_⟩
    ·have h1 := hown
     rw [bys_one8 (UInt8.ofNat (x % 128 + 128)) _ (by rw [Pure.toNat_ofNat_small (by omega)]; omega), <-bys_append] at h1
     simpa using h1
    ·rw [HR.out.eq, Pure.enc_more (by omega)]
     simp
    ·exact (HR.out.kept.alloc _).grown hgrow (fun k hk hlt => by have := (HR.out.own.lt k hk).1; omega)
   have hl2 : (ys ++ [UInt8.ofNat (x % 128 + 128)]).length <= 5 := by
    have h1 := HE5.out
    rw [Pure.enc_more (by omega)] at h1
    simp at h1 ⊢
    omega
   clear hown hgrow hnn HR HE5
   go_wp2
   go_roundw
   case rel => exact ⟨x / 128, _, by omega, hl2, by go_num, HR2⟩
   case measure => simp [intOf]; omega
  ·go_wp2_with (at_builtin; refine wpList_append_own _ rfl _ _ 27 rfl w.heap.size 5 i0 (.int .u8 0) 1 1 Tryz.underlying27 hi hz0 hz1 hz2 rfl (by decide) _ _ _ rfl (HR.out.own.alloc _) ⟨wr.heap.size, 0, none⟩ 1 1 [.int .u8 (x : Int)] rfl rfl (one_cells8 _ _ _ _) (by simp [Value.oneCell']) ?c3 ?c4 ?c5 ?_)
   case c3 => unfold maxLen; omega
   case c4 => omega
   case c5 => have := HR.out.kept.size; simp; omega
   intro v' w1 hown hgrow hnn
   have HR2 : Hid (w1.ownsRow w.heap.size 5 1 v' (Pure.enc v).length (bys (Pure.enc v)) ∧ Kept [] w w1 ∧ v' ≠ .slice none 0 0) := by
    refine ⟨?_, ?_, fun h => ?_⟩
    ·have h1 := hown
     rw [bys_one8 (UInt8.ofNat x) _ (by rw [Pure.toNat_ofNat_small (by omega)]), <-bys_append] at h1
     rw [HR.out.eq, Pure.enc_small (by omega)]
     simpa using h1
    ·exact (HR.out.kept.alloc _).grown hgrow (fun k hk hlt => by have := (HR.out.own.lt k hk).1; omega)
    ·exact hnn h
   clear hown hgrow hnn HR HE5
   go_wp2
   go_ret
   exact ⟨v', rfl, HR2.out.2.2, HR2.out.1, HR2.out.2.1⟩
theorem pow256_le {k : Nat} (h : k <= 4) : 256 ^ k <= 4294967296 := by
 obtain rfl | rfl | rfl | rfl | rfl : k = 0 ∨ k = 1 ∨ k = 2 ∨ k = 3 ∨ k = 4 := by omega
 all_goals decide
structure FixRel (w wr : World) (v n : Nat) (j z : Nat) : Prop where
 row : ∃ R : List UInt8, wr.heap[w.heap.size]? = some (.cells (bys R).toArray 5 (0, 0)) ∧ R.length = n ∧ R.drop j = Pure.fix v (n - j)
 eq : z = v / 256 ^ (n - j)
 kept : Kept [] w wr
theorem FixRel.step {w wr : World} {v n j z : Nat} (h : FixRel w wr v n (j + 1) z) (hj : j + 1 <= n) : FixRel w (wr.setCell ⟨w.heap.size, j, none⟩ (.int .u8 (z % 256 : Nat))) v n j (z / 256) := by
 obtain ⟨R, hr, hl, hd⟩ := h.row
 refine ⟨⟨R.set j (UInt8.ofNat (z % 256)), ?_, by simpa using hl, ?_⟩, ?_, h.kept.setCell (by simp) _⟩
 ·rw [heap_setCell_same _ _ _ _ _ _ hr]
  simp only [List.setIfInBounds_toArray]
  congr 3
  rw [<-bys_set, Pure.toNat_ofNat_small (by omega)]
 ·have e1 : n - j = (n - (j + 1)) + 1 := by omega
  rw [e1, Pure.fix, <-hd, <-h.eq]
  rw [List.drop_eq_getElem_cons (by simp; omega)]
  congr 1
  ·simp
  ·rw [List.drop_set_of_lt (by omega)]
 ·rw [h.eq, show n - j = (n - (j + 1)) + 1 by omega, Nat.pow_succ, Nat.div_div_eq_div_mul]
theorem reffixed_ok (v n : Nat) (hn1 : 1 <= n) (hn4 : n <= 4) (hv : v < 256 ^ n) (w : World) :
  Calls Tryz.prog 60 #[.int .i64 v, .int .i64 n] w fun e w' => ∃ ao cap, e = .returned (.slice ao n cap) ∧ Fresh w w' ao cap (Pure.fix v n) ∧ ao ≠ none ∧ Kept [] w w' := by
 obtain ⟨i0, hi, hz0, hz1, hz2⟩ := info_parts Tryz.infoByte
 have hv4 : v < 4294967296 := Nat.lt_of_lt_of_le hv (pow256_le hn4)
 clear hv
 go_enter Tryz.func60, Tryz.ntmps60
 go_wp2_with (at_make; refine wpList_make_full _ rfl _ _ 27 rfl w.heap.size 5 i0 (.int .u8 0) 1 Tryz.underlying27 hi hz0 hz1 .i64 .i64 n n n rfl rfl rfl rfl ?c1 ?c2 ?c3 ?_)
 case c1 => rw [hz2]; omega
 case c2 => unfold maxLen; omega
 case c3 => exact Nat.le_refl _
 intro w1 hown hgrow
 have HI : Hid (FixRel w w1 v n n v) := by
  refine ⟨?_, by simp, (Kept.refl _ _).grown hgrow (by simp)⟩
  rcases hown.2 with ⟨h, _⟩ | ⟨g', cap', cur, hv', _, hg', _, _, hsz, htk⟩
  ·cases h
  ·cases hv'
   refine ⟨List.replicate n 0, ?_, by simp, by simp [Pure.fix]⟩
   rw [hg']
   have hcs : cur.size = n := by simpa using hsz
   have : cur.toList = bys (List.replicate n 0) := by
    rw [List.take_of_length_le (by simp; omega)] at htk
    rw [htk]
    exact made_bytes _
   rw [<-this]
 clear hown hgrow
 obtain ⟨g, hg⟩ : ∃ g, g = w.heap.size := ⟨_, rfl⟩
 rw [<-hg]
 have HG : Hid (g = w.heap.size) := hg
 clear hg
 go_wp2
 go_loopw [0, 6] (fun a i wr => ∃ j z : Nat, j <= n ∧ z < 4294967296 ∧ a = .int .i64 z ∧ i = .int .i64 ((j : Int) - 1) ∧ Hid (FixRel w wr v n j z)) (fun a i wr => (intOf i + 1).toNat)
 case atStart => exact ⟨n, v, Nat.le_refl _, hv4, rfl, rfl, HI⟩
 case round =>
  clear HI
  obtain ⟨j, z, hj, hz, rfl, rfl, HR⟩ := hrel
  by_cases hj0 : j = 0
  ·subst hj0
   have HF : Hid (Fresh w wr (some ⟨g, 0, none⟩) n (Pure.fix v n) ∧ Kept [] w wr) := by
    obtain ⟨R, hr, hl, hd⟩ := HR.out.row
    simp only [List.drop_zero, Nat.sub_zero] at hd
    refine ⟨⟨Sl.of fun i hi => ?_, by rw [Pure.fix_len]; exact Nat.le_refl _, by simp, fun a ha => by cases ha; rw [HG.out]; exact ⟨Nat.le_refl _, (gs hr).1, rfl⟩⟩, HR.out.kept⟩
    rw [HG.out, cell_of_row wr _ _ _ _ _ hr, Nat.zero_add, hd]
    simpa using bys_at hi
   clear HR
   go_wp2
   go_ret
   exact ⟨some ⟨g, 0, none⟩, n, rfl, HF.out.1, by simp, HF.out.2⟩
  ·obtain ⟨k, rfl⟩ : ∃ k, j = k + 1 := ⟨j - 1, by omega⟩
   have hcg : ∃ u, wr.cell? ⟨g, k, none⟩ = some u := by
    obtain ⟨R, hr, hl, hd⟩ := HR.out.row
    rw [HG.out, cell_of_row _ _ _ _ _ _ hr]
    have hl2 : k < (bys R).length := by rw [bys_length]; omega
    exact ⟨_, by rw [List.getElem?_toArray]; exact List.getElem?_eq_getElem hl2⟩
   obtain ⟨u, hcg⟩ := hcg
   have hfz : wr.frozen? ⟨g, k, none⟩ = false := by
    obtain ⟨R, hr, hl, hd⟩ := HR.out.row
    rw [HG.out]
    exact frozen_of_row _ _ _ _ _ hr
   have HR2 : Hid (FixRel w (wr.setCell ⟨g, k, none⟩ (.int .u8 ((z : Int) % 256))) v n k (z / 256)) := by
    have h1 := HR.out.step hj
    rw [HG.out]
    rw [show ((z : Int) % 256) = ((z % 256 : Nat) : Int) by omega]
    exact h1
   have hkk : ((k + 1 : Nat) : Int) - 1 = (k : Int) := by omega
   rw [hkk]
   clear HR hkk hj0
   go_wp2
   go_roundw
   case rel => exact ⟨k, z / 256, by omega, by omega, by go_num, by go_num, HR2⟩
   case measure => simp [intOf]
theorem rcrc_some (b off n cap : Nat) (xs : List UInt8) (w : World) (hn : xs.length = n) (hm : n <= 9223372036854775807) (hc : ∀ i, i < xs.length -> w.cell? ⟨b, off + i, none⟩ = some (.int .u8 (xs.getD i 0).toNat)) :
  Calls Tryz.prog 76 #[.slice (some ⟨b, off, none⟩) n cap] w fun e w' => e = .returned (.int .i64 (Pure.sum xs)) ∧ w' = w := by
 go_enter Tryz.func76, Tryz.ntmps76
 go_wp2
 go_loop [3, 4] (fun r i => ∃ k : Nat, k <= n ∧ i = .int .i64 k ∧ r = .int .i64 (Pure.crc 4294967295 (xs.take k))) (fun r i => n - (intOf i).toNat)
 case atStart => exact ⟨0, Nat.zero_le _, rfl, rfl⟩
 case round =>
  obtain ⟨k, hk, rfl, rfl⟩ := hrel
  have hx1 : Pure.crc 4294967295 (xs.take k) < 4294967296 := Pure.crc_lt (by omega) _
  by_cases hlt : k < n
  ·have hcell := hc k (by omega)
   have hcb : (xs.getD k 0).toNat < 256 := UInt8.toNat_lt _
   have HS : Hid (Pure.crc 4294967295 (xs.take (k + 1)) = Pure.Ts 8 (Pure.crc 4294967295 (xs.take k) ^^^ (xs.getD k 0).toNat)) := by
    show _ = _
    rw [Pure.take_snoc xs 0 k (by omega), Pure.crc_snoc, Pure.crcStep_turns]
   generalize Pure.crc 4294967295 (xs.take k) = x at hx1 HS ⊢
   generalize (xs.getD k 0).toNat = c at hcell hcb HS
   have e1 := i64_xor_nat x c (by omega) (by omega)
   have b1 := Pure.xor_lt32 hx1 (show c < 4294967296 by omega)
   generalize x ^^^ c = y at e1 b1 HS
   clear hc
   go_wp2
   go_loop [3, 5] (fun r j => ∃ m : Nat, m <= 8 ∧ j = .int .i64 m ∧ r = .int .i64 (Pure.Ts m y)) (fun r j => 8 - (intOf j).toNat)
   case atStart => exact ⟨0, Nat.zero_le _, rfl, rfl⟩
   case round =>
    obtain ⟨m, hm8, rfl, rfl⟩ := hrel
    have hz := Ts_lt m b1
    by_cases hm : m < 8
    ·have HT : Hid (Pure.Ts (m + 1) y = Pure.T (Pure.Ts m y)) := Ts_succ' m y
     generalize Pure.Ts m y = z at hz HT ⊢
     by_cases ho : z % 2 = 1
     ·have g1 : ((z : Int) % 2 == 1) = true := by simp; omega
      have e2 : bits .xor .i64 ((z : Int) / 2) 3988292384 = ((z / 2 ^^^ 3988292384 : Nat) : Int) := by
       rw [show ((z : Int) / 2) = ((z / 2 : Nat) : Int) by omega]
       exact i64_xor_nat (z / 2) 3988292384 (by omega) (by omega)
      have HT2 : Hid (Pure.Ts (m + 1) y = z / 2 ^^^ 3988292384) := by
       have := HT.out
       unfold Pure.T at this
       rw [if_pos ho] at this
       exact this
      generalize z / 2 ^^^ 3988292384 = z2 at e2 HT2
      go_wp2
      go_round
      case rel => exact ⟨m + 1, by omega, by go_num, by rw [HT2.out]⟩
      case measure => simp [intOf]; omega
     ·have g1 : ((z : Int) % 2 == 1) = false := by simp; omega
      have HT2 : Hid (Pure.Ts (m + 1) y = z / 2) := by
       have := HT.out
       unfold Pure.T at this
       rw [if_neg ho, Nat.xor_zero] at this
       exact this
      go_wp2
      go_round
      case rel => exact ⟨m + 1, by omega, by go_num, by rw [HT2.out]; go_num⟩
      case measure => simp [intOf]; omega
    ·obtain rfl : m = 8 := by omega
     go_wp2
     go_round
     case rel => exact ⟨k + 1, by omega, by go_num, by rw [HS.out]⟩
     case measure => simp [intOf]; omega
  ·have HT : Hid (xs.take k = xs) := List.take_of_length_le (by omega)
   clear hc
   go_wp2
   go_ret
   exact ⟨ret_int (by have h8 := hx1; have h9 := HT.out; unfold Pure.sum; rw [h9] at h8 ⊢; omega), rfl⟩
theorem rcrc_none (ao : Option Addr) (cap : Nat) (w : World) :
  Calls Tryz.prog 76 #[.slice ao 0 cap] w fun e w' => e = .returned (.int .i64 (Pure.sum [])) ∧ w' = w := by
 go_enter Tryz.func76, Tryz.ntmps76
 go_wp2
 go_loop [3, 4] (fun r i => i = .int .i64 0 ∧ r = .int .i64 4294967295) (fun r i => 0)
 case atStart => exact ⟨rfl, rfl⟩
 case round =>
  obtain ⟨rfl, rfl⟩ := hrel
  go_wp2
  go_ret
  exact ⟨rfl, rfl⟩
theorem rcrc_n (ao : Option Addr) (n cap : Nat) (xs : List UInt8) (w : World) (hn : xs.length = n) (hm : n <= 9223372036854775807) (h : Sl w ao xs) :
  Calls Tryz.prog 76 #[.slice ao n cap] w fun e w' => e = .returned (.int .i64 (Pure.sum xs)) ∧ w' = w := by
 by_cases h0 : xs = []
 ·subst h0
  obtain rfl : n = 0 := by simpa using hn.symm
  exact rcrc_none ao cap w
 ·obtain ⟨b, off, rfl, hb, hc⟩ := h.open h0
  exact rcrc_some b off n cap xs w hn hm hc
theorem rpart_ok (W : Nat) (id : List UInt8) (w : World) (hW : W <= 32) (hl : id.length = 32) :
  Calls Tryz.prog 56 #[.agg (bys id).toArray, .int .i64 W] w fun e w' => (∃ ao cap, e = .returned (.slice ao W cap) ∧ OwnB w' w.heap.size (.slice ao W cap) (id.take W)) ∧ Kept [] w w' := by
 have hrow := heap_new w (.cells (bys id).toArray 23)
 have hK := ka w (.cells (bys id).toArray 23)
 obtain ⟨G, hG⟩ := nm (w.heap.size)
 rw [hG] at hrow
 have HLT : Hid ((w.alloc (.cells (bys id).toArray 23)).heap.size = G + 1) := by show _ = _; rw [<-hG]; simp
 have HC : Hid (∀ k, k < 32 -> (w.alloc (.cells (bys id).toArray 23)).cell? ⟨G, k, none⟩ = some (.int .u8 (id.getD k 0).toNat)) := fun k hk => by
  rw [cell_of_row _ _ _ _ _ _ hrow, List.getElem?_toArray]
  exact bys_at (by omega)
 have HL := hide hl
 clear hrow hl
 go_enter Tryz.func56, Tryz.ntmps56
 go_upto_region 1 with (fail)
 have HGW := hide hG
 clear hG
 generalize w.alloc (.cells (bys id).toArray 23) = w1 at *
 have H0 : Hid (OwnB w1 (G + 1) (.slice none 0 0) (id.take 0) ∧ Kept [] w1 w1) := ⟨World.ownsRow_nil _ _ _ _, Kept.refl _ _⟩
 have HW := hide hW
 go_wp2
 go_loopw [5, 6] (fun x y wr => ∃ (k : Nat) (vo : Option Addr) (vc : Nat), k <= W ∧ x = .slice vo k vc ∧ y = .int .i64 k ∧ Hid (OwnB wr (G + 1) (.slice vo k vc) (id.take k) ∧ Kept [] w1 wr)) (fun x y wr => W - (intOf y).toNat)
 case atStart => exact ⟨0, none, 0, Nat.zero_le _, rfl, rfl, H0⟩
 case round =>
  clear H0
  obtain ⟨k, vo, vc, hk, rfl, rfl, HP⟩ := hrel
  by_cases hlt : k < W
  ·have hc := HP.out.2.cellOf (HC.out k (by omega)) (by simp)
   have kN := ka wr (.cells #[.int .u8 (id.getD k 0).toNat] 5)
   obtain ⟨v4, w4, hrun4, ho4, hk4⟩ := run_appB (wr.alloc (.cells #[.int .u8 (id.getD k 0).toNat] 5)) (G + 1) (.slice vo k vc) (id.take k) [id.getD k 0] (HP.out.1.kept kN (by simp)) wr.heap.size 0 1 (fun i hi => by
    have hnew := heap_new wr (.cells #[.int .u8 (id.getD k 0).toNat] 5)
    rw [Nat.zero_add, cell_of_row _ _ _ _ _ _ hnew]
    obtain rfl : i = 0 := by simp at hi; omega
    rfl) (by rw [List.length_take]; simp; omega) (Nat.le_trans (Nat.le_of_eq HLT.out.symm) (Nat.le_trans HP.out.2.size kN.size))
   rw [show [id.getD k 0].length = 1 from rfl] at hrun4
   have ht : id.take (k + 1) = id.take k ++ [id.getD k 0] := take_snoc' id 0 k (by have := HL.out; omega)
   have hll : (id.take k ++ [id.getD k 0]).length = k + 1 := by rw [<-ht, List.length_take, HL.out]; omega
   obtain ⟨vo4, vc4, rfl, _⟩ := own_shape ho4
   rw [hll] at hrun4 ho4
   have H4 : Hid (OwnB w4 (G + 1) (.slice vo4 (k + 1) vc4) (id.take (k + 1)) ∧ Kept [] w1 w4) := ⟨by rw [ht]; exact ho4, (HP.out.2.tr kN).trans hk4 (fun g hg hl2 => by have := (HP.out.1.far g (by simpa using hg)).1; have := HLT.out; omega)⟩
   clear ho4 hk4 kN HP hll ht
   generalize (id.getD k 0).toNat = x at hc hrun4
   go_wp2_with (refine wpList_app_run rfl (.tmp 12) (.tmp 16) 27 27 rfl (.slice vo k vc) (.slice (some ⟨wr.heap.size, 0, none⟩) 1 1) rfl rfl (.slice vo4 (k + 1) vc4) w4 hrun4 ?_)
   go_roundw
   case rel => exact ⟨k + 1, vo4, vc4, by omega, rfl, by go_num, H4⟩
   case measure => simp [intOf]; omega
  ·obtain rfl : k = W := by omega
   have HF : Hid (OwnB wr w.heap.size (.slice vo k vc) (id.take k) ∧ Kept [] w wr) := ⟨own_base HP.out.1 (by have := HGW.out; omega), hK.tr HP.out.2⟩
   clear HP
   go_wp2
   go_ret
   exact ⟨⟨vo, vc, rfl, HF.out.1⟩, HF.out.2⟩
theorem rnoughts_ok (W : Nat) (id : List UInt8) (w : World) (hW : W <= 32) (hl : id.length = 32) :
  Calls Tryz.prog 97 #[.agg (bys id).toArray, .int .i64 W] w fun e w' => e = .returned (.bool (nought W id)) ∧ Kept [] w w' := by
 have hrow := heap_new w (.cells (bys id).toArray 23)
 have hK := ka w (.cells (bys id).toArray 23)
 obtain ⟨G, hG⟩ := nm (w.heap.size)
 rw [hG] at hrow
 have HC : Hid (∀ k, k < 32 -> (w.alloc (.cells (bys id).toArray 23)).cell? ⟨G, k, none⟩ = some (.int .u8 (id.getD k 0).toNat)) := fun k hk => by
  rw [cell_of_row _ _ _ _ _ _ hrow, List.getElem?_toArray]
  exact bys_at (by omega)
 have HL := hide hl
 clear hrow hl
 go_enter Tryz.func97, Tryz.ntmps97
 go_upto_region 1 with (fail)
 clear hG
 generalize w.alloc (.cells (bys id).toArray 23) = w1 at *
 go_wp2
 go_loopw [5] (fun x wr => ∃ k j : Nat, j = W + k ∧ j <= 32 ∧ x = .int .i64 j ∧ wr = w1 ∧ Hid (((id.drop W).take k).all (· == 0) = true)) (fun x wr => 32 - (intOf x).toNat)
 case atStart => exact ⟨0, W, rfl, hW, rfl, rfl, rfl⟩
 case round =>
  obtain ⟨k, j, hj, hj32, rfl, hwr, HA⟩ := hrel
  subst hwr
  have HJ := hide hj
  clear hj
  by_cases hlt : j < 32
  ·have hc := HC.out j hlt
   have HST : Hid (id.getD j 0 = 0 -> ((id.drop W).take (k + 1)).all (· == 0) = true) := fun hz => nought_step HL.out (by have := HJ.out; omega) (by rw [<-HJ.out]; exact hz) HA.out
   have HN0 : Hid (id.getD j 0 ≠ 0 -> nought W id = false) := fun hz => by
    apply Bool.eq_false_iff.2
    intro hn
    apply hz
    have hL := HL.out
    have hJ := HJ.out
    have hmem : id.getD j 0 ∈ id.drop W := by
     have e : (id.drop W)[k]'(by rw [List.length_drop]; omega) = id.getD j 0 := by
      rw [List.getElem_drop, List.getD, List.getElem?_eq_getElem (by omega), Option.getD_some]
      congr 1
      exact hJ.symm
     rw [<-e]; exact List.getElem_mem _
    have := List.all_eq_true.1 hn _ hmem
    simpa using this
   have hb : (id.getD j 0).toNat < 256 := UInt8.toNat_lt _
   by_cases h0 : id.getD j 0 = 0
   ·rw [h0] at hc
    have H1 := hide (HST.out h0)
    clear h0 hb HN0 HST
    have hc' : wr.cell? ⟨G, j, none⟩ = some (.int .u8 0) := hc
    clear hc
    go_wp2
    go_roundw
    case rel => exact ⟨k + 1, j + 1, by rw [HJ.out]; rfl, by omega, by go_num, by first | rfl | trivial, H1⟩
    case measure => simp [intOf]; omega
   ·have H1 := hide (HN0.out h0)
    have hne : (id.getD j 0).toNat ≠ 0 := fun h => h0 (UInt8.toNat_inj.1 h)
    generalize (id.getD j 0).toNat = c at hc hb hne
    have hne' : ((c : Int) != 0) = true := by simp; omega
    clear h0 HN0 HST hne
    go_wp2
    go_ret
    exact ⟨by rw [H1.out]; rfl, hK⟩
  ·have HN1 : Hid (nought W id = true) := by
    have h := HA.out
    rw [List.take_of_length_le (by rw [List.length_drop, HL.out]; have := HJ.out; omega)] at h
    exact h
   clear HA
   go_wp2
   go_ret
   exact ⟨by rw [HN1.out]; rfl, hK⟩
theorem rsealed_ok (base : Nat) (vo : Option Addr) (n vc : Nat) (xs : List UInt8) (w : World) (h : OwnB w base (.slice vo n vc) xs) (hb : base <= w.heap.size) (hm : n <= 1000000000) :
  Calls Tryz.prog 58 #[.slice vo n vc] w fun e w' => (∃ ao cap, e = .returned (.slice ao (n + 4) cap) ∧ OwnB w' base (.slice ao (n + 4) cap) (sealed xs)) ∧ Kept (Value.slice vo n vc).ownBlock.toList w w' := by
 have hn := own_len h
 have hs := rcrc_n vo n vc xs w hn (by omega) h.in8.sl
 have hf := fun W => reffixed_ok (Pure.sum xs) 4 (by omega) (by omega) (by unfold Pure.sum; omega) W
 have HO := hide h
 have HN := hide hn
 clear h hn
 have HSE : Hid (sealed xs = xs ++ Pure.fix (Pure.sum xs) 4) := rfl
 have hfl : (Pure.fix (Pure.sum xs) 4).length = 4 := Pure.fix_len _ _
 generalize Pure.sum xs = sm at hs hf HSE hfl
 have HFL := hide hfl
 clear hfl
 go_enter Tryz.func58, Tryz.ntmps58
 go_wp2_with (first
  | (go_at_call 76; refine hs.mono ?_; rintro r w2 ⟨rfl, hw2⟩; obtain rfl := hw2.symm; clear hs)
  | (go_at_call 60; refine (hf _).mono ?_; rintro r w3 ⟨fo, fc, rfl, hfr, hfn, hk3⟩; obtain ⟨v4, w4, hrun4, ho4, hk4⟩ := run_appSl w3 base (.slice vo n vc) xs (Pure.fix sm 4) (HO.out.kept hk3 (by simp)) fo 4 fc HFL.out hfr.1 hfr.2.2.1 (by rw [HN.out]; omega) (Nat.le_trans hb hk3.size); obtain ⟨vo4, vc4, rfl, hvc4⟩ := own_shape ho4; rw [show (xs ++ Pure.fix sm 4).length = n + 4 by rw [List.length_append, HN.out, HFL.out]] at hrun4 ho4; have H4 := hide (ai ho4 (ai hk3 hk4)); clear hf hfr hfn hk3 ho4 hk4 hvc4)
  | (refine wpList_app_run rfl (.tmp 3) (.tmp 6) 27 27 rfl (.slice vo n vc) (.slice fo 4 fc) rfl rfl (.slice vo4 (n + 4) vc4) w4 hrun4 ?_; clear hrun4))
 go_ret
 exact ⟨⟨vo4, vc4, rfl, by rw [HSE.out]; exact H4.out.1⟩, (show Kept _ w w3 from H4.out.2.1.mono (by simp)).trans H4.out.2.2 (fun i hi _ => hi)⟩
end

end Go.Proofs.YtmklodligplbaabGreat
