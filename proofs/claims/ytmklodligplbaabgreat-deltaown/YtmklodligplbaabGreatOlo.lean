import Derived.Test.YtmklodligplbaabGreatWr1o
import Derived.Test.YtmklodligplbaabGreatDf2o
import Derived.Great.Ranges
import Derived.Laws.AppendOwn
import Derived.Deep.Cut
open Go.RowKit
set_option linter.unusedVariables false
set_option linter.unusedSimpArgs false
set_option maxRecDepth 100000
set_option maxHeartbeats 0
namespace Go.Proofs.YtmklodligplbaabGreat
section
theorem hide {p : Prop} (h : p) : Hid p := h
section
variable {P : Program} {ops : Array Oper} {Q : Exit -> Act -> World -> Prop} {md : Region.Mode} {S : World -> Prop} {late : Nat -> Bool}
end
end

section
open Dlt
theorem there_row {w : World} {g : Nat} {cur : Array Value} {t : TypeId} (hg : w.heap[g]? = some (.cells cur t (0, 0))) (o m : Nat) (h : o + m <= cur.size) : w.there g o m := fun j hj =>
 ⟨by rw [cell_of_row _ _ _ _ _ _ hg, Array.getElem?_eq_getElem (by omega)]; rfl, frozen_of_row _ _ _ _ _ hg⟩
theorem heap_new (w : World) (o : Obj) : (w.alloc o).heap[w.heap.size]? = some o := by rw [(MapKept.heap_alloc w o).1]
theorem own_shape {w : World} {base : Nat} {e : TypeId} {s : Nat} {v : Value} {n : Nat} {xs : List Value} (h : w.ownsRow base e s v n xs) : ∃ bo bc, v = .slice bo n bc ∧ n <= bc := by
 rcases h.2 with ⟨rfl, rfl⟩ | ⟨g, cap, cur, rfl, _, _, hn, _⟩
 ·exact ⟨none, 0, rfl, Nat.le_refl _⟩
 ·exact ⟨_, _, rfl, hn⟩
theorem own_base {w : World} {b1 b2 : Nat} {e : TypeId} {size : Nat} {v : Value} {n : Nat} {xs : List Value} (h : w.ownsRow b1 e size v n xs) (hb : b2 <= b1) : w.ownsRow b2 e size v n xs := by
 refine ⟨h.1, ?_⟩
 rcases h.2 with h1 | ⟨g, cap, cur, h1, h2, h3⟩
 ·exact .inl h1
 ·exact .inr ⟨g, cap, cur, h1, Nat.le_trans hb h2, h3⟩
theorem kept_row (w : World) (g : Nat) (cs : Array Value) : Kept [g] w (w.setRow g cs) := kept_setRow (Kept.refl _ _) (by simp) cs
theorem Sl.cut {w : World} {b off : Nat} {xs : List UInt8} (h : Sl w (some ⟨b, off, none⟩) xs) (f q : Nat) (hq : f + q <= xs.length) : Sl w (some ⟨b, off + f, none⟩) ((xs.drop f).take q) := by
 intro i hi
 have hi' : i < q := by simp at hi; omega
 obtain ⟨b', off', e, hc⟩ := h (f + i) (by omega)
 cases e
 refine ⟨b, off + f, rfl, ?_⟩
 rw [Nat.add_assoc, hc]
 congr 3
 simp [List.getElem?_take, List.getElem?_drop, hi']
def Dlt.Wk.cells (e : Wk) : List Value := .int .i64 e.sum :: bys e.id
theorem Dlt.Wk.len (e : Wk) : e.cells.length = 33 := by simp [Wk.cells, bys_length, e.hid]
theorem wk_one (e : Wk) : ∀ u ∈ e.cells, u.oneCell' = true := by
 intro u hu
 simp only [Wk.cells, List.mem_cons] at hu
 rcases hu with h | h
 ·rw [h]; rfl
 ·exact bys_oneCell _ _ h
theorem wk_all (e : Wk) : e.cells.toArray.all (·.oneCell') = true := by
 simp only [List.all_toArray, List.all_eq_true]
 exact wk_one e
theorem wk_size (e : Wk) : e.cells.toArray.size = 33 := by simp [e.len]
theorem Dlt.Wk.su (e : Wk) : e.cells[0]? = some (.int .i64 e.sum) := rfl
theorem Dlt.Wk.byt {e : Wk} {j : Nat} (h : j < 32) : e.cells[1 + j]? = some (.int .u8 (e.id.getD j 0).toNat) := by
 unfold Wk.cells
 rw [Nat.add_comm 1 j, List.getElem?_cons_succ]
 exact bys_at (by rw [e.hid]; exact h)
theorem wk_take {α : Type} {L : List α} {k i : Nat} (h : i < k) (d : α) : (L.take k).getD i d = L.getD i d := by simp [List.getD, List.getElem?_take, h]
def Wks (w : World) (ao : Option Addr) (L : List Wk) : Prop :=
 ∀ i, i < L.length -> ∃ b off, ao = some ⟨b, off, none⟩ ∧ w.rangeAt b (off + i * 33) (L.getD i wk0).cells
theorem Wks.nil (w : World) (ao : Option Addr) : Wks w ao [] := fun i hi => by simp at hi
theorem Wks.kept {l : List Nat} {w w' : World} {ao : Option Addr} {L : List Wk} (h : Wks w ao L) (hk : Kept l w w') (hn : L ≠ [] -> ∀ a, ao = some a -> a.block ∉ l) : Wks w' ao L := by
 intro i hi
 obtain ⟨b, off, e, hc⟩ := h i hi
 exact ⟨b, off, e, fun j v hv => hk.cellOf (hc j v hv) (hn (by rintro rfl; simp at hi) ⟨b, off, none⟩ e)⟩
theorem Wks.below {w w' : World} {ao : Option Addr} {L : List Wk} (h : Wks w ao L) (hb : Below w.heap.size w w') : Wks w' ao L := h.kept (Kept.of_below hb) (by simp)
theorem Wks.take {w : World} {ao : Option Addr} {L : List Wk} (h : Wks w ao L) (k : Nat) : Wks w ao (L.take k) := by
 intro i hi
 have hi' : i < k ∧ i < L.length := by simp at hi; omega
 rw [wk_take hi'.1]
 exact h i hi'.2
theorem Wks.open {w : World} {ao : Option Addr} {L : List Wk} (h : Wks w ao L) (hn : L ≠ []) : ∃ b off, ao = some ⟨b, off, none⟩ ∧ b < w.heap.size ∧ ∀ i, i < L.length -> w.rangeAt b (off + i * 33) (L.getD i wk0).cells := by
 obtain ⟨b, off, e, hc⟩ := h 0 (List.length_pos_iff.2 hn)
 refine ⟨b, off, e, World.block_lt_of_cell? _ _ (hc 0 _ rfl), fun i hi => ?_⟩
 obtain ⟨b', off', e', hc'⟩ := h i hi
 rw [e] at e'
 cases e'
 exact hc'
theorem Wks.drop {w : World} {b off : Nat} {L : List Wk} (h : Wks w (some ⟨b, off, none⟩) L) (k : Nat) : Wks w (some ⟨b, off + k * 33, none⟩) (L.drop k) := by
 intro i hi
 obtain ⟨b', off', e, hc⟩ := h (k + i) (by simp at hi; omega)
 cases e
 refine ⟨b, off + k * 33, rfl, ?_⟩
 have : (L.drop k).getD i wk0 = L.getD (k + i) wk0 := by simp [List.getD]
 rw [this, show off + k * 33 + i * 33 = off + (k + i) * 33 by rw [Nat.add_mul]; omega]
 exact hc
def wrows (L : List Wk) : List Value := L.flatMap Wk.cells
theorem wrows_app (L M : List Wk) : wrows (L ++ M) = wrows L ++ wrows M := by simp [wrows]
theorem wrows_len (L : List Wk) : (wrows L).length = L.length * 33 := by
 induction L with
 | nil => rfl
 | cons e r ih =>
  have h1 := e.len
  simp only [wrows, List.flatMap_cons, List.length_append, List.length_cons] at ih ⊢
  omega
theorem wrows_at : ∀ {L : List Wk} (i j : Nat) (v : Value), i < L.length -> (L.getD i wk0).cells[j]? = some v -> (wrows L)[i * 33 + j]? = some v := by
 intro L
 induction L with
 | nil => intro i j v hi; simp at hi
 | cons e r ih =>
  intro i j v hi hv
  have h1 := e.len
  cases i with
  | zero =>
   have hj := (List.getElem?_eq_some_iff.1 hv).1
   simp only [List.getD, List.getElem?_cons_zero, Option.getD_some] at hv hj
   simp only [wrows, List.flatMap_cons, Nat.zero_mul, Nat.zero_add]
   rw [List.getElem?_append_left hj]; exact hv
  | succ i =>
   have := ih i j v (by simpa using hi) (by simpa [List.getD] using hv)
   simp only [wrows, List.flatMap_cons] at this ⊢
   rw [List.getElem?_append_right (by omega), h1]
   rw [show (i + 1) * 33 + j - 33 = i * 33 + j by omega]
   exact this
theorem wrows_back {L : List Wk} {k : Nat} {v : Value} (h : (wrows L)[k]? = some v) : k / 33 < L.length ∧ (L.getD (k / 33) wk0).cells[k % 33]? = some v := by
 have hk := (List.getElem?_eq_some_iff.1 h).1
 rw [wrows_len] at hk
 have h1 : k / 33 < L.length := Nat.div_lt_of_lt_mul (by omega)
 refine ⟨h1, ?_⟩
 have h2 : k % 33 < (L.getD (k / 33) wk0).cells.length := by rw [Wk.len]; omega
 have h3 := wrows_at (k / 33) (k % 33) _ h1 (List.getElem?_eq_getElem h2)
 rw [show k / 33 * 33 + k % 33 = k by omega, h] at h3
 rw [List.getElem?_eq_getElem h2, <-h3]
theorem Wks.cells {w : World} {b off : Nat} {L : List Wk} (h : Wks w (some ⟨b, off, none⟩) L) {k : Nat} {v : Value} (hv : (wrows L)[k]? = some v) : w.cell? ⟨b, off + k, none⟩ = some v := by
 obtain ⟨h1, h2⟩ := wrows_back hv
 obtain ⟨b', off', e, hc⟩ := h _ h1
 cases e
 have := hc _ _ h2
 rwa [show off + k / 33 * 33 + k % 33 = off + k by omega] at this
def OwnW (w : World) (base : Nat) (v : Value) (L : List Wk) : Prop := w.ownsRow base 62 33 v L.length (wrows L)
theorem OwnW.wks {w : World} {base : Nat} {v : Value} {L : List Wk} (h : OwnW w base v L) : ∃ ao cap, v = .slice ao L.length cap ∧ L.length <= cap ∧ Wks w ao L ∧ (∀ a, ao = some a -> ∃ g, a = ⟨g, 0, none⟩ ∧ base <= g ∧ g < w.heap.size ∧ v.ownBlock = some g) ∧ cap <= 9223372036854775807 := by
 rcases h.2 with ⟨rfl, h0⟩ | ⟨g, cap, cur, rfl, hb, hg, hn, hc, hs, ht⟩
 ·have h0' : L.length = 0 := h0
  have : L = [] := List.eq_nil_of_length_eq_zero h0'
  subst this
  exact ⟨none, 0, rfl, Nat.le_refl _, Wks.nil _ _, by simp, by omega⟩
 ·refine ⟨_, cap, rfl, hn, fun i hi => ⟨g, 0, rfl, fun j u hu => ?_⟩, fun a ha => ?_, by unfold maxLen at hc; omega⟩
  ·have h1 := wrows_at i j u hi hu
   rw [<-ht, List.getElem?_take] at h1
   rw [Nat.zero_add, cell_of_row _ _ _ _ _ _ hg]
   split at h1
   ·simpa using h1
   ·cases h1
  ·cases ha
   exact ⟨g, rfl, hb, (gs hg).1, rfl⟩
theorem OwnW.kept {l : List Nat} {w w' : World} {base : Nat} {v : Value} {L : List Wk} (h : OwnW w base v L) (hk : Kept l w w') (hn : ∀ g, v.ownBlock = some g -> g ∉ l) : OwnW w' base v L := by
 refine ⟨h.1, ?_⟩
 rcases h.2 with h0 | ⟨g, cap, cur, hv, hb, hg, rest⟩
 ·exact .inl h0
 ·refine .inr ⟨g, cap, cur, hv, hb, ?_, rest⟩
  rw [hk.block g (gs hg).1 (hn g (by rw [hv]; rfl))]
  exact hg
theorem wk_sl {w : World} {b o : Nat} {e : Wk} (h : w.rangeAt b o e.cells) : Sl w (some ⟨b, o + 1, none⟩) e.id := Sl.of fun i hi => by
 have := h (1 + i) _ (Wk.byt (by rw [<-e.hid]; exact hi))
 rw [<-Nat.add_assoc] at this; exact this
theorem wk_range {w : World} {b o : Nat} {e : Wk} (h : w.rangeAt b o e.cells) : w.rangeAt b (o + 1) (bys e.id) := fun j v hv => by
 have := h (1 + j) v (by unfold Wk.cells; rw [Nat.add_comm 1 j, List.getElem?_cons_succ]; exact hv)
 rw [<-Nat.add_assoc] at this; exact this
def zeroK : Array Value := wk0.cells.toArray
theorem Tryz.zeroWeak (W : World) : (zeroValue 62).run Tryz.prog W = .ok (.agg zeroK) W := by kernel_rfl
theorem Tryz.infoWeak : (Tryz.prog.info? 62).map (fun i => (i.zero, i.size, i.bytes)) = some (some (.agg zeroK), 33, 40) := by kernel_rfl
theorem Tryz.infoWeakS : (Tryz.prog.info? 62).map (·.size) = some 33 := by kernel_rfl
def Dlt.Sig.cells (s : Sig) (v : Value) : List Value := .int .i64 s.width :: .int .i64 s.size :: .int .i64 s.length :: (bys s.base ++ [v])
theorem Dlt.Sig.len (s : Sig) (v : Value) : (s.cells v).length = 36 := by simp [Sig.cells, bys_length, s.hb]
theorem sig_size (s : Sig) (v : Value) : (s.cells v).toArray.size = 36 := by simp [s.len]
theorem sig_one (s : Sig) (v : Value) (hv : v.oneCell' = true) : (s.cells v).toArray.all (·.oneCell') = true := by
 simp only [List.all_toArray, List.all_eq_true]
 intro u hu
 simp only [Sig.cells, List.mem_cons, List.mem_append, List.not_mem_nil, or_false] at hu
 rcases hu with h | h | h | h | h
 ·rw [h]; rfl
 ·rw [h]; rfl
 ·rw [h]; rfl
 ·exact bys_oneCell _ _ h
 ·rw [h]; exact hv
theorem Dlt.Sig.c0 (s : Sig) (v : Value) : (s.cells v)[0]? = some (.int .i64 s.width) := rfl
theorem Dlt.Sig.c1 (s : Sig) (v : Value) : (s.cells v)[1]? = some (.int .i64 s.size) := rfl
theorem Dlt.Sig.c2 (s : Sig) (v : Value) : (s.cells v)[2]? = some (.int .i64 s.length) := rfl
theorem Dlt.Sig.cb (s : Sig) (v : Value) {j : Nat} {u : Value} (h : (bys s.base)[j]? = some u) : (s.cells v)[3 + j]? = some u := by
 have hj := (List.getElem?_eq_some_iff.1 h).1
 rw [Nat.add_comm]
 show (bys s.base ++ [v])[j]? = _
 rw [List.getElem?_append_left hj]; exact h
theorem Dlt.Sig.cv (s : Sig) (v : Value) : (s.cells v)[35]? = some v := by
 show (bys s.base ++ [v])[32]? = _
 rw [List.getElem?_append_right (by rw [bys_length, s.hb]; exact Nat.le_refl _), bys_length, s.hb]; rfl
def zeroS : Array Value := (sig0.cells (.slice none 0 0)).toArray
theorem Tryz.zeroSig (W : World) : (zeroValue 26).run Tryz.prog W = .ok (.agg zeroS) W := by kernel_rfl
theorem Tryz.infoSigS : (Tryz.prog.info? 26).map (·.size) = some 36 := by kernel_rfl
theorem Tryz.infoIDS : (Tryz.prog.info? 23).map (·.size) = some 32 := by kernel_rfl
structure SigAt (w : World) (g : Nat) (s : Sig) (v : Value) : Prop where
 row : w.heap[g]? = some (.cells (s.cells v).toArray 26 (0, 0))
theorem SigAt.cell {w : World} {g : Nat} {s : Sig} {v : Value} (h : SigAt w g s v) {j : Nat} {u : Value} (hu : (s.cells v)[j]? = some u) : w.cell? ⟨g, j, none⟩ = some u := by
 rw [cell_of_row _ _ _ _ _ _ h.row]; simpa using hu
theorem SigAt.kept {l : List Nat} {w w' : World} {g : Nat} {s : Sig} {v : Value} (h : SigAt w g s v) (hk : Kept l w w') (hn : g ∉ l) : SigAt w' g s v := ⟨(hk.block g (gs h.row).1 hn).trans h.row⟩
theorem SigAt.lt {w : World} {g : Nat} {s : Sig} {v : Value} (h : SigAt w g s v) : g < w.heap.size := (gs h.row).1
theorem SigAt.range {w : World} {g : Nat} {s : Sig} {v : Value} (h : SigAt w g s v) : w.rangeAt g 0 (s.cells v) := fun j u hu => by rw [Nat.zero_add]; exact h.cell hu
theorem SigAt.base {w : World} {g : Nat} {s : Sig} {v : Value} (h : SigAt w g s v) : w.rangeAt g 3 (bys s.base) := fun j u hu => h.cell (s.cb v hu)
theorem SigAt.sl {w : World} {g : Nat} {s : Sig} {v : Value} (h : SigAt w g s v) : Sl w (some ⟨g, 3, none⟩) s.base := Sl.of fun i hi => h.base i _ (bys_at hi)
theorem SigAt.new (w : World) (s : Sig) (v : Value) : SigAt (w.alloc (.cells (s.cells v).toArray 26)) w.heap.size s v := ⟨heap_new w _⟩
end

section
open Dlt
theorem within_ok (v lo hi : Int) (w : World) : Calls Tryz.prog 64 #[.int .i64 v, .int .i64 lo, .int .i64 hi] w fun e w' => e = .returned (.bool (Dlt.within v lo hi)) ∧ w' = w := by
 by_cases h1 : lo <= v
 ·by_cases h2 : v <= hi
  ·have H : Hid (Dlt.within v lo hi = true) := Dlt.within_iff.2 ⟨h1, h2⟩
   go_enter Tryz.func64, Tryz.ntmps64
   go_wp2
   go_ret
   exact ⟨by rw [H.out]; rfl, rfl⟩
  ·have H : Hid (Dlt.within v lo hi = false) := Dlt.within_no.2 (by omega)
   go_enter Tryz.func64, Tryz.ntmps64
   go_wp2
   go_ret
   exact ⟨by rw [H.out]; rfl, rfl⟩
 ·have H : Hid (Dlt.within v lo hi = false) := Dlt.within_no.2 (by omega)
  go_enter Tryz.func64, Tryz.ntmps64
  go_wp2
  go_ret
  exact ⟨by rw [H.out]; rfl, rfl⟩
theorem isWidth_ok (v : Int) (w : World) : Calls Tryz.prog 43 #[.int .i64 v] w fun e w' => e = .returned (.bool (Dlt.isW v)) ∧ w' = w := by
 have h := within_ok v 1 32 w
 go_enter Tryz.func43, Tryz.ntmps43
 go_wp2_with (go_at_call 64; refine h.mono ?_; rintro r w' ⟨rfl, hw⟩; obtain rfl := hw.symm)
 go_ret
 exact ⟨rfl, rfl⟩
theorem isSize_ok (v : Int) (w : World) : Calls Tryz.prog 44 #[.int .i64 v] w fun e w' => e = .returned (.bool (Dlt.isZ v)) ∧ w' = w := by
 have h := within_ok v 16 4096 w
 go_enter Tryz.func44, Tryz.ntmps44
 go_wp2_with (go_at_call 64; refine h.mono ?_; rintro r w' ⟨rfl, hw⟩; obtain rfl := hw.symm)
 go_ret
 exact ⟨rfl, rfl⟩
theorem Tryz.sliceIDfrom (W : World) (b : Nat) (n : Nat) (hn : n <= 32) :
  ∃ ao, (Instr.sliceAt 23 (.pointer (some ⟨b, 0, none⟩)) (some (.int .i64 n)) none none).run Tryz.prog W = .ok (.slice ao (32 - n) (32 - n)) W ∧ (n < 32 -> ao = some ⟨b, n, none⟩) := by
 have ha : Tryz.prog.arrayLen 23 = 32 := by kernel_rfl
 have hz : (sizeOf (Tryz.prog.elem 23)).run Tryz.prog W = .ok 1 W := by kernel_rfl
 have h := run_sliceAt_array_l (P := Tryz.prog) W 23 ⟨b, 0, none⟩ (by kernel_rfl) .i64 n (by omega) (by rw [ha]; omega)
 rw [h, hz, ha]
 by_cases h32 : n = 32
 ·subst h32
  exact ⟨_, by simp [slicedAt]; rfl, by omega⟩
 ·refine ⟨some ⟨b, n, none⟩, ?_, fun _ => rfl⟩
  simp [slicedAt, Addr.add_mid]
  omega
theorem nought_step {W k : Nat} {id : List UInt8} (h : id.length = 32) (hk : W + k < 32) (hz : id.getD (W + k) 0 = 0) (ha : ((id.drop W).take k).all (· == 0) = true) : ((id.drop W).take (k + 1)).all (· == 0) = true := by
 have hl : k < (id.drop W).length := by rw [List.length_drop]; omega
 rw [List.take_succ_eq_append_getElem hl, List.all_append, ha]
 have e : (id.drop W)[k] = id.getD (W + k) 0 := by
  rw [List.getElem_drop, List.getD, List.getElem?_eq_getElem (by omega), Option.getD_some]
 simp only [List.all_cons, List.all_nil, Bool.and_true, Bool.true_and, beq_iff_eq]
 rw [e]; exact hz
theorem isID_ok (W : Nat) (id : List UInt8) (w : World) (hW : W <= 32) (hl : id.length = 32) :
  Calls Tryz.prog 66 #[.int .i64 W, .agg (bys id).toArray] w fun e w' => e = .returned (.bool (nought W id)) ∧ Kept [] w w' := by
 have hrow := heap_new w (.cells (bys id).toArray 23)
 have hK := ka w (.cells (bys id).toArray 23)
 obtain ⟨ao, hs, hao⟩ := Tryz.sliceIDfrom (w.alloc (.cells (bys id).toArray 23)) w.heap.size W hW
 have HL := hide hl
 have hm : 32 - W <= 32 := by omega
 have HC : Hid (∀ k, k < 32 - W -> (w.alloc (.cells (bys id).toArray 23)).cell? ⟨w.heap.size, W + k, none⟩ = some (.int .u8 (id.getD (W + k) 0).toNat)) := fun k hk => by
  rw [cell_of_row _ _ _ _ _ _ hrow, List.getElem?_toArray]
  exact bys_at (by omega)
 have HAO := hide hao
 have HW2 := hide hW
 clear hl hrow hao hW
 obtain ⟨m, hm2⟩ : ∃ m, m = 32 - W := ⟨_, rfl⟩
 rw [<-hm2] at hs hm HC
 have HM := hide hm2
 clear hm2
 go_enter Tryz.func66, Tryz.ntmps66
 go_wp2
 go_loopw [10] (fun x wr => ∃ k : Nat, k <= m ∧ x = .int .i64 k ∧ wr = w.alloc (.cells (bys id).toArray 23) ∧ Hid (((id.drop W).take k).all (· == 0) = true)) (fun x wr => m - (intOf x).toNat)
 case atStart => exact ⟨0, Nat.zero_le _, rfl, rfl, rfl⟩
 case round =>
  obtain ⟨k, hk, rfl, hwr, HA⟩ := hrel
  subst hwr
  by_cases hlt : k < m
  ·have hmm := HM.out
   have hc := HC.out k hlt
   have ea := HAO.out (by omega)
   subst ea
   have HST : Hid (id.getD (W + k) 0 = 0 -> ((id.drop W).take (k + 1)).all (· == 0) = true) := fun hz => nought_step HL.out (by omega) hz HA.out
   have HN0 : Hid (id.getD (W + k) 0 ≠ 0 -> nought W id = false) := fun hz => by
    apply Bool.eq_false_iff.2
    intro hn
    apply hz
    have hL := HL.out
    have hmem : id.getD (W + k) 0 ∈ id.drop W := by
     have e : (id.drop W)[k]'(by rw [List.length_drop]; omega) = id.getD (W + k) 0 := by
      rw [List.getElem_drop, List.getD, List.getElem?_eq_getElem (by omega), Option.getD_some]
     rw [<-e]; exact List.getElem_mem _
    have := List.all_eq_true.1 hn _ hmem
    simpa using this
   have hb : (id.getD (W + k) 0).toNat < 256 := UInt8.toNat_lt _
   clear hmm
   by_cases h0 : id.getD (W + k) 0 = 0
   ·rw [h0] at hc
    have H1 := hide (HST.out h0)
    clear h0 hb HN0 HST
    have hc' : (w.alloc (.cells (bys id).toArray 23)).cell? ⟨w.heap.size, W + k, none⟩ = some (.int .u8 0) := hc
    clear hc
    go_wp2
    go_roundw
    case rel => exact ⟨k + 1, by omega, by go_num, by first | rfl | trivial, H1⟩
    case measure => simp [intOf]; omega
   ·have H1 := hide (HN0.out h0)
    have hne : (id.getD (W + k) 0).toNat ≠ 0 := fun h => h0 (UInt8.toNat_inj.1 h)
    generalize (id.getD (W + k) 0).toNat = c at hc hb hne
    have hne' : ((c : Int) == 0) = false := by simp; omega
    clear h0 HN0 HST hne
    go_wp2
    go_ret
    exact ⟨by rw [H1.out]; rfl, hK⟩
  ·obtain rfl : k = m := by omega
   have HN1 : Hid (nought W id = true) := by
    have h := HA.out
    rw [List.take_of_length_le (by rw [List.length_drop, HL.out, HM.out]; exact Nat.le_refl _)] at h
    exact h
   clear HA
   go_wp2
   go_ret
   exact ⟨by rw [HN1.out]; rfl, hK⟩
theorem of_one (width : Int) (ao : Option Addr) (n cap : Nat) (xs : List UInt8) (w : World) (hn : xs.length = n) (hc : n <= cap) (hs : Sl w ao xs) (hm : n <= 4611686018427387904) :
  Calls Tryz.prog 45 #[.int .i64 width, .slice (some ⟨w.heap.size, 0, none⟩) 1 1] (w.alloc (.cells #[.slice ao n cap] 27)) fun e w' => e = .returned (.agg (bys (Sha.ident width xs)).toArray) ∧ Kept [] w w' := by
 have hrow := heap_new w (.cells #[.slice ao n cap] 27)
 have hK := ka w (.cells #[.slice ao n cap] 27)
 have hp : Pcs (w.alloc (.cells #[.slice ao n cap] 27)) (some ⟨w.heap.size, 0, none⟩) [⟨ao, cap, xs⟩] := fun i h => by
  have h1 : i < 1 := h
  obtain rfl : i = 0 := by omega
  refine ⟨_, _, rfl, by rw [cell_of_row _ _ _ _ _ _ hrow]; simp [<-hn], hs.kept hK (by simp), by show xs.length <= cap; omega⟩
 have hj : joined [⟨ao, cap, xs⟩] = xs := by simp [joined]
 refine (of_ok width _ 1 _ _ (by show 1 <= _; omega) hp (by rw [hj]; omega) 1 rfl).mono ?_
 rintro e w' ⟨rfl, hb⟩
 rw [hj]
 exact ⟨rfl, hK.tr (Kept.of_below hb)⟩
theorem range32 {L : List UInt8} (h : L.length = 32) : (List.range 32).map (fun i => L.getD i 0) = L := by
 apply List.ext_getElem
 ·simp [h]
 ·intro i h1 h2
  simp [List.getElem?_eq_getElem h2]
theorem wpList_buildRun8 {ops : Array Oper} {rest : List Oper} {o : Oper} {a : Act} {w : World} {Q : Exit -> Act -> World -> Prop} (hgd : o.guard = none) (t : TypeId) (parts : Array (Nat × Operand)) (ho : o.op = .build t parts) (vals : Array (Nat × Value)) (hv : (parts.map fun (i, x) => (i, a.eval x)) = vals) (v : Value) (hrun : (Instr.build t vals).run Tryz.prog w = .ok v w)
  (h : wpList Tryz.prog ops Q rest (a.put o.dst v) w) : wpList Tryz.prog ops Q (o :: rest) a w :=
 wpList_plain hgd fun _ hK => by
  unfold Oper.wp execOp
  simp only [ho, hv, Sem.run_bind, hrun, Result.andThen_ok]
  exact hK _ _ h
theorem Tryz.builtWk0 (f : Nat -> UInt8) (x : Int) (W : World) : (Instr.build 62 #[(0, .int .i64 x), (1, .agg (bys ((List.range 32).map f)).toArray)]).run Tryz.prog W = .ok (.agg (.int .i64 x :: bys ((List.range 32).map f)).toArray) W := by kernel_rfl
theorem Tryz.builtWk (k : Wk) (W : World) : (Instr.build 62 #[(0, .int .i64 k.sum), (1, .agg (bys k.id).toArray)]).run Tryz.prog W = .ok (.agg k.cells.toArray) W := by
 have h := Tryz.builtWk0 (fun i => k.id.getD i 0) k.sum W
 rw [range32 k.hid] at h
 exact h
theorem weakOf_ok (width : Int) (ao : Option Addr) (n cap : Nat) (xs : List UInt8) (w : World) (hn : xs.length = n) (hc : n <= cap) (hs : Sl w ao xs) (hm : n <= 4611686018427387904) :
  Calls Tryz.prog 46 #[.int .i64 width, .slice ao n cap] w fun e w' => e = .returned (.agg (weak width xs).cells.toArray) ∧ Kept [] w w' := by
 have hz := Tryz.zeroWeak
 have hnz : (w.alloc (.cells zeroK 62)).heap[w.heap.size]? = some (.cells zeroK 62 (0, 0)) := heap_new w _
 have hK0 := ka w (.cells zeroK 62)
 have hs0 := hs.kept hK0 (by simp)
 have hsm := rsum_n ao n cap xs (w.alloc (.cells zeroK 62)) hn (by omega) hs0
 have H0 := hide (ai hn (ai hc (ai hs0 hm)))
 obtain ⟨R, hR⟩ := nm (w.heap.size)
 have hRl : R < (w.alloc (.cells zeroK 62)).heap.size := by rw [<-hR]; simp
 rw [hR] at hnz
 have HB := Tryz.builtWk (weak width xs)
 have hsum : (weak width xs).sum = ((Rol.sum xs : Nat) : Int) := rfl
 have hid : (weak width xs).id = Sha.ident width xs := rfl
 have hial : (Tryz.prog.info? 62).map (·.size) = some (weak width xs).cells.toArray.size := by rw [wk_size]; exact Tryz.infoWeakS
 have hzs : zeroK.size = (weak width xs).cells.toArray.size := by rw [wk_size]; rfl
 have hall := wk_all (weak width xs)
 generalize weak width xs = k at HB hsum hid hial hzs hall ⊢
 simp only [hsum, hid] at HB
 clear hsum hid hn hc hs hs0 hm
 go_enter Tryz.func46, Tryz.ntmps46
 go_upto_region 1 with (fail)
 have HR := hide hR
 clear hR
 generalize w.alloc (.cells zeroK 62) = w0 at *
 go_wp2_with (first
  | (go_at_call 85; refine hsm.mono ?_; rintro r w1 ⟨rfl, hk1⟩; have hof := of_one width ao n cap xs w1 H0.out.1 H0.out.2.1 (H0.out.2.2.1.kept hk1 (by simp)) H0.out.2.2.2; have H1 := hide hk1; clear hsm hk1)
  | (go_at_call 45; refine hof.mono ?_; rintro r w2 ⟨rfl, hk2⟩; have H2 := hide hk2; have hn2 : w2.heap[R]? = some (.cells zeroK 62 (0, 0)) := (hk2.block _ (Nat.lt_of_lt_of_le hRl H1.out.size) (by simp)).trans ((H1.out.block _ hRl (by simp)).trans hnz); clear hof hk2)
  | refine wpList_buildRun8 rfl 62 #[(0, .tmp 6), (1, .tmp 10)] rfl #[(0, .int .i64 (Rol.sum xs : Nat)), (1, .agg (bys (Sha.ident width xs)).toArray)] (by simp [Act.eval]) _ (HB _) ?_
  | refine wpList_store_rowTo rfl 62 (.tmp 4) (.tmp 11) rfl rfl R k.cells.toArray rfl rfl 62 zeroK hn2 hial hzs hall ?_)
 have hKF : Kept [] w (w2.setRow R k.cells.toArray) := ((hK0.tr H1.out).tr H2.out).trans (kept_row w2 R _) (by have := HR.out; simp; omega)
 exact ret_row rfl rfl R 62 k.cells.toArray (0, 0) _ rfl (setRow_heap _ _ _ _ _ _ hn2) Tryz.underlying62 rfl hial ⟨rfl, hKF⟩
end

section
open Dlt
theorem wpList_load_midW {ops : Array Oper} {rest : List Oper} {op : Oper} {a : Act} {w : World} {Q : Exit -> Act -> World -> Prop} (ty : TypeId) (x : Operand) (ho : op.op = .load ty x)
  (b o : Nat) (hx : a.eval x = .pointer (some ⟨b, o, none⟩)) (cs : List Value) (d : TypeDesc) (hc : w.rangeAt b o cs)
  (hu : Tryz.prog.underlying ty = some d) (hd : d.isRow = true) (hi : (Tryz.prog.info? ty).map (·.size) = some cs.length) (hw : Region.wanted op (yielded ops a.tmps) = true)
  (h : wpList Tryz.prog ops Q rest (a.put op.dst (.agg cs.toArray)) w) : wpList Tryz.prog ops Q (op :: rest) a w :=
 BigFrame.wpList_want hw fun _ hK => wp_load_mid ty x ho b o hx cs d hc hu hd hi (hK _ _ h)
theorem row_rangeK {w : World} {g : Nat} {cs : List Value} {t : TypeId} {f : Nat × Nat} (h : w.heap[g]? = some (.cells cs.toArray t f)) : w.rangeAt g 0 cs := fun j v hv => by
 rw [Nat.zero_add, cell_of_row _ _ _ _ _ _ h]; simpa using hv
theorem idlen {id : List UInt8} (h : id.length = 32) : (Tryz.prog.info? 23).map (·.size) = some (bys id).length := by rw [bys_length, h]; exact Tryz.infoIDS
theorem isWeak_ok (W : Nat) (k : Wk) (w : World) (hW : W <= 32) :
  Calls Tryz.prog 65 #[.int .i64 W, .agg k.cells.toArray] w fun e w' => e = .returned (.bool (okWk W k)) ∧ Kept [] w w' := by
 have hrow := row_rangeK (heap_new w (.cells k.cells.toArray 62))
 have hK := ka w (.cells k.cells.toArray 62)
 have c0 := hrow 0 _ k.su
 rw [Nat.zero_add] at c0
 have hid := wk_range hrow
 have hil := idlen k.hid
 have hwi := within_ok k.sum 0 4294967295 (w.alloc (.cells k.cells.toArray 62))
 have hnb := isID_ok W k.id (w.alloc (.cells k.cells.toArray 62)) hW k.hid
 have HO : Hid (okWk W k = (Dlt.within k.sum 0 4294967295 && nought W k.id)) := rfl
 generalize nought W k.id = nb at hnb HO
 generalize Dlt.within k.sum 0 4294967295 = wi at hwi HO
 clear hrow
 cases wi with
 | false =>
  go_enter Tryz.func65, Tryz.ntmps65
  go_wp2_with (go_at_call 64; refine hwi.mono ?_; rintro r w' ⟨rfl, hw⟩; obtain rfl := hw.symm)
  go_ret
  exact ⟨by rw [HO.out]; rfl, hK⟩
 | true =>
  go_enter Tryz.func65, Tryz.ntmps65
  go_wp2_with (first
   | (go_at_call 64; refine hwi.mono ?_; rintro r w' ⟨rfl, hw⟩; obtain rfl := hw.symm; clear hwi)
   | refine wpList_load_midW 23 (.tmp 10) rfl w.heap.size 1 rfl (bys k.id) _ hid Tryz.underlying23 rfl hil (by kernel_rfl) ?_
   | (go_at_call 66; refine hnb.mono ?_; rintro r w2 ⟨rfl, hk2⟩; have H2 := hide hk2; clear hnb hk2))
  go_ret
  exact ⟨by rw [HO.out]; rfl, hK.tr H2.out⟩
theorem Tryz.infoWk (k : Wk) : (Tryz.prog.info? 62).map (·.size) = some k.cells.length := by rw [k.len]; exact Tryz.infoWeakS
theorem Tryz.infoWkA (k : Wk) : (Tryz.prog.info? 62).map (·.size) = some k.cells.toArray.size := by rw [wk_size]; exact Tryz.infoWeakS
theorem zeroK_size (k : Wk) : zeroK.size = k.cells.toArray.size := by rw [wk_size]; rfl
def withWk (w : World) (k : Wk) : World := (w.alloc (.cells zeroK 62)).setRow w.heap.size k.cells.toArray
theorem withWk_kept (w : World) (k : Wk) : Kept [] w (withWk w k) := ((Kept.refl [] w).alloc _).tr (kept_row _ _ _)
theorem withWk_row (w : World) (k : Wk) : (withWk w k).heap[w.heap.size]? = some (.cells k.cells.toArray 62 (0, 0)) := setRow_heap _ _ _ _ _ _ (heap_new w _)
structure SigIn (w : World) (s : Sig) (ao : Option Addr) (n cap : Nat) : Prop where
 len : s.blocks.length = n
 le : n <= cap
 max : cap <= 9223372036854775807
 at_ : Wks w ao s.blocks
theorem SigIn.kept {w w' : World} {s : Sig} {ao : Option Addr} {n cap : Nat} (h : SigIn w s ao n cap) (hk : Kept [] w w') : SigIn w' s ao n cap := ⟨h.len, h.le, h.max, h.at_.kept hk (by simp)⟩
theorem all_step {L : List Wk} {k W : Nat} (hk : k < L.length) (ha : (L.take k).all (okWk W) = true) (hz : okWk W (L.getD k wk0) = true) : (L.take (k + 1)).all (okWk W) = true := by
 rw [List.take_succ_eq_append_getElem hk, List.all_append, ha]
 have e : L[k] = L.getD k wk0 := by simp [List.getElem?_eq_getElem hk]
 simp only [List.all_cons, List.all_nil, Bool.and_true, Bool.true_and]
 rw [e]; exact hz
theorem all_no {L : List Wk} {k W : Nat} (hk : k < L.length) (hz : okWk W (L.getD k wk0) = false) : L.all (okWk W) = false := by
 apply Bool.eq_false_iff.2
 intro h
 have e : L[k] = L.getD k wk0 := by simp [List.getElem?_eq_getElem hk]
 have := List.all_eq_true.1 h L[k] (List.getElem_mem _)
 rw [e, hz] at this
 cases this
theorem mayBe_head (s : Sig) (ao : Option Addr) (n cap : Nat) (w : World) (hI : SigIn w s ao n cap) (hb : (Dlt.isW s.width && Dlt.isZ s.size && Dlt.within s.length 0 131072) = false) :
  Calls Tryz.prog 28 #[.agg (s.cells (.slice ao n cap)).toArray] w fun e w' => e = .returned (.bool (may s)) ∧ Kept [] w w' := by
 have hA := SigAt.new w s (.slice ao n cap)
 have hK := ka w (.cells (s.cells (.slice ao n cap)).toArray 26)
 have c0 := hA.cell (s.c0 _)
 have c1 := hA.cell (s.c1 _)
 have c2 := hA.cell (s.c2 _)
 have HM : Hid (may s = false) := by
  show may s = false
  unfold may
  rw [hb]
  rfl
 have h1 := isWidth_ok s.width (w.alloc (.cells (s.cells (.slice ao n cap)).toArray 26))
 have h2 := isSize_ok s.size (w.alloc (.cells (s.cells (.slice ao n cap)).toArray 26))
 have h3 := within_ok s.length 0 131072 (w.alloc (.cells (s.cells (.slice ao n cap)).toArray 26))
 generalize Dlt.isW s.width = b1 at h1 hb
 generalize Dlt.isZ s.size = b2 at h2 hb
 generalize Dlt.within s.length 0 131072 = b3 at h3 hb
 clear hA hI
 cases b1 with
 | false =>
  clear hb
  go_enter Tryz.func28, Tryz.ntmps28
  go_wp2_with (go_at_call 43; refine h1.mono ?_; rintro r w' ⟨rfl, hw⟩; obtain rfl := hw.symm)
  go_ret
  exact ⟨by rw [HM.out]; rfl, hK⟩
 | true =>
  cases b2 with
  | false =>
   clear hb
   go_enter Tryz.func28, Tryz.ntmps28
   go_wp2_with (first
    | (go_at_call 43; refine h1.mono ?_; rintro r w' ⟨rfl, hw⟩; obtain rfl := hw.symm)
    | (go_at_call 44; refine h2.mono ?_; rintro r w' ⟨rfl, hw⟩; obtain rfl := hw.symm))
   go_ret
   exact ⟨by rw [HM.out]; rfl, hK⟩
  | true =>
   cases b3 with
   | true => simp at hb
   | false =>
    clear hb
    go_enter Tryz.func28, Tryz.ntmps28
    go_wp2_with (first
     | (go_at_call 43; refine h1.mono ?_; rintro r w' ⟨rfl, hw⟩; obtain rfl := hw.symm)
     | (go_at_call 44; refine h2.mono ?_; rintro r w' ⟨rfl, hw⟩; obtain rfl := hw.symm)
     | (go_at_call 64; refine h3.mono ?_; rintro r w' ⟨rfl, hw⟩; obtain rfl := hw.symm))
    go_ret
    exact ⟨by rw [HM.out]; rfl, hK⟩
theorem mayBe_tail (s : Sig) (ao : Option Addr) (n cap : Nat) (w : World) (hI : SigIn w s ao n cap) (hb1 : Dlt.isW s.width = true) (hb2 : Dlt.isZ s.size = true) (hb3 : Dlt.within s.length 0 131072 = true) :
  Calls Tryz.prog 28 #[.agg (s.cells (.slice ao n cap)).toArray] w fun e w' => e = .returned (.bool (may s)) ∧ Kept [] w w' := by
 have hA := SigAt.new w s (.slice ao n cap)
 have hK := ka w (.cells (s.cells (.slice ao n cap)).toArray 26)
 have c0 := hA.cell (s.c0 _)
 have c1 := hA.cell (s.c1 _)
 have c2 := hA.cell (s.c2 _)
 have c4 := hA.cell (s.cv _)
 have h1 := isWidth_ok s.width (w.alloc (.cells (s.cells (.slice ao n cap)).toArray 26))
 have h2 := isSize_ok s.size (w.alloc (.cells (s.cells (.slice ao n cap)).toArray 26))
 have h3 := within_ok s.length 0 131072 (w.alloc (.cells (s.cells (.slice ao n cap)).toArray 26))
 have HM : Hid (may s = (decide ((s.blocks.length : Int) = s.length / s.size) && decide (s.blocks.length <= 2048) && s.blocks.all (okWk s.width.toNat) && nought s.width.toNat s.base)) := by
  show may s = _
  unfold may
  rw [hb1, hb2, hb3]
  rfl
 rw [hb1] at h1
 rw [hb2] at h2
 rw [hb3] at h3
 have HI := hide (hI.kept hK)
 have HA := hide hA
 rw [isW, Dlt.within_iff] at hb1
 rw [isZ, Dlt.within_iff] at hb2
 rw [Dlt.within_iff] at hb3
 obtain ⟨W, hW⟩ := Int.eq_ofNat_of_zero_le (show 0 <= s.width by omega)
 have HWW := hide hW
 obtain ⟨Z, hZ⟩ := Int.eq_ofNat_of_zero_le (show 0 <= s.size by omega)
 obtain ⟨N, hN⟩ := Int.eq_ofNat_of_zero_le (show 0 <= s.length by omega)
 rw [hW] at c0 h1 hb1 HM
 rw [hZ] at c1 h2 hb2 HM
 rw [hN] at c2 h3 hb3 HM
 rw [Int.toNat_natCast, hI.len, <-Int.natCast_ediv] at HM
 have hW32 : W <= 32 := by omega
 obtain ⟨q, hq⟩ := nm (N / Z)
 rw [hq] at HM
 have hqn : q <= 131072 := by rw [<-hq]; exact Nat.le_trans (Nat.div_le_self _ _) (by omega)
 have hdiv : (N : Int).tdiv (Z : Int) = (q : Int) := by rw [<-hq, Int.ofNat_tdiv]
 have hz0 : ((Z : Int) == 0) = false := by simp; omega
 have hzz : (Z : Int) ≠ 0 := by omega
 have hle := hI.le
 have hmx := hI.max
 have hmn : n <= 9223372036854775807 := by omega
 have hzk := Tryz.zeroWeak
 clear hA hI hW hZ hN hq hb1 hb2 hb3 hle hmx
 obtain ⟨G, hG⟩ := nm (w.heap.size)
 rw [hG] at c0 c1 c2 c4 HA
 go_enter Tryz.func28, Tryz.ntmps28
 go_upto_region 1 with (fail)
 have HG : Hid (G < (w.alloc (.cells (s.cells (.slice ao n cap)).toArray 26)).heap.size) := by show _ < _; rw [<-hG]; simp
 clear hG
 generalize w.alloc (.cells (s.cells (.slice ao n cap)).toArray 26) = w1 at *
 go_upto_region 3 with (first
  | (go_at_call 43; refine h1.mono ?_; rintro r w' ⟨rfl, hw⟩; obtain rfl := hw.symm)
  | (go_at_call 44; refine h2.mono ?_; rintro r w' ⟨rfl, hw⟩; obtain rfl := hw.symm)
  | (go_at_call 64; refine h3.mono ?_; rintro r w' ⟨rfl, hw⟩; obtain rfl := hw.symm))
 clear h1 h2 h3
 by_cases hc : n = q
 ·subst hc
  have hne : ((n : Int) != (n : Int)) = false := by simp
  by_cases hf : n <= 2048
  ·have hf' : ¬ (2048 : Int) < (n : Int) := by omega
   have HM2 : Hid (may s = (s.blocks.all (okWk W) && nought W s.base)) := by
    show may s = _
    rw [HM.out]; simp [hf]
   clear HM
   go_quiet (fail)
   have hk2 : Kept [] w1 (w1.drewN nq) := (Kept.refl [] w1).drewN _
   generalize w1.drewN nq = w2 at hk2 ⊢
   replace HI := hide (HI.out.kept hk2)
   replace HA := hide (HA.out.kept hk2 (by simp))
   replace HG := hide (Nat.lt_of_lt_of_le HG.out hk2.size)
   have HK2 := hide (hK.tr hk2)
   clear hK hk2 c0 c1 c2 hne hf' hdiv hz0 hzz hqn
   replace c4 := HA.out.cell (s.cv _)
   clear c4
   have c4 := HA.out.cell (s.cv _)
   go_wp2
   go_loopw [39] (fun x wr => ∃ k : Nat, k <= n ∧ x = .int .i64 k ∧ Hid ((s.blocks.take k).all (okWk W) = true) ∧ Hid (Kept [] w2 wr)) (fun x wr => n - (intOf x).toNat)
   case atStart => exact ⟨0, Nat.zero_le _, rfl, rfl, Kept.refl _ _⟩
   case round =>
    obtain ⟨k, hk, rfl, HAL, HKR⟩ := hrel
    have hA := HA.out.kept HKR.out (by simp)
    have c0 := hA.cell (s.c0 _)
    rw [HWW.out] at c0
    by_cases hlt : k < n
    ·have hkl : k < s.blocks.length := by rw [HI.out.len]; exact hlt
     obtain ⟨b, off, rfl, hrg⟩ := (HI.out.at_.kept HKR.out (by simp)) k hkl
     have HS1 : Hid (okWk W (s.blocks.getD k wk0) = true -> (s.blocks.take (k + 1)).all (okWk W) = true) := fun h => all_step hkl HAL.out h
     have HS2 : Hid (okWk W (s.blocks.getD k wk0) = false -> s.blocks.all (okWk W) = false) := fun h => all_no hkl h
     generalize s.blocks.getD k wk0 = e at hrg HS1 HS2
     have hnz := heap_new wr (.cells zeroK 62)
     have hil := Tryz.infoWk e
     have hia := Tryz.infoWkA e
     have hzs := zeroK_size e
     have hal := wk_all e
     have hkw := withWk_kept wr e
     have hrw := row_rangeK (withWk_row wr e)
     have hiw := isWeak_ok W e (withWk wr e) hW32
     have c0' := hkw.cellOf c0 (by simp)
     clear c0 hA
     go_upto_region 8 with (first | refine wpList_load_mid rfl 62 (.tmp 41) rfl b (off + k * 33) rfl e.cells _ hrg Tryz.underlying62 rfl hil ?_ | refine wpList_store_rowTo rfl 62 (.tmp 4) (.tmp 42) rfl rfl wr.heap.size e.cells.toArray rfl rfl 62 zeroK hnz hia hzs hal ?_)
     have hW : (wr.alloc (.cells zeroK 62)).setRow wr.heap.size e.cells.toArray = withWk wr e := rfl
     rw [hW]
     have HKW := hide (HKR.out.tr hkw)
     clear hrg hia hzs hal hnz hW hkw
     generalize withWk wr e = W2 at *
     generalize okWk W e = ok at hiw HS1 HS2
     cases ok with
     | true =>
      go_wp2_with (first
       | refine wpList_load_mid rfl 62 (.tmp 4) rfl wr.heap.size 0 rfl e.cells _ hrw Tryz.underlying62 rfl hil ?_
       | (go_at_call 65; refine hiw.mono ?_; rintro r w4 ⟨rfl, hk4⟩; have HK4 := hide hk4; clear hiw hk4))
      go_roundw
      case rel => exact ⟨k + 1, by omega, by go_num, hide (HS1.out (by first | rfl | trivial)), hide (HKW.out.tr HK4.out)⟩
      case measure => simp [intOf]; omega
     | false =>
      have HF : Hid (may s = false) := by
       show may s = false
       rw [HM2.out, HS2.out rfl]; rfl
      go_wp2_with (first
       | refine wpList_load_mid rfl 62 (.tmp 4) rfl wr.heap.size 0 rfl e.cells _ hrw Tryz.underlying62 rfl hil ?_
       | (go_at_call 65; refine hiw.mono ?_; rintro r w4 ⟨rfl, hk4⟩; have HK4 := hide hk4; clear hiw hk4))
      go_ret
      exact ⟨by rw [HF.out]; rfl, (HK2.out.tr HKW.out).tr HK4.out⟩
    ·obtain rfl : k = n := by omega
     have HF : Hid (may s = nought W s.base) := by
      have h := HAL.out
      rw [List.take_of_length_le (by rw [HI.out.len]; exact Nat.le_refl _)] at h
      show may s = _
      rw [HM2.out, h]; rfl
     have hib := isID_ok W s.base wr hW32 s.hb
     have hbr := hA.base
     have hil := idlen s.hb
     generalize nought W s.base = nb at hib HF
     clear hA
     go_wp2_with (first
      | refine wpList_load_mid rfl 23 (.tmp 51) rfl G 3 rfl (bys s.base) _ hbr Tryz.underlying23 rfl hil ?_
      | (go_at_call 66; refine hib.mono ?_; rintro r w4 ⟨rfl, hk4⟩; have HK4 := hide hk4; clear hib hk4))
     go_ret
     exact ⟨by rw [HF.out]; rfl, (HK2.out.tr HKR.out).tr HK4.out⟩
  ·have hf' : (2048 : Int) < (n : Int) := by omega
   have HM2 : Hid (may s = false) := by
    show may s = _
    rw [HM.out]; simp [hf]
   go_quiet (fail)
   go_wp2
   go_ret
   exact ⟨by rw [HM2.out]; rfl, hK.drewN _⟩
 ·have hne : ((n : Int) != (q : Int)) = true := by simp; omega
  have HM2 : Hid (may s = false) := by
   show may s = _
   rw [HM.out]
   have : decide ((n : Int) = (q : Int)) = false := by simp; omega
   rw [this]; rfl
  go_quiet (fail)
  go_wp2
  go_ret
  exact ⟨by rw [HM2.out]; rfl, hK.drewN _⟩
theorem mayBe_ok (s : Sig) (ao : Option Addr) (n cap : Nat) (w : World) (hI : SigIn w s ao n cap) :
  Calls Tryz.prog 28 #[.agg (s.cells (.slice ao n cap)).toArray] w fun e w' => e = .returned (.bool (may s)) ∧ Kept [] w w' := by
 cases hb : (Dlt.isW s.width && Dlt.isZ s.size && Dlt.within s.length 0 131072) with
 | false => exact mayBe_head s ao n cap w hI hb
 | true =>
  rw [Bool.and_eq_true, Bool.and_eq_true] at hb
  exact mayBe_tail s ao n cap w hI hb.1.1 hb.1.2 hb.2
end

section
theorem sum_some (b off len cap : Nat) (xs : List UInt8) (w : World) (hm : len <= 9223372036854775807) (hb : b < w.heap.size) (hl : xs.length = len) (hc : ∀ i, i < xs.length -> w.cell? ⟨b, off + i, none⟩ = some (.int .u8 (xs.getD i 0).toNat)) :
  Calls Tryz.prog 107 #[.slice (some ⟨b, off, none⟩) len cap] w fun e w' => e = .returned (.int .i64 (Pure.sum xs)) ∧ Below w.heap.size w w' := by
 go_enter Tryz.func107, Tryz.ntmps107
 go_wp2
 have hB : Below w.heap.size w (w.alloc (.cells ((Pure.tbl.map (fun n : Nat => Value.int .u32 n)).toArray) 183)) := (Below.refl _ _).alloc (Nat.le_refl _) _
 have hT : ∀ i : Nat, i < 16 -> (w.alloc (.cells ((Pure.tbl.map (fun n : Nat => Value.int .u32 n)).toArray) 183)).cell? ⟨w.heap.size, i, none⟩ = some (.int .u32 (Pure.tb i)) := by
  intro i hi
  rw [World.cell?_alloc_new]
  simp [Pure.tb, List.getElem?_map, List.getElem?_eq_getElem (show i < Pure.tbl.length from hi)]
 have hC : ∀ i, i < len -> (w.alloc (.cells ((Pure.tbl.map (fun n : Nat => Value.int .u32 n)).toArray) 183)).cell? ⟨b, off + i, none⟩ = some (.int .u8 (xs.getD i 0).toNat) := by
  intro i hi
  rw [World.cell?_alloc_lt _ _ _ hb]; exact hc i (by omega)
 simp only [Pure.tbl, List.map] at hB hT hC
 generalize w.alloc _ = w1 at hB hT hC ⊢
 go_loop [4, 10] (fun r i => ∃ k : Nat, k <= len ∧ i = .int .i64 k ∧ r = .int .u32 (Pure.crc 4294967295 (xs.take k))) (fun _ i => len - (intOf i).toNat)
 case atStart => exact ⟨0, Nat.zero_le _, rfl, rfl⟩
 case round =>
  obtain ⟨k, hk, rfl, rfl⟩ := hrel
  have hx1 : Pure.crc 4294967295 (xs.take k) < 4294967296 := Pure.crc_lt (by omega) _
  by_cases hlt : k < len
  ·have hcell := hC k hlt
   have hcb : (xs.getD k 0).toNat < 256 := UInt8.toNat_lt _
   have HS : Hid (Pure.crc 4294967295 (xs.take (k + 1)) = Pure.crcStep (Pure.crc 4294967295 (xs.take k)) (xs.getD k 0).toNat) := by
    show _ = _
    rw [Pure.take_snoc xs 0 k (by omega), Pure.crc_snoc]
   generalize Pure.crc 4294967295 (xs.take k) = x at hx1 HS ⊢
   generalize (xs.getD k 0).toNat = c at hcell hcb HS
   have e1 := u32_xor_nat x c hx1 (by omega)
   have b1 := Pure.xor_lt32 hx1 (show c < 4294967296 by omega)
   have e2 : bits .and .u32 ((x ^^^ c : Nat) : Int) 15 = (((x ^^^ c) % 16 : Nat) : Int) := by rw [<-nat_mask4]; exact u32_and_nat (x ^^^ c) 15 b1 (by omega)
   have e3 : bits .xor .u32 ((x ^^^ c : Nat) / 16 : Int) (Pure.tb ((x ^^^ c) % 16)) = (Pure.nib (x ^^^ c) : Nat) := by
    rw [show ((x ^^^ c : Nat) / 16 : Int) = (((x ^^^ c) / 16 : Nat) : Int) by omega]
    exact u32_xor_nat _ _ (by omega) (Pure.tb_lt _)
   have HS' : Hid (Pure.crc 4294967295 (xs.take (k + 1)) = Pure.nib (Pure.nib (x ^^^ c))) := HS
   clear HS
   have b2 := Pure.nib_lt b1
   have hT1 := hT ((x ^^^ c) % 16) (by omega)
   generalize x ^^^ c = y at e1 b1 e2 e3 b2 hT1 HS'
   have e4 : bits .and .u32 (Pure.nib y : Int) 15 = ((Pure.nib y % 16 : Nat) : Int) := by rw [<-nat_mask4]; exact u32_and_nat _ 15 b2 (by omega)
   have e5 : bits .xor .u32 (Pure.nib y / 16 : Int) (Pure.tb (Pure.nib y % 16)) = (Pure.nib (Pure.nib y) : Nat) := by
    rw [show (Pure.nib y / 16 : Int) = ((Pure.nib y / 16 : Nat) : Int) by omega]
    exact u32_xor_nat _ _ (by omega) (Pure.tb_lt _)
   have hT2 := hT (Pure.nib y % 16) (by omega)
   clear hC hc hB hT
   go_wp2
   go_round
   case rel => exact ⟨k + 1, by omega, by go_num, by rw [HS'.out]⟩
   case measure => simp [intOf]; omega
  ·have HT : Hid (xs.take k = xs) := List.take_of_length_le (by omega)
   have hsg : IntKind.u32.signed = false := rfl
   have e6 : bits .xor .u32 IntKind.u32.max (Pure.crc 4294967295 (xs.take k)) = (Pure.sum xs : Nat) := by
    have := u32_xor_nat 4294967295 _ (by omega) hx1
    rw [Pure.ones_xor hx1, HT.out] at this
    rw [HT.out]
    exact this
   have hsl : Pure.sum xs <= 4294967295 := Nat.sub_le _ _
   clear hC hc hT
   generalize Pure.crc 4294967295 (xs.take k) = x at e6 ⊢
   go_wp2
   go_ret
   exact ⟨rfl, hB⟩
theorem sum_empty (ao : Option Addr) (cap : Nat) (w : World) :
  Calls Tryz.prog 107 #[.slice ao 0 cap] w fun e w' => e = .returned (.int .i64 (Pure.sum [])) ∧ Below w.heap.size w w' := by
 have hsg : IntKind.u32.signed = false := rfl
 have e6 : bits .xor .u32 IntKind.u32.max 4294967295 = 0 := rfl
 go_enter Tryz.func107, Tryz.ntmps107
 go_wp2
 go_loop [4, 10] (fun r i => i = .int .i64 0 ∧ r = .int .u32 4294967295) (fun _ i => 0)
 case atStart => exact ⟨rfl, rfl⟩
 case round =>
  obtain ⟨rfl, rfl⟩ := hrel
  go_wp2
  go_ret
  exact ⟨rfl, (Below.refl _ _).alloc (Nat.le_refl _) _⟩
theorem sum_any (ao : Option Addr) (cap : Nat) (xs : List UInt8) (w : World) (hm : xs.length <= 9223372036854775807) (h : Sl w ao xs) :
  Calls Tryz.prog 107 #[.slice ao xs.length cap] w fun e w' => e = .returned (.int .i64 (Pure.sum xs)) ∧ Below w.heap.size w w' := by
 by_cases hn : xs = []
 ·subst hn
  exact sum_empty ao cap w
 ·obtain ⟨b, off, rfl, hb, hc⟩ := h.open hn
  exact sum_some b off xs.length cap xs w hm hb rfl hc
theorem sum_n (ao : Option Addr) (n cap : Nat) (xs : List UInt8) (w : World) (hn : xs.length = n) (hm : xs.length <= 9223372036854775807) (h : Sl w ao xs) :
  Calls Tryz.prog 107 #[.slice ao n cap] w fun e w' => e = .returned (.int .i64 (Pure.sum xs)) ∧ Below w.heap.size w w' := by
 subst hn
 exact sum_any ao cap xs w hm h
end

end Go.Proofs.YtmklodligplbaabGreat
