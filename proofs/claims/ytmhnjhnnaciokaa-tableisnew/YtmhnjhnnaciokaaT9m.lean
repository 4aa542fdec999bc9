/-
  TableIsNew: its ground. (Written by tools/t9t.py.)
-/
import Derived.Test.YtmhnjhnnaciokaaT9k
import Derived.Test.YtmhnjhnnaciokaaT9n
import Derived.Test.YtmhnjhnnaciokaaZv
namespace Go.Proofs.Ytmhnjhnnaciokaa
open Go.RowKit Go.Sort
set_option linter.unusedVariables false
set_option linter.unusedSimpArgs false

def Idss (w : World) (ao : Option Addr) (C : List (List UInt8)) : Prop :=
  ∀ i, i < C.length → ∃ b off, ao = some ⟨b, off, none⟩ ∧ w.rangeAt b (off + i * 32) (bys (C.getD i []))
theorem Idss.nil (w : World) (ao : Option Addr) : Idss w ao [] := fun i hi => by simp at hi
theorem Idss.kept {l : List Nat} {w w' : World} {ao : Option Addr} {C : List (List UInt8)} (h : Idss w ao C) (hk : Kept l w w') (hn : C ≠ [] → ∀ a, ao = some a → a.block ∉ l) : Idss w' ao C := by
  intro i hi
  obtain ⟨b, off, e, hc⟩ := h i hi
  exact ⟨b, off, e, fun j v hv => hk.cellOf (hc j v hv) (hn (by rintro rfl; simp at hi) ⟨b, off, none⟩ e)⟩
theorem idrows_at : ∀ {C : List (List UInt8)}, (∀ i ∈ C, i.length = 32) → ∀ (i j : Nat) (v : Value), i < C.length → (bys (C.getD i []))[j]? = some v → (idrows C)[i * 32 + j]? = some v := by
  intro C
  induction C with
  | nil => intro _ i j v hi; simp at hi
  | cons e r ih =>
    intro hl i j v hi hv
    have h1 : (bys e).length = 32 := by rw [bys_length]; exact hl e (by simp)
    cases i with
    | zero =>
      have hj := (List.getElem?_eq_some_iff.1 hv).1
      simp only [List.getD, List.getElem?_cons_zero, Option.getD_some] at hv hj
      simp only [idrows, List.flatMap_cons, Nat.zero_mul, Nat.zero_add]
      rw [List.getElem?_append_left hj]; exact hv
    | succ i =>
      have := ih (fun x hx => hl x (by simp [hx])) i j v (by simpa using hi) (by simpa [List.getD] using hv)
      simp only [idrows, List.flatMap_cons] at this ⊢
      rw [List.getElem?_append_right (by omega), h1]
      rw [show (i + 1) * 32 + j - 32 = i * 32 + j by omega]
      exact this
theorem own_ids {w : World} {base : Nat} {v : Value} {C : List (List UInt8)} (h : OwnI w base v C) : ∃ ao cap, v = .slice ao C.length cap ∧ Idss w ao C ∧ (∀ a, ao = some a → base ≤ a.block) := by
  rcases h.1.2 with ⟨rfl, h0⟩ | ⟨g, cap, cur, rfl, hb, hg, hn, hc, hs, ht⟩
  · have h0' : C.length = 0 := h0
    have : C = [] := List.eq_nil_of_length_eq_zero h0'
    subst this
    exact ⟨none, 0, rfl, Idss.nil _ _, by simp⟩
  · refine ⟨_, cap, rfl, fun i hi => ⟨g, 0, rfl, fun j u hu => ?_⟩, fun a ha => by cases ha; exact hb⟩
    have h1 := idrows_at h.2 i j u hi hu
    rw [← ht, List.getElem?_take] at h1
    rw [Nat.zero_add, cell_of_row _ _ _ _ _ _ hg]
    split at h1
    · simpa using h1
    · cases h1
/-- What Join tells, opened. -/
theorem told_openJ {w w' : World} {r : Ending} {s : Tb.St} (h : ToldJ w w' r s) : ∃ bo c m co d q, r = .returned (.tuple #[.slice bo m c, .slice co q d, .int .i64 s.2.2]) ∧ s.1.length = m ∧ s.2.1.length = q ∧ Ress w' bo s.1 ∧ Idss w' co s.2.1 ∧ (∀ i ∈ s.2.1, i.length = 32) ∧ (∀ a, bo = some a → w.heap.size ≤ a.block) ∧ (∀ a, co = some a → w.heap.size ≤ a.block) ∧ Kept [] w w' := by
  obtain ⟨⟨v, vc, rfl, ho, hi⟩, hk⟩ := h
  obtain ⟨bo, c, rfl, _, hR, hao, _⟩ := ho.ress
  obtain ⟨co, d, rfl, hI, hco⟩ := own_ids hi
  exact ⟨bo, c, _, co, d, _, rfl, rfl, rfl, hR, hI, hi.2, fun a ha => by obtain ⟨g, rfl, hb, _⟩ := hao a ha; exact hb, hco, hk⟩

/-- A block of that type, so many cells. -/
def Blk (w : World) (g : Nat) (t : TypeId) (N : Nat) : Prop := ∃ cur, w.heap[g]? = some (.cells cur t (0, 0)) ∧ cur.size = N
theorem Blk.cell {w : World} {g N : Nat} {t : TypeId} (h : Blk w g t N) (b o : Nat) (v : Value) : Blk (w.setCell ⟨b, o, none⟩ v) g t N := by
  obtain ⟨cur, h1, h2⟩ := h
  by_cases e : b = g
  · subst e
    exact ⟨_, heap_setCell_same w b o cur t v h1, by simpa using h2⟩
  · exact ⟨cur, by rw [heap_setCell_other w ⟨b, o, none⟩ g v (Ne.symm e)]; exact h1, h2⟩
theorem Blk.cells {w : World} {g N : Nat} {t : TypeId} (h : Blk w g t N) (b o : Nat) (vs : List Value) : Blk (w.setCells b o vs) g t N := by
  induction vs generalizing w o with
  | nil => exact h
  | cons v r ih => exact ih (h.cell b o v) (o + 1)

set_option maxHeartbeats 3200000 in
set_option maxRecDepth 100000 in
theorem roomy_own (ao : Option Addr) (n cap : Nat) (L : List Res) (w : World) (hn : L.length = n) (hL : Ress w ao L) (hm : n * 72 ≤ 140737488351232) :
    Calls Try.prog 4 #[.slice ao n cap] w fun r w' => ∃ g, r = .returned (.tuple #[.slice (some ⟨g, 0, none⟩) n (n + 3), .slice (some ⟨g, 0, none⟩) (n + 3) (n + 3)]) ∧ w.heap.size ≤ g ∧ Ress w' (some ⟨g, 0, none⟩) (L ++ marks) ∧ w'.there g 0 ((n + 3) * 65) ∧ Kept [] w w' ∧ Blk w' g 26 ((n + 3) * 65) := by
  obtain ⟨i0, hi, hz0, hz1, hz2⟩ := info_parts Try.infoRes
  have hmk := run_make (P := Try.prog) w 22 26 i0 (.agg zeroR) Try.underlying22 hi hz0 .i64 .i64 ((n + 3 : Nat) : Int) ((n + 3 : Nat) : Int) (by omega) (by omega) (by rw [hz2]; omega) (by omega)
  rw [hz1] at hmk
  simp only [Int.toNat_natCast] at hmk
  have hrow := heap_new w (.cells (madeCells zeroR ((n + 3) * 65)) 26)
  have hk1 : Kept [] w (w.alloc (.cells (madeCells zeroR ((n + 3) * 65)) 26)) := (Kept.refl [] w).alloc _
  change _ = Result.ok _ (w.alloc (.cells (madeCells zeroR ((n + 3) * 65)) 26)) at hmk
  generalize w.alloc (.cells (madeCells zeroR ((n + 3) * 65)) 26) = w1 at hmk hrow hk1
  obtain ⟨g, hg⟩ : ∃ g, w.heap.size = g := ⟨_, rfl⟩
  rw [hg] at hmk hrow
  have hR1 := zero_row hrow
  have hT1 : w1.there g 0 ((n + 3) * 65) := there_row hrow 0 _ (by rw [size_madeCells]; omega)
  rw [show ((n + 3 : Nat) : Int) = (n : Int) + 3 by omega] at hmk
  have H1 : Hid (Ress w1 (some ⟨g, 0, none⟩) (made3 L 0) ∧ w1.there g 0 ((n + 3) * 65) ∧ Kept [] w w1 ∧ Blk w1 g 26 ((n + 3) * 65)) := ⟨by rw [show made3 L 0 = List.replicate (n + 3) res0 by simp [made3, hn]]; exact hR1, hT1, hk1, ⟨_, hrow, size_madeCells _ _⟩⟩
  have HN := hide hn
  have HL := hide hL
  have HG : Hid (w.heap.size = g) := hg
  clear hi hz0 hz1 hz2 hrow hk1 hR1 hT1 hn hL hg
  go_enter Try.func4, Try.ntmps4
  go_wp2
  clear hmk
  go_loopw [5] (fun x wr => ∃ k : Nat, k ≤ n + 3 ∧ x = .int .i64 k ∧ Hid (Ress wr (some ⟨g, 0, none⟩) (made3 L k) ∧ wr.there g 0 ((n + 3) * 65) ∧ Kept [] w wr ∧ Blk wr g 26 ((n + 3) * 65))) (fun x wr => n + 3 - (intOf x).toNat)
  case atStart => exact ⟨0, Nat.zero_le _, rfl, H1.out⟩
  case round =>
    clear H1
    obtain ⟨k, hk, rfl, HI⟩ := hrel
    by_cases hlt : k < n + 3
    · have hkl : k < L.length + 3 := by rw [HN.out]; exact hlt
      have hml := made3_len L k (by omega)
      have hat := made3_at L k hkl
      have hnx := hide (made3_next L k hkl)
      obtain ⟨_, _, e, hr⟩ := HI.out.1 k (by rw [hml]; exact hkl)
      cases e
      rw [hat] at hr
      have c0 : wr.cell? ⟨g, k * 65 + 64, none⟩ = some (.int .i64 0) := by
        have := hr 64 _ res0.cod
        rwa [show 0 + k * 65 + 64 = k * 65 + 64 by omega] at this
      have tk : wr.there g (k * 65) 65 := there_mid HI.out.2.1 k 1 (by omega)
      have f0 := (tk 64 (by omega)).2
      have HR1 := hide (Ress.code HI.out.1 (by rw [hml]; exact hkl) tk (-77) rfl)
      rw [hat, mark_of] at HR1
      have HT1 := hide (there_cell HI.out.2.1 g (k * 65 + 64) (.int .i64 (-77)))
      have HB1 : Hid (Blk (wr.setCell ⟨g, k * 65 + 64, none⟩ (.int .i64 (-77))) g 26 ((n + 3) * 65)) := HI.out.2.2.2.cell _ _ _
      have HK1 : Hid (Kept [] w (wr.setCell ⟨g, k * 65 + 64, none⟩ (.int .i64 (-77)))) := HI.out.2.2.1.setCell (fun h => by have := HG.out; simp at h; omega) _
      have HML := hide hml
      clear hat hr tk hml
      by_cases hkn : k < n
      · have hknz : (k : Int) < (n : Int) := by omega
        obtain ⟨b, off, rfl, hrl⟩ := HL.out k (by rw [HN.out]; exact hkn)
        have hge : (L ++ marks).getD k res0 = L.getD k res0 := by simp only [List.getD]; rw [List.getElem?_append_left (by rw [HN.out]; exact hkn)]
        rw [hge] at hnx
        clear hge
        generalize L.getD k res0 = x at hrl hnx
        have i1 : (Try.prog.info? 26).map (·.size) = some x.cells.length := by rw [x.len]; exact Try.infoResS
        have ia : (Try.prog.info? 26).map (·.size) = some x.cells.toArray.size := by rw [res_size]; exact Try.infoResS
        have hrw : (wr.setCell ⟨g, k * 65 + 64, none⟩ (.int .i64 (-77))).rangeAt b (off + k * 65) x.cells := fun j v hv => HK1.out.cellOf (hrl j v hv) (by simp)
        have tt : (wr.setCell ⟨g, k * 65 + 64, none⟩ (.int .i64 (-77))).there g (k * 65) x.cells.toArray.size := by rw [res_size]; exact there_mid HT1.out k 1 (by omega)
        have HR2 : Hid (Ress ((wr.setCell ⟨g, k * 65 + 64, none⟩ (.int .i64 (-77))).setCells g (k * 65) x.cells) (some ⟨g, 0, none⟩) (made3 L (k + 1))) := by
          have := Ress.put HR1.out (k := k) (by rw [List.length_set, HML.out]; exact hkl) (e := x) (there_mid HT1.out k 1 (by omega))
          rw [List.set_set, hnx.out] at this
          exact this
        have HT2 := hide (World.there_setCells HT1.out g (k * 65) x.cells)
        have HB2 := hide (HB1.out.cells g (k * 65) x.cells)
        have HK2 : Hid (Kept [] w ((wr.setCell ⟨g, k * 65 + 64, none⟩ (.int .i64 (-77))).setCells g (k * 65) x.cells)) := kept_setCells (fun h => by have := HG.out; omega) _ _ _ HK1.out
        clear HR1 HT1 HK1 HB1 hrl
        go_wp2_with (first
          | refine wpList_load_mid rfl 26 (.tmp 28) rfl b (off + k * 65) rfl x.cells _ hrw Try.underlying26 rfl i1 ?_
          | refine wpList_store_mid rfl 26 (.tmp 30) (.tmp 29) rfl g (k * 65) x.cells.toArray rfl rfl tt ia (res_all x) ?_)
        go_roundw
        case rel => exact ⟨k + 1, by omega, by go_num, ⟨HR2.out, HT2.out, HK2.out, HB2.out⟩⟩
        case measure => simp [intOf]; omega
      · have hknz : ¬ (k : Int) < (n : Int) := by omega
        have hge : (L ++ marks).getD k res0 = mark := by
          simp only [List.getD]
          rw [List.getElem?_append_right (by rw [HN.out]; omega), HN.out]
          have : k - n = 0 ∨ k - n = 1 ∨ k - n = 2 := by omega
          rcases this with h | h | h <;> rw [h] <;> rfl
        rw [hge] at hnx
        rw [hnx.out] at HR1
        go_wp2
        go_roundw
        case rel => exact ⟨k + 1, by omega, by go_num, ⟨HR1.out, HT1.out, HK1.out, HB1.out⟩⟩
        case measure => simp [intOf]; omega
    · obtain rfl : k = n + 3 := by omega
      have hfin : made3 L (n + 3) = L ++ marks := by
        unfold made3
        rw [List.take_of_length_le (by simp only [List.length_append, marks, List.length_cons, List.length_nil, HN.out]; omega), HN.out, Nat.sub_self]
        simp
      have hcut := fun W => Try.cutHi W (some ⟨g, 0, none⟩) (n + 3) (n + 3) n (by omega)
      have HF := HI
      rw [hfin] at HF
      clear hfin HI
      go_wp2
      go_ret2
      exact ⟨g, rfl, by have := HG.out; omega, HF.out.1, HF.out.2.1, HF.out.2.2.1, HF.out.2.2.2⟩

def setAll : List Value → Nat → List Value → List Value
  | l, _, [] => l
  | l, o, v :: r => setAll (l.set o v) (o + 1) r
theorem setAll_eq : ∀ (vs l : List Value) (o : Nat), o + vs.length ≤ l.length → setAll l o vs = l.take o ++ vs ++ l.drop (o + vs.length)
  | [], l, o, h => by simp [setAll]
  | v :: r, l, o, h => by
    simp only [List.length_cons] at h
    have ho : o < l.length := by omega
    rw [setAll, setAll_eq r (l.set o v) (o + 1) (by simp; omega)]
    have e1 : (l.set o v).take (o + 1) = l.take o ++ [v] := by
      rw [List.take_set, List.take_succ_eq_append_getElem ho, List.set_append_right _ _ (by simp; omega)]
      simp [Nat.min_eq_left (Nat.le_of_lt ho)]
    have e2 : (l.set o v).drop (o + 1 + r.length) = l.drop (o + (r.length + 1)) := by
      rw [List.drop_set, if_pos (by omega), show o + 1 + r.length = o + (r.length + 1) by omega]
    rw [e1, e2]
    simp
/-- Cells of a row are written, one behind the other. -/
theorem Rw.At.sets {e : TypeId} {s B g : Nat} : ∀ (vs : List Value) (o : Nat) (w : World) (r : Rw), r.At e s B w → r.o = some ⟨g, 0, none⟩ → (Rw.mk r.o r.c r.n (setAll r.vs o vs)).At e s B (w.setCells g o vs) ∧ w.grownBy (w.setCells g o vs) (some g)
  | [], o, w, r, h, ho => ⟨h, ⟨rfl, rfl, rfl, Nat.le_refl _, fun _ _ _ => rfl⟩⟩
  | v :: t, o, w, r, h, ho => by
    obtain ⟨h1, h2⟩ := h.set (k := o) ho v
    have hb : r.blk = some g := by unfold Rw.blk Rw.val; rw [ho]; rfl
    rw [hb] at h2
    obtain ⟨h3, h4⟩ := Rw.At.sets t (o + 1) (w.setCell ⟨g, o, none⟩ v) _ h1 ho
    rw [World.setCells, setAll]
    refine ⟨h3, ⟨h4.os.trans h2.os, h4.tape.trans h2.tape, h4.output.trans h2.output, Nat.le_trans h2.size h4.size, fun k hk hne => ?_⟩⟩
    rw [h4.block k (Nat.lt_of_lt_of_le hk h2.size) hne, h2.block k hk hne]
/-- The first k elements of a row of n are ys, the others as they were. -/
def ov (vs ys : List Value) (s k : Nat) : List Value := (List.replicate k ys).flatten ++ vs.drop (k * s)
theorem flat_len2 (k : Nat) (ys : List Value) : ((List.replicate k ys).flatten).length = k * ys.length := by
  induction k with
  | zero => simp
  | succ k ih => rw [List.replicate_succ, List.flatten_cons, List.length_append, ih, Nat.succ_mul]; omega
theorem ov_zero (vs ys : List Value) (s : Nat) : ov vs ys s 0 = vs := by simp [ov]
theorem ov_next {vs ys : List Value} {s k n : Nat} (hy : ys.length = s) (hv : vs.length = n * s) (hk : k < n) : setAll (ov vs ys s k) (k * s) ys = ov vs ys s (k + 1) := by
  have h1 := flat_len2 k ys
  rw [hy] at h1
  have h2 : (k + 1) * s ≤ n * s := Nat.mul_le_mul_right s hk
  have h3 : (k + 1) * s = k * s + s := Nat.succ_mul k s
  rw [setAll_eq _ _ _ (by unfold ov; rw [List.length_append, List.length_drop, h1, hv, hy]; omega)]
  unfold ov
  rw [List.take_left' h1, List.drop_append, h1, List.drop_eq_nil_of_le (by omega), List.nil_append, List.drop_drop, List.replicate_succ']
  rw [hy, h3]
  simp only [List.flatten_append, List.flatten_cons, List.flatten_nil, List.append_nil]
  rw [show k * s + (k * s + s - k * s) = k * s + s by omega]
theorem ov_full {vs ys : List Value} {s n : Nat} (hv : vs.length = n * s) : ov vs ys s n = (List.replicate n ys).flatten := by
  unfold ov
  rw [List.drop_eq_nil_of_le (by omega), List.append_nil]
theorem Rw.At.len {e : TypeId} {s B : Nat} {w : World} {r : Rw} (h : r.At e s B w) : r.vs.length = r.n * s := h.1
/-- The block of a row that has elements. -/
theorem Rw.At.there {e : TypeId} {s B : Nat} {w : World} {r : Rw} (h : r.At e s B w) (hn : 0 < r.n) : ∃ g, r.o = some ⟨g, 0, none⟩ ∧ r.blk = some g ∧ w.there g 0 (r.n * s) ∧ r.n ≤ r.c := by
  rcases h.2 with ⟨_, h0⟩ | ⟨g, cap, cur, hv', _, hg, hnc, _, hcs, _⟩
  · omega
  · have hcv := hv'
    unfold Rw.val at hv'
    injection hv' with e1 _ e3
    have hm : r.n * s ≤ cap * s := Nat.mul_le_mul_right s hnc
    refine ⟨g, e1, by unfold Rw.blk; rw [hcv]; rfl, there_row hg 0 _ (by omega), by omega⟩
theorem wf_small {c : Int} (h0 : -1000000 ≤ c) (h1 : c ≤ 1000000) : (Lit.int .i64 c).wf = true := by
  simp [Lit.wf, IntKind.min, IntKind.max, IntKind.bits, IntKind.signed]
  omega

set_option maxHeartbeats 1600000 in
set_option maxRecDepth 100000 in
theorem over_own (r : Rw) (B : Nat) (c : Int) (hc : (Lit.int .i64 c).wf = true) (w : World) (hr : r.At 26 65 B w) (hm : r.n ≤ 4611686018427387800) :
    Calls Try.prog 9 #[.slice r.o r.n r.c, .int .i64 c] w fun e w' => e = .returned (.tuple #[]) ∧ (Rw.mk r.o r.c r.n ((List.replicate r.n (res0.coded c hc).cells).flatten)).At 26 65 B w' ∧ w.grownBy w' r.blk := by
  have hbm : ∀ W, (Instr.build 26 #[(2, .int .i64 c)]).run Try.prog W = .ok (.agg (res0.coded c hc).cells.toArray) W := fun W => by kernel_rfl
  generalize res0.coded c hc = e at hbm
  have ia : (Try.prog.info? 26).map (·.size) = some e.cells.toArray.size := by rw [res_size]; exact Try.infoResS
  have hlen := hide hr.len
  have H1 : Hid ((Rw.mk r.o r.c r.n (ov r.vs e.cells 65 0)).At 26 65 B w ∧ w.grownBy w r.blk) := ⟨by rw [ov_zero]; exact hr, grown_refl _ _⟩
  obtain ⟨ro, rc, rn, rv⟩ := r
  dsimp only at *
  have hblk : Hid (∀ vs, (Rw.mk ro rc rn vs).blk = (Rw.mk ro rc rn rv).blk) := fun _ => rfl
  clear hr
  go_enter Try.func9, Try.ntmps9
  go_wp2
  go_loopw [4] (fun y wr => ∃ k : Nat, k ≤ rn ∧ y = .int .i64 k ∧ Hid ((Rw.mk ro rc rn (ov rv e.cells 65 k)).At 26 65 B wr ∧ w.grownBy wr (Rw.mk ro rc rn rv).blk)) (fun y wr => rn - (intOf y).toNat)
  case atStart => exact ⟨0, Nat.zero_le _, rfl, H1.out⟩
  case round =>
    clear H1
    obtain ⟨k, hk, rfl, HI⟩ := hrel
    by_cases hlt : k < rn
    · obtain ⟨g, ho, hbk, hth, _⟩ := HI.out.1.there (by show 0 < rn; omega)
      dsimp only at ho hth
      subst ho
      have hbw := hbm wr
      have tt : wr.there g (k * 65) e.cells.toArray.size := by rw [res_size]; exact there_mid hth k 1 (by omega)
      have H2 : Hid ((Rw.mk (some ⟨g, 0, none⟩) rc rn (ov rv e.cells 65 (k + 1))).At 26 65 B (wr.setCells g (k * 65) e.cells) ∧ w.grownBy (wr.setCells g (k * 65) e.cells) (Rw.mk (some ⟨g, 0, none⟩) rc rn rv).blk) := by
        obtain ⟨a1, a2⟩ := Rw.At.sets (g := g) e.cells (k * 65) wr _ HI.out.1 rfl
        rw [ov_next e.len hlen.out hlt] at a1
        exact ⟨a1, grown_trans HI.out.2 a2⟩
      clear hbm hth hbk HI
      go_wp2_with (first
        | refine wpList_buildRun rfl 26 #[(2, .tmp 13)] rfl #[(2, .int .i64 c)] (by simp [Act.eval]) (.agg e.cells.toArray) hbw ?_
        | refine wpList_store_mid rfl 26 (.tmp 15) (.tmp 14) rfl g (k * 65) e.cells.toArray rfl rfl tt ia (res_all e) ?_)
      go_roundw
      case rel => exact ⟨k + 1, by omega, by go_num, H2.out⟩
      case measure => simp [intOf]; omega
    · obtain rfl : k = rn := by omega
      have HF := HI
      rw [ov_full hlen.out] at HF
      clear HI
      go_wp2
      go_end0
      exact ⟨rfl, HF.out⟩

set_option maxHeartbeats 1600000 in
set_option maxRecDepth 100000 in
theorem further_ok (r : Rw) (B : Nat) (c : Int) (hc : (Lit.int .i64 c).wf = true) (w : World) (hr : r.At 26 65 B w) (hm : (r.n + 9) * 72 ≤ 140737488355328) (hB : B ≤ w.heap.size) :
    Calls Try.prog 10 #[.slice r.o r.n r.c, .int .i64 c] w fun e w' => ∃ r', e = .returned (.slice r'.o r'.n r'.c) ∧ Grew 26 65 B w w' r r' 9 (res0.coded c hc).cells := by
  have hbm : ∀ W, (Instr.build 26 #[(2, .int .i64 c)]).run Try.prog W = .ok (.agg (res0.coded c hc).cells.toArray) W := fun W => by kernel_rfl
  generalize res0.coded c hc = e at hbm
  have hb1 : ∀ k, k < 9 → (r.n + k + 1) * 72 ≤ 140737488355328 := fun k hk => Nat.le_trans (Nat.mul_le_mul_right 72 (show r.n + k + 1 ≤ r.n + 9 by clear hm; omega)) hm
  have hb2 : ∀ k, k < 9 → r.n + k + 1 ≤ 140737488355328 := fun k hk => Nat.le_trans (show r.n + k + 1 ≤ (r.n + 9) * 72 by clear hm; omega) hm
  clear hm
  have HR := hide hr
  have H1 := hide (Grew.start hr e.cells)
  clear hr
  go_enter Try.func10, Try.ntmps10
  go_wp2
  go_loopw [0, 5] (fun x y wr => ∃ (k : Nat) (r' : Rw), k ≤ 9 ∧ y = .int .i64 k ∧ x = .slice r'.o r'.n r'.c ∧ Hid (Grew 26 65 B w wr r r' k e.cells)) (fun x y wr => 9 - (intOf y).toNat)
  case atStart => exact ⟨0, r, Nat.zero_le _, rfl, rfl, H1.out⟩
  case round =>
    clear H1
    obtain ⟨k, r', hk, rfl, rfl, HI⟩ := hrel
    by_cases hlt : k < 9
    · have hl1 := hb1 k hlt
      have hl2 := hb2 k hlt
      obtain ⟨r2, w2, hrun, G2⟩ := HI.out.app 22 (.agg zeroR) 72 Try.underlying22 Try.infoRes (res_size res0) (by decide) HR.out e.len (res_one e) hl1 hl2 hB
      have HN := hide G2
      have hbw := hbm wr
      unfold Rw.val at hrun
      clear HI G2 hbm
      go_wp2_with (first
        | refine wpList_buildRun rfl 26 #[(2, .tmp 11)] rfl #[(2, .int .i64 c)] (by simp [Act.eval]) (.agg e.cells.toArray) hbw ?_
        | refine wpList_build1 rfl (.tmp 12) rfl e rfl ?_
        | refine wpList_app_run rfl (.tmp 10) (.tmp 13) 22 22 rfl (.slice r'.o r'.n r'.c) (.slice (some ⟨wr.heap.size, 0, none⟩) 1 1) rfl rfl (.slice r2.o r2.n r2.c) w2 hrun ?_)
      go_roundw
      case rel => exact ⟨k + 1, r2, by omega, by go_num, rfl, HN.out⟩
      case measure => simp [intOf]; omega
    · obtain rfl : k = 9 := by omega
      go_wp2
      go_ret
      exact ⟨r', rfl, HI.out⟩

theorem Tb.uni_len2 (z : Res → Res → Res) (ec : Int) : ∀ (A B : List Res) (s : Tb.St), (Tb.uni z ec A B s).1.length ≤ A.length + B.length + s.1.length ∧ (Tb.uni z ec A B s).2.1.length ≤ A.length + s.2.1.length := by
  intro A B
  induction h : A.length + B.length using Nat.strongRecOn generalizing A B with
  | _ n ih =>
    intro s
    subst h
    cases A with
    | nil => rw [Tb.uni_left]; simp; omega
    | cons a A =>
      cases B with
      | nil => rw [Tb.uni_right]; simp; omega
      | cons b B =>
        by_cases h1 : Tb.cf a b < 0
        · rw [Tb.uni_lt _ _ _ _ _ _ _ h1]
          have := ih (A.length + (b :: B).length) (by simp) A (b :: B) rfl (s.1 ++ [a], s.2)
          simp only [List.length_append, List.length_cons, List.length_nil] at this ⊢
          omega
        · by_cases h2 : 0 < Tb.cf a b
          · rw [Tb.uni_gt _ _ _ _ _ _ _ h2]
            have := ih ((a :: A).length + B.length) (by simp) (a :: A) B rfl (s.1 ++ [b], s.2)
            simp only [List.length_append, List.length_cons, List.length_nil] at this ⊢
            omega
          · rw [Tb.uni_eq _ _ _ _ _ _ _ (by omega)]
            have h3 := Tb.both_len (z a b) ec a b s
            have := ih (A.length + B.length) (by simp; omega) A B rfl (Tb.both (z a b) ec a b s)
            simp only [List.length_cons] at this ⊢
            omega
theorem Tb.join_len2 (A B : List Res) (p : Int) : (Tb.join A B p).1.length ≤ A.length + B.length ∧ (Tb.join A B p).2.1.length ≤ A.length := by
  have := Tb.uni_len2 (Tb.setl p) (Tb.sete p) A B ([], [], 0)
  simp only [List.length_nil] at this
  unfold Tb.join
  split
  · simp
  · split
    · simp
    · split
      · simp; omega
      · split
        · simp
        · simp only; omega
theorem Tb.join_small (A B : List Res) (p : Int) : (Tb.join A B p).1.length ≤ 64 ∧ (Tb.join A B p).2.1.length ≤ 64 := by
  have h := Tb.join_len2 A B p
  by_cases hv : Tb.valid A = false ∨ Tb.valid B = false
  · unfold Tb.join
    split
    · simp
    · simp
  · have h1 : Tb.valid A = true := by cases hA : Tb.valid A <;> simp_all
    have h2 : Tb.valid B = true := by cases hB : Tb.valid B <;> simp_all
    have h3 := Tb.valid_len h1
    have h4 := Tb.valid_len h2
    omega
theorem Tb.with_small (L : List Res) (e : Res) : (Tb.withL L e).length ≤ 80 := by
  unfold Tb.withL
  split
  · rename_i h
    unfold Tb.withE at h
    split at h
    · simp at h
    · rename_i hv
      have h1 : Tb.valid L = true := by cases hA : Tb.valid L <;> simp_all
      have h3 := Tb.valid_len h1
      have h4 := Tb.rank_le L e.action
      unfold Tb.withR
      rw [List.length_append, List.length_take, List.length_cons, List.length_drop, Nat.min_eq_left h4]
      omega
  · simp
theorem Try.infoB9 : (Try.prog.info? 5).map (fun i => (i.zero, i.size, i.bytes)) = some (some (.int .u8 0), 1, 1) := by kernel_rfl
theorem Try.infoI9 : (Try.prog.info? 24).map (fun i => (i.zero, i.size, i.bytes)) = some (some (.agg (bys (List.replicate 32 0)).toArray), 32, 32) := by kernel_rfl
theorem Try.infoLR : (Try.prog.info? 22).map (fun i => (i.zero, i.size, i.bytes)) = some (some (.slice none 0 0), 1, 24) := by kernel_rfl
theorem Try.infoLI : (Try.prog.info? 32).map (fun i => (i.zero, i.size, i.bytes)) = some (some (.slice none 0 0), 1, 24) := by kernel_rfl
theorem Try.infoLB : (Try.prog.info? 35).map (fun i => (i.zero, i.size, i.bytes)) = some (some (.slice none 0 0), 1, 24) := by kernel_rfl

/-- One family: its rows, the row that holds them, the longer ones, the row that holds those. -/
structure Fs where
  h : Nat → Rw
  R : Rw
  c : Nat
  lf : Nat → Rw
  cc : Nat
  G : Rw
structure T3 (w wr : World) (P Q S : Fs) : Prop where
  bel : Below w.heap.size w wr
  r : Gx 26 22 65 w.heap.size wr 10 P.h P.R P.c P.lf P.cc P.G
  i : Gx 24 32 32 w.heap.size wr 6 Q.h Q.R Q.c Q.lf Q.cc Q.G
  b : Gx 5 35 1 w.heap.size wr 2 S.h S.R S.c S.lf S.cc S.G
theorem below_grown {w wr wr' : World} {row : Option Nat} (h : Below w.heap.size w wr) (hg : wr.grownBy wr' row) (hr : ∀ k, row = some k → w.heap.size ≤ k) : Below w.heap.size w wr' :=
  h.trans ((grown_kept hg).below h.size (fun g hg' => hr g (by simpa using hg')))
section
variable {w wr wr' : World} {P Q S : Fs}
theorem T3.kept (T : T3 w wr P Q S) (hk : Kept [] wr wr') : T3 w wr' P Q S :=
  ⟨T.bel.trans (hk.below T.bel.size (by simp)), T.r.kept hk, T.i.kept hk, T.b.kept hk⟩
theorem T3.onR {P' : Fs} {e : TypeId} {s n : Nat} {v : Value} {xs : List Value} (T : T3 w wr P Q S) (ho : wr.ownsRow w.heap.size e s v n xs) (hg : wr.grownBy wr' v.ownBlock) (he : e = 26 ∨ e = 22) (G : Gx 26 22 65 w.heap.size wr' 10 P'.h P'.R P'.c P'.lf P'.cc P'.G) : T3 w wr' P' Q S :=
  ⟨below_grown T.bel hg (fun k hk => (World.ownsRow.lt ho k hk).1), G, T.i.other ho (by rcases he with rfl | rfl <;> decide) (by rcases he with rfl | rfl <;> decide) hg, T.b.other ho (by rcases he with rfl | rfl <;> decide) (by rcases he with rfl | rfl <;> decide) hg⟩
theorem T3.onI {Q' : Fs} {e : TypeId} {s n : Nat} {v : Value} {xs : List Value} (T : T3 w wr P Q S) (ho : wr.ownsRow w.heap.size e s v n xs) (hg : wr.grownBy wr' v.ownBlock) (he : e = 24 ∨ e = 32) (G : Gx 24 32 32 w.heap.size wr' 6 Q'.h Q'.R Q'.c Q'.lf Q'.cc Q'.G) : T3 w wr' P Q' S :=
  ⟨below_grown T.bel hg (fun k hk => (World.ownsRow.lt ho k hk).1), T.r.other ho (by rcases he with rfl | rfl <;> decide) (by rcases he with rfl | rfl <;> decide) hg, G, T.b.other ho (by rcases he with rfl | rfl <;> decide) (by rcases he with rfl | rfl <;> decide) hg⟩
theorem T3.onB {S' : Fs} {e : TypeId} {s n : Nat} {v : Value} {xs : List Value} (T : T3 w wr P Q S) (ho : wr.ownsRow w.heap.size e s v n xs) (hg : wr.grownBy wr' v.ownBlock) (he : e = 5 ∨ e = 35) (G : Gx 5 35 1 w.heap.size wr' 2 S'.h S'.R S'.c S'.lf S'.cc S'.G) : T3 w wr' P Q S' :=
  ⟨below_grown T.bel hg (fun k hk => (World.ownsRow.lt ho k hk).1), T.r.other ho (by rcases he with rfl | rfl <;> decide) (by rcases he with rfl | rfl <;> decide) hg, T.i.other ho (by rcases he with rfl | rfl <;> decide) (by rcases he with rfl | rfl <;> decide) hg, G⟩
end
/-- All cells of row j are those of y j. -/
def All (h : Nat → Rw) (yf : Nat → List Value) (i : Nat) : Prop := ∀ j, j < i → (h j).vs = (List.replicate (h j).n (yf j)).flatten
theorem All.next {h : Nat → Rw} {yf : Nat → List Value} {i : Nat} (ha : All h yf i) {r : Rw} (hr : r.vs = (List.replicate r.n (yf i)).flatten) : All (upr h i r) yf (i + 1) := fun j hj => by
  by_cases e : j = i
  · subst e; rw [upr_same]; exact hr
  · rw [upr_other _ _ _ _ e]; exact ha j (by omega)
/-- No row is longer than N. -/
def Sm (h : Nat → Rw) (m N : Nat) : Prop := ∀ j, j < m → (h j).n ≤ N
theorem Sm.lay {h : Nat → Rw} {m N i : Nat} (hs : Sm h m N) {r : Rw} (hr : r.n ≤ N) : Sm (upr h i r) m N := fun j hj => by
  by_cases e : j = i
  · subst e; rw [upr_same]; exact hr
  · rw [upr_other _ _ _ _ e]; exact hs j hj
theorem ext_all {h : Nat → Rw} {lf : Nat → Rw} {yf : Nat → List Value} {N j i : Nat} (ha : All h yf i) (hd : Cd h lf N yf i) (hj : j < i) : (lf j).vs = (List.replicate (lf j).n (yf j)).flatten := by
  obtain ⟨d1, d2⟩ := hd j hj
  rw [d2, ha j hj, d1]
  unfold ext
  rw [← List.flatten_append, ← List.replicate_append_replicate]
/-- Element k of a row all of whose elements are ys. -/
theorem all_cell {e : TypeId} {s B : Nat} {w : World} {r : Rw} {ys : List Value} (h : r.At e s B w) (hv : r.vs = (List.replicate r.n ys).flatten) (hy : ys.length = s) {k : Nat} (hk : k < r.n) : ∃ g, r.o = some ⟨g, 0, none⟩ ∧ w.rangeAt g (k * s) ys := by
  rcases h.2 with ⟨_, h0⟩ | ⟨g, cap, cur, hv', _, hg, hnc, _, hcs, ht⟩
  · omega
  · unfold Rw.val at hv'
    injection hv' with e1 _ _
    refine ⟨g, e1, fun j v hj => ?_⟩
    have hjl := (List.getElem?_eq_some_iff.1 hj).1
    have hm : (k + 1) * s ≤ r.n * s := Nat.mul_le_mul_right s hk
    rw [Nat.succ_mul] at hm
    rw [cell_of_row _ _ _ _ _ _ hg]
    have h1 : r.vs[k * s + j]? = some v := by
      rw [hv, show r.n = k + ((r.n - k - 1) + 1) by omega, ← List.replicate_append_replicate, List.flatten_append, List.getElem?_append_right (by rw [flat_len2, hy]; omega), flat_len2, hy, Nat.add_sub_cancel_left, List.replicate_succ, List.flatten_cons, List.getElem?_append_left hjl]
      exact hj
    rw [← ht, List.getElem?_take] at h1
    split at h1
    · simpa using h1
    · cases h1
theorem rows_rep (n : Nat) (e : Res) : (List.replicate n e.cells).flatten = rows (List.replicate n e) := by
  induction n with
  | zero => rfl
  | succ n ih => rw [List.replicate_succ, List.replicate_succ, List.flatten_cons, ih]; simp [rows]
theorem rw_ress {B : Nat} {w : World} {r : Rw} {L : List Res} (h : r.At 26 65 B w) (hn : r.n = L.length) (hv : r.vs = rows L) : Ress w r.o L := by
  have h2 : OwnR w B (.slice r.o L.length r.c) L := by
    unfold Rw.At Rw.val at h
    rw [hn, hv] at h
    exact h
  obtain ⟨ao, cap, hv, _, hs, _⟩ := h2.ress
  cases hv
  exact hs
/-- While the rows are being made. -/
structure Bn (w W : World) (mr : Nat) (hr : Nat → Rw) (mi : Nat) (hi : Nat → Rw) (mb : Nat) (hb : Nat → Rw) : Prop where
  bel : Below w.heap.size w W
  r : Fam 26 65 w.heap.size W mr hr
  i : Fam 24 32 w.heap.size W mi hi
  b : Fam 5 1 w.heap.size W mb hb
  sr : Sm hr mr 1954687338214
  si : Sm hi mi 64
  sb : Sm hb mb 3000
theorem fam0 {e : TypeId} {s B : Nat} {w : World} {h : Nat → Rw} : Fam e s B w 0 h := ⟨fun i hi => absurd hi (by omega), fun i j hi => absurd hi (by omega)⟩
theorem Bn.start {w W : World} (hk : Kept [] w W) (f g h : Nat → Rw) : Bn w W 0 f 0 g 0 h :=
  ⟨hk.below (Nat.le_refl _) (by simp), fam0, fam0, fam0, fun j hj => absurd hj (by omega), fun j hj => absurd hj (by omega), fun j hj => absurd hj (by omega)⟩
theorem Sm.more {h : Nat → Rw} {m N : Nat} (hs : Sm h m N) {r : Rw} (hr : r.n ≤ N) : Sm (upr h m r) (m + 1) N := fun j hj => by
  by_cases e : j = m
  · subst e; rw [upr_same]; exact hr
  · rw [upr_other _ _ _ _ e]; exact hs j (by omega)
section
variable {w W W' : World} {mr mi mb : Nat} {hr hi hb : Nat → Rw}
theorem Bn.bel' (T : Bn w W mr hr mi hi mb hb) (hk : Kept [] W W') : Below w.heap.size w W' := T.bel.trans (hk.below T.bel.size (by simp))
theorem Bn.roomy (T : Bn w W mr hr mi hi mb hb) {g n : Nat} {L : List Res} (hn : L.length = n) (hm : n * 72 ≤ 140737488351232) (hg : W.heap.size ≤ g) (hR : Ress W' (some ⟨g, 0, none⟩) (L ++ marks)) (hk : Kept [] W W') (hB : Blk W' g 26 ((n + 3) * 65)) :
    Bn w W' (mr + 1) (upr hr mr ⟨some ⟨g, 0, none⟩, n + 3, n + 3, rows (L ++ marks)⟩) mi hi mb hb ∧ Ress W' (some ⟨g, 0, none⟩) L := by
  obtain ⟨cur, h1, h2⟩ := hB
  have hl : (L ++ marks).length = n + 3 := by simp [marks, hn]
  have hlr : (rows (L ++ marks)).length = (n + 3) * 65 := by rw [rows_len, hl]
  have hcr : cur.toList = rows (L ++ marks) := by
    apply List.ext_getElem?
    intro k
    rcases hv : (rows (L ++ marks))[k]? with _ | v
    · have := List.getElem?_eq_none_iff.1 hv
      rw [List.getElem?_eq_none_iff]
      simp only [Array.length_toList]
      omega
    · have := hR.cells hv
      rw [Nat.zero_add, cell_of_row _ _ _ _ _ _ h1] at this
      simpa using this
  have hat : (Rw.mk (some ⟨g, 0, none⟩) (n + 3) (n + 3) (rows (L ++ marks))).At 26 65 W.heap.size W' :=
    ⟨hlr, .inr ⟨g, n + 3, cur, rfl, hg, h1, Nat.le_refl _, by unfold maxLen; omega, by omega, by rw [hcr]; exact List.take_of_length_le (Nat.le_of_eq hlr)⟩⟩
  refine ⟨⟨T.bel' hk, T.r.call hk hat T.bel.size, T.i.kept hk, T.b.kept hk, T.sr.more (by show n + 3 ≤ _; omega), T.si, T.sb⟩, ?_⟩
  have := hR.take n
  rwa [List.take_left' hn] at this
theorem Bn.told (T : Bn w W mr hr mi hi mb hb) {r : Ending} {e : Int} {L : List Res} (h : ToldR W W' r e L) (hl : L.length ≤ 80) :
    ∃ q : Rw, r = .returned (.tuple #[.slice q.o q.n q.c, .int .i64 e]) ∧ Bn w W' (mr + 1) (upr hr mr q) mi hi mb hb ∧ Kept [] W W' := by
  obtain ⟨⟨v, rfl, ho⟩, hk⟩ := h
  obtain ⟨bo, c, rfl, _⟩ := ho.ress
  exact ⟨⟨bo, c, L.length, rows L⟩, rfl, ⟨T.bel' hk, T.r.call hk ho T.bel.size, T.i.kept hk, T.b.kept hk, T.sr.more (by show L.length ≤ _; omega), T.si, T.sb⟩, hk⟩
theorem Bn.join (T : Bn w W mr hr mi hi mb hb) {r : Ending} {s : Tb.St} (h : ToldJ W W' r s) (hl : s.1.length ≤ 64 ∧ s.2.1.length ≤ 64) :
    ∃ q p : Rw, r = .returned (.tuple #[.slice q.o q.n q.c, .slice p.o p.n p.c, .int .i64 s.2.2]) ∧ Bn w W' (mr + 1) (upr hr mr q) (mi + 1) (upr hi mi p) mb hb ∧ Bn w W' mr hr (mi + 1) (upr hi mi p) mb hb ∧ Kept [] W W' := by
  obtain ⟨⟨v, vc, rfl, ho, hI⟩, hk⟩ := h
  obtain ⟨bo, c, rfl, _⟩ := ho.ress
  obtain ⟨co, d, rfl, _⟩ := own_ids hI
  refine ⟨⟨bo, c, s.1.length, rows s.1⟩, ⟨co, d, s.2.1.length, idrows s.2.1⟩, rfl, ⟨T.bel' hk, T.r.call hk ho T.bel.size, T.i.call hk hI.1 T.bel.size, T.b.kept hk, T.sr.more (by show s.1.length ≤ _; omega), T.si.more hl.2, T.sb⟩, ⟨T.bel' hk, T.r.kept hk, T.i.call hk hI.1 T.bel.size, T.b.kept hk, T.sr, T.si.more hl.2, T.sb⟩, hk⟩
theorem Bn.enc (T : Bn w W mr hr mi hi mb hb) {r : Ending} {b : Bool} {xs : List UInt8} (h : Told W W' r b xs) (hl : xs.length ≤ 3000) :
    ∃ q : Rw, r = .returned (.tuple #[.slice q.o q.n q.c, .int .i64 (Tb.code b)]) ∧ Bn w W' mr hr mi hi (mb + 1) (upr hb mb q) ∧ Kept [] W W' ∧ xs.length = q.n ∧ Sl W' q.o xs ∧ (q.o = none → xs = [] ∧ q.c = 0) := by
  obtain ⟨⟨v, rfl, ho⟩, hbl⟩ := h
  have hk := Kept.of_below hbl
  rcases ho.2 with ⟨rfl, h0⟩ | ⟨g, cap, cur, rfl, hb2, hg, hn, hc, hs, ht⟩
  · have : xs = [] := List.eq_nil_of_length_eq_zero h0
    subst this
    exact ⟨⟨none, 0, 0, []⟩, rfl, ⟨T.bel' hk, T.r.kept hk, T.i.kept hk, T.b.call hk ho T.bel.size, T.sr, T.si, T.sb.more (by show 0 ≤ _; omega)⟩, hk, rfl, Sl.nil _ _, fun _ => ⟨rfl, rfl⟩⟩
  · refine ⟨⟨some ⟨g, 0, none⟩, cap, xs.length, bys xs⟩, rfl, ⟨T.bel' hk, T.r.kept hk, T.i.kept hk, T.b.call hk ho T.bel.size, T.sr, T.si, T.sb.more hl⟩, hk, rfl, ?_, by simp⟩
    refine Sl.of (fun k hk2 => ?_)
    rw [Nat.zero_add, cell_of_row _ _ _ _ _ _ hg]
    have h1 := bys_at (xs := xs) hk2
    rw [← ht, List.getElem?_take] at h1
    split at h1
    · simpa using h1
    · cases h1
/-- A row of rows, just made. -/
theorem row_made {te : TypeId} {W : World} {m B : Nat} {h : Nat → Rw} (hm : m ≤ 1000) (hB : B ≤ W.heap.size) : (Rw.mk (some ⟨W.heap.size, 0, none⟩) m m (vals m h)).At te 1 B (W.alloc (.cells (vals m h).toArray te)) :=
  ⟨by rw [vals_len, Nat.mul_one], .inr ⟨W.heap.size, m, _, rfl, hB, heap_new W _, Nat.le_refl _, by unfold maxLen; omega, by simp [vals_len], by rw [List.take_of_length_le (by simp [vals_len])]⟩⟩
theorem Rw.At.kept {e : TypeId} {s B : Nat} {r : Rw} (h : r.At e s B W) (hk : Kept [] W W') : r.At e s B W' := h.keep (kept_grown (row := none) hk (by simp)) (Off.none _)
theorem Bn.made (T : Bn w W 10 hr 6 hi 2 hb) (σ : Nat → Nat) (h1 : ∀ i, i < 6 → σ i < 6) (h2 : ∀ i j, i < 6 → j < 6 → i ≠ j → σ i ≠ σ j) {W1 W2 W3 : World} (e1 : W1 = W.alloc (.cells (vals 10 hr).toArray 22)) (e2 : W2 = W1.alloc (.cells (vals 6 (fun i => hi (σ i))).toArray 32)) (e3 : W3 = W2.alloc (.cells (vals 2 hb).toArray 35)) :
    T3 w W3 ⟨hr, ⟨some ⟨W.heap.size, 0, none⟩, 10, 10, vals 10 hr⟩, 0, hr, 0, rw0⟩ ⟨fun i => hi (σ i), ⟨some ⟨W1.heap.size, 0, none⟩, 6, 6, vals 6 (fun i => hi (σ i))⟩, 0, fun i => hi (σ i), 0, rw0⟩ ⟨hb, ⟨some ⟨W2.heap.size, 0, none⟩, 2, 2, vals 2 hb⟩, 0, hb, 0, rw0⟩ := by
  have k1 : Kept [] W W1 := by rw [e1]; exact (Kept.refl [] W).alloc _
  have k2 : Kept [] W1 W2 := by rw [e2]; exact (Kept.refl [] W1).alloc _
  have k3 : Kept [] W2 W3 := by rw [e3]; exact (Kept.refl [] W2).alloc _
  have k23 : Kept [] W1 W3 := k2.trans k3 (by simp)
  have k : Kept [] W W3 := k1.trans k23 (by simp)
  have s1 := k1.size
  have s2 := k2.size
  have s0 := T.bel.size
  have a1 : (Rw.mk (some ⟨W.heap.size, 0, none⟩) 10 10 (vals 10 hr)).At 22 1 w.heap.size W1 := by rw [e1]; exact row_made (by omega) (by omega)
  have a2 : (Rw.mk (some ⟨W1.heap.size, 0, none⟩) 6 6 (vals 6 (fun i => hi (σ i)))).At 32 1 w.heap.size W2 := by rw [e2]; exact row_made (by omega) (by omega)
  have a3 : (Rw.mk (some ⟨W2.heap.size, 0, none⟩) 2 2 (vals 2 hb)).At 35 1 w.heap.size W3 := by rw [e3]; exact row_made (by omega) (by omega)
  exact ⟨T.bel' k, Gx.begin (by decide) (T.r.kept k) (a1.kept k23) rfl rfl, Gx.begin (by decide) ((T.i.perm σ h1 h2).kept k) (a2.kept k3) rfl rfl, Gx.begin (by decide) (T.b.kept k) a3 rfl rfl⟩
end
/-- What the calls are asked for. -/
structure Ab (W : World) (ga gb a5 : Nat) (L L2 : List Res) (e : Res) : Prop where
  a : Ress W (some ⟨ga, 0, none⟩) L
  b : Ress W (some ⟨gb, 0, none⟩) L2
  e : W.heap[a5]? = some (.cells e.cells.toArray 26 (0, 0))
theorem Ab.kept {W W' : World} {ga gb a5 : Nat} {L L2 : List Res} {e : Res} (h : Ab W ga gb a5 L L2 e) (hk : Kept [] W W') : Ab W' ga gb a5 L L2 e :=
  ⟨h.a.kept hk (by simp), h.b.kept hk (by simp), by rw [hk.block a5 (Array.getElem?_eq_some_iff.1 h.e).1 (by simp)]; exact h.e⟩
theorem upr_upr (f : Nat → Rw) (i : Nat) (a b : Rw) : upr (upr f i a) i b = upr f i b := by
  funext j
  by_cases e : j = i
  · subst e; rw [upr_same, upr_same]
  · rw [upr_other _ _ _ _ e, upr_other _ _ _ _ e, upr_other _ _ _ _ e]
theorem upr_self {f : Nat → Rw} {i : Nat} {a : Rw} (h : f i = a) : upr f i a = f := by
  funext j
  by_cases e : j = i
  · subst e; rw [upr_same, h]
  · rw [upr_other _ _ _ _ e]
theorem Gx.set {e te : TypeId} {s B : Nat} {wr wr' : World} {m : Nat} {h lf : Nat → Rw} {rR rG A : Rw} {i : Nat} {vs : List Value} (G : Gx e te s B wr m (upr h i A) rR 0 lf 0 rG) (hi : i < m) (hn : (Rw.mk A.o A.c A.n vs).At e s B wr') (hg : wr.grownBy wr' A.blk) : Gx e te s B wr' m (upr h i ⟨A.o, A.c, A.n, vs⟩) rR 0 lf 0 rG := by
  have := G.turn hi (vs := vs) (by rw [upr_same]; exact hn) (by rw [upr_same]; exact hg)
  rw [upr_same, upr_upr] at this
  exact this
theorem there_sub {w : World} {g a b o m : Nat} (h : w.there g a b) (h1 : a ≤ o) (h2 : o + m ≤ a + b) : w.there g o m := fun j hj => by
  have := h (o - a + j) (by omega)
  rwa [show a + (o - a + j) = o + j by omega] at this
theorem mul_next {k n s : Nat} (h : k < n) : k * s + s ≤ 0 + n * s := by
  have := Nat.mul_le_mul_right s h
  rw [Nat.succ_mul] at this
  omega

theorem mk_wf {j : Nat} (hj : j < 1000) : (Lit.int .i64 (1000 + (j : Int))).wf = true := wf_small (by omega) (by omega)
/-- The result that is written into list j. -/
def mkR (j : Nat) : Res := if h : (Lit.int .i64 (1000 + (j : Int))).wf = true then res0.coded (1000 + (j : Int)) h else res0
theorem mkR_eq {j : Nat} (hj : j < 1000) : mkR j = res0.coded (1000 + (j : Int)) (mk_wf hj) := by unfold mkR; rw [dif_pos (mk_wf hj)]
theorem mkR_code {j : Nat} (hj : j < 1000) : (mkR j).code = 1000 + (j : Int) := by rw [mkR_eq hj]; rfl
def yr (j : Nat) : List Value := (mkR j).cells
/-- The id that is written into list j. -/
def idv (j : Nat) : List UInt8 := UInt8.ofNat (j + 1) :: List.replicate 31 0
def yi (j : Nat) : List Value := bys (idv j)
theorem idv_len (j : Nat) : (idv j).length = 32 := by simp [idv]
theorem yi_len (j : Nat) : (yi j).length = 32 := by unfold yi; rw [bys_length, idv_len]
theorem yi_cells {j : Nat} (hj : j < 200) : (Value.int .u8 ((j : Int) + 1) :: bys (List.replicate 31 0)).toArray = (yi j).toArray := by
  have hx : (UInt8.ofNat (j + 1)).toNat = j + 1 := by simp [UInt8.toNat_ofNat', Nat.mod_eq_of_lt (show j + 1 < 256 by omega)]
  unfold yi idv
  simp only [bys, List.map_cons]
  rw [hx]
  rfl
theorem yi_first {j : Nat} (hj : j < 200) : (yi j)[0]? = some (.int .u8 ((j : Int) + 1)) := by
  have hx : (UInt8.ofNat (j + 1)).toNat = j + 1 := by simp [UInt8.toNat_ofNat', Nat.mod_eq_of_lt (show j + 1 < 256 by omega)]
  unfold yi idv
  simp only [bys, List.map_cons, List.getElem?_cons_zero]
  rw [hx]
  rfl
theorem build_id (x : Int) (W : World) : (Instr.build 24 #[(0, .int .u8 x)]).run Try.prog W = .ok (.agg (Value.int .u8 x :: bys (List.replicate 31 0)).toArray) W := by kernel_rfl
theorem build_yi {j : Nat} (hj : j < 200) (W : World) : (Instr.build 24 #[(0, .int .u8 ((j : Int) + 1))]).run Try.prog W = .ok (.agg (yi j).toArray) W := by
  rw [build_id, yi_cells hj]
def yb (j : Nat) : List Value := [.int .u8 (100 + (j : Int))]
theorem wpList_buildId {ops : Array Oper} {rest : List Oper} {o : Oper} {a : Act} {w : World} {Q : Exit → Act → World → Prop} (hgd : o.guard = none) (x : Operand) (ho : o.op = .buildSlice 32 1 #[(0, x)]) (A : List UInt8) (hA : A.length = 32) (hx : a.eval x = .agg (bys A).toArray)
    (h : wpList Try.prog ops Q rest (a.put o.dst (.slice (some ⟨w.heap.size, 0, none⟩) 1 1)) (w.alloc (.cells (bys A).toArray 24))) : wpList Try.prog ops Q (o :: rest) a w :=
  wpList_plain hgd fun _ hK => wp_buildI x ho A hA hx (hK _ _ h)
/-- The rows, made. -/
theorem Bn.all {w W : World} {hr hi hb : Nat → Rw} (T : Bn w W 10 hr 6 hi 2 hb) (σ : Nat → Nat) (h1 : ∀ i, i < 6 → σ i < 6) (h2 : ∀ i j, i < 6 → j < 6 → i ≠ j → σ i ≠ σ j) {W1 W2 W3 : World} {A1 A2 A3 : Array Value} (e1 : W.alloc (.cells A1 22) = W1) (e2 : W1.alloc (.cells A2 32) = W2) (e3 : W2.alloc (.cells A3 35) = W3)
    (a1 : A1 = (vals 10 hr).toArray) (a2 : A2 = (vals 6 (fun i => hi (σ i))).toArray) (a3 : A3 = (vals 2 hb).toArray) :
    ∃ (hr hi hb : Nat → Rw) (vR vI vB : List Value), T3 w W3 ⟨hr, ⟨some ⟨W.heap.size, 0, none⟩, 10, 10, vR⟩, 0, hr, 0, rw0⟩ ⟨hi, ⟨some ⟨W1.heap.size, 0, none⟩, 6, 6, vI⟩, 0, hi, 0, rw0⟩ ⟨hb, ⟨some ⟨W2.heap.size, 0, none⟩, 2, 2, vB⟩, 0, hb, 0, rw0⟩ ∧ Sm hr 10 1954687338214 ∧ Sm hi 6 64 ∧ Sm hb 2 3000 := by
  subst a1
  subst a2
  subst a3
  exact ⟨hr, fun i => hi (σ i), hb, _, _, _, T.made σ h1 h2 e1.symm e2.symm e3.symm, T.sr, fun j hj => T.si _ (h1 j hj), T.sb⟩

set_option maxHeartbeats 1600000 in
set_option maxRecDepth 100000 in
theorem bear_yes (a1 : Option Addr) (b2 o2 n c1 c2 : Nat) (L M : List Res) (c : Int) (w : World) (hn : L.length = n) (hM : M.length = n + 9) (hL : Ress w a1 L) (hR : Ress w (some ⟨b2, o2, none⟩) M) (hc1 : ∀ i, i < L.length → (L.getD i res0).code = c) (hc2 : ∀ i, i < M.length → (M.getD i res0).code = c) (hm : n ≤ 4611686018427387800) :
    Calls Try.prog 11 #[.slice a1 n c1, .slice (some ⟨b2, o2, none⟩) (n + 9) c2, .int .i64 c] w fun r w' => r = .returned (.bool true) ∧ Kept [] w w' := by
  have HN := hide hn
  have HM := hide hM
  have HL := hide hL
  have HR := hide hR
  have H1 := hide hc1
  have H2 := hide hc2
  have hcc : (c != c) = false := by simp
  clear hn hM hL hR hc1 hc2
  go_enter Try.func11, Try.ntmps11
  go_wp2
  go_loopw [7] (fun y wr => ∃ k : Nat, k ≤ n + 9 ∧ y = .int .i64 k ∧ Hid (Kept [] w wr ∧ wr = w)) (fun y wr => n + 9 - (intOf y).toNat)
  case atStart => exact ⟨0, Nat.zero_le _, rfl, ⟨Kept.refl _ _, rfl⟩⟩
  case round =>
    obtain ⟨k, hk, rfl, HW⟩ := hrel
    have eW := HW.out.2
    have HKK := hide HW.out.1
    clear HW
    obtain rfl := eW.symm
    by_cases hlt : k < n + 9
    · obtain ⟨_, _, e, hr⟩ := HR.out k (by rw [HM.out]; exact hlt)
      cases e
      have cc := hr 64 _ (Res.cod _)
      rw [H2.out k (by rw [HM.out]; exact hlt)] at cc
      clear hr
      by_cases hkn : k < n
      · have hknz : (k : Int) < (n : Int) := by omega
        obtain ⟨b1, o1, rfl, hr1⟩ := HL.out k (by rw [HN.out]; exact hkn)
        have cd := hr1 64 _ (Res.cod _)
        rw [H1.out k (by rw [HN.out]; exact hkn)] at cd
        clear hr1
        go_wp2
        go_roundw
        case rel => exact ⟨k + 1, by omega, by go_num, ⟨Kept.refl _ _, by first | rfl | trivial⟩⟩
        case measure => simp [intOf]; omega
      · have hknz : ¬ (k : Int) < (n : Int) := by omega
        go_wp2
        go_roundw
        case rel => exact ⟨k + 1, by omega, by go_num, ⟨Kept.refl _ _, by first | rfl | trivial⟩⟩
        case measure => simp [intOf]; omega
    · go_wp2
      go_ret
      exact ⟨by first | rfl | simp, Kept.refl _ _⟩
end Go.Proofs.Ytmhnjhnnaciokaa
