/-
  BlockOwn: Book.list. (Written by tools/cd.py.)
-/
import Derived.Test.YtdnbpklnkmgmkaaDa
namespace Go.Proofs.Ytdnbpklnkmgmkaa
open Go.RowKit
set_option linter.unusedVariables false
set_option linter.unusedSimpArgs false

theorem there_row11 {w : World} {g : Nat} {cur : Array Value} {t : TypeId} (hg : w.heap[g]? = some (.cells cur t (0, 0))) (n : Nat) (h : n ≤ cur.size) : w.there g 0 n := fun j hj => ⟨by rw [Nat.zero_add, cell_of_row _ _ _ _ _ _ hg, Array.getElem?_eq_getElem (by omega)]; rfl, frozen_of_row _ _ _ _ _ hg⟩
def setAll : List Value → Nat → List Value → List Value
  | l, _, [] => l
  | l, o, v :: r => setAll (l.set o v) (o + 1) r
theorem setAll_eq : ∀ (vs l : List Value) (o : Nat), o + vs.length ≤ l.length → setAll l o vs = l.take o ++ vs ++ l.drop (o + vs.length)
  | [], l, o, h => by simp [setAll]
  | v :: r, l, o, h => by
    simp only [List.length_cons] at h
    have ho : o < l.length := by omega
    rw [setAll, setAll_eq r (l.set o v) (o + 1) (by simp; omega)]
    have e1 : (l.set o v).take (o + 1) = l.take o ++ [v] := by
      rw [List.take_set, List.take_succ_eq_append_getElem ho, List.set_append_right _ _ (by simp; omega)]
      simp [Nat.min_eq_left (Nat.le_of_lt ho)]
    have e2 : (l.set o v).drop (o + 1 + r.length) = l.drop (o + (r.length + 1)) := by
      rw [List.drop_set, if_pos (by omega), show o + 1 + r.length = o + (r.length + 1) by omega]
    rw [e1, e2]
    simp
/-- Cells of a row are written, one behind the other. -/
theorem Rw.At.sets {e : TypeId} {s B g : Nat} : ∀ (vs : List Value) (o : Nat) (w : World) (r : Rw), r.At e s B w → r.o = some ⟨g, 0, none⟩ → (Rw.mk r.o r.c r.n (setAll r.vs o vs)).At e s B (w.setCells g o vs) ∧ w.grownBy (w.setCells g o vs) (some g)
  | [], o, w, r, h, ho => ⟨h, ⟨rfl, rfl, rfl, Nat.le_refl _, fun _ _ _ => rfl⟩⟩
  | v :: t, o, w, r, h, ho => by
    obtain ⟨h1, h2⟩ := h.set (k := o) ho v
    have hb : r.blk = some g := by unfold Rw.blk Rw.val; rw [ho]; rfl
    rw [hb] at h2
    obtain ⟨h3, h4⟩ := Rw.At.sets t (o + 1) (w.setCell ⟨g, o, none⟩ v) _ h1 ho
    rw [World.setCells, setAll]
    refine ⟨h3, ⟨h4.os.trans h2.os, h4.tape.trans h2.tape, h4.output.trans h2.output, Nat.le_trans h2.size h4.size, fun k hk hne => ?_⟩⟩
    rw [h4.block k (Nat.lt_of_lt_of_le hk h2.size) hne, h2.block k hk hne]
/-- The first k elements of a row of n are ys, the others as they were. -/
def ov (vs ys : List Value) (s k : Nat) : List Value := (List.replicate k ys).flatten ++ vs.drop (k * s)
theorem flat_len2 (k : Nat) (ys : List Value) : ((List.replicate k ys).flatten).length = k * ys.length := by
  induction k with
  | zero => simp
  | succ k ih => rw [List.replicate_succ, List.flatten_cons, List.length_append, ih, Nat.succ_mul]; omega
theorem ov_zero (vs ys : List Value) (s : Nat) : ov vs ys s 0 = vs := by simp [ov]
theorem ov_next {vs ys : List Value} {s k n : Nat} (hy : ys.length = s) (hv : vs.length = n * s) (hk : k < n) : setAll (ov vs ys s k) (k * s) ys = ov vs ys s (k + 1) := by
  have h1 := flat_len2 k ys
  rw [hy] at h1
  have h2 : (k + 1) * s ≤ n * s := Nat.mul_le_mul_right s hk
  have h3 : (k + 1) * s = k * s + s := Nat.succ_mul k s
  rw [setAll_eq _ _ _ (by unfold ov; rw [List.length_append, List.length_drop, h1, hv, hy]; omega)]
  unfold ov
  rw [List.take_left' h1, List.drop_append, h1, List.drop_eq_nil_of_le (by omega), List.nil_append, List.drop_drop, List.replicate_succ']
  rw [hy, h3]
  simp only [List.flatten_append, List.flatten_cons, List.flatten_nil, List.append_nil]
  rw [show k * s + (k * s + s - k * s) = k * s + s by omega]
theorem ov_full {vs ys : List Value} {s n : Nat} (hv : vs.length = n * s) : ov vs ys s n = (List.replicate n ys).flatten := by
  unfold ov
  rw [List.drop_eq_nil_of_le (by omega), List.append_nil]
theorem Rw.At.len {e : TypeId} {s B : Nat} {w : World} {r : Rw} (h : r.At e s B w) : r.vs.length = r.n * s := h.1
/-- The block of a row that has elements. -/
theorem Rw.At.there {e : TypeId} {s B : Nat} {w : World} {r : Rw} (h : r.At e s B w) (hn : 0 < r.n) : ∃ g, r.o = some ⟨g, 0, none⟩ ∧ r.blk = some g ∧ w.there g 0 (r.n * s) ∧ r.n ≤ r.c := by
  rcases h.2 with ⟨_, h0⟩ | ⟨g, cap, cur, hv', _, hg, hnc, _, hcs, _⟩
  · omega
  · have hcv := hv'
    unfold Rw.val at hv'
    injection hv' with e1 _ e3
    have hm : r.n * s ≤ cap * s := Nat.mul_le_mul_right s hnc
    refine ⟨g, e1, by unfold Rw.blk; rw [hcv]; rfl, there_row11 hg _ (by omega), by omega⟩
theorem Try.infoList3 : (Try.prog.info? 76).map (·.size) = some 3 := by kernel_rfl
theorem Try.infoListB : (Try.prog.info? 76).map (fun i => (i.zero, i.size, i.bytes)) = some (some (.agg #[.slice none 0 0, .slice none 0 0, .int .i64 0]), 3, 56) := by kernel_rfl
theorem Try.zeroList11 (W : World) : (zeroValue 76).run Try.prog W = .ok (.agg #[.slice none 0 0, .slice none 0 0, .int .i64 0]) W := by kernel_rfl
theorem Try.zeroBlk11 (W : World) : (zeroValue 45).run Try.prog W = .ok (.agg #[.int .i64 0, .int .i64 0, .int .i64 0, .int .i64 0]) W := by kernel_rfl
def yL (x : Nat) : List Value := [.int .i64 (x : Nat), .int .i64 0, .int .i64 0, .int .i64 0]
def ovL (r : Rw) (x : Nat) (k : Nat) : Rw := ⟨r.o, r.c, r.n, ov r.vs (yL x) 4 k⟩
theorem ovL_zero (r : Rw) (x : Nat) : ovL r x 0 = r := by unfold ovL; rw [ov_zero]
def markL (r : Rw) (x : Nat) : Rw := ⟨r.o, r.c, r.n, (List.replicate r.n (yL x)).flatten⟩
theorem ovL_full (r : Rw) (x : Nat) (h : r.vs.length = r.n * 4) : ovL r x r.n = markL r x := by unfold ovL markL; rw [ov_full h]
def mkvL (k : Nat) : Value := .int .i64 (mkL k : Nat)

/-- The loop of take. -/
structure Tl (w wr : World) (B K gX m : Nat) (h lf : Nat → Rw) (en : Nat → Nat) (E : Nat) (R1 R2 : Rw) (i x k : Nat) : Prop where
  fam : Lx 45 4 B wr m (upr h i (ovL (h i) x k)) m (upr lf i (ovL (h i) x k))
  row : R2.At 76 3 B wr
  bok : Bok wr B K R1 R2
  xr : wr.heap[gX]? = some (.cells #[(h i).val, (h i).val, .int .i64 (x : Nat)] 76 (0, 0))
  chg : Chg [45, 76, 60] B w wr
theorem Tl.step {w wr : World} {B K gX m : Nat} {h lf : Nat → Rw} {en : Nat → Nat} {E : Nat} {R1 R2 : Rw} {i x k : Nat} (T : Tl w wr B K gX m h lf en E R1 R2 i x k) (hi : i < m) (hl : lf i = h i) (hv : (h i).vs.length = (h i).n * 4) (hk : k < (h i).n) (hB : B ≤ wr.heap.size) :
    ∃ g, (h i).o = some ⟨g, 0, none⟩ ∧ wr.there g (k * 4) 4 ∧ Tl w (wr.setCells g (k * 4) (yL x)) B K gX m h lf en E R1 R2 i x (k + 1) := by
  have hA := T.fam.fam.own i hi
  rw [upr_same] at hA
  obtain ⟨g, hg, hgo, hth, _⟩ := hA.there (by unfold ovL; exact Nat.lt_of_le_of_lt (Nat.zero_le _) hk)
  have hgi : (h i).o = some ⟨g, 0, none⟩ := hg
  obtain ⟨hn, hgr⟩ := Rw.At.sets (g := g) (yL x) (k * 4) wr _ hA hg
  have hov : setAll (ovL (h i) x k).vs (k * 4) (yL x) = (ovL (h i) x (k + 1)).vs := ov_next (n := (h i).n) rfl hv hk
  rw [hov] at hn
  rw [← hgo] at hgr
  have hbk := T.bok.grown hA (by decide) hgr
  refine ⟨g, hgi, fun j hj => ?_, ?_, ?_, hbk, ?_, ?_⟩
  · have hlt : k * 4 + j < (ovL (h i) x k).n * 4 := by show _ < (h i).n * 4; omega
    have := hth (k * 4 + j) hlt
    rw [Nat.zero_add] at this
    exact this
  · have h2 := Pf.turn T.fam hi (by rw [upr_same, upr_same]) (vs := (ovL (h i) x (k + 1)).vs) (by rw [upr_same]; exact hn) (by rw [upr_same]; exact hgr)
    rw [upr_same, upr_upr, upr_upr] at h2
    exact h2
  · exact T.row.keep hgr (own_types T.row hA (by decide))
  · have hgX := T.xr
    exact (hgr.block gX (Array.getElem?_eq_some_iff.1 hgX).1 (fun e2 => hA.notIn hgX (by decide) e2.symm)).trans hgX
  · exact T.chg.trans (Chg.on hA hgr (by simp) hB)

set_option maxHeartbeats 4000000 in
set_option maxRecDepth 100000 in
theorem list_ok {w : World} {B K m : Nat} {h lf : Nat → Rw} {en : Nat → Nat} {E : Nat} {R1 R2 : Rw} {i : Nat} (hb : Bok w B K R1 R2) (H : Half 45 76 4 B w m h lf en E mkvL R2) (hi : i < m) (hl : lf i = h i) (hne : ∀ k, k < E → en k ≠ i) (hE : E ≤ 100000000) (hn : (h i).n ≤ 1000000) (hB : B ≤ w.heap.size) :
    Calls Try.prog 23 #[.pointer (some ⟨K, 0, none⟩), (h i).val] w fun e w' => e = .returned (.tuple #[]) ∧ ∃ R2', Bok w' B K R1 R2' ∧ Half 45 76 4 B w' m (upr h i (markL (h i) (mkL E))) (upr lf i (markL (h i) (mkL E))) (updN en E i) (E + 1) mkvL R2' ∧ Chg [45, 76, 60] B w w' := by
  have hvl : (h i).vs.length = (h i).n * 4 := (H.fam.fam.own i hi).1
  obtain ⟨ao, hao⟩ : ∃ ao, (h i).o = ao := ⟨_, rfl⟩
  obtain ⟨n, hnn⟩ : ∃ n, (h i).n = n := ⟨_, rfl⟩
  obtain ⟨cap, hcap⟩ : ∃ cap, (h i).c = cap := ⟨_, rfl⟩
  have hval : (h i).val = .slice ao n cap := by unfold Rw.val; rw [hao, hnn, hcap]
  obtain ⟨ro, hro⟩ : ∃ ro, R2.o = ro := ⟨_, rfl⟩
  obtain ⟨rc, hrc⟩ : ∃ rc, R2.c = rc := ⟨_, rfl⟩
  have hrv : R2.val = .slice ro E rc := by unfold Rw.val; rw [hro, hrc, H.rn]
  have HRV := hide hrv
  have HRN := hide H.rn
  obtain ⟨x, hx⟩ : ∃ x, mkL E = x := ⟨_, rfl⟩
  have hmv3 : IntKind.i64.wrap (2 * (E : Int)) = 2 * (E : Int) := by rw [IntKind.wrap_i64]; omega
  have hmv : IntKind.i64.wrap (1000 + 2 * (E : Int)) = (x : Int) := by rw [IntKind.wrap_i64, ← hx]; unfold mkL; omega
  have hmv2 : 1000 + 2 * (E : Int) = (x : Int) := by rw [← hx]; unfold mkL; omega
  have hxb : x ≤ 200001000 := by rw [← hx]; unfold mkL; omega
  have k0 : w.cell? ⟨K, 1, none⟩ = some (.slice ro E rc) := by rw [cell_of_row _ _ _ _ _ _ hb.cell, ← hrv]; rfl
  have hz := Try.zeroList11
  have HH := hide H
  have HB := hide hb
  have HX := hide hx
  have HBB0 := hide hB
  have HVAL := hide hval
  have HO : Hid ((h i).o = ao) := hao
  have HNN : Hid ((h i).n = n) := hnn
  rw [hval]
  rw [hnn] at hn hvl
  rw [hx]
  have HVL := hide hvl
  have HI : Hid (Tl w (w.alloc (.cells #[.slice ao n cap, .slice ao n cap, .int .i64 (x : Nat)] 76)) B K w.heap.size m h lf en E R1 R2 i x 0) := by
    have hk := (Kept.refl [] w).alloc (.cells #[.slice ao n cap, .slice ao n cap, .int .i64 (x : Nat)] 76)
    refine ⟨?_, (H.kept hk).row, hb.kept hk (by simp), ?_, Chg.kept hk hB⟩
    · rw [ovL_zero, upr_self rfl, upr_self hl]
      exact (H.kept hk).fam
    · rw [hval]
      exact heap_new _ _
  clear H hb hx hB hval hao hnn hcap hro hrc hrv hvl
  go_enter Try.func23, Try.ntmps23
  go_wp2
  have HBB1 : Hid (B ≤ (w.alloc (.cells #[.slice ao n cap, .slice ao n cap, .int .i64 (x : Nat)] 76)).heap.size) := Nat.le_trans HBB0.out ((Kept.refl [] w).alloc (.cells #[.slice ao n cap, .slice ao n cap, .int .i64 (x : Nat)] 76)).size
  generalize w.alloc (.cells #[.slice ao n cap, .slice ao n cap, .int .i64 (x : Nat)] 76) = w1 at HI HBB1 ⊢
  generalize w.heap.size = gX at HI ⊢
  have hzb := Try.zeroBlk11
  clear hz k0 hmv hmv2 hmv3
  go_loopw [5] (fun y wr => ∃ k : Nat, k ≤ n ∧ y = .int .i64 k ∧ Hid (Tl w wr B K gX m h lf en E R1 R2 i x k) ∧ Hid (B ≤ wr.heap.size)) (fun y wr => n - (intOf y).toNat)
  case atStart => exact ⟨0, Nat.zero_le _, rfl, HI, HBB1⟩
  case round =>
    clear HI HBB1
    obtain ⟨k, hk, rfl, HT, HBB⟩ := hrel
    have hxr := HT.out.xr
    rw [HVAL.out] at hxr
    by_cases hlt : k < n
    · as_aux_lemma =>
      obtain ⟨g, hgo, hth, hst⟩ := HT.out.step hi hl (by rw [HVL.out, HNN.out]) (by rw [HNN.out]; exact hlt) HBB.out
      rw [HO.out] at hgo
      subst hgo
      have x2 : wr.cell? ⟨gX, 2, none⟩ = some (.int .i64 (x : Nat)) := by rw [cell_of_row _ _ _ _ _ _ hxr]; rfl
      have HST := hide hst
      have HBB2 : Hid (B ≤ (wr.setCells g (k * 4) (yL x)).heap.size) := by show _ ≤ _; exact Nat.le_trans HBB.out (kept_setCells (l := [g]) (by simp) _ _ _ (Kept.refl _ _)).size
      clear hst hxr HT HBB
      go_wp2_with (refine wpList_store_mid rfl 45 (.tmp 27) (.tmp 26) rfl g (k * 4) #[.int .i64 (x : Nat), .int .i64 0, .int .i64 0, .int .i64 0] rfl rfl hth Try.infoBlk4 (blk_all _ _ _ _) ?_)
      go_roundw
      case rel => exact ⟨k + 1, by omega, by go_num, HST, HBB2⟩
      case measure => simp [intOf]; omega
    · as_aux_lemma =>
      obtain rfl : k = n := by omega
      have k0 : wr.cell? ⟨K, 1, none⟩ = some (.slice ro E rc) := by rw [cell_of_row _ _ _ _ _ _ HT.out.bok.cell, ← HRV.out]; rfl
      have hrx : wr.rangeAt gX 0 [.slice ao k cap, .slice ao k cap, .int .i64 (x : Nat)] := fun j v hv => by rw [Nat.zero_add, cell_of_row _ _ _ _ _ _ hxr, List.getElem?_toArray]; exact hv
      go_upto_region 5 with (fail)
      refine wp_region_late (fun w' => Kept [] wr w') (fun i => i == 7 || i == 10) (by kernel_rfl) ?_
      have h0 : Kept [] wr wr.drew := (Kept.refl [] wr).drew
      generalize World.drew wr = v0 at h0 ⊢
      refine wpAnyL_free (i := 0) (v := .pointer (some ⟨K, 0, none⟩)) rfl (by kernel_rfl) (by kernel_rfl) (by kernel_rfl) (fun _ _ _ h => h) (Or.inl ⟨by rfl, fun w _ => by go_simp⟩) ?_
      try simp only [List.getElem_toArray, List.getElem_cons_zero, List.getElem_cons_succ, Act.put, List.setIfInBounds_toArray, List.set_cons_zero, List.set_cons_succ]
      refine wpAnyL_free (i := 1) (v := .pointer (some ⟨K, 0, none⟩)) rfl (by kernel_rfl) (by kernel_rfl) (by kernel_rfl) (fun _ _ _ h => h) (Or.inl ⟨by rfl, fun w _ => by go_simp⟩) ?_
      try simp only [List.getElem_toArray, List.getElem_cons_zero, List.getElem_cons_succ, Act.put, List.setIfInBounds_toArray, List.set_cons_zero, List.set_cons_succ]
      refine wpAnyL_free (i := 2) (v := .pointer (some ⟨K, 0, none⟩)) rfl (by kernel_rfl) (by kernel_rfl) (by kernel_rfl) (fun _ _ _ h => h) (Or.inl ⟨by rfl, fun w _ => by go_simp⟩) ?_
      try simp only [List.getElem_toArray, List.getElem_cons_zero, List.getElem_cons_succ, Act.put, List.setIfInBounds_toArray, List.set_cons_zero, List.set_cons_succ]
      refine wpAnyL_free (i := 3) (v := .pointer (some ⟨K, 1, none⟩)) rfl (by kernel_rfl) (by kernel_rfl) (by kernel_rfl) (fun _ _ _ h => h) (Or.inl ⟨by rfl, fun w _ => by go_simp⟩) ?_
      try simp only [List.getElem_toArray, List.getElem_cons_zero, List.getElem_cons_succ, Act.put, List.setIfInBounds_toArray, List.set_cons_zero, List.set_cons_succ]
      refine wpAnyL_take (i := 4) (v := (.slice ro E rc)) rfl (by kernel_rfl) (by kernel_rfl) (by kernel_rfl) (by kernel_rfl) (by kernel_rfl) (fun _ _ _ h => h) (Or.inl ⟨by rfl, fun w hSw => by have c := Kept.cellOf hSw k0 (by simp); go_simp⟩) h0 ?_
      try simp only [List.getElem_toArray, List.getElem_cons_zero, List.getElem_cons_succ, Act.put, List.setIfInBounds_toArray, List.set_cons_zero, List.set_cons_succ]
      refine wpAnyL_take (i := 5) (v := .agg #[.slice ao k cap, .slice ao k cap, .int .i64 (x : Nat)]) rfl (by kernel_rfl) (by kernel_rfl) (by kernel_rfl) (by kernel_rfl) (by kernel_rfl) (fun _ _ _ h => h) (yieldsIf_load_mid (by rfl) _ _ rfl gX 0 rfl _ _ (fun w h j v hv => Kept.cellOf h (hrx j v hv) (by simp)) Try.underlying76 rfl Try.infoList3) h0 ?_
      try simp only [List.getElem_toArray, List.getElem_cons_zero, List.getElem_cons_succ, Act.put, List.setIfInBounds_toArray, List.set_cons_zero, List.set_cons_succ]
      have a1 : R2.At 76 3 B (v0.alloc (.cells #[.slice ao k cap, .slice ao k cap, .int .i64 (x : Nat)] 76)) := HT.out.row.keep (kept_grown (row := none) (h0.alloc _) (by simp)) (Off.none _)
      have hyn := heap_new v0 (.cells #[.slice ao k cap, .slice ao k cap, .int .i64 (x : Nat)] 76)
      obtain ⟨g2, c2, w2, hrun, n1, n2, n3, n4⟩ := run_append_both (P := Try.prog) 58 58 _ 56 Try.underlying58 Try.infoListB rfl (by omega) R2 1 [.slice ao k cap, .slice ao k cap, .int .i64 (x : Nat)] v0.heap.size 1 a1 rfl (by omega) (fun j u hj => by rw [cell_of_row _ _ _ _ _ _ hyn, List.getElem?_toArray]; exact hj) (by simp [Value.oneCell']) (by rw [HRN.out]; omega) (by rw [HRN.out]; omega) (Nat.le_trans HBB.out (h0.alloc _).size)
      rw [HRN.out] at hrun n1
      have hv1 : R2.val = .slice ro E rc := HRV.out
      rw [hv1] at hrun
      have hbk1 := HT.out.bok.kept (h0.alloc (.cells #[.slice ao k cap, .slice ao k cap, .int .i64 (x : Nat)] 76)) (by simp)
      have hbk2 := hbk1.grown a1 (by decide) n3
      have k2 : w2.cell? ⟨K, 1, none⟩ = some (.slice ro E rc) := by rw [cell_of_row _ _ _ _ _ _ hbk2.cell, ← hv1]; rfl
      have f2 : w2.frozen? ⟨K, 1, none⟩ = false := frozen_of_row _ _ _ _ _ hbk2.cell
      have c01 : Chg [45, 76, 60] B wr w2 := (Chg.kept (h0.alloc _) HBB.out).trans (Chg.on a1 n3 (by simp) (Nat.le_trans HBB.out (h0.alloc _).size))
      have cU : Chg [76, 60] B wr w2 := (Chg.kept (h0.alloc _) HBB.out).trans (Chg.on a1 n3 (by simp) (Nat.le_trans HBB.out (h0.alloc _).size))
      have HCC := hide (And.intro hbk2 (And.intro c01 (And.intro cU n1)))
      clear a1 hyn n1 n2 n3 n4 hbk1 hbk2 c01 cU
      refine wpAnyL_one (i := 6) (by kernel_rfl) rfl (fun K' hK => ?_)
      rw [if_pos (by rfl)]
      go_simp
      refine hK.out _ _ (fun _ _ => h0.alloc _) ?_
      clear hK K'
      try simp only [List.getElem_toArray, List.getElem_cons_zero, List.getElem_cons_succ, Act.put, List.setIfInBounds_toArray, List.set_cons_zero, List.set_cons_succ]
      refine wpAnyL_one (i := 7) (by kernel_rfl) rfl (fun K' hK => ?_)
      rw [if_pos (by rfl)]
      refine wp_append_run (.tmp 32) (.tmp 34) 58 rfl (.slice ro E rc) (.slice (some ⟨v0.heap.size, 0, none⟩) 1 1) rfl rfl (.slice (some ⟨g2, 0, none⟩) (E + 1) c2) w2 hrun ?_
      refine hK.out _ _ (fun _ h => by cases h) ?_
      clear hK K' hrun
      try simp only [List.getElem_toArray, List.getElem_cons_zero, List.getElem_cons_succ, Act.put, List.setIfInBounds_toArray, List.set_cons_zero, List.set_cons_succ]
      refine wpAnyL_free (i := 8) (v := .pointer (some ⟨K, 0, none⟩)) rfl (by kernel_rfl) (by kernel_rfl) (by kernel_rfl) (fun _ _ _ h => h) (Or.inl ⟨by rfl, fun w _ => by go_simp⟩) ?_
      try simp only [List.getElem_toArray, List.getElem_cons_zero, List.getElem_cons_succ, Act.put, List.setIfInBounds_toArray, List.set_cons_zero, List.set_cons_succ]
      refine wpAnyL_free (i := 9) (v := .pointer (some ⟨K, 1, none⟩)) rfl (by kernel_rfl) (by kernel_rfl) (by kernel_rfl) (fun _ _ _ h => h) (Or.inl ⟨by rfl, fun w _ => by go_simp⟩) ?_
      try simp only [List.getElem_toArray, List.getElem_cons_zero, List.getElem_cons_succ, Act.put, List.setIfInBounds_toArray, List.set_cons_zero, List.set_cons_succ]
      refine wpAnyL_one (i := 10) (by kernel_rfl) rfl (fun K' hK => ?_)
      rw [if_pos (by rfl)]
      go_simp
      refine hK.out _ _ (fun _ h => by cases h) ?_
      clear hK K'
      try simp only [List.getElem_toArray, List.getElem_cons_zero, List.getElem_cons_succ, Act.put, List.setIfInBounds_toArray, List.set_cons_zero, List.set_cons_succ]
      refine wpAnyL_done (by kernel_rfl) ?_ _
      go_end0
      refine ⟨rfl, ⟨some ⟨g2, 0, none⟩, c2, E + 1, R2.vs ++ [.slice ao k cap, .slice ao k cap, .int .i64 (x : Nat)]⟩, ?_, ?_, ?_⟩
      · refine ⟨?_, HCC.out.1.ge⟩
        rw [heap_setCell_same _ _ _ _ _ _ HCC.out.1.cell]
        rfl
      · have cK := Chg.cell (T := [60]) (k := 1) HCC.out.1.cell HCC.out.1.ge (by simp) (.slice (some ⟨g2, 0, none⟩) (E + 1) c2)
        have hm := ovL_full (h i) x (by rw [HVL.out, HNN.out])
        rw [HNN.out] at hm
        refine ⟨?_, cK.rows _ _ _ (by decide) HCC.out.2.2.2, rfl, ?_, ?_, ?_⟩
        · have := Pf.chg (Pf.chg HT.out.fam HCC.out.2.2.1 (by decide)) cK (by decide)
          rw [hm] at this
          exact this
        · show R2.vs ++ [.slice ao k cap, .slice ao k cap, .int .i64 (x : Nat)] = _
          rw [ents_succ, HH.out.rv]
          congr 1
          · refine ents_congr (fun j hj => ?_)
            unfold ent
            rw [updN_other _ _ _ _ (by omega), upr_other _ _ _ _ (hne j hj), upr_other _ _ _ _ (hne j hj)]
          · unfold ent mkvL
            rw [updN_same, upr_same, upr_same, HX.out]
            have : (markL (h i) x).val = .slice ao k cap := HVAL.out
            rw [this]
        · intro j hj
          by_cases e : j = E
          · subst e; rw [updN_same]; exact hi
          · rw [updN_other _ _ _ _ e]; exact HH.out.lt j (by omega)
        · intro j j' hj hj' hjj
          by_cases e : j = E
          · subst e
            rw [updN_same, updN_other _ _ _ _ (by omega)]
            exact (hne j' (by omega)).symm
          · rw [updN_other _ _ _ _ e]
            by_cases e' : j' = E
            · subst e'; rw [updN_same]; exact hne j (by omega)
            · rw [updN_other _ _ _ _ e']; exact HH.out.inj j j' (by omega) (by omega) hjj
      · exact (HT.out.chg.trans HCC.out.2.1).trans (Chg.cell HCC.out.1.cell HCC.out.1.ge (by simp) _)

end Go.Proofs.Ytdnbpklnkmgmkaa
