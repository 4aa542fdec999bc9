/-
  The walk: freightlaw11.BlockValid. (Written by tools/bx.py.)
-/
import Derived.Test.YtdnbpklnkmgmkaaBw
import Derived.Test.YtdnbpklnkmgmkaaBr
import Derived.Test.YtdnbpklnkmgmkaaBh
import Derived.Laws.StructEq
import Derived.ChangeKeysEq
namespace Go.Proofs.Ytdnbpklnkmgmkaa
open Go.RowKit
set_option linter.unusedVariables false
set_option linter.unusedSimpArgs false

theorem Try.aggInt11 (W : World) : (isAgg 3).run Try.prog W = .ok false W := by kernel_rfl
theorem Try.underBlk : Try.prog.underlying 45 = some (.struct (Try.prog.fieldsOf 45)) := by kernel_rfl
theorem Try.partB0 (a b c d : Int) (W : World) : (part 3 #[.int .i64 a, .int .i64 b, .int .i64 c, .int .i64 d] 0).run Try.prog W = .ok (.int .i64 a) W := by
  simp only [part, Sem.run_bind, Try.aggInt11, Result.andThen_ok, Bool.false_eq_true, if_false, List.getElem?_toArray, List.getElem?_cons_succ, List.getElem?_cons_zero, Sem.run_pure]
theorem Try.partB1 (a b c d : Int) (W : World) : (part 3 #[.int .i64 a, .int .i64 b, .int .i64 c, .int .i64 d] 1).run Try.prog W = .ok (.int .i64 b) W := by
  simp only [part, Sem.run_bind, Try.aggInt11, Result.andThen_ok, Bool.false_eq_true, if_false, List.getElem?_toArray, List.getElem?_cons_succ, List.getElem?_cons_zero, Sem.run_pure]
theorem Try.partB2 (a b c d : Int) (W : World) : (part 3 #[.int .i64 a, .int .i64 b, .int .i64 c, .int .i64 d] 2).run Try.prog W = .ok (.int .i64 c) W := by
  simp only [part, Sem.run_bind, Try.aggInt11, Result.andThen_ok, Bool.false_eq_true, if_false, List.getElem?_toArray, List.getElem?_cons_succ, List.getElem?_cons_zero, Sem.run_pure]
theorem Try.partB3 (a b c d : Int) (W : World) : (part 3 #[.int .i64 a, .int .i64 b, .int .i64 c, .int .i64 d] 3).run Try.prog W = .ok (.int .i64 d) W := by
  simp only [part, Sem.run_bind, Try.aggInt11, Result.andThen_ok, Bool.false_eq_true, if_false, List.getElem?_toArray, List.getElem?_cons_succ, List.getElem?_cons_zero, Sem.run_pure]
theorem Try.eqlBlk (a b c d : Int) (W : World) : (Op.equalIn 10000 45 (.agg #[.int .i64 a, .int .i64 b, .int .i64 c, .int .i64 d]) (.agg #[.int .i64 a, .int .i64 b, .int .i64 c, .int .i64 d])).run Try.prog W = .ok true W := by
  rw [run_equalIn_struct (P := Try.prog) W 9999 45 _ _ Try.underBlk (by kernel_rfl)]
  simp (config := { decide := true }) only [Program.fieldsOf, Try.underlying45, Op.eqFields, Sem.run_bind, Sem.run_ite, ne_eq, not_false_eq_true, if_true, Try.partB0, Try.partB1, Try.partB2, Try.partB3, Result.andThen_ok, run_equalIn_int W 9998 3 .i64 .i64 _ _ Try.underlying3, beq_self_eq_true, Bool.not_true, Bool.false_eq_true, if_false, Sem.run_pure]
theorem brows_take (M : List Bk) (k : Nat) (h : k ≤ M.length) : brows (M.take k) = (brows M).take (k * 4) := by
  have e : brows M = brows (M.take k) ++ brows (M.drop k) := by rw [← brows_app, List.take_append_drop]
  have l : (brows (M.take k)).length = k * 4 := by rw [brows_len, List.length_take]; congr 1; omega
  have := congrArg (List.take (k * 4)) e
  rw [List.take_left' l] at this
  exact this.symm
theorem brows_drop (M : List Bk) (k : Nat) (h : k ≤ M.length) : brows (M.drop k) = (brows M).drop (k * 4) := by
  have e : brows M = brows (M.take k) ++ brows (M.drop k) := by rw [← brows_app, List.take_append_drop]
  have l : (brows (M.take k)).length = k * 4 := by rw [brows_len, List.length_take]; congr 1; omega
  have := congrArg (List.drop (k * 4)) e
  rw [List.drop_left' l] at this
  exact this.symm
theorem brows_set (M : List Bk) (k : Nat) (e : Bk) (h : k < M.length) : (brows M).take (k * 4) ++ e.cells ++ (brows M).drop (k * 4 + 4) = brows (M.set k e) := by
  rw [List.set_eq_take_append_cons_drop, if_pos h, ← brows_take M k (by omega), show k * 4 + 4 = (k + 1) * 4 by omega, ← brows_drop M (k + 1) (by omega), brows_app, List.append_assoc]
  rfl
theorem Blks.cellAt {w : World} {b off : Nat} {L : List Bk} (h : Blks w (some ⟨b, off, none⟩) L) {j : Nat} {v : Value} (hv : (brows L)[j]? = some v) : w.cell? ⟨b, off + j, none⟩ = some v := by
  have hj : j < L.length * 4 := by have := (List.getElem?_eq_some_iff.1 hv).1; rwa [brows_len] at this
  have hi : j / 4 < L.length := by omega
  have hl : (L.getD (j / 4) bk0).cells.length = 4 := rfl
  obtain ⟨u, hu⟩ : ∃ u, (L.getD (j / 4) bk0).cells[j % 4]? = some u := ⟨_, List.getElem?_eq_getElem (by rw [hl]; omega)⟩
  have h1 := brows_at (j / 4) (j % 4) u hi hu
  rw [show j / 4 * 4 + j % 4 = j by omega, hv] at h1
  cases h1
  obtain ⟨b', off', e, hr⟩ := h (j / 4) hi
  cases e
  have h2 := hr (j % 4) v hu
  rw [show off + j / 4 * 4 + j % 4 = off + j by omega] at h2
  exact h2

set_option maxRecDepth 100000 in
/-- copy(whole, l). -/
theorem copy_blks (w : World) (g c : Nat) (ao : Option Addr) (n cap : Nat) (L M : List Bk) (ty : TypeId) (hrow : w.heap[g]? = some (.cells (brows M).toArray 45 (0, 0))) (hM : M.length = c) (hL : L.length = n) (hn : n ≤ c) (hs : Blks w ao L) :
    ∃ w', (Builtin.copy_ #[30, 30] ty #[.slice (some ⟨g, 0, none⟩) c c, .slice ao n cap]).run Try.prog w = .ok (.int .i64 n) w' ∧ w'.heap[g]? = some (.cells (brows (L ++ M.drop n)).toArray 45 (0, 0)) ∧ Kept [g] w w' := by
  obtain ⟨i0, hi, hz0, hz1, hz2⟩ := info_parts Try.infoBlk3
  have hmin : Nat.min n c = n := Nat.min_eq_left hn
  by_cases h0 : L = []
  · subst h0
    obtain rfl : n = 0 := hL.symm
    refine ⟨w, ?_, by rw [List.nil_append, List.drop_zero]; exact hrow, Kept.refl _ _⟩
    have hl : ∀ (x : Addr), (loadCells x 0).run Try.prog w = .ok #[] w := fun x => by simpa using run_loadCells_list (P := Try.prog) w x [] (by simp)
    cases ao <;> simp [Builtin.copy_, run_underlying Try.underlying30, Builtin.lenOf, Builtin.firstCells, sizeOf, typeInfo, hi, storeCells, hl, goInt]
  · obtain ⟨b, o, rfl, _, _⟩ := hs.open h0
    have hrl : (brows L).length = n * 4 := by rw [brows_len, hL]
    have hl := run_loadCells_list (P := Try.prog) w ⟨b, o, none⟩ (brows L) (fun j v hv => by rw [Addr.add_mid]; exact hs.cellAt hv)
    have hst := run_storeCells_at Try.prog g 0 45 (brows L) 0 (brows M).toArray w hrow (by simp [hrl, brows_len, hM]; omega) (brows_one L)
    rw [hrl] at hl hst
    refine ⟨w.setRow g ((brows M).toArray.toList.take 0 ++ brows L ++ (brows M).toArray.toList.drop (0 + n * 4)).toArray, ?_, ?_, kept_setRow (Kept.refl _ _) (by simp) _⟩
    · simp [Builtin.copy_, run_underlying Try.underlying30, Builtin.lenOf, Builtin.firstCells, sizeOf, typeInfo, hi, hz1, hl, hst, goInt, hn, hmin]
    · rw [setRow_heap _ _ _ _ _ _ hrow]
      simp only [List.take_zero, List.nil_append, Nat.zero_add]
      rw [brows_app, brows_drop M n (by omega)]
theorem Try.cutToK (W : World) (ao : Option Addr) (L cap m : Nat) (hm : m ≤ cap) :
    (Instr.slice 30 (.slice ao L cap) none (some (.int .i64 m)) none).run Try.prog W = .ok (.slice ao m cap) W := by
  have hz : (sizeOf (Try.prog.elem 30)).run Try.prog W = .ok 4 W := by kernel_rfl
  have h := run_slice_h (P := Try.prog) W 30 ao L cap (by kernel_rfl) .i64 m (by omega) (by omega)
  rw [h, hz]
  cases ao <;> simp [sliced, Addr.add]
theorem Try.zeroBlk (W : World) : (zeroValue 45).run Try.prog W = .ok (.agg #[.int .i64 0, .int .i64 0, .int .i64 0, .int .i64 0]) W := by kernel_rfl
def b77 : Bk := ⟨0, 0, 77, 0⟩
/-- Blocks written over one by one. -/
structure F7 (w wr : World) (g c k : Nat) (M : List Bk) : Prop where
  row : wr.heap[g]? = some (.cells (brows M).toArray 45 (0, 0))
  len : M.length = c
  all : ∀ i, i < k → M.getD i bk0 = b77
  kp : Kept [] w wr
  ge : w.heap.size ≤ g
theorem F7.step {w wr : World} {g c k : Nat} {M : List Bk} (h : F7 w wr g c k M) (hk : k < c) : wr.there g (k * 4) 4 ∧ F7 w (wr.setCells g (k * 4) b77.cells) g c (k + 1) (M.set k b77) := by
  have hlen : (brows M).length = c * 4 := by rw [brows_len, h.len]
  have hth : wr.there g (k * 4) 4 := fun j hj => ⟨by rw [cell_of_row _ _ _ _ _ _ h.row, List.getElem?_toArray, List.getElem?_eq_getElem (by rw [hlen]; omega)]; rfl, frozen_of_row _ _ _ _ _ h.row⟩
  have hcl : b77.cells.length = 4 := rfl
  have hks : Kept [g] wr (wr.setCells g (k * 4) b77.cells) := kept_setCells (by simp) _ _ _ (Kept.refl _ _)
  refine ⟨hth, ?_, by rw [List.length_set]; exact h.len, ?_, h.kp.trans hks (fun i hi hl => by have := h.ge; simp at hi; omega), h.ge⟩
  · rw [setCells_row _ _ _ _ _ _ h.row (by rw [hcl, hlen]; omega), setRow_heap _ _ _ _ _ _ h.row, hcl, ← List.append_assoc, brows_set M k b77 (by rw [h.len]; exact hk)]
  · intro i hi
    by_cases e : i = k
    · subst e
      simp [List.getD, h.len, hk]
    · have := h.all i (by omega)
      simp only [List.getD] at this ⊢
      rw [List.getElem?_set_ne (by omega)]
      exact this

set_option maxHeartbeats 8000000 in
set_option maxRecDepth 100000 in
theorem valid_long (ao : Option Addr) (n cap : Nat) (row s : Int) (w : World) (h : 10000 < n) :
    Calls Try.prog 5 #[.slice ao n cap, .int .i64 row, .int .i64 s] w fun e w' => e = .returned (.bool true) ∧ Below w.heap.size w w' := by
  have hq : (10000 : Int) < (n : Int) := by omega
  go_enter Try.func5, Try.ntmps5
  go_wp2
  go_ret
  exact ⟨rfl, Below.refl _ _⟩

set_option maxHeartbeats 8000000 in
set_option maxRecDepth 100000 in
theorem valid_in (ao : Option Addr) (n cap : Nat) (L : List Bk) (row s : Int) (w : World) (hn : L.length = n) (hL : Blks w ao L) (h : n ≤ 10000) :
    Calls Try.prog 5 #[.slice ao n cap, .int .i64 row, .int .i64 s] w fun e w' => e = .returned (.bool true) ∧ Below w.heap.size w w' := by
  have hq : ¬ (10000 : Int) < (n : Int) := by omega
  have hqd : decide ((10000 : Int) < (n : Int)) = false := by simp; omega
  obtain ⟨c, hc⟩ : ∃ c, n + 3 = c := ⟨_, rfl⟩
  have w3 : IntKind.i64.wrap ((n : Int) + 3) = (c : Int) := by rw [IntKind.wrap_i64]; omega
  have hc4 : c ≤ 10003 := by omega
  have hnc : n ≤ c := by omega
  have hmk := run_makeK w c (by omega)
  have hzb := Try.zeroBlk
  have HN := hide hn
  have HL := hide hL
  have HI : Hid (F7 w (w.alloc (.cells (brows (List.replicate c bk0)).toArray 45)) w.heap.size c 0 (List.replicate c bk0)) := ⟨heap_new _ _, by simp, fun i hi => by omega, (Kept.refl [] w).alloc _, Nat.le_refl _⟩
  clear hn hL hc
  go_enter Try.func5, Try.ntmps5
  go_upto_region 4 with (fail)
  clear hq hqd w3 hmk
  generalize w.alloc (.cells (brows (List.replicate c bk0)).toArray 45) = w1 at HI ⊢
  obtain ⟨gW, hgW⟩ : ∃ gW, w.heap.size = gW := ⟨_, rfl⟩
  rw [hgW] at HI ⊢
  have HGW := hide hgW
  clear hgW
  go_wp2
  go_loopw [8] (fun x wr => ∃ (k : Nat) (M : List Bk), k ≤ c ∧ x = .int .i64 k ∧ Hid (F7 w wr gW c k M)) (fun x wr => c - (intOf x).toNat)
  case atStart => exact ⟨0, _, Nat.zero_le _, rfl, HI⟩
  case round =>
    clear HI
    obtain ⟨k, M, hk, rfl, HF⟩ := hrel
    by_cases hlt : k < c
    · as_aux_lemma =>
      obtain ⟨hth, hst⟩ := HF.out.step hlt
      have HST := hide hst
      have hki : (k : Int) < (c : Int) := by omega
      clear hst HF
      go_wp2_with (refine wpList_store_mid rfl 45 (.tmp 27) (.tmp 26) rfl gW (k * 4) #[.int .i64 0, .int .i64 0, .int .i64 77, .int .i64 0] rfl rfl hth Try.infoBlk4 (blk_all _ _ _ _) ?_)
      go_roundw
      case rel => exact ⟨k + 1, _, by omega, by go_num, HST⟩
      case measure => simp [intOf]; omega
    · obtain rfl : k = c := by omega
      have hki : ¬ (k : Int) < (k : Int) := by omega
      have hb1 := HL.out.kept HF.out.kp (by simp)
      obtain ⟨w8, hcp, hrow8, hk8⟩ := copy_blks wr gW k ao n cap L M 3 HF.out.row HF.out.len HN.out hnc hb1
      have hgb : ∀ a, L ≠ [] → ao = some a → a.block < w.heap.size := fun a hne ha => by
        obtain ⟨b', off', e, hb', _⟩ := HL.out.open hne
        rw [e] at ha
        cases ha
        exact hb'
      have HLW : Hid (L.length ≤ (L ++ M.drop n).length) := by show _ ≤ _; simp
      have hB8 : Blks w8 (some ⟨gW, 0, none⟩) (L ++ M.drop n) := Blks.of_row hrow8 (List.take_of_length_le (by rw [brows_len]; omega))
      have hL8 : Blks w8 (some ⟨gW, 0, none⟩) L := Blks.of_row hrow8 (by rw [brows_app, List.take_append_of_le_length (by rw [brows_len]; omega), List.take_of_length_le (by rw [brows_len]; omega)])
      have hk08 : Kept [] w w8 := HF.out.kp.trans hk8 (fun i hi hl => by have := HF.out.ge; simp at hi; omega)
      have HK8 := hide hk08
      have HB8 := hide hB8
      have HTL : Hid (∀ i, n ≤ i → i < k → (L ++ M.drop n).getD i bk0 = b77) := fun i h1 h2 => by
        have h3 := HF.out.all i h2
        have hl := HN.out
        simp only [List.getD] at h3 ⊢
        rw [List.getElem?_append_right (by omega), List.getElem?_drop, hl, show n + (i - n) = i by omega]
        exact h3
      have HHD : Hid (∀ i, i < n → (L ++ M.drop n).getD i bk0 = L.getD i bk0) := fun i h1 => by
        have hl := HN.out
        simp only [List.getD]
        rw [List.getElem?_append_left (by omega)]
      have HWL : Hid ((L ++ M.drop n).length = k) := by show _ = _; rw [List.length_append, List.length_drop, HN.out, HF.out.len]; omega
      obtain ⟨vb, hvb⟩ : ∃ vb, Blk.valid L row s = vb := ⟨_, rfl⟩
      have HV1 := hide (valid_any (some ⟨gW, 0, none⟩) n k L row s w8 HN.out hL8)
      rw [hvb] at HV1
      have HV2 : Hid (∀ W, Kept [] w8 W → Calls Try.prog 20 #[.slice ao n cap, .int .i64 row, .int .i64 s] W fun e w' => e = .returned (.bool vb) ∧ Kept [] W w') := fun W hW => by
        have := refvalid_any ao n cap L row s W HN.out ((HL.out.kept hk08 (by simp)).kept hW (by simp))
        rw [hvb] at this
        exact this
      generalize L ++ M.drop n = WL at HB8 HTL HHD HWL HLW
      have hcut := fun W => Try.cutToK W (some ⟨gW, 0, none⟩) k k n hnc
      have qv : (vb == vb) = true := by simp
      clear hb1 hrow8 hk8 hgb hB8 hL8 hk08 HF hvb
      go_upto_region 10 with (first
        | (go_at_call 19; refine HV1.out.mono ?_; rintro e w9 ⟨rfl, hk9⟩; have HV3 := hide (HV2.out w9 hk9); have HK9 := hide hk9; clear hk9 HV1 HV2)
        | (go_at_call 20; refine HV3.out.mono ?_; rintro e w10 ⟨rfl, hk10⟩; have HK10 := hide (HK9.out.trans hk10 (by simp)); clear hk10 HV3 HK9))
      have HB10 := hide (HB8.out.kept HK10.out (by simp))
      have HL10 := hide ((HL.out.kept HK8.out (by simp)).kept HK10.out (by simp))
      have HW10 := hide (HK8.out.trans HK10.out (by simp))
      clear hcp hcut HB8 HL HK8 HK10 qv
      go_wp2
      go_loopw [10] (fun x wr => ∃ k' : Nat, k' ≤ k ∧ x = .int .i64 k' ∧ Hid (Kept [] w10 wr)) (fun x wr => k - (intOf x).toNat)
      case atStart => exact ⟨0, Nat.zero_le _, rfl, Kept.refl _ _⟩
      case round =>
        obtain ⟨k', hk', rfl, HKR⟩ := hrel
        obtain ⟨c, hcc⟩ : ∃ c, k = c := ⟨_, rfl⟩
        by_cases hlt2 : k' < k
        · obtain ⟨_, _, hx, hr1⟩ := HB10.out k' (by rw [HWL.out]; exact hlt2)
          cases hx
          rw [Nat.zero_add] at hr1
          have qkc : (k' : Int) < (k : Int) := by omega
          by_cases hin : k' < n
          · as_aux_lemma =>
            rw [HHD.out k' hin] at hr1
            obtain ⟨b, off, hx2, hr2⟩ := HL10.out k' (by rw [HN.out]; exact hin)
            subst hx2
            generalize L.getD k' bk0 = e1 at hr1 hr2
            obtain ⟨a, p, r, u⟩ := e1
            simp only [Bk.cells] at hr1 hr2
            replace hr1 : wr.rangeAt gW (k' * 4) [.int .i64 a, .int .i64 p, .int .i64 r, .int .i64 u] := fun j v hv => HKR.out.cellOf (hr1 j v hv) (by simp)
            replace hr2 : wr.rangeAt b (off + k' * 4) [.int .i64 a, .int .i64 p, .int .i64 r, .int .i64 u] := fun j v hv => HKR.out.cellOf (hr2 j v hv) (by simp)
            have heq := Try.eqlBlk a p r u
            have qk : (k' : Int) < (n : Int) := by omega
            have qk2 : ¬ ((n : Int) ≤ (k' : Int)) := by omega
            go_upto_region 13 with (fail)
            refine wp_region_held_drew (S := fun w' => Kept [] wr w') (by kernel_rfl) ((Kept.refl [] wr).drew) (fun h0 => ?_)
            generalize World.drew wr = v0 at h0 ⊢
            refine wpAnyH_take (i := 0) (v := .int .i64 k') rfl (by kernel_rfl) (by kernel_rfl) (by kernel_rfl) (fun _ _ _ h => h) (Or.inl ⟨by rfl, fun w hSw => by go_simp⟩) h0 ?_
            try simp only [List.getElem_toArray, List.getElem_cons_zero, List.getElem_cons_succ, Act.put, List.setIfInBounds_toArray, List.set_cons_zero, List.set_cons_succ]
            refine wpAnyH_take (i := 1) (v := .slice (some ⟨b, off, none⟩) n cap) rfl (by kernel_rfl) (by kernel_rfl) (by kernel_rfl) (fun _ _ _ h => h) (Or.inl ⟨by rfl, fun w hSw => by go_simp⟩) h0 ?_
            try simp only [List.getElem_toArray, List.getElem_cons_zero, List.getElem_cons_succ, Act.put, List.setIfInBounds_toArray, List.set_cons_zero, List.set_cons_succ]
            refine wpAnyH_take (i := 2) (v := .int .i64 n) rfl (by kernel_rfl) (by kernel_rfl) (by kernel_rfl) (fun _ _ _ h => h) (Or.inl ⟨by rfl, fun w hSw => by go_simp⟩) h0 ?_
            try simp only [List.getElem_toArray, List.getElem_cons_zero, List.getElem_cons_succ, Act.put, List.setIfInBounds_toArray, List.set_cons_zero, List.set_cons_succ]
            refine wpAnyH_take (i := 3) (v := .bool true) rfl (by kernel_rfl) (by kernel_rfl) (by kernel_rfl) (fun _ _ _ h => h) (Or.inl ⟨by rfl, fun w hSw => by have c0 := qk; go_simp⟩) h0 ?_
            try simp only [List.getElem_toArray, List.getElem_cons_zero, List.getElem_cons_succ, Act.put, List.setIfInBounds_toArray, List.set_cons_zero, List.set_cons_succ]
            refine wpAnyH_take (i := 4) (v := .bool true) rfl (by kernel_rfl) (by kernel_rfl) (by kernel_rfl) (fun _ _ _ h => h) (Or.inl ⟨by rfl, fun w hSw => by go_simp⟩) h0 ?_
            try simp only [List.getElem_toArray, List.getElem_cons_zero, List.getElem_cons_succ, Act.put, List.setIfInBounds_toArray, List.set_cons_zero, List.set_cons_succ]
            refine wpAnyH_take (i := 5) (v := .slice (some ⟨gW, 0, none⟩) k k) rfl (by kernel_rfl) (by kernel_rfl) (by kernel_rfl) (fun _ _ _ h => h) (Or.inl ⟨by rfl, fun w hSw => by go_simp⟩) h0 ?_
            try simp only [List.getElem_toArray, List.getElem_cons_zero, List.getElem_cons_succ, Act.put, List.setIfInBounds_toArray, List.set_cons_zero, List.set_cons_succ]
            refine wpAnyH_take (i := 6) (v := .int .i64 k') rfl (by kernel_rfl) (by kernel_rfl) (by kernel_rfl) (fun _ _ _ h => h) (Or.inl ⟨by rfl, fun w hSw => by go_simp⟩) h0 ?_
            try simp only [List.getElem_toArray, List.getElem_cons_zero, List.getElem_cons_succ, Act.put, List.setIfInBounds_toArray, List.set_cons_zero, List.set_cons_succ]
            refine wpAnyH_take (i := 7) (v := .pointer (some ⟨gW, k' * 4, none⟩)) rfl (by kernel_rfl) (by kernel_rfl) (by kernel_rfl) (fun _ _ _ h => h) (Or.inl ⟨by rfl, fun w hSw => by have c0 := qkc; go_simp⟩) h0 ?_
            try simp only [List.getElem_toArray, List.getElem_cons_zero, List.getElem_cons_succ, Act.put, List.setIfInBounds_toArray, List.set_cons_zero, List.set_cons_succ]
            refine wpAnyH_take (i := 8) (v := .agg #[.int .i64 a, .int .i64 p, .int .i64 r, .int .i64 u]) rfl (by kernel_rfl) (by kernel_rfl) (by kernel_rfl) (fun _ _ _ h => h) (yieldsIf_load_mid (by rfl) _ _ rfl gW (k' * 4) rfl _ _ (fun w h j v hv => Kept.cellOf h (hr1 j v hv) (by simp)) Try.underlying45 rfl Try.infoBlk4) h0 ?_
            try simp only [List.getElem_toArray, List.getElem_cons_zero, List.getElem_cons_succ, Act.put, List.setIfInBounds_toArray, List.set_cons_zero, List.set_cons_succ]
            refine wpAnyH_take (i := 9) (v := .slice (some ⟨b, off, none⟩) n cap) rfl (by kernel_rfl) (by kernel_rfl) (by kernel_rfl) (fun _ _ _ h => h) (Or.inl ⟨by rfl, fun w hSw => by go_simp⟩) h0 ?_
            try simp only [List.getElem_toArray, List.getElem_cons_zero, List.getElem_cons_succ, Act.put, List.setIfInBounds_toArray, List.set_cons_zero, List.set_cons_succ]
            refine wpAnyH_take (i := 10) (v := .int .i64 k') rfl (by kernel_rfl) (by kernel_rfl) (by kernel_rfl) (fun _ _ _ h => h) (Or.inl ⟨by rfl, fun w hSw => by go_simp⟩) h0 ?_
            try simp only [List.getElem_toArray, List.getElem_cons_zero, List.getElem_cons_succ, Act.put, List.setIfInBounds_toArray, List.set_cons_zero, List.set_cons_succ]
            refine wpAnyH_take (i := 11) (v := .pointer (some ⟨b, off + k' * 4, none⟩)) rfl (by kernel_rfl) (by kernel_rfl) (by kernel_rfl) (fun _ _ _ h => h) (Or.inl ⟨by rfl, fun w hSw => by have c0 := qk; go_simp⟩) h0 ?_
            try simp only [List.getElem_toArray, List.getElem_cons_zero, List.getElem_cons_succ, Act.put, List.setIfInBounds_toArray, List.set_cons_zero, List.set_cons_succ]
            refine wpAnyH_take (i := 12) (v := .agg #[.int .i64 a, .int .i64 p, .int .i64 r, .int .i64 u]) rfl (by kernel_rfl) (by kernel_rfl) (by kernel_rfl) (fun _ _ _ h => h) (yieldsIf_load_mid (by rfl) _ _ rfl b (off + k' * 4) rfl _ _ (fun w h j v hv => Kept.cellOf h (hr2 j v hv) (by simp)) Try.underlying45 rfl Try.infoBlk4) h0 ?_
            try simp only [List.getElem_toArray, List.getElem_cons_zero, List.getElem_cons_succ, Act.put, List.setIfInBounds_toArray, List.set_cons_zero, List.set_cons_succ]
            refine wpAnyH_take (i := 13) (v := .bool false) rfl (by kernel_rfl) (by kernel_rfl) (by kernel_rfl) (fun _ _ _ h => h) (Or.inl ⟨by rfl, fun w hSw => by have c0 := heq w; go_simp⟩) h0 ?_
            try simp only [List.getElem_toArray, List.getElem_cons_zero, List.getElem_cons_succ, Act.put, List.setIfInBounds_toArray, List.set_cons_zero, List.set_cons_succ]
            refine wpAnyH_take (i := 14) (v := .bool false) rfl (by kernel_rfl) (by kernel_rfl) (by kernel_rfl) (fun _ _ _ h => h) (Or.inl ⟨by rfl, fun w hSw => by go_simp⟩) h0 ?_
            try simp only [List.getElem_toArray, List.getElem_cons_zero, List.getElem_cons_succ, Act.put, List.setIfInBounds_toArray, List.set_cons_zero, List.set_cons_succ]
            refine wpAnyH_take (i := 15) (v := .bool false) rfl (by kernel_rfl) (by kernel_rfl) (by kernel_rfl) (fun _ _ _ h => h) (Or.inl ⟨by rfl, fun w hSw => by go_simp⟩) h0 ?_
            try simp only [List.getElem_toArray, List.getElem_cons_zero, List.getElem_cons_succ, Act.put, List.setIfInBounds_toArray, List.set_cons_zero, List.set_cons_succ]
            refine wpAnyH_take (i := 16) (v := .int .i64 k') rfl (by kernel_rfl) (by kernel_rfl) (by kernel_rfl) (fun _ _ _ h => h) (Or.inl ⟨by rfl, fun w hSw => by go_simp⟩) h0 ?_
            try simp only [List.getElem_toArray, List.getElem_cons_zero, List.getElem_cons_succ, Act.put, List.setIfInBounds_toArray, List.set_cons_zero, List.set_cons_succ]
            refine wpAnyH_take (i := 17) (v := .slice (some ⟨b, off, none⟩) n cap) rfl (by kernel_rfl) (by kernel_rfl) (by kernel_rfl) (fun _ _ _ h => h) (Or.inl ⟨by rfl, fun w hSw => by go_simp⟩) h0 ?_
            try simp only [List.getElem_toArray, List.getElem_cons_zero, List.getElem_cons_succ, Act.put, List.setIfInBounds_toArray, List.set_cons_zero, List.set_cons_succ]
            refine wpAnyH_take (i := 18) (v := .int .i64 n) rfl (by kernel_rfl) (by kernel_rfl) (by kernel_rfl) (fun _ _ _ h => h) (Or.inl ⟨by rfl, fun w hSw => by go_simp⟩) h0 ?_
            try simp only [List.getElem_toArray, List.getElem_cons_zero, List.getElem_cons_succ, Act.put, List.setIfInBounds_toArray, List.set_cons_zero, List.set_cons_succ]
            refine wpAnyH_take (i := 19) (v := .bool false) rfl (by kernel_rfl) (by kernel_rfl) (by kernel_rfl) (fun _ _ _ h => h) (Or.inl ⟨by rfl, fun w hSw => by have c0 := qk2; go_simp⟩) h0 ?_
            try simp only [List.getElem_toArray, List.getElem_cons_zero, List.getElem_cons_succ, Act.put, List.setIfInBounds_toArray, List.set_cons_zero, List.set_cons_succ]
            refine wpAnyH_take (i := 20) (v := .bool false) rfl (by kernel_rfl) (by kernel_rfl) (by kernel_rfl) (fun _ _ _ h => h) (Or.inl ⟨by rfl, fun w hSw => by go_simp⟩) h0 ?_
            try simp only [List.getElem_toArray, List.getElem_cons_zero, List.getElem_cons_succ, Act.put, List.setIfInBounds_toArray, List.set_cons_zero, List.set_cons_succ]
            refine wpAnyH_take (i := 21) (v := undef) rfl (by kernel_rfl) (by kernel_rfl) (by kernel_rfl) (fun _ _ _ h => h) (Or.inr ⟨by rfl, rfl⟩) h0 ?_
            try simp only [List.getElem_toArray, List.getElem_cons_zero, List.getElem_cons_succ, Act.put, List.setIfInBounds_toArray, List.set_cons_zero, List.set_cons_succ]
            refine wpAnyH_take (i := 22) (v := undef) rfl (by kernel_rfl) (by kernel_rfl) (by kernel_rfl) (fun _ _ _ h => h) (Or.inr ⟨by rfl, rfl⟩) h0 ?_
            try simp only [List.getElem_toArray, List.getElem_cons_zero, List.getElem_cons_succ, Act.put, List.setIfInBounds_toArray, List.set_cons_zero, List.set_cons_succ]
            refine wpAnyH_take (i := 23) (v := undef) rfl (by kernel_rfl) (by kernel_rfl) (by kernel_rfl) (fun _ _ _ h => h) (Or.inr ⟨by rfl, rfl⟩) h0 ?_
            try simp only [List.getElem_toArray, List.getElem_cons_zero, List.getElem_cons_succ, Act.put, List.setIfInBounds_toArray, List.set_cons_zero, List.set_cons_succ]
            refine wpAnyH_take (i := 24) (v := undef) rfl (by kernel_rfl) (by kernel_rfl) (by kernel_rfl) (fun _ _ _ h => h) (Or.inr ⟨by rfl, rfl⟩) h0 ?_
            try simp only [List.getElem_toArray, List.getElem_cons_zero, List.getElem_cons_succ, Act.put, List.setIfInBounds_toArray, List.set_cons_zero, List.set_cons_succ]
            refine wpAnyH_take (i := 25) (v := undef) rfl (by kernel_rfl) (by kernel_rfl) (by kernel_rfl) (fun _ _ _ h => h) (Or.inr ⟨by rfl, rfl⟩) h0 ?_
            try simp only [List.getElem_toArray, List.getElem_cons_zero, List.getElem_cons_succ, Act.put, List.setIfInBounds_toArray, List.set_cons_zero, List.set_cons_succ]
            refine wpAnyH_take (i := 26) (v := undef) rfl (by kernel_rfl) (by kernel_rfl) (by kernel_rfl) (fun _ _ _ h => h) (Or.inr ⟨by rfl, rfl⟩) h0 ?_
            try simp only [List.getElem_toArray, List.getElem_cons_zero, List.getElem_cons_succ, Act.put, List.setIfInBounds_toArray, List.set_cons_zero, List.set_cons_succ]
            refine wpAnyH_take (i := 27) (v := .bool false) rfl (by kernel_rfl) (by kernel_rfl) (by kernel_rfl) (fun _ _ _ h => h) (Or.inl ⟨by rfl, fun w hSw => by go_simp⟩) h0 ?_
            try simp only [List.getElem_toArray, List.getElem_cons_zero, List.getElem_cons_succ, Act.put, List.setIfInBounds_toArray, List.set_cons_zero, List.set_cons_succ]
            refine wpAnyH_take (i := 28) (v := .bool false) rfl (by kernel_rfl) (by kernel_rfl) (by kernel_rfl) (fun _ _ _ h => h) (Or.inl ⟨by rfl, fun w hSw => by go_simp⟩) h0 ?_
            try simp only [List.getElem_toArray, List.getElem_cons_zero, List.getElem_cons_succ, Act.put, List.setIfInBounds_toArray, List.set_cons_zero, List.set_cons_succ]
            refine wpAnyH_done (by kernel_rfl) ?_ _
            have HK2 := hide (HKR.out.trans h0 (by simp))
            clear h0 hr1 hr2 heq
            go_wp2
            go_roundw
            case rel => exact ⟨k' + 1, by omega, by go_num, HK2⟩
            case measure => simp [intOf]; omega
          · as_aux_lemma =>
            rw [HTL.out k' (by omega) hlt2] at hr1
            simp only [Bk.cells, b77] at hr1
            replace hr1 : wr.rangeAt gW (k' * 4) [.int .i64 0, .int .i64 0, .int .i64 77, .int .i64 0] := fun j v hv => HKR.out.cellOf (hr1 j v hv) (by simp)
            have heq := Try.eqlBlk 0 0 77 0
            have qk : ¬ (k' : Int) < (n : Int) := by omega
            have qk2 : (n : Int) ≤ (k' : Int) := by omega
            go_upto_region 13 with (fail)
            refine wp_region_held_drew (S := fun w' => Kept [] wr w') (by kernel_rfl) ((Kept.refl [] wr).drew) (fun h0 => ?_)
            generalize World.drew wr = v0 at h0 ⊢
            refine wpAnyH_take (i := 0) (v := .int .i64 k') rfl (by kernel_rfl) (by kernel_rfl) (by kernel_rfl) (fun _ _ _ h => h) (Or.inl ⟨by rfl, fun w hSw => by go_simp⟩) h0 ?_
            try simp only [List.getElem_toArray, List.getElem_cons_zero, List.getElem_cons_succ, Act.put, List.setIfInBounds_toArray, List.set_cons_zero, List.set_cons_succ]
            refine wpAnyH_take (i := 1) (v := .slice ao n cap) rfl (by kernel_rfl) (by kernel_rfl) (by kernel_rfl) (fun _ _ _ h => h) (Or.inl ⟨by rfl, fun w hSw => by go_simp⟩) h0 ?_
            try simp only [List.getElem_toArray, List.getElem_cons_zero, List.getElem_cons_succ, Act.put, List.setIfInBounds_toArray, List.set_cons_zero, List.set_cons_succ]
            refine wpAnyH_take (i := 2) (v := .int .i64 n) rfl (by kernel_rfl) (by kernel_rfl) (by kernel_rfl) (fun _ _ _ h => h) (Or.inl ⟨by rfl, fun w hSw => by go_simp⟩) h0 ?_
            try simp only [List.getElem_toArray, List.getElem_cons_zero, List.getElem_cons_succ, Act.put, List.setIfInBounds_toArray, List.set_cons_zero, List.set_cons_succ]
            refine wpAnyH_take (i := 3) (v := .bool false) rfl (by kernel_rfl) (by kernel_rfl) (by kernel_rfl) (fun _ _ _ h => h) (Or.inl ⟨by rfl, fun w hSw => by have c0 := qk; go_simp⟩) h0 ?_
            try simp only [List.getElem_toArray, List.getElem_cons_zero, List.getElem_cons_succ, Act.put, List.setIfInBounds_toArray, List.set_cons_zero, List.set_cons_succ]
            refine wpAnyH_take (i := 4) (v := .bool false) rfl (by kernel_rfl) (by kernel_rfl) (by kernel_rfl) (fun _ _ _ h => h) (Or.inl ⟨by rfl, fun w hSw => by go_simp⟩) h0 ?_
            try simp only [List.getElem_toArray, List.getElem_cons_zero, List.getElem_cons_succ, Act.put, List.setIfInBounds_toArray, List.set_cons_zero, List.set_cons_succ]
            refine wpAnyH_take (i := 5) (v := undef) rfl (by kernel_rfl) (by kernel_rfl) (by kernel_rfl) (fun _ _ _ h => h) (Or.inr ⟨by rfl, rfl⟩) h0 ?_
            try simp only [List.getElem_toArray, List.getElem_cons_zero, List.getElem_cons_succ, Act.put, List.setIfInBounds_toArray, List.set_cons_zero, List.set_cons_succ]
            refine wpAnyH_take (i := 6) (v := undef) rfl (by kernel_rfl) (by kernel_rfl) (by kernel_rfl) (fun _ _ _ h => h) (Or.inr ⟨by rfl, rfl⟩) h0 ?_
            try simp only [List.getElem_toArray, List.getElem_cons_zero, List.getElem_cons_succ, Act.put, List.setIfInBounds_toArray, List.set_cons_zero, List.set_cons_succ]
            refine wpAnyH_take (i := 7) (v := undef) rfl (by kernel_rfl) (by kernel_rfl) (by kernel_rfl) (fun _ _ _ h => h) (Or.inr ⟨by rfl, rfl⟩) h0 ?_
            try simp only [List.getElem_toArray, List.getElem_cons_zero, List.getElem_cons_succ, Act.put, List.setIfInBounds_toArray, List.set_cons_zero, List.set_cons_succ]
            refine wpAnyH_take (i := 8) (v := undef) rfl (by kernel_rfl) (by kernel_rfl) (by kernel_rfl) (fun _ _ _ h => h) (Or.inr ⟨by rfl, rfl⟩) h0 ?_
            try simp only [List.getElem_toArray, List.getElem_cons_zero, List.getElem_cons_succ, Act.put, List.setIfInBounds_toArray, List.set_cons_zero, List.set_cons_succ]
            refine wpAnyH_take (i := 9) (v := undef) rfl (by kernel_rfl) (by kernel_rfl) (by kernel_rfl) (fun _ _ _ h => h) (Or.inr ⟨by rfl, rfl⟩) h0 ?_
            try simp only [List.getElem_toArray, List.getElem_cons_zero, List.getElem_cons_succ, Act.put, List.setIfInBounds_toArray, List.set_cons_zero, List.set_cons_succ]
            refine wpAnyH_take (i := 10) (v := undef) rfl (by kernel_rfl) (by kernel_rfl) (by kernel_rfl) (fun _ _ _ h => h) (Or.inr ⟨by rfl, rfl⟩) h0 ?_
            try simp only [List.getElem_toArray, List.getElem_cons_zero, List.getElem_cons_succ, Act.put, List.setIfInBounds_toArray, List.set_cons_zero, List.set_cons_succ]
            refine wpAnyH_take (i := 11) (v := undef) rfl (by kernel_rfl) (by kernel_rfl) (by kernel_rfl) (fun _ _ _ h => h) (Or.inr ⟨by rfl, rfl⟩) h0 ?_
            try simp only [List.getElem_toArray, List.getElem_cons_zero, List.getElem_cons_succ, Act.put, List.setIfInBounds_toArray, List.set_cons_zero, List.set_cons_succ]
            refine wpAnyH_take (i := 12) (v := undef) rfl (by kernel_rfl) (by kernel_rfl) (by kernel_rfl) (fun _ _ _ h => h) (Or.inr ⟨by rfl, rfl⟩) h0 ?_
            try simp only [List.getElem_toArray, List.getElem_cons_zero, List.getElem_cons_succ, Act.put, List.setIfInBounds_toArray, List.set_cons_zero, List.set_cons_succ]
            refine wpAnyH_take (i := 13) (v := undef) rfl (by kernel_rfl) (by kernel_rfl) (by kernel_rfl) (fun _ _ _ h => h) (Or.inr ⟨by rfl, rfl⟩) h0 ?_
            try simp only [List.getElem_toArray, List.getElem_cons_zero, List.getElem_cons_succ, Act.put, List.setIfInBounds_toArray, List.set_cons_zero, List.set_cons_succ]
            refine wpAnyH_take (i := 14) (v := .bool false) rfl (by kernel_rfl) (by kernel_rfl) (by kernel_rfl) (fun _ _ _ h => h) (Or.inl ⟨by rfl, fun w hSw => by go_simp⟩) h0 ?_
            try simp only [List.getElem_toArray, List.getElem_cons_zero, List.getElem_cons_succ, Act.put, List.setIfInBounds_toArray, List.set_cons_zero, List.set_cons_succ]
            refine wpAnyH_take (i := 15) (v := .bool false) rfl (by kernel_rfl) (by kernel_rfl) (by kernel_rfl) (fun _ _ _ h => h) (Or.inl ⟨by rfl, fun w hSw => by go_simp⟩) h0 ?_
            try simp only [List.getElem_toArray, List.getElem_cons_zero, List.getElem_cons_succ, Act.put, List.setIfInBounds_toArray, List.set_cons_zero, List.set_cons_succ]
            refine wpAnyH_take (i := 16) (v := .int .i64 k') rfl (by kernel_rfl) (by kernel_rfl) (by kernel_rfl) (fun _ _ _ h => h) (Or.inl ⟨by rfl, fun w hSw => by go_simp⟩) h0 ?_
            try simp only [List.getElem_toArray, List.getElem_cons_zero, List.getElem_cons_succ, Act.put, List.setIfInBounds_toArray, List.set_cons_zero, List.set_cons_succ]
            refine wpAnyH_take (i := 17) (v := .slice ao n cap) rfl (by kernel_rfl) (by kernel_rfl) (by kernel_rfl) (fun _ _ _ h => h) (Or.inl ⟨by rfl, fun w hSw => by go_simp⟩) h0 ?_
            try simp only [List.getElem_toArray, List.getElem_cons_zero, List.getElem_cons_succ, Act.put, List.setIfInBounds_toArray, List.set_cons_zero, List.set_cons_succ]
            refine wpAnyH_take (i := 18) (v := .int .i64 n) rfl (by kernel_rfl) (by kernel_rfl) (by kernel_rfl) (fun _ _ _ h => h) (Or.inl ⟨by rfl, fun w hSw => by go_simp⟩) h0 ?_
            try simp only [List.getElem_toArray, List.getElem_cons_zero, List.getElem_cons_succ, Act.put, List.setIfInBounds_toArray, List.set_cons_zero, List.set_cons_succ]
            refine wpAnyH_take (i := 19) (v := .bool true) rfl (by kernel_rfl) (by kernel_rfl) (by kernel_rfl) (fun _ _ _ h => h) (Or.inl ⟨by rfl, fun w hSw => by have c0 := qk2; go_simp⟩) h0 ?_
            try simp only [List.getElem_toArray, List.getElem_cons_zero, List.getElem_cons_succ, Act.put, List.setIfInBounds_toArray, List.set_cons_zero, List.set_cons_succ]
            refine wpAnyH_take (i := 20) (v := .bool true) rfl (by kernel_rfl) (by kernel_rfl) (by kernel_rfl) (fun _ _ _ h => h) (Or.inl ⟨by rfl, fun w hSw => by go_simp⟩) h0 ?_
            try simp only [List.getElem_toArray, List.getElem_cons_zero, List.getElem_cons_succ, Act.put, List.setIfInBounds_toArray, List.set_cons_zero, List.set_cons_succ]
            refine wpAnyH_take (i := 21) (v := .slice (some ⟨gW, 0, none⟩) k k) rfl (by kernel_rfl) (by kernel_rfl) (by kernel_rfl) (fun _ _ _ h => h) (Or.inl ⟨by rfl, fun w hSw => by go_simp⟩) h0 ?_
            try simp only [List.getElem_toArray, List.getElem_cons_zero, List.getElem_cons_succ, Act.put, List.setIfInBounds_toArray, List.set_cons_zero, List.set_cons_succ]
            refine wpAnyH_take (i := 22) (v := .int .i64 k') rfl (by kernel_rfl) (by kernel_rfl) (by kernel_rfl) (fun _ _ _ h => h) (Or.inl ⟨by rfl, fun w hSw => by go_simp⟩) h0 ?_
            try simp only [List.getElem_toArray, List.getElem_cons_zero, List.getElem_cons_succ, Act.put, List.setIfInBounds_toArray, List.set_cons_zero, List.set_cons_succ]
            refine wpAnyH_take (i := 23) (v := .pointer (some ⟨gW, k' * 4, none⟩)) rfl (by kernel_rfl) (by kernel_rfl) (by kernel_rfl) (fun _ _ _ h => h) (Or.inl ⟨by rfl, fun w hSw => by have c0 := qkc; go_simp⟩) h0 ?_
            try simp only [List.getElem_toArray, List.getElem_cons_zero, List.getElem_cons_succ, Act.put, List.setIfInBounds_toArray, List.set_cons_zero, List.set_cons_succ]
            refine wpAnyH_take (i := 24) (v := .agg #[.int .i64 0, .int .i64 0, .int .i64 77, .int .i64 0]) rfl (by kernel_rfl) (by kernel_rfl) (by kernel_rfl) (fun _ _ _ h => h) (yieldsIf_load_mid (by rfl) _ _ rfl gW (k' * 4) rfl _ _ (fun w h j v hv => Kept.cellOf h (hr1 j v hv) (by simp)) Try.underlying45 rfl Try.infoBlk4) h0 ?_
            try simp only [List.getElem_toArray, List.getElem_cons_zero, List.getElem_cons_succ, Act.put, List.setIfInBounds_toArray, List.set_cons_zero, List.set_cons_succ]
            refine wpAnyH_take (i := 25) (v := .agg #[.int .i64 0, .int .i64 0, .int .i64 77, .int .i64 0]) rfl (by kernel_rfl) (by kernel_rfl) (by kernel_rfl) (fun _ _ _ h => h) (Or.inl ⟨by rfl, fun w hSw => by have c0 := hzb; go_simp⟩) h0 ?_
            try simp only [List.getElem_toArray, List.getElem_cons_zero, List.getElem_cons_succ, Act.put, List.setIfInBounds_toArray, List.set_cons_zero, List.set_cons_succ]
            refine wpAnyH_take (i := 26) (v := .bool false) rfl (by kernel_rfl) (by kernel_rfl) (by kernel_rfl) (fun _ _ _ h => h) (Or.inl ⟨by rfl, fun w hSw => by have c0 := heq w; go_simp⟩) h0 ?_
            try simp only [List.getElem_toArray, List.getElem_cons_zero, List.getElem_cons_succ, Act.put, List.setIfInBounds_toArray, List.set_cons_zero, List.set_cons_succ]
            refine wpAnyH_take (i := 27) (v := .bool false) rfl (by kernel_rfl) (by kernel_rfl) (by kernel_rfl) (fun _ _ _ h => h) (Or.inl ⟨by rfl, fun w hSw => by go_simp⟩) h0 ?_
            try simp only [List.getElem_toArray, List.getElem_cons_zero, List.getElem_cons_succ, Act.put, List.setIfInBounds_toArray, List.set_cons_zero, List.set_cons_succ]
            refine wpAnyH_take (i := 28) (v := .bool false) rfl (by kernel_rfl) (by kernel_rfl) (by kernel_rfl) (fun _ _ _ h => h) (Or.inl ⟨by rfl, fun w hSw => by go_simp⟩) h0 ?_
            try simp only [List.getElem_toArray, List.getElem_cons_zero, List.getElem_cons_succ, Act.put, List.setIfInBounds_toArray, List.set_cons_zero, List.set_cons_succ]
            refine wpAnyH_done (by kernel_rfl) ?_ _
            have HK2 := hide (HKR.out.trans h0 (by simp))
            clear h0 hr1 heq
            go_wp2
            go_roundw
            case rel => exact ⟨k' + 1, by omega, by go_num, HK2⟩
            case measure => simp [intOf]; omega
        · as_aux_lemma =>
          have qkc : ¬ (k' : Int) < (k : Int) := by omega
          have HKN := hide known_ok
          go_wp2_with (go_at_call 16; refine (HKN.out _).mono ?_; rintro e w23 ⟨rfl, hk23⟩; have HK23 := hide hk23; clear hk23 HKN)
          go_ret
          exact ⟨rfl, ((HW10.out.trans HKR.out (by simp)).trans HK23.out (by simp)).below (Nat.le_refl _) (by simp)⟩

theorem valid_walk (ao : Option Addr) (n cap : Nat) (row s : Int) (L : List Bk) (w : World) (hn : L.length = n) (hL : Blks w ao L) (_ : (∀ b ∈ L, BkIn b) ∧ n ≤ cap ∧ cap ≤ 9223372036854775807) (_ : (Lit.int .i64 row).wf = true) (_ : (Lit.int .i64 s).wf = true) :
    Calls Try.prog 5 #[.slice ao n cap, .int .i64 row, .int .i64 s] w fun e w' => e = .returned (.bool true) ∧ Below w.heap.size w w' := by
  by_cases h : n ≤ 10000
  · exact valid_in ao n cap L row s w hn hL h
  · exact valid_long ao n cap row s w (by omega)

end Go.Proofs.Ytdnbpklnkmgmkaa
