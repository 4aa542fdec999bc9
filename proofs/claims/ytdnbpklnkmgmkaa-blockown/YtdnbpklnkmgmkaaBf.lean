/-
  Contract: block.Pack.
-/
import Derived.Test.YtdnbpklnkmgmkaaBe
namespace Go.Proofs.Ytdnbpklnkmgmkaa
open Go.RowKit
set_option linter.unusedVariables false
set_option linter.unusedSimpArgs false

/-- What Pack answers. -/
def PkAns (w : World) (R : List UInt8 × List Bk × Nat) (e : Ending) (w' : World) : Prop :=
  ∃ bo bc ko kc, e = .returned (.tuple #[.slice bo R.1.length bc, .slice ko R.2.1.length kc, .int .i64 R.2.2]) ∧ OwnB w' w.heap.size (.slice bo R.1.length bc) R.1 ∧ OwnK w' w.heap.size (.slice ko R.2.1.length kc) R.2.1 ∧ Below w.heap.size w w'

theorem Sl.cut {w : World} {b off : Nat} {xs : List UInt8} (h : Sl w (some ⟨b, off, none⟩) xs) (f q : Nat) (hq : f + q ≤ xs.length) : Sl w (some ⟨b, off + f, none⟩) ((xs.drop f).take q) := by
  intro i hi
  have hi' : i < q := by simp at hi; omega
  obtain ⟨b', off', e, hc⟩ := h (f + i) (by omega)
  cases e
  refine ⟨b, off + f, rfl, ?_⟩
  rw [Nat.add_assoc, hc]
  congr 3
  simp [List.getElem?_take, List.getElem?_drop, hi']

/-- While it packs. -/
structure Pq (w wr : World) (gR gP gN gB T c : Nat) (xs : List UInt8) (s k : Nat) : Prop where
  cN : wr.cell? ⟨gN, 0, none⟩ = some (.int .i64 ((Blk.outs xs s k).length : Nat))
  fN : wr.frozen? ⟨gN, 0, none⟩ = false
  cP : wr.cell? ⟨gP, 0, none⟩ = some (.slice (some ⟨gR, 0, none⟩) T T)
  row : wr.heap[gR]? = some (.cells (bys (Blk.outs xs s k ++ List.replicate (T - (Blk.outs xs s k).length) 0)).toArray 5 (0, 0))
  blk : wr.heap[gB]? = some (.cells (brows (Blk.blks xs s k ++ List.replicate (c - k) bk0)).toArray 45 (0, 0))
  kept : Kept [] w wr
  base : w.heap.size ≤ gR ∧ w.heap.size ≤ gP ∧ w.heap.size ≤ gN ∧ w.heap.size ≤ gB ∧ gR ≠ gP ∧ gR ≠ gN ∧ gR ≠ gB ∧ gP ≠ gN ∧ gP ≠ gB ∧ gN ≠ gB

theorem Pq.step {w wr w2 : World} {gR gP gN gB T c : Nat} {xs : List UInt8} {s k : Nat} (h : Pq w wr gR gP gN gB T c xs s k) (hk : k < c) (hT : (Blk.outs xs s (k + 1)).length ≤ T)
    (h1 : w2.cell? ⟨gN, 0, none⟩ = some (.int .i64 (((Blk.outs xs s k).length : Nat) + ((Blk.sh (Blk.pc xs s k)).length : Nat)))) (h2 : w2.frozen? ⟨gN, 0, none⟩ = false)
    (h3 : w2.heap[gR]? = some (.cells (bys ((Blk.outs xs s k ++ List.replicate (T - (Blk.outs xs s k).length) 0).take (Blk.outs xs s k).length ++ Blk.sh (Blk.pc xs s k) ++ (Blk.outs xs s k ++ List.replicate (T - (Blk.outs xs s k).length) 0).drop ((Blk.outs xs s k).length + (Blk.sh (Blk.pc xs s k)).length))).toArray 5 (0, 0))) (h4 : Kept [gN, gR] wr w2) :
    w2.there gB (k * 4) 4 ∧ Pq w (w2.setCells gB (k * 4) (Blk.bk xs s k).cells) gR gP gN gB T c xs s (k + 1) := by
  obtain ⟨b1, b2, b3, b4, n1, n2, n3, n4, n5, n6⟩ := h.base
  have hlt := (Array.getElem?_eq_some_iff.1 h.blk).1
  have hb2 : w2.heap[gB]? = some (.cells (brows (Blk.blks xs s k ++ List.replicate (c - k) bk0)).toArray 45 (0, 0)) := (h4.block gB hlt (by simp; omega)).trans h.blk
  have hlen : (brows (Blk.blks xs s k ++ List.replicate (c - k) bk0)).length = c * 4 := by rw [brows_len, List.length_append, Blk.blks_len, List.length_replicate]; omega
  have hth : w2.there gB (k * 4) 4 := fun j hj => ⟨by rw [cell_of_row _ _ _ _ _ _ hb2, List.getElem?_toArray, List.getElem?_eq_getElem (by rw [hlen]; omega)]; rfl, frozen_of_row _ _ _ _ _ hb2⟩
  have hcl : (Blk.bk xs s k).cells.length = 4 := rfl
  have hks : Kept [gB] w2 (w2.setCells gB (k * 4) (Blk.bk xs s k).cells) := kept_setCells (by simp) _ _ _ (Kept.refl _ _)
  refine ⟨hth, ?_, ?_, ?_, ?_, ?_, ?_, h.base⟩
  · rw [hks.cellOf h1 (by simp; omega), Blk.outs_succ, List.length_append]; push_cast; rfl
  · exact (hks.frozen (World.block_lt_of_cell? _ _ h1) (by simp; omega)).trans h2
  · exact hks.cellOf (h4.cellOf h.cP (by simp; omega)) (by simp; omega)
  · rw [hks.block gR (Array.getElem?_eq_some_iff.1 h3).1 (by simp; omega), h3, List.take_left]
    rw [Blk.outs_succ, List.length_append] at hT
    congr 4
    rw [List.drop_append, List.drop_of_length_le (by omega), List.nil_append, List.drop_replicate, Blk.outs_succ, List.length_append]
    congr 2
    omega
  · rw [setCells_row _ _ _ _ _ _ hb2 (by rw [hcl, hlen]; omega), setRow_heap _ _ _ _ _ _ hb2, hcl]
    congr 3
    have e1 : c - k = (c - (k + 1)) + 1 := by omega
    rw [e1, List.replicate_succ, show Blk.blks xs s k ++ bk0 :: List.replicate (c - (k + 1)) bk0 = Blk.blks xs s k ++ ([bk0] ++ List.replicate (c - (k + 1)) bk0) from rfl, brows_app, brows_app]
    have l1 : (brows (Blk.blks xs s k)).length = k * 4 := by rw [brows_len, Blk.blks_len]
    rw [List.take_append_of_le_length (by omega), List.take_of_length_le (by omega), List.drop_append, List.drop_of_length_le (by omega), List.nil_append, l1, show k * 4 + 4 - k * 4 = 4 by omega]
    rw [Blk.blks_succ, brows_app, brows_app, List.append_assoc]
    congr 1
  · refine (h.kept.trans h4 ?_).trans hks ?_
    · intro i hi hl; simp at hi; omega
    · intro i hi hl; simp at hi; omega

set_option maxHeartbeats 4000000 in
set_option maxRecDepth 100000 in
theorem bpack_in (ao : Option Addr) (n cap s : Nat) (xs : List UInt8) (w : World) (hx : xs.length = n) (hc : n ≤ cap) (hs : Sl w ao xs) (h16 : 16 ≤ s) (h40 : s ≤ 4096) (hn : n ≤ 65536) :
    Calls Try.prog 10 #[.slice ao n cap, .int .i64 s] w (PkAns w (Blk.outs xs s (Blk.cnt n s), Blk.blks xs s (Blk.cnt n s), 0)) := by
  have HI := hide (isSize_yes (s : Int) w (by omega))
  have hmk := run_make_row' (P := Try.prog) 23 5 (.int .u8 0) 1 Try.underlying23 Try.infoByte rfl .i64 .i64 n (by omega) (by omega)
  rw [made_bys] at hmk
  have hq : ¬ (65536 : Int) < (n : Int) := by omega
  have hqd : decide ((65536 : Int) < (n : Int)) = false := by simpa using hq
  obtain ⟨c, hcc⟩ : ∃ c, Blk.cnt n s = c := ⟨_, rfl⟩
  have HCL : Hid (∀ k, k < c ↔ k * s < n) := fun k => by rw [← hcc]; exact Blk.cnt_lt (by omega)
  have hcn : c ≤ 70000 := by
    by_cases h : c ≤ 70000
    · exact h
    · have h1 := (HCL.out 70000).1 (by omega)
      have h2 : 70000 * 16 ≤ 70000 * s := Nat.mul_le_mul_left _ h16
      omega
  have HCT : Hid (∀ W, Calls Try.prog 33 #[.int .i64 n, .int .i64 s] W fun e w' => e = .returned (.int .i64 c) ∧ w' = W) := fun W => count_ok n s W (by omega) (by omega) (by omega) (by omega) c (by
    rw [← hcc]; unfold Blk.cnt; rw [Int.natCast_ediv]; congr 1; omega)
  have HX := hide hx
  have HS := hide hs
  have HCAP := hide hc
  rw [hcc]
  clear hx hs hcc hc
  unfold PkAns
  go_enter Try.func10, Try.ntmps10
  go_upto_region 8 with (go_at_call 29; refine HI.out.mono ?_; rintro e w' ⟨rfl, hww⟩; obtain rfl := hww.symm; clear HI)
  have HP0 : Hid (∃ W8, ((w.alloc (.cells (bys (List.replicate n 0)).toArray 5)).alloc (.cells #[.slice (some ⟨w.heap.size, 0, none⟩) n n] 23)).alloc (.cells #[.int .i64 0] 3) = W8 ∧ W8.cell? ⟨w.heap.size + 1 + 1, 0, none⟩ = some (.int .i64 0) ∧ W8.frozen? ⟨w.heap.size + 1 + 1, 0, none⟩ = false ∧ W8.cell? ⟨w.heap.size + 1, 0, none⟩ = some (.slice (some ⟨w.heap.size, 0, none⟩) n n) ∧ W8.heap[w.heap.size]? = some (.cells (bys (List.replicate n 0)).toArray 5 (0, 0)) ∧ Kept [] w W8 ∧ W8.heap.size = w.heap.size + 1 + 1 + 1) := by
    obtain ⟨A, hA⟩ : ∃ A, w.alloc (.cells (bys (List.replicate n 0)).toArray 5) = A := ⟨_, rfl⟩
    have a1 : A.heap.size = w.heap.size + 1 := by rw [← hA]; simp
    have a2 : A.heap[w.heap.size]? = some (.cells (bys (List.replicate n 0)).toArray 5 (0, 0)) := by rw [← hA]; exact heap_new _ _
    have a3 : Kept [] w A := by rw [← hA]; exact (Kept.refl [] w).alloc _
    obtain ⟨B, hB⟩ : ∃ B, A.alloc (.cells #[.slice (some ⟨w.heap.size, 0, none⟩) n n] 23) = B := ⟨_, rfl⟩
    have b1 : B.heap.size = w.heap.size + 1 + 1 := by rw [← hB]; simp [a1]
    have b2 : B.heap[w.heap.size + 1]? = some (.cells #[.slice (some ⟨w.heap.size, 0, none⟩) n n] 23 (0, 0)) := by rw [← hB, ← a1]; exact heap_new _ _
    have b3 : Kept [] A B := by rw [← hB]; exact (Kept.refl [] A).alloc _
    obtain ⟨C, hC⟩ : ∃ C, B.alloc (.cells #[.int .i64 0] 3) = C := ⟨_, rfl⟩
    have c2 : C.heap[w.heap.size + 1 + 1]? = some (.cells #[.int .i64 0] 3 (0, 0)) := by rw [← hC, ← b1]; exact heap_new _ _
    have c3 : Kept [] B C := by rw [← hC]; exact (Kept.refl [] B).alloc _
    have d2 : C.heap[w.heap.size + 1]? = some (.cells #[.slice (some ⟨w.heap.size, 0, none⟩) n n] 23 (0, 0)) := (c3.block _ (by omega) (by simp)).trans b2
    refine ⟨C, by rw [hA, hB, hC], ?_, frozen_of_row _ _ _ _ _ c2, ?_, ?_, (a3.trans b3 (by simp)).trans c3 (by simp), by rw [← hC]; simp [b1]⟩
    · rw [cell_of_row _ _ _ _ _ _ c2]; rfl
    · rw [cell_of_row _ _ _ _ _ _ d2]; rfl
    · exact (c3.block _ (by omega) (by simp)).trans ((b3.block _ (by omega) (by simp)).trans a2)
  obtain ⟨W8, hW8, f1, f2, f3, f4, f5, f6⟩ := HP0.out
  rw [hW8]
  have hmb := run_makeK W8 c (by omega)
  have HP1 : Hid (Pq w (W8.alloc (.cells (brows (List.replicate c bk0)).toArray 45)) w.heap.size (w.heap.size + 1) (w.heap.size + 1 + 1) W8.heap.size n c xs s 0) := by
    have k1 : Kept [] W8 (W8.alloc (.cells (brows (List.replicate c bk0)).toArray 45)) := (Kept.refl [] W8).alloc _
    refine ⟨?_, (k1.frozen (World.block_lt_of_cell? _ _ f1) (by simp)).trans f2, k1.cellOf f3 (by simp), ?_, ?_, f5.trans k1 (by simp), by omega⟩
    · exact k1.cellOf f1 (by simp)
    · rw [k1.block _ (Array.getElem?_eq_some_iff.1 f4).1 (by simp), f4]; rfl
    · rw [heap_new]; rfl
  have HG6 := hide f6
  clear hW8 HP0 hmk f1 f2 f3 f4 f5 f6 hq hqd
  go_upto_region 9 with (go_at_call 33; refine (HCT.out _).mono ?_; rintro e w' ⟨rfl, hww⟩; obtain rfl := hww.symm; clear HCT)
  clear hmb
  generalize W8.alloc (.cells (brows (List.replicate c bk0)).toArray 45) = W9 at HP1 ⊢
  generalize W8.heap.size = gB at HP1 HG6 ⊢
  clear HG6
  obtain ⟨gR, hgR⟩ : ∃ gR, w.heap.size = gR := ⟨_, rfl⟩
  rw [hgR] at HP1 ⊢
  generalize gR + 1 + 1 = gN at HP1 ⊢
  generalize gR + 1 = gP at HP1 ⊢
  have HGR := hide hgR
  clear hgR W8
  go_wp2
  go_loopw [31] (fun x wr => ∃ k : Nat, k ≤ c ∧ x = .int .i64 k ∧ Hid (Pq w wr gR gP gN gB n c xs s k)) (fun x wr => c - (intOf x).toNat)
  case atStart => exact ⟨0, Nat.zero_le _, rfl, HP1⟩
  case round =>
    clear HP1
    obtain ⟨k, hk, rfl, HP⟩ := hrel
    by_cases hlt : k < c
    · have hks := (HCL.out k).1 hlt
      obtain ⟨b, off, hda, hbl, hcell⟩ := HS.out.open (by intro h; have := HX.out; rw [h] at this; simp at this; omega)
      subst hda
      obtain ⟨f, hf⟩ : ∃ f, k * s = f := ⟨_, rfl⟩
      rw [hf] at hks
      have HQ : Hid ((Blk.pc xs s k).length = min s (n - f)) := by show _ = _; rw [Blk.pc_len, HX.out, hf]
      obtain ⟨q, hq⟩ : ∃ q, (Blk.pc xs s k).length = q := ⟨_, rfl⟩
      have hq1 : q = min s (n - f) := by rw [← hq]; exact HQ.out
      have HEN := hide (fun W => ends_ok (k : Int) (n : Int) (s : Int) W (by omega) (by omega) (by omega) (by omega) (by omega) (by omega) (f : Int) ((f + q : Nat) : Int) (by rw [← hf]; push_cast; rfl) (by
        have e2 : ((k : Int) + 1) * (s : Int) = ((f : Nat) : Int) + s := by rw [← hf]; push_cast; rw [Int.add_mul, Int.one_mul]
        rw [e2, hq1]; omega))
      have hcut := fun W => Try.cut3 W b off n cap f (f + q) (by omega) (by omega) HCAP.out
      rw [Nat.add_sub_cancel_left] at hcut
      obtain ⟨b1, b2, b3, b4, n1, n2, n3, n4, n5, n6⟩ := HP.out.base
      have ho := Blk.outs_len xs s (k + 1)
      have hoo : (Blk.outs xs s k).length + (Blk.sh (Blk.pc xs s k)).length ≤ n := by
        rw [Blk.outs_succ, List.length_append, HX.out] at ho; omega
      have HLY := hide (lay_ok (some ⟨b, off + f, none⟩) q q (Blk.pc xs s k) wr hq (by omega) (by intro h; rw [h] at hq; simp at hq; omega) (by
        have hsl := (Sl.of hcell).kept HP.out.kept (by simp)
        have := hsl.cut f q (by rw [HX.out]; omega)
        have e : (xs.drop f).take q = Blk.pc xs s k := by
          unfold Blk.pc
          rw [hf, hq1, ← HX.out, ← List.length_drop, ← List.take_eq_take_min]
        rw [e] at this
        exact this) gN gP gR _ n _ HP.out.cN HP.out.fN HP.out.cP HP.out.row (by rw [List.length_append, List.length_replicate]; omega) hoo hn (by omega) (by omega) (by omega))
      have HST := hide (fun (w2 : World) h1 h2 h3 h4 => Pq.step (w2 := w2) HP.out hlt (by rw [Blk.outs_succ, List.length_append]; exact hoo) h1 h2 h3 h4)
      obtain ⟨B, hB⟩ : ∃ B : Bk, Blk.bk xs s k = B := ⟨_, rfl⟩
      have HBB : Hid (B = ⟨((Blk.outs xs s k).length : Nat), ((Blk.sh (Blk.pc xs s k)).length : Nat), (q : Nat), (Pure.sum (Blk.sh (Blk.pc xs s k)) : Nat)⟩) := by show _ = _; rw [← hB, ← hq]; rfl
      rw [hB] at HST
      have hfq : ((f + q : Nat) : Int) = (f : Int) + (q : Int) := by push_cast; rfl
      have HF2 := hide hfq
      rw [hfq] at HEN
      have hcut' : ∀ W, (Instr.slice 23 (.slice (some ⟨b, off, none⟩) n cap) (some (.int .i64 f)) (some (.int .i64 ((f : Int) + (q : Int)))) (some (.int .i64 ((f : Int) + (q : Int))))).run Try.prog W = .ok (.slice (some ⟨b, off + f, none⟩) q q) W := fun W => by rw [← hfq]; exact hcut W
      clear hcut hfq hB hq hq1 HQ hoo ho hcell hbl hf b1 b2 b3 b4 n1 n2 n3 n4 n5 n6 HP HCL HX HS HCAP
      go_upto_region 13 with (go_at_call 34; refine (HEN.out _).mono ?_; rintro e w' ⟨rfl, hww⟩; obtain rfl := hww.symm; clear HEN)
      generalize (Blk.outs xs s k).length = o at HLY HST HBB
      generalize (Blk.sh (Blk.pc xs s k)).length = m at HLY HST HBB
      generalize Pure.sum (Blk.sh (Blk.pc xs s k)) = u at HLY HST HBB
      go_upto_region 14 with (first
        | (go_at_call 30; refine HLY.out.mono ?_; rintro e w2 ⟨rfl, l1, l2, l3, l4⟩; obtain ⟨hth, hpq⟩ := HST.out w2 l1 l2 l3 l4; have HPQ := hide hpq; clear l1 l2 l3 l4 hpq HLY HST)
        | refine wpList_store_mid rfl 45 (.tmp 51) (.tmp 50) rfl gB (k * 4) #[.int .i64 o, .int .i64 m, .int .i64 q, .int .i64 u] rfl rfl hth Try.infoBlk4 (blk_all _ _ _ _) ?_)
      have HPR : Hid (Pq w (w2.setCells gB (k * 4) [.int .i64 o, .int .i64 m, .int .i64 q, .int .i64 u]) gR gP gN gB n c xs s (k + 1)) := by
        have := HPQ.out
        rw [HBB.out] at this
        exact this
      clear HPQ hth
      go_wp2
      go_roundw
      case rel => exact ⟨k + 1, by omega, by go_num, HPR⟩
      case measure => simp [intOf]; omega
    · obtain rfl : k = c := by omega
      have cN := HP.out.cN
      have cP := HP.out.cP
      have HOL : Hid ((Blk.outs xs s k).length ≤ n) := by
        have := Blk.outs_len xs s k
        rw [HX.out] at this
        show _ ≤ _
        omega
      have hcut := fun W => Try.cutTo W (some ⟨gR, 0, none⟩) n n (Blk.outs xs s k).length HOL.out
      obtain ⟨o, ho⟩ : ∃ o, (Blk.outs xs s k).length = o := ⟨_, rfl⟩
      rw [ho] at cN hcut
      have HO := hide ho
      have HBL := hide (Blk.blks_len xs s k)
      clear ho HCL HS HCAP
      go_wp2
      go_ret3
      rw [HO.out, HBL.out]
      refine ⟨some ⟨gR, 0, none⟩, n, some ⟨gB, 0, none⟩, k, rfl, ?_, ?_, HP.out.kept.below (Nat.le_refl _) (by simp)⟩
      · unfold OwnB
        rw [HO.out]
        refine ⟨by rw [bys_length, HO.out, Nat.mul_one], Or.inr ⟨gR, n, _, rfl, HP.out.base.1, HP.out.row, by rw [← HO.out]; exact HOL.out, by unfold maxLen; omega, ?_, ?_⟩⟩
        · have := HOL.out
          simp [bys_length]; omega
        · rw [Nat.mul_one]
          show (bys _).take o = _
          rw [← bys_take, ← HO.out, List.take_left]
      · unfold OwnK
        rw [HBL.out]
        refine ⟨by rw [brows_len, HBL.out], Or.inr ⟨gB, k, _, rfl, HP.out.base.2.2.2.1, HP.out.blk, Nat.le_refl _, by unfold maxLen; omega, ?_, ?_⟩⟩
        · simp [brows_len, HBL.out]
        · show (brows _).take (k * 4) = _
          rw [Nat.sub_self, List.replicate_zero, List.append_nil]
          exact List.take_of_length_le (by rw [brows_len, HBL.out]; exact Nat.le_refl _)

set_option maxHeartbeats 1000000 in
theorem bpack_size (ao : Option Addr) (n cap : Nat) (s : Int) (w : World) (h : ¬ (16 ≤ s ∧ s ≤ 4096)) :
    Calls Try.prog 10 #[.slice ao n cap, .int .i64 s] w (PkAns w ([], [], 1)) := by
  have HI := hide (isSize_no s w h)
  clear h
  unfold PkAns
  go_enter Try.func10, Try.ntmps10
  go_wp2_with (go_at_call 29; refine HI.out.mono ?_; rintro e w' ⟨rfl, hww⟩; obtain rfl := hww.symm; clear HI)
  go_ret3
  exact ⟨none, 0, none, 0, rfl, World.ownsRow_nil _ _ _ _, World.ownsRow_nil _ _ _ _, Below.refl _ _⟩

set_option maxHeartbeats 1000000 in
theorem bpack_long (ao : Option Addr) (n cap : Nat) (s : Int) (w : World) (h : 16 ≤ s ∧ s ≤ 4096) (hn : 65536 < n) :
    Calls Try.prog 10 #[.slice ao n cap, .int .i64 s] w (PkAns w ([], [], 2)) := by
  have HI := hide (isSize_yes s w h)
  have hq : (65536 : Int) < (n : Int) := by omega
  clear h
  unfold PkAns
  go_enter Try.func10, Try.ntmps10
  go_wp2_with (go_at_call 29; refine HI.out.mono ?_; rintro e w' ⟨rfl, hww⟩; obtain rfl := hww.symm; clear HI)
  go_ret3
  exact ⟨none, 0, none, 0, rfl, World.ownsRow_nil _ _ _ _, World.ownsRow_nil _ _ _ _, Below.refl _ _⟩

/-- block.Pack. -/
theorem bpack_any (ao : Option Addr) (n cap : Nat) (s : Int) (xs : List UInt8) (w : World) (hx : xs.length = n) (hc : n ≤ cap) (hs : Sl w ao xs) :
    Calls Try.prog 10 #[.slice ao n cap, .int .i64 s] w (PkAns w (Blk.pack xs s)) := by
  unfold Blk.pack
  by_cases h : 16 ≤ s ∧ s ≤ 4096
  · rw [if_neg (by omega)]
    by_cases hn : 65536 < n
    · rw [if_pos (by omega)]
      exact bpack_long ao n cap s w h hn
    · rw [if_neg (by omega), hx]
      obtain ⟨t, rfl⟩ : ∃ t : Nat, s = t := ⟨s.toNat, by omega⟩
      exact bpack_in ao n cap t xs w hx hc hs (by omega) (by omega) (by omega)
  · rw [if_pos (by omega)]
    exact bpack_size ao n cap s w h

end Go.Proofs.Ytdnbpklnkmgmkaa
