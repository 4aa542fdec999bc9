/-
  Contract: digest.Hash.Sum.
-/
import Derived.Test.YthfbpbibpgblaaaDh4
namespace Go.Proofs.Ythfbpbibpgblaaa
open Go.RowKit
set_option linter.unusedVariables false
set_option linter.unusedSimpArgs false

/-- A new Hash's cells. -/
def zeroH : Array Value := (hrow [] [] (List.replicate 8 0) (List.replicate 64 0) 0).toArray
theorem Try.zeroHash (W : World) : (zeroValue 29).run Try.prog W = .ok (.agg zeroH) W := by kernel_rfl
theorem Try.infoHash : (Try.prog.info? 29).map (·.size) = some 73 := by kernel_rfl
theorem hs_zero_of {w : World} {g : Nat} (h : w.heap[g]? = some (.cells zeroH 29 (0, 0))) : Hs w g 29 [] [] [] :=
  ⟨_, _, ⟨h, rfl, rfl⟩, fun h => absurd rfl h, by simp [Tail]⟩
theorem hrow_len (pre post : List Value) (st : List Nat) (blk : List UInt8) (n : Nat) (h1 : st.length = 8) (h2 : blk.length = 64) : (hrow pre post st blk n).length = pre.length + 73 + post.length := by
  simp only [hrow, List.length_append, wds_len, bys_length, List.length_cons, h1, h2]; omega
theorem hrow_oneCell (st : List Nat) (blk : List UInt8) (n : Nat) : ∀ u ∈ hrow [] [] st blk n, u.oneCell' = true := by
  intro u hu
  simp only [hrow, List.nil_append, List.mem_append, List.mem_singleton] at hu
  rcases hu with h | h | h
  · exact wds_oneCell _ _ h
  · exact bys_oneCell _ _ h
  · rw [h]; rfl
/-- All the cells of a Hash. -/
theorem Hp.all {w : World} {b : Nat} {ty : TypeId} {pre post : List Value} {st : List Nat} {blk : List UInt8} {n : Nat} (h : Hp w b ty pre post st blk n) : w.rangeAt b pre.length (hrow [] [] st blk n) := fun j v hv => by
  have hj := (List.getElem?_eq_some_iff.1 hv).1
  have e : hrow pre post st blk n = pre ++ (hrow [] [] st blk n ++ post) := by simp [hrow]
  rw [h.cell, e, List.getElem?_append_right (by omega), Nat.add_sub_cancel_left, List.getElem?_append_left hj]
  exact hv

/-- The digest of what a Hash, or nil, has taken. -/
def HasTaken (w : World) (p : Option Addr) (m : List UInt8) : Prop := (p = none ∧ m = []) ∨ ∃ b ty pre post, p = some ⟨b, pre.length, none⟩ ∧ Hs w b ty pre post m

set_option maxHeartbeats 800000 in
set_option maxRecDepth 100000 in
theorem sum_ok (p : Option Addr) (m : List UInt8) (w : World) (hH : HasTaken w p m) (hsum : m.length < 9223372036854775736) :
    Calls Try.prog 11 #[.pointer p] w fun e w' => e = .returned (.agg (bys (Sha.full m)).toArray) ∧ Below w.heap.size w w' := by
  have hz := Try.zeroB32
  have hz2 := Try.zeroHash
  obtain ⟨r, hr⟩ : ∃ r, r = w.heap.size := ⟨_, rfl⟩
  obtain ⟨L, hL⟩ : ∃ r, r = w.heap.size + 1 := ⟨_, rfl⟩
  have hL1 : ((w.alloc (.cells zero32 39)).alloc (.cells zeroH 29)).heap[w.heap.size + 1]? = some (.cells zeroH 29 (0, 0)) := heap_alloc2_new _ _ _
  have hr1 : ((w.alloc (.cells zero32 39)).alloc (.cells zeroH 29)).heap[w.heap.size]? = some (.cells zero32 39 (0, 0)) := heap_alloc2_old _ _ _
  have HP : Hid (r = w.heap.size ∧ L = w.heap.size + 1) := ⟨hr, hL⟩
  have HFU : Hid (Sha.full m = Sha.bytes (Sha.st (m ++ Sha.ending m.length) ((m.length + Sha.size m.length) / 64))) := rfl
  have hn64 : m.length < 18446744073709551616 := by omega
  rcases hH with ⟨rfl, hm⟩ | ⟨b, ty, pre, post, rfl, hH⟩
  case' inl =>
    have c72 : ((w.alloc (.cells zero32 39)).alloc (.cells zeroH 29)).cell? ⟨w.heap.size + 1, 72, none⟩ = some (.int .u64 m.length) := by
      rw [hm, cell_of_row _ _ _ _ _ _ hL1]; rfl
    have H1 : Hid (Hs ((w.alloc (.cells zero32 39)).alloc (.cells zeroH 29)) L 29 [] [] m ∧ ((w.alloc (.cells zero32 39)).alloc (.cells zeroH 29)).heap[r]? = some (.cells zero32 39 (0, 0)) ∧ Below w.heap.size w ((w.alloc (.cells zero32 39)).alloc (.cells zeroH 29))) := by
      rw [hm, hL, hr]
      exact ⟨hs_zero_of hL1, hr1, ((Below.refl _ _).alloc (Nat.le_refl _) _).alloc (by simp) _⟩
    clear hL1 hr1 hm
    go_enter Try.func11, Try.ntmps11
    go_wp2_with (fail)
    clear c72
    rw [← hL, ← hr]
    clear hL hr
    generalize (w.alloc _).alloc _ = w2 at H1 ⊢
  case' inr =>
    obtain ⟨o, ho⟩ : ∃ o, o = pre.length := ⟨_, rfl⟩
    rw [← ho]
    obtain ⟨st, blk, hp, hst, htl⟩ := hH.ex
    have hl1 : (hrow [] [] st blk m.length).length = 73 := by rw [hrow_len _ _ _ _ _ hp.sl hp.bl]; rfl
    have hrg : ((w.alloc (.cells zero32 39)).alloc (.cells zeroH 29)).rangeAt b o (hrow [] [] st blk m.length) := by
      rw [ho]
      exact (hp.kept (((Kept.refl [] w).alloc _).alloc _) (by simp)).all
    have hil : (Try.prog.info? 29).map (·.size) = some (hrow [] [] st blk m.length).length := by rw [hl1]; exact Try.infoHash
    have hia : (Try.prog.info? 29).map (·.size) = some (hrow [] [] st blk m.length).toArray.size := by rw [List.size_toArray, hl1]; exact Try.infoHash
    have hza : zeroH.size = (hrow [] [] st blk m.length).toArray.size := by rw [show (hrow [] [] st blk m.length).toArray.size = 73 by rw [List.size_toArray, hl1]]; rfl
    have hoa : (hrow [] [] st blk m.length).toArray.all (·.oneCell') = true := all_oneCell_toArray (hrow_oneCell _ _ _)
    have hp1 : Hp (((w.alloc (.cells zero32 39)).alloc (.cells zeroH 29)).setRow (w.heap.size + 1) (hrow [] [] st blk m.length).toArray) (w.heap.size + 1) 29 [] [] st blk m.length :=
      ⟨setRow_heap _ _ _ _ _ _ hL1, hp.sl, hp.bl⟩
    have c72 : (((w.alloc (.cells zero32 39)).alloc (.cells zeroH 29)).setRow (w.heap.size + 1) (hrow [] [] st blk m.length).toArray).cell? ⟨w.heap.size + 1, 72, none⟩ = some (.int .u64 m.length) := by
      have := hp1.taken
      rw [List.length_nil, Nat.zero_add] at this
      exact this
    have H1 : Hid (Hs (((w.alloc (.cells zero32 39)).alloc (.cells zeroH 29)).setRow (w.heap.size + 1) (hrow [] [] st blk m.length).toArray) L 29 [] [] m ∧ (((w.alloc (.cells zero32 39)).alloc (.cells zeroH 29)).setRow (w.heap.size + 1) (hrow [] [] st blk m.length).toArray).heap[r]? = some (.cells zero32 39 (0, 0)) ∧ Below w.heap.size w (((w.alloc (.cells zero32 39)).alloc (.cells zeroH 29)).setRow (w.heap.size + 1) (hrow [] [] st blk m.length).toArray)) := by
      refine ⟨by rw [hL]; exact ⟨st, blk, hp1, hst, htl⟩, by rw [hr, setRow_other _ _ _ _ (by omega)]; exact hr1, below_row (((Below.refl _ _).alloc (Nat.le_refl _) _).alloc (by simp) _) (by omega) _⟩
    clear hH hp hst htl ho hl1 hr1 hp1
    go_enter Try.func11, Try.ntmps11
    go_wp2_with (first | refine wpList_load_mid rfl 29 (.tmp 7) rfl b o rfl _ _ hrg Try.underlying29 rfl hil ?_ | refine wpList_store_rowTo rfl 29 (.tmp 3) (.tmp 8) rfl rfl (w.heap.size + 1) (hrow [] [] st blk m.length).toArray rfl rfl 29 zeroH hL1 hia hza hoa ?_)
    clear c72 hrg hil hia hza hoa hL1
    generalize World.setRow _ _ _ = w2 at H1 ⊢
    rw [← hL, ← hr]
    clear hL hr
  all_goals
    clear hz hz2
    refine (ending_ok m.length _ hn64).mono ?_
    rintro e w3 ⟨rfl, hblk, hb3⟩
    have hLr : L < w2.heap.size ∧ r < w2.heap.size := ⟨H1.out.1.lt, (Array.getElem?_eq_some_iff.1 H1.out.2.1).1⟩
    have hH3 : Hs w3 L 29 [] [] m := H1.out.1.kept (Kept.of_below hb3) (by simp)
    have hr3 : w3.heap[r]? = some (.cells zero32 39 (0, 0)) := (hb3.block r hLr.2).trans H1.out.2.1
    have hB3 : Below w.heap.size w w3 := H1.out.2.2.trans (hb3.mono H1.out.2.2.size)
    have H3 := (show Hid (_ ∧ _ ∧ _ ∧ _) from ⟨hH3, hr3, hB3, hblk⟩)
    have hGL : Hid (w2.heap.size ≠ L) := by have := hLr.1; show _ ≠ _; omega
    clear H1 hb3 hLr hblk hH3 hr3 hB3
    rw [← Sha.ending_len]
    go_wp2_with (fail)
    refine (write_ok L 29 [] [] m (Sha.ending m.length) (some ⟨w2.heap.size, 0, none⟩) (Sha.ending m.length).length w3 H3.out.1 H3.out.2.2.2.sl (by rintro _ a ⟨⟩; exact hGL.out) (Nat.le_refl _) (by rw [Sha.ending_len]; have := Sha.size_ge m.length; omega) 0 rfl).mono ?_
    rintro e w4 ⟨rfl, hH4, hk4⟩
    obtain ⟨st4, blk4, hp4, hst4, _⟩ := hH4.ex
    have hne : m ++ Sha.ending m.length ≠ [] := by simp [Sha.ending]
    have hst5 := hst4 hne
    rw [List.length_append, Sha.ending_len] at hst5
    have HFU2 : Hid (Sha.bytes (Sha.st (m ++ Sha.ending m.length) ((m.length + Sha.size m.length) / 64)) = Sha.full m) := HFU.out.symm
    have hq := Sha.st_ok (m ++ Sha.ending m.length) ((m.length + Sha.size m.length) / 64)
    have hrg := hp4.range
    rw [hst5] at hrg
    have hr4 : w4.heap[r]? = some (.cells zero32 39 (0, 0)) := (hk4.block r (Array.getElem?_eq_some_iff.1 H3.out.2.1).1 (by have := HP.out; simp; omega)).trans H3.out.2.1
    have hB4 : Below w.heap.size w w4 := H3.out.2.2.1.trans (hk4.below H3.out.2.2.1.size (by have := HP.out; simp; omega))
    clear hH4 hp4 hst4 hst5 hne H3 hk4 HFU
    generalize Sha.st (m ++ Sha.ending m.length) ((m.length + Sha.size m.length) / 64) = q at hq hrg HFU2
    go_wp2_with (refine wpList_load_mid rfl 25 (.tmp 13) rfl L 0 rfl (wds q.words) _ hrg Try.underlying25 rfl Try.info8 ?_)
    refine (inBytes_ok q hq _).mono ?_
    rintro e w5 ⟨rfl, hb5⟩
    have hr5 : w5.heap[r]? = some (.cells zero32 39 (0, 0)) := (hb5.block r (Array.getElem?_eq_some_iff.1 hr4).1).trans hr4
    have hB5 : Below w.heap.size w w5 := hB4.trans (hb5.mono hB4.size)
    have hone := bys_all (Sha.bytes q)
    clear hr4 hB4 hb5 hrg
    go_wp2_with (refine wpList_store_rowTo rfl 39 (.tmp 2) (.tmp 15) rfl rfl r (bys (Sha.bytes q)).toArray rfl rfl 39 zero32 hr5 Try.info32 rfl hone ?_)
    exact ret_row rfl rfl r 39 _ (0, 0) _ rfl (setRow_heap _ _ _ _ _ _ hr5) Try.underlying39 rfl Try.info32 ⟨by rw [HFU2.out], below_row hB5 (by have := HP.out; omega) _⟩
end Go.Proofs.Ythfbpbibpgblaaa
