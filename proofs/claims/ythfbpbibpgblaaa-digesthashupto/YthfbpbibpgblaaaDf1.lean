/-
  Contract: digest.Full.
-/
import Derived.Test.YthfbpbibpgblaaaDh5
namespace Go.Proofs.Ythfbpbibpgblaaa
open Go.RowKit
set_option linter.unusedVariables false
set_option linter.unusedSimpArgs false

/-- A piece that is handed in. -/
structure Pc where
  da : Option Addr
  dc : Nat
  ds : List UInt8
def pc0 : Pc := ⟨none, 0, []⟩
instance : Inhabited Pc := ⟨pc0⟩
/-- A piece in memory. -/
structure PcAt (w : World) (c : Pc) : Prop where
  sl : Sl w c.da c.ds
  le : c.ds.length ≤ c.dc
/-- A list of pieces in memory. -/
def Pcs (w : World) (ao : Option Addr) (L : List Pc) : Prop :=
  ∀ i, i < L.length → ∃ b off, ao = some ⟨b, off, none⟩ ∧ w.cell? ⟨b, off + i, none⟩ = some (.slice (L.getD i pc0).da (L.getD i pc0).ds.length (L.getD i pc0).dc) ∧ PcAt w (L.getD i pc0)
/-- All the bytes. -/
def joined (L : List Pc) : List UInt8 := L.flatMap (·.ds)
theorem joined_take (L : List Pc) (k : Nat) (h : k < L.length) : joined (L.take (k + 1)) = joined (L.take k) ++ (L.getD k pc0).ds := by
  rw [List.take_succ_eq_append_getElem h, joined, List.flatMap_append]
  simp [joined, List.getElem?_eq_getElem h]
theorem joined_take_le (L : List Pc) (k : Nat) : (joined (L.take k)).length ≤ (joined L).length := by
  have : joined L = joined (L.take k) ++ joined (L.drop k) := by rw [joined, joined, joined, ← List.flatMap_append, List.take_append_drop]
  rw [this, List.length_append]; omega
theorem PcAt.below {w w' : World} {c : Pc} (h : PcAt w c) (hb : Below w.heap.size w w') : PcAt w' c := ⟨h.sl.kept (Kept.of_below hb) (by simp), h.le⟩
theorem PcAt.kept {l : List Nat} {w w' : World} {c : Pc} (h : PcAt w c) (hk : Kept l w w') (hn : c.ds ≠ [] → ∀ a, c.da = some a → a.block ∉ l) : PcAt w' c := ⟨h.sl.kept hk hn, h.le⟩

/-- What holds at the head of Full's loop. -/
structure FuRel (w wr : World) (r g : Nat) (m : List UInt8) : Prop where
  has : Hs wr g 29 [] [] m
  res : wr.heap[r]? = some (.cells zero32 39 (0, 0))
  below : Below w.heap.size w wr

set_option maxHeartbeats 400000 in
set_option maxRecDepth 100000 in
theorem full_ok (ao : Option Addr) (cap : Nat) (L : List Pc) (w : World) (hm : L.length ≤ 9223372036854775807) (hp : Pcs w ao L) (hsum : (joined L).length < 9223372036854775736) (n : Nat) (hn : L.length = n) :
    Calls Try.prog 12 #[.slice ao n cap] w fun e w' => e = .returned (.agg (bys (Sha.full (joined L))).toArray) ∧ Below w.heap.size w w' := by
  have hz := Try.zeroB32
  have hz2 := Try.zeroHash
  obtain ⟨r, hr⟩ : ∃ r, r = w.heap.size := ⟨_, rfl⟩
  obtain ⟨g, hg⟩ : ∃ r, r = w.heap.size + 1 := ⟨_, rfl⟩
  have HI : Hid (FuRel w ((w.alloc (.cells zero32 39)).alloc (.cells zeroH 29)) r g (joined (L.take 0))) := by
    rw [hr, hg]
    exact ⟨hs_zero_of (heap_alloc2_new _ _ _), heap_alloc2_old _ _ _, ((Below.refl _ _).alloc (Nat.le_refl _) _).alloc (by simp) _⟩
  have HN : Hid (L.length = n) := hn
  have HP : Hid (Pcs w ao L) := hp
  have HG : Hid (r = w.heap.size ∧ g = w.heap.size + 1) := ⟨hr, hg⟩
  rw [hn] at hm
  clear hn hp
  go_enter Try.func12, Try.ntmps12
  go_wp2
  rw [← hg, ← hr]
  clear hr hg hz hz2
  generalize (w.alloc _).alloc _ = w1 at HI ⊢
  go_loopw [5, 8] (fun _ i wr => ∃ k : Nat, k ≤ n ∧ i = .int .i64 k ∧ Hid (FuRel w wr r g (joined (L.take k)))) (fun _ i wr => n - (intOf i).toNat)
  case atStart => exact ⟨0, Nat.zero_le _, rfl, HI⟩
  case round =>
    clear HI
    obtain ⟨k, hk, rfl, HR⟩ := hrel
    by_cases hlt : k < n
    · obtain ⟨b, off, hao, hc, hpc⟩ := HP.out k (by rw [HN.out]; exact hlt)
      have hbw := World.block_lt_of_cell? _ _ hc
      have ck : wr.cell? ⟨b, off + k, none⟩ = some (.slice (L.getD k pc0).da (L.getD k pc0).ds.length (L.getD k pc0).dc) := (HR.out.below.cell (p := ⟨b, off + k, none⟩) hbw).trans hc
      have HJ : Hid (joined (L.take (k + 1)) = joined (L.take k) ++ (L.getD k pc0).ds) := joined_take L k (by rw [HN.out]; exact hlt)
      have HPC : Hid (PcAt w (L.getD k pc0)) := hpc
      have HJL : Hid ((joined (L.take (k + 1))).length ≤ (joined L).length) := joined_take_le L (k + 1)
      subst hao
      clear hc hpc hbw
      generalize L.getD k pc0 = c at ck HJ HPC
      obtain ⟨da, dc, ds⟩ := c
      dsimp only at ck HJ
      go_wp2_with (fail)
      have hsl := (HPC.out.below HR.out.below).sl
      refine (write_ok g 29 [] [] (joined (L.take k)) ds da dc wr HR.out.has hsl ?hfar HPC.out.le ?hs 0 rfl).mono ?_
      case hfar =>
        intro hne a ha
        obtain ⟨b', off', e', hb', _⟩ := HPC.out.sl.open hne
        rw [show (Pc.mk da dc ds).da = da from rfl] at e'
        rw [e'] at ha
        cases ha
        have := HG.out
        show b' ≠ g
        omega
      case hs =>
        have h1 := HJL.out
        rw [HJ.out, List.length_append] at h1
        omega
      rintro e w2 ⟨rfl, hH, hkk⟩
      have HS : Hid (FuRel w w2 r g (joined (L.take (k + 1)))) := by
        have := HG.out
        rw [HJ.out]
        exact ⟨hH, (hkk.block r (Array.getElem?_eq_some_iff.1 HR.out.res).1 (by simp; omega)).trans HR.out.res, HR.out.below.trans (hkk.below HR.out.below.size (by simp; omega))⟩
      clear hsl hH hkk HR HPC HJ HJL
      go_wp2
      go_roundw
      case rel => exact ⟨k + 1, by omega, by go_num, HS⟩
      case measure => simp [intOf]; omega
    · obtain rfl : k = n := by omega
      have hall : joined (L.take k) = joined L := by rw [List.take_of_length_le (by rw [HN.out]; exact Nat.le_refl _)]
      rw [hall] at HR
      clear hall
      go_wp2_with (fail)
      refine (sum_ok (some ⟨g, 0, none⟩) (joined L) wr (.inr ⟨g, _, [], [], rfl, HR.out.has⟩) hsum).mono ?_
      rintro e w5 ⟨rfl, hb5⟩
      have hr5 : w5.heap[r]? = some (.cells zero32 39 (0, 0)) := (hb5.block r (Array.getElem?_eq_some_iff.1 HR.out.res).1).trans HR.out.res
      have hB5 : Below w.heap.size w w5 := HR.out.below.trans (hb5.mono HR.out.below.size)
      have hone := bys_all (Sha.full (joined L))
      clear hb5 HR
      go_wp2_with (refine wpList_store_rowTo rfl 39 (.tmp 2) (.tmp 15) rfl rfl r (bys (Sha.full (joined L))).toArray rfl rfl 39 zero32 hr5 Try.info32 rfl hone ?_)
      exact ret_row rfl rfl r 39 _ (0, 0) _ rfl (setRow_heap _ _ _ _ _ _ hr5) Try.underlying39 rfl Try.info32 ⟨rfl, below_row hB5 (by have := HG.out; omega) _⟩
end Go.Proofs.Ythfbpbibpgblaaa
