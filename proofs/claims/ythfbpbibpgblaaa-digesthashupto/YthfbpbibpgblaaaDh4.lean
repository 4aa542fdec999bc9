/-
  Contract: digest.inBytes.
-/
import Derived.Test.YthfbpbibpgblaaaDh3
namespace Go.Proofs.Ythfbpbibpgblaaa
open Go.RowKit
set_option linter.unusedVariables false
set_option linter.unusedSimpArgs false

def zero32 : Array Value := (bys (List.replicate 32 0)).toArray
theorem Try.zeroB32 (W : World) : (zeroValue 39).run Try.prog W = .ok (.agg zero32) W := by kernel_rfl
theorem Try.zeroID (W : World) : (zeroValue 46).run Try.prog W = .ok (.agg zero32) W := by kernel_rfl
theorem Try.info32 : (Try.prog.info? 39).map (·.size) = some 32 := by kernel_rfl
theorem Try.infoID : (Try.prog.info? 46).map (·.size) = some 32 := by kernel_rfl

/-- What holds while 32 bytes are filled. -/
structure Fill32 (w wr : World) (ty : TypeId) (r B : Nat) (A : List UInt8) : Prop where
  res : wr.heap[r]? = some (.cells zero32 ty (0, 0))
  arr : wr.heap[B]? = some (.cells (bys A).toArray ty (0, 0))
  len : A.length = 32
  below : Below w.heap.size w wr
  ps : w.heap.size ≤ r ∧ w.heap.size ≤ B ∧ r ≠ B
theorem Fill32.cell {w wr : World} {ty : TypeId} {r B : Nat} {A : List UInt8} (h : Fill32 w wr ty r B A) (i : Nat) (hi : i < 32) : wr.cell? ⟨B, i, none⟩ = some (.int .u8 (A.getD i 0).toNat) := by
  rw [cell_of_row _ _ _ _ _ _ h.arr, List.getElem?_toArray, bys_at (by rw [h.len]; exact hi)]
theorem Fill32.frozen {w wr : World} {ty : TypeId} {r B : Nat} {A : List UInt8} (h : Fill32 w wr ty r B A) (i : Nat) : wr.frozen? ⟨B, i, none⟩ = false := frozen_of_row _ _ _ _ _ h.arr
theorem Fill32.drewN {w wr : World} {ty : TypeId} {r B : Nat} {A : List UInt8} (h : Fill32 w wr ty r B A) (n : Nat) : Fill32 w (wr.drewN n) ty r B A := ⟨h.res, h.arr, h.len, ⟨h.below.os, h.below.tape, h.below.output, h.below.size, h.below.block⟩, h.ps⟩
theorem Fill32.drew {w wr : World} {ty : TypeId} {r B : Nat} {A : List UInt8} (h : Fill32 w wr ty r B A) : Fill32 w wr.drew ty r B A := h.drewN 1
theorem Fill32.set {w wr : World} {ty : TypeId} {r B : Nat} {A : List UInt8} (h : Fill32 w wr ty r B A) (i : Nat) (v : UInt8) : Fill32 w (wr.setCell ⟨B, i, none⟩ (.int .u8 v.toNat)) ty r B (A.set i v) := by
  have := h.ps
  refine ⟨by rw [heap_setCell_other _ _ _ _ (by show r ≠ B; omega)]; exact h.res, ?_, by simp [h.len], ?_, h.ps⟩
  · rw [heap_setCell_same _ _ _ _ _ _ h.arr, List.setIfInBounds_toArray, bys_set]
  · exact ⟨h.below.os, h.below.tape, h.below.output, by rw [World.size_setCell]; exact h.below.size, fun k hk => (heap_setCell_other _ _ _ _ (by show k ≠ B; omega)).trans (h.below.block k hk)⟩
theorem Fill32.later {w wr w2 : World} {ty : TypeId} {r B : Nat} {A : List UInt8} (h : Fill32 w wr ty r B A) (hb : Below wr.heap.size wr w2) : Fill32 w w2 ty r B A :=
  ⟨(hb.block r (Array.getElem?_eq_some_iff.1 h.res).1).trans h.res, (hb.block B (Array.getElem?_eq_some_iff.1 h.arr).1).trans h.arr, h.len, h.below.trans (hb.mono h.below.size), h.ps⟩
/-- What an array by value is at a function's end. -/
theorem bys_all (l : List UInt8) : (bys l).toArray.all (·.oneCell') = true := Array.all_eq_true_iff_forall_mem.2 fun v hv => bys_oneCell _ v (by simpa using hv)

theorem blocks3 (w : World) (o1 o2 o3 : Obj) : (((w.alloc o1).alloc o2).alloc o3).heap[w.heap.size]? = some o1 ∧ (((w.alloc o1).alloc o2).alloc o3).heap[w.heap.size + 1]? = some o2 ∧ (((w.alloc o1).alloc o2).alloc o3).heap[w.heap.size + 1 + 1]? = some o3 := by
  have e : (((w.alloc o1).alloc o2).alloc o3).heap = ((w.heap.push o1).push o2).push o3 := rfl
  rw [e]
  refine ⟨?_, ?_, ?_⟩
  · rw [Array.getElem?_push, if_neg (by simp <;> omega), Array.getElem?_push, if_neg (by simp), Array.getElem?_push, if_pos rfl]
  · rw [Array.getElem?_push, if_neg (by simp), Array.getElem?_push, if_pos (by simp)]
  · rw [Array.getElem?_push, if_pos (by simp)]

/-- The words in bytes, k of them laid. -/
def laid (L : List Nat) : Nat → List UInt8
  | 0 => List.replicate 32 0
  | k + 1 => ((((laid L k).set (4 * k) (UInt8.ofNat (L.getD k 0 / 16777216 % 256))).set (4 * k + 1) (UInt8.ofNat (L.getD k 0 / 65536 % 256))).set (4 * k + 2) (UInt8.ofNat (L.getD k 0 / 256 % 256))).set (4 * k + 3) (UInt8.ofNat (L.getD k 0 % 256))
theorem laid_all (s : Sha.S8) : laid s.words 8 = Sha.bytes s := by kernel_rfl

set_option maxHeartbeats 400000 in
set_option maxRecDepth 100000 in
theorem inBytes_ok (s : Sha.S8) (hs : s.Ok) (w : World) :
    Calls Try.prog 24 #[.agg (wds s.words).toArray] w fun e w' => e = .returned (.agg (bys (Sha.bytes s)).toArray) ∧ Below w.heap.size w w' := by
  have hz := Try.zeroB32
  obtain ⟨S, hS⟩ : ∃ S, S = w.heap.size := ⟨_, rfl⟩
  obtain ⟨r, hr⟩ : ∃ S, S = w.heap.size + 1 := ⟨_, rfl⟩
  obtain ⟨B, hB⟩ : ∃ r, r = w.heap.size + 1 + 1 := ⟨_, rfl⟩
  have h3 := blocks3 w (.cells (wds s.words).toArray 25) (.cells zero32 39) (.cells zero32 39)
  have hst := h3.1
  have HI : Hid (Fill32 w (((w.alloc (.cells (wds s.words).toArray 25)).alloc (.cells zero32 39)).alloc (.cells zero32 39)) 39 r B (laid s.words 0)) := by
    subst hr; subst hB
    exact ⟨h3.2.1, h3.2.2, rfl, ((((Below.refl _ _).alloc (Nat.le_refl _) _).alloc (by simp) _).alloc (by simp; omega) _), by omega⟩
  clear h3
  go_enter Try.func24, Try.ntmps24
  go_wp2_with (refine wpList_load_row rfl 25 (.tmp 1) rfl w.heap.size rfl 25 _ (0, 0) _ hst Try.underlying25 rfl Try.info8 ?_)
  rw [← hB, ← hr, ← hS]
  clear hB hr hS hst hz
  generalize ((w.alloc _).alloc _).alloc _ = w1 at HI ⊢
  go_loopw [4, 5, 7] (fun _ _ i wr => ∃ k : Nat, k ≤ 8 ∧ i = .int .i64 k ∧ Hid (Fill32 w wr 39 r B (laid s.words k))) (fun _ _ i wr => 8 - (intOf i).toNat)
  case atStart => exact ⟨0, by omega, rfl, HI⟩
  case round =>
    clear HI
    obtain ⟨k, hk, rfl, HR⟩ := hrel
    by_cases hlt : k < 8
    · have hx := fun W => Try.index8 s k hlt W
      have hxl := words_ok hs k
      have HL : Hid (laid s.words (k + 1) = ((((laid s.words k).set (4 * k) (UInt8.ofNat (s.words.getD k 0 / 16777216 % 256))).set (4 * k + 1) (UInt8.ofNat (s.words.getD k 0 / 65536 % 256))).set (4 * k + 2) (UInt8.ofNat (s.words.getD k 0 / 256 % 256))).set (4 * k + 3) (UInt8.ofNat (s.words.getD k 0 % 256))) := rfl
      generalize s.words.getD k 0 = x at hx hxl HL
      obtain ⟨j0, hj0⟩ : ∃ j, j = 4 * k := ⟨_, rfl⟩
      obtain ⟨j1, hj1⟩ : ∃ j, j = 4 * k + 1 := ⟨_, rfl⟩
      obtain ⟨j2, hj2⟩ : ∃ j, j = 4 * k + 2 := ⟨_, rfl⟩
      obtain ⟨j3, hj3⟩ : ∃ j, j = 4 * k + 3 := ⟨_, rfl⟩
      rw [← hj1, ← hj2, ← hj3, ← hj0] at HL
      have e0 : 4 * (k : Int) = j0 := by omega
      have e1 : (j0 : Int) + 1 = j1 := by omega
      have e2 : (j0 : Int) + 2 = j2 := by omega
      have e3 : (j0 : Int) + 3 = j3 := by omega
      have l0 : (j0 : Int) < 32 := by omega
      have l1 : (j1 : Int) < 32 := by omega
      have l2 : (j2 : Int) < 32 := by omega
      have l3 : (j3 : Int) < 32 := by omega
      have c0 := HR.out.cell j0 (by omega)
      have c1 := HR.out.cell j1 (by omega)
      have c2 := HR.out.cell j2 (by omega)
      have c3 := HR.out.cell j3 (by omega)
      have f0 := HR.out.frozen j0
      have f1 := HR.out.frozen j1
      have f2 := HR.out.frozen j2
      have f3 := HR.out.frozen j3
      have n01 : j0 ≠ j1 := by omega
      have n02 : j0 ≠ j2 := by omega
      have n03 : j0 ≠ j3 := by omega
      have n12 : j1 ≠ j2 := by omega
      have n13 : j1 ≠ j3 := by omega
      have n23 : j2 ≠ j3 := by omega
      clear hj0 hj1 hj2 hj3
      have HS : Hid (Fill32 w ((((wr.setCell ⟨B, j0, none⟩ (.int .u8 ((x : Int) / 16777216))).setCell ⟨B, j1, none⟩ (.int .u8 ((x : Int) / 65536 % 256))).setCell ⟨B, j2, none⟩ (.int .u8 ((x : Int) / 256 % 256))).setCell ⟨B, j3, none⟩ (.int .u8 ((x : Int) % 256))) 39 r B (laid s.words (k + 1))) := by
        have h := (((HR.out.set j0 (UInt8.ofNat (x / 16777216 % 256))).set j1 (UInt8.ofNat (x / 65536 % 256))).set j2 (UInt8.ofNat (x / 256 % 256))).set j3 (UInt8.ofNat (x % 256))
        rw [u8_mod, u8_mod, u8_mod, u8_mod] at h
        show Fill32 _ _ _ _ _ _
        rw [HL.out]
        have e : ((x / 16777216 : Nat) : Int) % 256 = (x : Int) / 16777216 := by omega
        have e2 : ((x / 65536 : Nat) : Int) = (x : Int) / 65536 := by omega
        have e3 : ((x / 256 : Nat) : Int) = (x : Int) / 256 := by omega
        rw [e, e2, e3] at h
        exact h
      go_wp2
      go_roundw
      case rel => exact ⟨k + 1, by omega, by go_num, HS⟩
      case measure => simp [intOf]; omega
    · obtain rfl : k = 8 := by omega
      have h1 := HR.out.arr
      have h2 := HR.out.res
      have hlen : (bys (laid s.words 8)).toArray.size = 32 := by simp [bys_length, HR.out.len]
      have hinf : (Try.prog.info? 39).map (·.size) = some (bys (laid s.words 8)).toArray.size := by rw [hlen]; exact Try.info32
      have hz0 : zero32.size = (bys (laid s.words 8)).toArray.size := by rw [hlen]; rfl
      have hone := bys_all (laid s.words 8)
      have HFIN : Hid (laid s.words 8 = Sha.bytes s) := laid_all s
      generalize laid s.words 8 = F at h1 hlen hinf hone hz0 HFIN HR
      go_wp2_with (first | refine wpList_load_row rfl 39 (.tmp 3) rfl B rfl 39 _ (0, 0) _ h1 Try.underlying39 rfl hinf ?_ | refine wpList_store_rowTo rfl 39 (.tmp 2) (.tmp 38) rfl rfl r (bys F).toArray rfl rfl 39 zero32 h2 hinf hz0 hone ?_)
      exact ret_row rfl rfl r 39 _ (0, 0) _ rfl (setRow_heap _ _ _ _ _ _ h2) Try.underlying39 rfl hinf ⟨by rw [HFIN.out], below_row HR.out.below HR.out.ps.1 _⟩
end Go.Proofs.Ythfbpbibpgblaaa
