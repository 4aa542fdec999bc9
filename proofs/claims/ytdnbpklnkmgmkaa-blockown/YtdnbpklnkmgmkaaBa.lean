/-
  Chapter 11 as mathematics: a row cut into blocks.
-/
import Derived.Test.YtdnbpklnkmgmkaaPure
import Derived.Test.YtdnbpklnkmgmkaaMem
import Derived.Test.YtdnbpklnkmgmkaaQp3
namespace Go.Proofs.Ytdnbpklnkmgmkaa
open Go.RowKit
set_option linter.unusedVariables false
set_option linter.unusedSimpArgs false

structure Bk where
  at_ : Int
  pk : Int
  raw : Int
  sum : Int
deriving DecidableEq
def bk0 : Bk := ⟨0, 0, 0, 0⟩
instance : Inhabited Bk := ⟨bk0⟩
def Bk.cells (b : Bk) : List Value := [.int .i64 b.at_, .int .i64 b.pk, .int .i64 b.raw, .int .i64 b.sum]

namespace Blk
/-- A piece as it is kept. -/
def sh (xs : List UInt8) : List UInt8 := if (Prs.pack xs).length < xs.length then Prs.pack xs else xs
theorem sh_len (xs : List UInt8) : (sh xs).length ≤ xs.length := by unfold sh; split <;> omega
theorem unpack_pack (xs : List UInt8) (h : xs.length ≤ 4096) : Prs.unpack (Prs.pack xs) xs.length = (xs, 0) := by
  unfold Prs.unpack
  rw [if_neg (by omega), Int.toNat_natCast, Prs.unp_pack xs _ (Nat.le_refl _), if_neg (by omega)]
theorem pack_pos (xs : List UInt8) (h : xs ≠ []) : 1 ≤ (Prs.pack xs).length := by
  cases h1 : Prs.pack xs with
  | cons a l => simp
  | nil =>
    have h2 := Prs.unp_pack xs _ (Nat.le_refl _)
    rw [if_neg (by omega), h1] at h2
    have h3 := Prs.unp_ok _ _ _ _ _ _ h2 (by simp)
    simp at h3
    exact absurd (List.eq_nil_of_length_eq_zero (by simpa using h3)) h
theorem sh_pos (xs : List UInt8) (h : xs ≠ []) : 1 ≤ (sh xs).length := by
  unfold sh
  split
  · exact pack_pos xs h
  · exact List.length_pos_iff.2 h

/-- The k-th piece. -/
def pc (xs : List UInt8) (s k : Nat) : List UInt8 := (xs.drop (k * s)).take s
theorem pc_len (xs : List UInt8) (s k : Nat) : (pc xs s k).length = min s (xs.length - k * s) := by simp [pc]
def outs (xs : List UInt8) (s : Nat) : Nat → List UInt8
  | 0 => []
  | k + 1 => outs xs s k ++ sh (pc xs s k)
def bk (xs : List UInt8) (s k : Nat) : Bk := ⟨(outs xs s k).length, (sh (pc xs s k)).length, (pc xs s k).length, Pure.sum (sh (pc xs s k))⟩
def blks (xs : List UInt8) (s k : Nat) : List Bk := (List.range k).map (bk xs s)
theorem blks_len (xs : List UInt8) (s k : Nat) : (blks xs s k).length = k := by simp [blks]
theorem blks_succ (xs : List UInt8) (s k : Nat) : blks xs s (k + 1) = blks xs s k ++ [bk xs s k] := by simp [blks, List.range_succ]
theorem blks_at (xs : List UInt8) (s k i : Nat) (h : i < k) : (blks xs s k).getD i bk0 = bk xs s i := by
  simp [blks, List.getD, List.getElem?_map, List.getElem?_range h]
def cnt (n s : Nat) : Nat := (n + s - 1) / s
theorem cnt_lt {n s k : Nat} (hs : 1 ≤ s) : k < cnt n s ↔ k * s < n := by
  unfold cnt
  rw [Nat.lt_iff_add_one_le, Nat.le_div_iff_mul_le (by omega), Nat.add_mul]
  omega
theorem outs_succ (xs : List UInt8) (s k : Nat) : outs xs s (k + 1) = outs xs s k ++ sh (pc xs s k) := rfl
theorem outs_len (xs : List UInt8) (s : Nat) : ∀ k, (outs xs s k).length ≤ min (k * s) xs.length
  | 0 => by simp [outs]
  | k + 1 => by
    have h1 := outs_len xs s k
    have h2 := sh_len (pc xs s k)
    rw [pc_len] at h2
    rw [outs_succ, List.length_append, Nat.add_mul, Nat.one_mul]
    generalize k * s = q at *
    omega
theorem take_pcs (xs : List UInt8) (s k : Nat) : xs.take ((k + 1) * s) = xs.take (k * s) ++ pc xs s k := by
  rw [Nat.add_mul, Nat.one_mul, List.take_add]; rfl
theorem outs_cut (xs : List UInt8) (s : Nat) {k m : Nat} (h : k < m) : ((outs xs s m).drop (outs xs s k).length).take (sh (pc xs s k)).length = sh (pc xs s k) := by
  induction m with
  | zero => omega
  | succ m ih =>
    by_cases hk : k = m
    · subst hk
      rw [outs_succ, List.drop_left, List.take_length]
    · have h1 : (outs xs s k).length + (sh (pc xs s k)).length ≤ (outs xs s m).length := by
        have : ∀ d, (outs xs s (k + 1)).length ≤ (outs xs s (k + 1 + d)).length := by
          intro d
          induction d with
          | zero => exact Nat.le_refl _
          | succ d ih => rw [← Nat.add_assoc, outs_succ _ _ (k + 1 + d), List.length_append]; omega
        have := this (m - (k + 1))
        rw [show k + 1 + (m - (k + 1)) = m by omega, outs_succ, List.length_append] at this
        exact this
      rw [outs_succ, List.drop_append_of_le_length (by omega), List.take_append_of_le_length (by rw [List.length_drop]; omega)]
      exact ih (by omega)
theorem outs_mono (xs : List UInt8) (s : Nat) {k m : Nat} (h : k ≤ m) : (outs xs s k).length ≤ (outs xs s m).length := by
  induction m with
  | zero => simp [show k = 0 by omega]
  | succ m ih =>
    by_cases hk : k = m + 1
    · rw [hk]; exact Nat.le_refl _
    · have := ih (by omega)
      rw [outs_succ, List.length_append]; omega

def pack (xs : List UInt8) (s : Int) : List UInt8 × List Bk × Nat :=
  if s < 16 ∨ 4096 < s then ([], [], 1) else if 65536 < xs.length then ([], [], 2) else (outs xs s.toNat (cnt xs.length s.toNat), blks xs s.toNat (cnt xs.length s.toNat), 0)

def bad (ys : List UInt8) (b : Bk) : Prop := b.raw < 1 ∨ 4096 < b.raw ∨ b.pk < 1 ∨ b.raw < b.pk ∨ (ys.length : Int) ≠ b.pk ∨ ((Pure.sum ys : Nat) : Int) ≠ b.sum
instance (ys : List UInt8) (b : Bk) : Decidable (bad ys b) := by unfold bad; infer_instance
def opn (ys : List UInt8) (b : Bk) : List UInt8 × Nat :=
  if bad ys b then ([], 110) else if b.pk = b.raw then (ys, 0) else if (Prs.unpack ys b.raw).2 = 0 then ((Prs.unpack ys b.raw).1, 0) else ([], 110)
theorem opn_at (ys : List UInt8) (b : Bk) (a : Int) : opn ys { b with at_ := a } = opn ys b := rfl
/-- What was packed is opened. -/
theorem opn_pc (xs : List UInt8) (h0 : xs ≠ []) (h : xs.length ≤ 4096) (a : Int) : opn (sh xs) ⟨a, (sh xs).length, xs.length, Pure.sum (sh xs)⟩ = (xs, 0) := by
  have hp : 1 ≤ xs.length := List.length_pos_iff.2 h0
  have h1 := sh_pos xs h0
  have h2 := sh_len xs
  unfold opn
  rw [if_neg (by unfold bad; simp only; omega)]
  simp only
  unfold sh at h1 h2 ⊢
  split
  · next hl =>
    rw [if_neg (by omega), unpack_pack xs h]
    rfl
  · rw [if_pos rfl]

/-- The block k may be there. -/
def okAt (L : List Bk) (row s : Int) (k : Nat) : Prop :=
  (L.getD k bk0).raw = min ((k + 1) * s) row - k * s ∧ 1 ≤ (L.getD k bk0).pk ∧ (L.getD k bk0).pk ≤ (L.getD k bk0).raw ∧ 0 ≤ (L.getD k bk0).sum ∧ (L.getD k bk0).sum ≤ 4294967295 ∧ 0 ≤ (L.getD k bk0).at_ ∧ (L.getD k bk0).at_ ≤ 2147483647 ∧ (0 < k → (L.getD k bk0).at_ = (L.getD (k - 1) bk0).at_ + (L.getD (k - 1) bk0).pk)
instance (L : List Bk) (row s : Int) (k : Nat) : Decidable (okAt L row s k) := by unfold okAt; infer_instance
def okTo (L : List Bk) (row s : Int) (k : Nat) : Prop := ∀ j, j < k → okAt L row s j
theorem okTo_succ {L : List Bk} {row s : Int} {k : Nat} : okTo L row s (k + 1) ↔ okTo L row s k ∧ okAt L row s k := by
  constructor
  · exact fun h => ⟨fun j hj => h j (by omega), h k (by omega)⟩
  · rintro ⟨h1, h2⟩ j hj
    by_cases e : j = k
    · rw [e]; exact h2
    · exact h1 j (by omega)
def mayBe (n : Nat) (row s : Int) : Prop := 0 ≤ row ∧ row ≤ 65536 ∧ 16 ≤ s ∧ s ≤ 4096 ∧ (n : Int) = (row + s - 1) / s
instance (n : Nat) (row s : Int) : Decidable (mayBe n row s) := by unfold mayBe; infer_instance
open Classical in
noncomputable def valid (L : List Bk) (row s : Int) : Bool := decide (mayBe L.length row s ∧ okTo L row s L.length)

/-- The blocks of a row are valid. -/
theorem valid_blks (xs : List UInt8) (s : Nat) (h1 : 16 ≤ s) (h2 : s ≤ 4096) (hx : xs.length ≤ 65536) : valid (blks xs s (cnt xs.length s)) xs.length s = true := by
  unfold valid
  simp only [decide_eq_true_eq]
  refine ⟨⟨by omega, by omega, by omega, by omega, ?_⟩, ?_⟩
  · rw [blks_len]; unfold cnt; rw [Int.natCast_ediv]; congr 1; omega
  · intro k hk
    rw [blks_len] at hk
    have hq := (cnt_lt (by omega)).1 hk
    have hl := pc_len xs s k
    have ho := outs_len xs s k
    have hne : pc xs s k ≠ [] := by intro h; rw [h] at hl; simp at hl; omega
    have hp := sh_pos _ hne
    have hs := sh_len (pc xs s k)
    have hsum : Pure.sum (sh (pc xs s k)) ≤ 4294967295 := Nat.sub_le _ _
    unfold okAt
    rw [blks_at _ _ _ _ hk]
    have e1 : (k : Int) * (s : Int) = ((k * s : Nat) : Int) := by push_cast; rfl
    have e2 : ((k : Int) + 1) * (s : Int) = ((k * s : Nat) : Int) + s := by push_cast; rw [Int.add_mul, Int.one_mul]
    rw [e1, e2]
    simp only [bk]
    generalize k * s = q at *
    refine ⟨by rw [hl]; omega, by omega, by omega, by omega, by omega, by omega, by omega, ?_⟩
    intro hk0
    obtain ⟨j, rfl⟩ : ∃ j, k = j + 1 := ⟨k - 1, by omega⟩
    rw [Nat.add_sub_cancel, blks_at _ _ _ _ (by omega), outs_succ, List.length_append]
    simp only [bk]
    omega

def okCov (s a n : Int) : Prop := 16 ≤ s ∧ s ≤ 4096 ∧ 0 ≤ a ∧ a ≤ 2147483647 ∧ 1 ≤ n ∧ n ≤ 2147483647
instance (s a n : Int) : Decidable (okCov s a n) := by unfold okCov; infer_instance
def cover (s a n : Int) : Int × Int := if okCov s a n then (a / s, (a + n - 1) / s + 1) else (0, 0)
end Blk

end Go.Proofs.Ytdnbpklnkmgmkaa
