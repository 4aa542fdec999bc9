/-
  Packed bytes as mathematics: unpacking as a function of bytes, items as bytes in groups, there and back. Nothing of the program.
-/
import Derived.Test.YtdnbpklnkmgmkaaQp1
namespace Go.Proofs.Ytdnbpklnkmgmkaa
set_option linter.unusedVariables false

namespace Prs

theorem copied_snoc (d : Nat) : ∀ (k : Nat) (out : List UInt8), copied d (k + 1) out = copied d k out ++ [(copied d k out).getD ((copied d k out).length - d) 0]
  | 0, out => rfl
  | k + 1, out => by
    rw [copied, copied_snoc d k]
    rfl

/-- Unpacking: k items of this group are still to come, their bits are in flag. -/
def unp (n k flag : Nat) (xs out : List UInt8) : List UInt8 × Nat :=
  match k, xs with
  | 0, [] => if out.length < n then ([], 41) else (out, 0)
  | 0, [_] => ([], 40)
  | 0, x :: y :: r => unp n 8 x.toNat (y :: r) out
  | k + 1, [] => if flag % 2 = 1 then ([], 40) else unp n k (flag / 2) [] out
  | k + 1, [x] => if flag % 2 = 1 then ([], 40) else if out.length = n then ([], 41) else unp n k (flag / 2) [] (out ++ [x])
  | k + 1, x :: y :: r =>
    if flag % 2 = 1 then
      if out.length < (256 * x.toNat + y.toNat) / 64 + 1 then ([], 40)
      else if n < out.length + (256 * x.toNat + y.toNat) % 64 + 3 then ([], 41)
      else unp n k (flag / 2) r (copied ((256 * x.toNat + y.toNat) / 64 + 1) ((256 * x.toNat + y.toNat) % 64 + 3) out)
    else if out.length = n then ([], 41) else unp n k (flag / 2) (y :: r) (out ++ [x])
termination_by 10 * xs.length + k

theorem unp_end (n flag : Nat) (out : List UInt8) : unp n 0 flag [] out = if out.length < n then ([], 41) else (out, 0) := by rw [unp]
theorem unp_one (n flag : Nat) (x : UInt8) (out : List UInt8) : unp n 0 flag [x] out = ([], 40) := by rw [unp]
theorem unp_flag (n flag : Nat) (x y : UInt8) (r out : List UInt8) : unp n 0 flag (x :: y :: r) out = unp n 8 x.toNat (y :: r) out := by rw [unp]
theorem unp_gap1 (n k flag : Nat) (out : List UInt8) (h : flag % 2 = 1) : unp n (k + 1) flag [] out = ([], 40) := by rw [unp, if_pos h]
theorem unp_gap0 (n k flag : Nat) (out : List UInt8) (h : flag % 2 = 0) : unp n (k + 1) flag [] out = unp n k (flag / 2) [] out := by rw [unp, if_neg (by omega)]
theorem unp_half (n k flag : Nat) (x : UInt8) (out : List UInt8) (h : flag % 2 = 1) : unp n (k + 1) flag [x] out = ([], 40) := by rw [unp, if_pos h]
theorem unp_full (n k flag : Nat) (x : UInt8) (r out : List UInt8) (h : flag % 2 = 0) (h2 : out.length = n) : unp n (k + 1) flag (x :: r) out = ([], 41) := by
  cases r with
  | nil => rw [unp, if_neg (by omega), if_pos h2]
  | cons y r => rw [unp, if_neg (by omega), if_pos h2]
theorem unp_lit (n k flag : Nat) (x : UInt8) (r out : List UInt8) (h : flag % 2 = 0) (h2 : out.length ≠ n) : unp n (k + 1) flag (x :: r) out = unp n k (flag / 2) r (out ++ [x]) := by
  cases r with
  | nil => rw [unp, if_neg (by omega), if_neg h2]
  | cons y r => rw [unp, if_neg (by omega), if_neg h2]
theorem unp_far (n k flag : Nat) (x y : UInt8) (r out : List UInt8) (h : flag % 2 = 1) (h2 : out.length < (256 * x.toNat + y.toNat) / 64 + 1) : unp n (k + 1) flag (x :: y :: r) out = ([], 40) := by
  rw [unp, if_pos h, if_pos h2]
theorem unp_long (n k flag : Nat) (x y : UInt8) (r out : List UInt8) (h : flag % 2 = 1) (h2 : ¬ out.length < (256 * x.toNat + y.toNat) / 64 + 1) (h3 : n < out.length + (256 * x.toNat + y.toNat) % 64 + 3) : unp n (k + 1) flag (x :: y :: r) out = ([], 41) := by
  rw [unp, if_pos h, if_neg h2, if_pos h3]
theorem unp_mat (n k flag : Nat) (x y : UInt8) (r out : List UInt8) (h : flag % 2 = 1) (h2 : ¬ out.length < (256 * x.toNat + y.toNat) / 64 + 1) (h3 : ¬ n < out.length + (256 * x.toNat + y.toNat) % 64 + 3) :
    unp n (k + 1) flag (x :: y :: r) out = unp n k (flag / 2) r (copied ((256 * x.toNat + y.toNat) / 64 + 1) ((256 * x.toNat + y.toNat) % 64 + 3) out) := by
  rw [unp, if_pos h, if_neg h2, if_neg h3]

/-- Behind the last byte: bits that are left offend. -/
theorem unp_gaps (n : Nat) (out : List UInt8) : ∀ k flag, flag < 2 ^ k → unp n k flag [] out = if flag = 0 then unp n 0 0 [] out else ([], 40)
  | 0, flag, h => by
    have : flag = 0 := by simpa using h
    subst this; simp
  | k + 1, flag, h => by
    have hp : 2 ^ (k + 1) = 2 * 2 ^ k := by rw [Nat.pow_succ]; omega
    by_cases h1 : flag % 2 = 1
    · rw [unp_gap1 _ _ _ _ h1, if_neg (by omega)]
    · rw [unp_gap0 _ _ _ _ (by omega), unp_gaps n out k (flag / 2) (by omega)]
      by_cases h0 : flag = 0
      · subst h0; simp
      · rw [if_neg h0, if_neg (by omega)]

/-- What comes has just n bytes, at most 33 for each packed byte. -/
theorem unp_ok (n k flag : Nat) (xs out r : List UInt8) (h : unp n k flag xs out = (r, 0)) (hl : out.length ≤ n) : r.length = n ∧ r.length ≤ out.length + 33 * xs.length := by
  induction k, flag, xs, out using unp.induct (n := n) with
  | case1 flag out h1 => rw [unp_end, if_pos h1] at h; simp at h
  | case2 flag out h1 => rw [unp_end, if_neg h1] at h; simp at h; subst h; exact ⟨by omega, by simp⟩
  | case3 flag out x => rw [unp_one] at h; simp at h
  | case4 flag out x y r ih => rw [unp_flag] at h; have := ih h hl; simp at this ⊢; omega
  | case5 flag out k h1 => rw [unp_gap1 _ _ _ _ h1] at h; simp at h
  | case6 flag out k h1 ih => rw [unp_gap0 _ _ _ _ (by omega)] at h; exact ih h hl
  | case7 flag out k x h1 => rw [unp_half _ _ _ _ _ h1] at h; simp at h
  | case8 flag out k x h1 h2 => rw [unp_full _ _ _ _ _ _ (by omega) h2] at h; simp at h
  | case9 flag out k x h1 h2 ih => rw [unp_lit _ _ _ _ _ _ (by omega) h2] at h; have := ih h (by simp; omega); simp at this ⊢; omega
  | case10 flag out k x y r h1 h2 => rw [unp_far _ _ _ _ _ _ _ h1 h2] at h; simp at h
  | case11 flag out k x y r h1 h2 h3 => rw [unp_long _ _ _ _ _ _ _ h1 h2 h3] at h; simp at h
  | case12 flag out k x y r h1 h2 h3 ih =>
    rw [unp_mat _ _ _ _ _ _ _ h1 h2 h3] at h
    have := ih h (by rw [copied_len]; omega)
    rw [copied_len] at this
    simp only [List.length_cons]
    omega
  | case13 flag out k x y r h1 h2 => rw [unp_full _ _ _ _ _ _ (by omega) h2] at h; simp at h
  | case14 flag out k x y r h1 h2 ih => rw [unp_lit _ _ _ _ _ _ (by omega) h2] at h; have := ih h (by simp; omega); simp at this ⊢; omega

/-- Whatever is taken for two numbers is one row. -/
theorem unp_same (n k flag : Nat) (xs out r : List UInt8) (m : Nat) (r' : List UInt8) (h : unp n k flag xs out = (r, 0)) (h' : unp m k flag xs out = (r', 0)) : r = r' := by
  induction k, flag, xs, out using unp.induct (n := n) with
  | case1 flag out h1 => rw [unp_end, if_pos h1] at h; simp at h
  | case2 flag out h1 =>
    rw [unp_end, if_neg h1] at h
    rw [unp_end] at h'
    by_cases h2 : out.length < m
    · rw [if_pos h2] at h'; simp at h'
    · rw [if_neg h2] at h'; simp at h h'; rw [← h, ← h']
  | case3 flag out x => rw [unp_one] at h; simp at h
  | case4 flag out x y r ih => rw [unp_flag] at h h'; exact ih h h'
  | case5 flag out k h1 => rw [unp_gap1 _ _ _ _ h1] at h; simp at h
  | case6 flag out k h1 ih => rw [unp_gap0 _ _ _ _ (by omega)] at h h'; exact ih h h'
  | case7 flag out k x h1 => rw [unp_half _ _ _ _ _ h1] at h; simp at h
  | case8 flag out k x h1 h2 => rw [unp_full _ _ _ _ _ _ (by omega) h2] at h; simp at h
  | case9 flag out k x h1 h2 ih =>
    rw [unp_lit _ _ _ _ _ _ (by omega) h2] at h
    by_cases h3 : out.length = m
    · rw [unp_full _ _ _ _ _ _ (by omega) h3] at h'; simp at h'
    · rw [unp_lit _ _ _ _ _ _ (by omega) h3] at h'; exact ih h h'
  | case10 flag out k x y r h1 h2 => rw [unp_far _ _ _ _ _ _ _ h1 h2] at h; simp at h
  | case11 flag out k x y r h1 h2 h3 => rw [unp_long _ _ _ _ _ _ _ h1 h2 h3] at h; simp at h
  | case12 flag out k x y r h1 h2 h3 ih =>
    rw [unp_mat _ _ _ _ _ _ _ h1 h2 h3] at h
    by_cases h4 : m < out.length + (256 * x.toNat + y.toNat) % 64 + 3
    · rw [unp_long _ _ _ _ _ _ _ h1 h2 h4] at h'; simp at h'
    · rw [unp_mat _ _ _ _ _ _ _ h1 h2 h4] at h'; exact ih h h'
  | case13 flag out k x y r h1 h2 => rw [unp_full _ _ _ _ _ _ (by omega) h2] at h; simp at h
  | case14 flag out k x y r h1 h2 ih =>
    rw [unp_lit _ _ _ _ _ _ (by omega) h2] at h
    by_cases h3 : out.length = m
    · rw [unp_full _ _ _ _ _ _ (by omega) h3] at h'; simp at h'
    · rw [unp_lit _ _ _ _ _ _ (by omega) h3] at h'; exact ih h h'

/-- Never more than n bytes. -/
theorem unp_len (n k flag : Nat) (xs out : List UInt8) (hl : out.length ≤ n) : (unp n k flag xs out).1.length ≤ n := by
  induction k, flag, xs, out using unp.induct (n := n) with
  | case1 flag out h1 => rw [unp_end, if_pos h1]; simp
  | case2 flag out h1 => rw [unp_end, if_neg h1]; exact hl
  | case3 flag out x => rw [unp_one]; simp
  | case4 flag out x y r ih => rw [unp_flag]; exact ih hl
  | case5 flag out k h1 => rw [unp_gap1 _ _ _ _ h1]; simp
  | case6 flag out k h1 ih => rw [unp_gap0 _ _ _ _ (by omega)]; exact ih hl
  | case7 flag out k x h1 => rw [unp_half _ _ _ _ _ h1]; simp
  | case8 flag out k x h1 h2 => rw [unp_full _ _ _ _ _ _ (by omega) h2]; simp
  | case9 flag out k x h1 h2 ih => rw [unp_lit _ _ _ _ _ _ (by omega) h2]; exact ih (by simp; omega)
  | case10 flag out k x y r h1 h2 => rw [unp_far _ _ _ _ _ _ _ h1 h2]; simp
  | case11 flag out k x y r h1 h2 h3 => rw [unp_long _ _ _ _ _ _ _ h1 h2 h3]; simp
  | case12 flag out k x y r h1 h2 h3 ih => rw [unp_mat _ _ _ _ _ _ _ h1 h2 h3]; exact ih (by rw [copied_len]; omega)
  | case13 flag out k x y r h1 h2 => rw [unp_full _ _ _ _ _ _ (by omega) h2]; simp
  | case14 flag out k x y r h1 h2 ih => rw [unp_lit _ _ _ _ _ _ (by omega) h2]; exact ih (by simp; omega)

/-- With an error nothing comes. -/
theorem unp_err (n k flag : Nat) (xs out : List UInt8) : (unp n k flag xs out).2 = 0 ∨ (unp n k flag xs out).1 = [] := by
  induction k, flag, xs, out using unp.induct (n := n) with
  | case1 flag out h1 => rw [unp_end, if_pos h1]; simp
  | case2 flag out h1 => rw [unp_end, if_neg h1]; simp
  | case3 flag out x => rw [unp_one]; simp
  | case4 flag out x y r ih => rw [unp_flag]; exact ih
  | case5 flag out k h1 => rw [unp_gap1 _ _ _ _ h1]; simp
  | case6 flag out k h1 ih => rw [unp_gap0 _ _ _ _ (by omega)]; exact ih
  | case7 flag out k x h1 => rw [unp_half _ _ _ _ _ h1]; simp
  | case8 flag out k x h1 h2 => rw [unp_full _ _ _ _ _ _ (by omega) h2]; simp
  | case9 flag out k x h1 h2 ih => rw [unp_lit _ _ _ _ _ _ (by omega) h2]; exact ih
  | case10 flag out k x y r h1 h2 => rw [unp_far _ _ _ _ _ _ _ h1 h2]; simp
  | case11 flag out k x y r h1 h2 h3 => rw [unp_long _ _ _ _ _ _ _ h1 h2 h3]; simp
  | case12 flag out k x y r h1 h2 h3 ih => rw [unp_mat _ _ _ _ _ _ _ h1 h2 h3]; exact ih
  | case13 flag out k x y r h1 h2 => rw [unp_full _ _ _ _ _ _ (by omega) h2]; simp
  | case14 flag out k x y r h1 h2 ih => rw [unp_lit _ _ _ _ _ _ (by omega) h2]; exact ih

/-- Unpack. -/
def unpack (xs : List UInt8) (n : Int) : List UInt8 × Nat := if n < 0 ∨ 4096 < n then ([], 1) else unp n.toNat 0 0 xs []

theorem unpack_len (xs : List UInt8) (n : Int) : (unpack xs n).1.length ≤ 4096 := by
  unfold unpack
  split
  · simp
  · have := unp_len n.toNat 0 0 xs [] (by simp); omega
theorem unpack_err (xs : List UInt8) (n : Int) : (unpack xs n).2 = 0 ∨ (unpack xs n).1 = [] := by
  unfold unpack
  split
  · simp
  · exact unp_err _ _ _ _ _

end Prs
end Go.Proofs.Ytdnbpklnkmgmkaa
