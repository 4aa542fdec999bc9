/-
  The sum of a window as mathematics. Nothing of the program.
-/
import Derived.WalkKit
namespace Go.Proofs.Ytjfekdcghgpchaa
set_option linter.unusedVariables false

namespace Rol

/-- The sum of the bytes. -/
def S : List UInt8 → Nat
  | [] => 0
  | x :: l => x.toNat + S l

/-- Each byte as often as it stands from the end. -/
def T : List UInt8 → Nat
  | [] => 0
  | x :: l => (l.length + 1) * x.toNat + T l

theorem S_append (a b : List UInt8) : S (a ++ b) = S a + S b := by
  induction a with
  | nil => simp [S]
  | cons x l ih => simp only [List.cons_append, S, ih]; omega
theorem S_snoc (a : List UInt8) (c : UInt8) : S (a ++ [c]) = S a + c.toNat := by rw [S_append]; simp [S]

theorem T_snoc (a : List UInt8) (c : UInt8) : T (a ++ [c]) = T a + S (a ++ [c]) := by
  induction a with
  | nil => simp [T, S]
  | cons x l ih =>
    simp only [List.cons_append, T, S, ih, List.length_append, List.length_cons, List.length_nil]
    rw [Nat.add_mul (l.length + (0 + 1)) 1, Nat.one_mul]
    have : (l.length + (0 + 1)) * x.toNat = (l.length + 1) * x.toNat := by simp
    omega

/-- The two parts, and the sum. -/
def pa (l : List UInt8) : Nat := S l % 65536
def pb (l : List UInt8) : Nat := T l % 65536
def sum (l : List UInt8) : Nat := pa l + 65536 * pb l

theorem pa_lt (l : List UInt8) : pa l < 65536 := Nat.mod_lt _ (by omega)
theorem pb_lt (l : List UInt8) : pb l < 65536 := Nat.mod_lt _ (by omega)
theorem pa_nil : pa [] = 0 := rfl
theorem pb_nil : pb [] = 0 := rfl
theorem sum_lt (l : List UInt8) : sum l < 4294967296 := by have := pa_lt l; have := pb_lt l; unfold sum; omega

theorem pa_snoc (l : List UInt8) (c : UInt8) : pa (l ++ [c]) = (pa l + c.toNat) % 65536 := by unfold pa; rw [S_snoc]; omega
theorem pb_snoc (l : List UInt8) (c : UInt8) : pb (l ++ [c]) = (pb l + pa (l ++ [c])) % 65536 := by unfold pb pa; rw [T_snoc]; omega

/-- One step: the first goes, one comes in at the end. -/
theorem pa_move (x : UInt8) (l : List UInt8) (c : UInt8) : pa (l ++ [c]) = (pa (x :: l) + 65536 - x.toNat + c.toNat) % 65536 := by
  have := UInt8.toNat_lt x
  unfold pa; rw [S_snoc]; simp only [S]; omega

theorem pb_move (x : UInt8) (l : List UInt8) (c : UInt8) : pb (l ++ [c]) = (pb (x :: l) + 65536 - ((l.length + 1) * x.toNat) % 65536 + pa (l ++ [c])) % 65536 := by
  unfold pb pa; rw [T_snoc]; simp only [T]
  generalize (l.length + 1) * x.toNat = y
  omega

theorem sum_mod (l : List UInt8) : sum l % 65536 = pa l := by have := pa_lt l; unfold sum; omega
theorem sum_div (l : List UInt8) : sum l / 65536 = pb l := by have := pa_lt l; unfold sum; omega
theorem sum_zero (l : List UInt8) : sum (0 :: l) = sum l := by
  unfold sum pa pb; simp [S, T]

end Rol
end Go.Proofs.Ytjfekdcghgpchaa
