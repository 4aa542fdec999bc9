/-
  Plain mathematics of chapter 1 (code): the sum of 32 bits. Nothing of the program.
-/
import Derived.Laws.BitsAllLaws
namespace Go.Proofs.Ytdnbpklnkmgmkaa.Pure

/-- What four turns of the register make of its lowest four bits. -/
def tbl : List Nat := [0, 498536548, 997073096, 651767980, 1994146192, 1802195444, 1303535960, 1342533948, 3988292384, 4027552580, 3604390888, 3412177804, 2607071920, 2262029012, 2685067896, 3183342108]
def tb (i : Nat) : Nat := tbl.getD i 0
theorem tb_lt (i : Nat) : tb i < 4294967296 := by
  unfold tb
  by_cases h : i < 16
  · have : ∀ i, i < 16 → tbl.getD i 0 < 4294967296 := by decide
    exact this i h
  · have : tbl.length ≤ i := by simp [tbl]; omega
    simp [List.getElem?_eq_none this]
theorem xor_lt32 {a b : Nat} (ha : a < 4294967296) (hb : b < 4294967296) : a ^^^ b < 4294967296 := Nat.xor_lt_two_pow (n := 32) ha hb
/-- Four turns of the register. -/
def nib (y : Nat) : Nat := (y / 16) ^^^ tb (y % 16)
theorem nib_lt {y : Nat} (h : y < 4294967296) : nib y < 4294967296 := xor_lt32 (by omega) (tb_lt _)
/-- The register behind one byte more. -/
def crcStep (x c : Nat) : Nat := nib (nib (x ^^^ c))
theorem crcStep_lt {x c : Nat} (h : x < 4294967296) (hc : c < 4294967296) : crcStep x c < 4294967296 := nib_lt (nib_lt (xor_lt32 h hc))
/-- The register behind bytes. -/
def crc (x : Nat) (l : List UInt8) : Nat := l.foldl (fun x c => crcStep x c.toNat) x
theorem crc_snoc (x : Nat) (l : List UInt8) (c : UInt8) : crc x (l ++ [c]) = crcStep (crc x l) c.toNat := by simp [crc]
theorem crc_lt {x : Nat} (h : x < 4294967296) (l : List UInt8) : crc x l < 4294967296 := by
  induction l generalizing x with
  | nil => exact h
  | cons c l ih => exact ih (crcStep_lt h (Nat.lt_trans (UInt8.toNat_lt c) (by omega)))
theorem ones_xor {x : Nat} (h : x < 4294967296) : 4294967295 ^^^ x = 4294967295 - x := by
  have h1 : (BitVec.allOnes 32 ^^^ BitVec.ofNat 32 x).toNat = (~~~ (BitVec.ofNat 32 x)).toNat := by rw [BitVec.allOnes_xor]
  rw [BitVec.toNat_xor, BitVec.toNat_not, BitVec.toNat_allOnes, BitVec.toNat_ofNat, Nat.mod_eq_of_lt (by omega)] at h1
  simpa using h1
/-- The sum of bytes. -/
def sum (l : List UInt8) : Nat := 4294967295 - crc 4294967295 l

theorem take_snoc {α : Type} (l : List α) (d : α) (k : Nat) (h : k < l.length) : l.take (k + 1) = l.take k ++ [l.getD k d] := by
  rw [List.take_succ_eq_append_getElem h]; simp [List.getElem?_eq_getElem h]

end Go.Proofs.Ytdnbpklnkmgmkaa.Pure
