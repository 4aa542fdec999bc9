/-
  Hex and back, on plain lists.
-/
import Derived.Test.YthfbpbibpgblaaaDx3
namespace Go.Proofs.Ythfbpbibpgblaaa
open Go.RowKit
set_option linter.unusedVariables false
set_option linter.unusedSimpArgs false

theorem hex_at (id : List UInt8) : ∀ i, i < id.length → (hex id).getD (2 * i) 0 = hexD ((id.getD i 0).toNat / 16) ∧ (hex id).getD (2 * i + 1) 0 = hexD ((id.getD i 0).toNat % 16) := by
  induction id with
  | nil => intro i hi; simp at hi
  | cons b l ih =>
    intro i hi
    have e : hex (b :: l) = hexD (b.toNat / 16) :: hexD (b.toNat % 16) :: hex l := by simp [hex]
    rw [e]
    cases i with
    | zero => exact ⟨rfl, rfl⟩
    | succ i =>
      have := ih i (by simpa using hi)
      rw [show 2 * (i + 1) = 2 * i + 1 + 1 by omega]
      exact this
theorem dig_hexD : ∀ n, n < 16 → dig (hexD n).toNat = n := by decide
theorem hexD_dig : ∀ c : Nat, c < 256 → 0 ≤ dig c → (hexD (dig c).toNat).toNat = c := by decide +kernel

theorem hi_hex (id : List UInt8) (i : Nat) (h : i < id.length) : hiAt (hex id) i = ((id.getD i 0).toNat / 16 : Nat) := by
  unfold hiAt
  have := (id.getD i 0).toNat_lt
  rw [(hex_at id i h).1, dig_hexD _ (by omega)]
theorem lo_hex (id : List UInt8) (i : Nat) (h : i < id.length) : loAt (hex id) i = ((id.getD i 0).toNat % 16 : Nat) := by
  unfold loAt
  rw [(hex_at id i h).2, dig_hexD _ (by omega)]
theorem good_hex (id : List UInt8) (h : id.length = 32) : Good (hex id) := by
  refine ⟨by rw [hex_len, h], fun i hi => ?_⟩
  unfold Bad
  rw [hi_hex id i (by omega), lo_hex id i (by omega)]
  omega
theorem bytesOf_hex (id : List UInt8) (h : id.length = 32) : bytesOf (hex id) = id := by
  apply List.ext_getElem
  · rw [bytesOf_len, h]
  · intro i h1 h2
    have hb : byteAt (hex id) i = id.getD i 0 := by
      unfold byteAt
      have := (id.getD i 0).toNat_lt
      rw [hi_hex id i h2, lo_hex id i h2, show (16 * (((id.getD i 0).toNat / 16 : Nat) : Int) + (((id.getD i 0).toNat % 16 : Nat) : Int)).toNat = (id.getD i 0).toNat by omega]
      simp
    simp only [bytesOf, List.getElem_map, List.getElem_range]
    rw [hb]
    simp [List.getElem?_eq_getElem h2]
/-- What Hex writes Parse reads. -/
theorem parsed_hex (id : List UInt8) (h : id.length = 32) : parsed (hex id) = (id, 0) := by
  rw [parsed_good (good_hex id h), bytesOf_hex id h]
/-- What Parse takes Hex writes again. -/
theorem hex_bytesOf (t : List UInt8) (h : Good t) : hex (bytesOf t) = t := by
  have hlen : (hex (bytesOf t)).length = 64 := by rw [hex_len, bytesOf_len]
  have key : ∀ i, i < 32 → (hex (bytesOf t)).getD (2 * i) 0 = t.getD (2 * i) 0 ∧ (hex (bytesOf t)).getD (2 * i + 1) 0 = t.getD (2 * i + 1) 0 := fun i hi => by
    have hnb := h.2 i hi
    unfold Bad hiAt loAt at hnb
    have c0 := (t.getD (2 * i) 0).toNat_lt
    have c1 := (t.getD (2 * i + 1) 0).toNat_lt
    have d0 := dig_lt (t.getD (2 * i) 0).toNat
    have d1 := dig_lt (t.getD (2 * i + 1) 0).toNat
    have x0 := hexD_dig (t.getD (2 * i) 0).toNat c0 (by omega)
    have x1 := hexD_dig (t.getD (2 * i + 1) 0).toNat c1 (by omega)
    have hb : ((bytesOf t).getD i 0).toNat = (16 * dig (t.getD (2 * i) 0).toNat + dig (t.getD (2 * i + 1) 0).toNat).toNat := by
      have : (bytesOf t).getD i 0 = byteAt t i := by simp [bytesOf, hi]
      rw [this]
      unfold byteAt hiAt loAt
      rw [UInt8.toNat_ofNat', Nat.mod_eq_of_lt (by omega)]
    have ha := hex_at (bytesOf t) i (by rw [bytesOf_len]; exact hi)
    rw [hb] at ha
    rw [show (16 * dig (t.getD (2 * i) 0).toNat + dig (t.getD (2 * i + 1) 0).toNat).toNat / 16 = (dig (t.getD (2 * i) 0).toNat).toNat by omega, show (16 * dig (t.getD (2 * i) 0).toNat + dig (t.getD (2 * i + 1) 0).toNat).toNat % 16 = (dig (t.getD (2 * i + 1) 0).toNat).toNat by omega] at ha
    exact ⟨ha.1.trans (UInt8.toNat_inj.1 x0), ha.2.trans (UInt8.toNat_inj.1 x1)⟩
  apply List.ext_getElem
  · rw [hlen, h.1]
  · intro j h1 h2
    have hj : j < 64 := by omega
    have e : (hex (bytesOf t)).getD j 0 = t.getD j 0 := by
      rcases Nat.mod_two_eq_zero_or_one j with hm | hm
      · have := (key (j / 2) (by omega)).1
        rwa [show 2 * (j / 2) = j by omega] at this
      · have := (key (j / 2) (by omega)).2
        rwa [show 2 * (j / 2) + 1 = j by omega] at this
    simpa [List.getElem?_eq_getElem h1, List.getElem?_eq_getElem h2] using e
end Go.Proofs.Ythfbpbibpgblaaa
