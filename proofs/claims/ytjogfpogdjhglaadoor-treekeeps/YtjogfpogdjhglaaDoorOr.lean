/-
  Contract: freightlaw7.digits. (Seat ..ab.)
-/
import Derived.Test.YtjogfpogdjhglaaDoorNm
namespace Go.Proofs.YtjogfpogdjhglaaDoor
open Go.RowKit
set_option linter.unusedVariables false
set_option linter.unusedSimpArgs false

/-- A number below 100 in decimal digits. -/
def dig (n : Nat) : List UInt8 := if n < 10 then [UInt8.ofNat (48 + n)] else [UInt8.ofNat (48 + n / 10), UInt8.ofNat (48 + n % 10)]
theorem str_cat (xs ys : List UInt8) : (ByteArray.mk xs.toArray) ++ (ByteArray.mk ys.toArray) = ByteArray.mk (xs ++ ys).toArray := by
  apply ByteArray.ext
  simp [ByteArray.data_append]

set_option maxHeartbeats 1600000 in
set_option maxRecDepth 100000 in
theorem digits_ok (n : Nat) (hn : n < 100) (w : World) :
    Calls Tryd.prog 11 #[.int .i64 n] w fun r w' => r = .returned (.string ⟨(dig n).toArray⟩) ∧ Kept [] w w' := by
  go_enter Tryd.func11, Tryd.ntmps11
  go_wp2
  go_loopw [0, 3] (fun x y wr => ∃ (k : Nat) (s : List UInt8), x = .int .i64 k ∧ y = .string ⟨s.toArray⟩ ∧ k < 100 ∧ Hid (((k = n ∧ s = []) ∨ (k < 10 ∧ 10 ≤ n ∧ k = n / 10 ∧ s = [UInt8.ofNat (48 + n % 10)])) ∧ Kept [] w wr)) (fun x y wr => (intOf x).toNat)
  case atStart => exact ⟨n, [], rfl, rfl, hn, .inl ⟨rfl, rfl⟩, Kept.refl _ _⟩
  case round =>
    obtain ⟨k, s, rfl, rfl, hk, HS⟩ := hrel
    have e1 : Int.tmod (k : Int) 10 = ((k % 10 : Nat) : Int) := by rw [Int.tmod_eq_emod_of_nonneg (by omega)]; omega
    have e2 : Int.tdiv (k : Int) 10 = ((k / 10 : Nat) : Int) := by rw [Int.tdiv_eq_ediv_of_nonneg (by omega)]; omega
    obtain ⟨x, hx⟩ : ∃ x : UInt8, x = UInt8.ofNat (48 + k % 10) := ⟨_, rfl⟩
    have hx2 : x.toNat = 48 + k % 10 := by rw [hx]; simp [UInt8.toNat_ofNat', Nat.mod_eq_of_lt (show 48 + k % 10 < 256 by omega)]
    have hw8 : IntKind.u8.wrap (48 + ((k % 10 : Nat) : Int)) = (x.toNat : Int) := by rw [hx2, IntKind.wrap_u8]; omega
    have hkm : k % 10 < 10 := by omega
    have HX := hide (And.intro hx hx2)
    have kN : Kept [] wr (wr.alloc (.cells #[.int .u8 x.toNat] 5)) := (Kept.refl [] wr).alloc _
    have hcv := conv_sl (wr.alloc (.cells #[.int .u8 x.toNat] 5)) (some ⟨wr.heap.size, 0, none⟩) 1 1 [x] rfl (Sl.of (fun i hi => by
      have hnew := heap_new wr (.cells #[.int .u8 x.toNat] 5)
      rw [Nat.zero_add, cell_of_row _ _ _ _ _ _ hnew]
      obtain rfl : i = 0 := by simp at hi; omega
      rfl)) (by simp)
    have hct : (ByteArray.mk [x].toArray) ++ (ByteArray.mk s.toArray) = ByteArray.mk (x :: s).toArray := str_cat [x] s
    have hsl : ¬ (9223372036854775807 < 1 + s.length) := by rcases HS.out.1 with ⟨_, rfl⟩ | ⟨_, _, _, rfl⟩ <;> simp
    have hdl : k / 10 < 10 := by omega
    obtain ⟨q, hq⟩ : ∃ q, k / 10 = q := ⟨_, rfl⟩
    obtain ⟨p, hp⟩ : ∃ p, k % 10 = p := ⟨_, rfl⟩
    have HQ := hide (And.intro hq hp)
    rw [hq] at e2 hdl
    rw [hp] at e1 hw8 hkm
    clear hx hx2 hq hp
    by_cases hz : q = 0
    · subst hz
      have HK := hide (HS.out.2.trans kN (by simp))
      clear kN
      go_wp2
      go_ret
      refine ⟨?_, HK.out⟩
      obtain ⟨h1, h2⟩ := HQ.out
      obtain ⟨h3, h4⟩ := HX.out
      rcases HS.out.1 with ⟨rfl, rfl⟩ | ⟨q1, q2, rfl, rfl⟩
      · have : dig k = [x] := by unfold dig; rw [if_pos (by omega), h3, show k % 10 = k by omega]
        rw [this]; rfl
      · have : dig n = [x, UInt8.ofNat (48 + n % 10)] := by unfold dig; rw [if_neg (by omega), h3, show n / 10 % 10 = n / 10 by omega]
        rw [this]; rfl
    · have hz2 : ((q : Int) == 0) = false := by simp; omega
      have HN : Hid (k = n ∧ s = [] ∧ 10 ≤ n ∧ q = n / 10 ∧ x = UInt8.ofNat (48 + n % 10) ∧ q < 10 ∧ q < k) := by
        obtain ⟨h1, h2⟩ := HQ.out
        rcases HS.out.1 with ⟨rfl, rfl⟩ | ⟨q1, _⟩
        · exact ⟨rfl, rfl, by omega, by omega, HX.out.1, by omega, by omega⟩
        · omega
      have HK := hide (HS.out.2.trans kN (by simp))
      clear kN HS
      go_wp2
      go_roundw
      case rel => exact ⟨q, x :: s, rfl, rfl, by omega, .inr (by obtain ⟨_, rfl, h3, h4, h5, h6, _⟩ := HN.out; exact ⟨h6, h3, h4, by rw [h5]⟩), HK.out⟩
      case measure => have := HN.out.2.2.2.2.2.2; simp [intOf]; omega
end Go.Proofs.YtjogfpogdjhglaaDoor
