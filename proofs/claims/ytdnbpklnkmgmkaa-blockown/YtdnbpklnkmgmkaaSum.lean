/-
  Contracts: code.Sum, and small words on worlds.
-/
import Derived.Test.YtdnbpklnkmgmkaaProg
import Derived.Test.YtdnbpklnkmgmkaaPure
import Derived.Test.YtdnbpklnkmgmkaaMem
namespace Go.Proofs.Ytdnbpklnkmgmkaa
open Go.RowKit
set_option linter.unusedVariables false

set_option maxHeartbeats 400000 in
theorem sum_some (b off len cap : Nat) (xs : List UInt8) (w : World) (hm : len ≤ 9223372036854775807) (hb : b < w.heap.size) (hl : xs.length = len) (hc : ∀ i, i < xs.length → w.cell? ⟨b, off + i, none⟩ = some (.int .u8 (xs.getD i 0).toNat)) :
    Calls Try.prog 32 #[.slice (some ⟨b, off, none⟩) len cap] w fun e w' => e = .returned (.int .i64 (Pure.sum xs)) ∧ Below w.heap.size w w' := by
  go_enter Try.func32, Try.ntmps32
  go_wp2
  have hB : Below w.heap.size w (w.alloc (.cells ((Pure.tbl.map (fun n : Nat => Value.int .u32 n)).toArray) 80)) := (Below.refl _ _).alloc (Nat.le_refl _) _
  have hT : ∀ i : Nat, i < 16 → (w.alloc (.cells ((Pure.tbl.map (fun n : Nat => Value.int .u32 n)).toArray) 80)).cell? ⟨w.heap.size, i, none⟩ = some (.int .u32 (Pure.tb i)) := by
    intro i hi
    rw [World.cell?_alloc_new]
    simp [Pure.tb, List.getElem?_map, List.getElem?_eq_getElem (show i < Pure.tbl.length from hi)]
  have hC : ∀ i, i < len → (w.alloc (.cells ((Pure.tbl.map (fun n : Nat => Value.int .u32 n)).toArray) 80)).cell? ⟨b, off + i, none⟩ = some (.int .u8 (xs.getD i 0).toNat) := by
    intro i hi
    rw [World.cell?_alloc_lt _ _ _ hb]; exact hc i (by omega)
  simp only [Pure.tbl, List.map] at hB hT hC
  generalize w.alloc _ = w1 at hB hT hC ⊢
  go_loop [4, 10] (fun r i => ∃ k : Nat, k ≤ len ∧ i = .int .i64 k ∧ r = .int .u32 (Pure.crc 4294967295 (xs.take k))) (fun _ i => len - (intOf i).toNat)
  case atStart => exact ⟨0, Nat.zero_le _, rfl, rfl⟩
  case round =>
    obtain ⟨k, hk, rfl, rfl⟩ := hrel
    have hx1 : Pure.crc 4294967295 (xs.take k) < 4294967296 := Pure.crc_lt (by omega) _
    by_cases hlt : k < len
    · have hcell := hC k hlt
      have hcb : (xs.getD k 0).toNat < 256 := UInt8.toNat_lt _
      have HS : Hid (Pure.crc 4294967295 (xs.take (k + 1)) = Pure.crcStep (Pure.crc 4294967295 (xs.take k)) (xs.getD k 0).toNat) := by
        show _ = _
        rw [Pure.take_snoc xs 0 k (by omega), Pure.crc_snoc]
      generalize Pure.crc 4294967295 (xs.take k) = x at hx1 HS ⊢
      generalize (xs.getD k 0).toNat = c at hcell hcb HS
      have e1 := u32_xor_nat x c hx1 (by omega)
      have b1 := Pure.xor_lt32 hx1 (show c < 4294967296 by omega)
      have e2 : bits .and .u32 ((x ^^^ c : Nat) : Int) 15 = (((x ^^^ c) % 16 : Nat) : Int) := by rw [← nat_mask4]; exact u32_and_nat (x ^^^ c) 15 b1 (by omega)
      have e3 : bits .xor .u32 ((x ^^^ c : Nat) / 16 : Int) (Pure.tb ((x ^^^ c) % 16)) = (Pure.nib (x ^^^ c) : Nat) := by
        rw [show ((x ^^^ c : Nat) / 16 : Int) = (((x ^^^ c) / 16 : Nat) : Int) by omega]
        exact u32_xor_nat _ _ (by omega) (Pure.tb_lt _)
      have HS' : Hid (Pure.crc 4294967295 (xs.take (k + 1)) = Pure.nib (Pure.nib (x ^^^ c))) := HS
      clear HS
      have b2 := Pure.nib_lt b1
      have hT1 := hT ((x ^^^ c) % 16) (by omega)
      generalize x ^^^ c = y at e1 b1 e2 e3 b2 hT1 HS'
      have e4 : bits .and .u32 (Pure.nib y : Int) 15 = ((Pure.nib y % 16 : Nat) : Int) := by rw [← nat_mask4]; exact u32_and_nat _ 15 b2 (by omega)
      have e5 : bits .xor .u32 (Pure.nib y / 16 : Int) (Pure.tb (Pure.nib y % 16)) = (Pure.nib (Pure.nib y) : Nat) := by
        rw [show (Pure.nib y / 16 : Int) = ((Pure.nib y / 16 : Nat) : Int) by omega]
        exact u32_xor_nat _ _ (by omega) (Pure.tb_lt _)
      have hT2 := hT (Pure.nib y % 16) (by omega)
      clear hC hc hB hT
      go_wp2
      go_round
      case rel => exact ⟨k + 1, by omega, by go_num, by rw [HS'.out]⟩
      case measure => simp [intOf]; omega
    · have HT : Hid (xs.take k = xs) := List.take_of_length_le (by omega)
      have hsg : IntKind.u32.signed = false := rfl
      have e6 : bits .xor .u32 IntKind.u32.max (Pure.crc 4294967295 (xs.take k)) = (Pure.sum xs : Nat) := by
        have := u32_xor_nat 4294967295 _ (by omega) hx1
        rw [Pure.ones_xor hx1, HT.out] at this
        rw [HT.out]
        exact this
      have hsl : Pure.sum xs ≤ 4294967295 := Nat.sub_le _ _
      clear hC hc hT
      generalize Pure.crc 4294967295 (xs.take k) = x at e6 ⊢
      go_wp2
      go_ret
      exact ⟨rfl, hB⟩

set_option maxHeartbeats 400000 in
theorem sum_empty (ao : Option Addr) (cap : Nat) (w : World) :
    Calls Try.prog 32 #[.slice ao 0 cap] w fun e w' => e = .returned (.int .i64 (Pure.sum [])) ∧ Below w.heap.size w w' := by
  have hsg : IntKind.u32.signed = false := rfl
  have e6 : bits .xor .u32 IntKind.u32.max 4294967295 = 0 := rfl
  go_enter Try.func32, Try.ntmps32
  go_wp2
  go_loop [4, 10] (fun r i => i = .int .i64 0 ∧ r = .int .u32 4294967295) (fun _ i => 0)
  case atStart => exact ⟨rfl, rfl⟩
  case round =>
    obtain ⟨rfl, rfl⟩ := hrel
    go_wp2
    go_ret
    exact ⟨rfl, (Below.refl _ _).alloc (Nat.le_refl _) _⟩

/-- code.Sum: the sum of the bytes; nothing that was there turns. -/
theorem sum_any (ao : Option Addr) (cap : Nat) (xs : List UInt8) (w : World) (hm : xs.length ≤ 9223372036854775807) (h : Sl w ao xs) :
    Calls Try.prog 32 #[.slice ao xs.length cap] w fun e w' => e = .returned (.int .i64 (Pure.sum xs)) ∧ Below w.heap.size w w' := by
  by_cases hn : xs = []
  · subst hn
    exact sum_empty ao cap w
  · obtain ⟨b, off, rfl, hb, hc⟩ := h.open hn
    exact sum_some b off xs.length cap xs w hm hb rfl hc

theorem sum_n (ao : Option Addr) (n cap : Nat) (xs : List UInt8) (w : World) (hn : xs.length = n) (hm : xs.length ≤ 9223372036854775807) (h : Sl w ao xs) :
    Calls Try.prog 32 #[.slice ao n cap] w fun e w' => e = .returned (.int .i64 (Pure.sum xs)) ∧ Below w.heap.size w w' := by
  subst hn
  exact sum_any ao cap xs w hm h

end Go.Proofs.Ytdnbpklnkmgmkaa
