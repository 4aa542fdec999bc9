/-
  Contracts: freightref7.scalar, freightref7.Valid. (Written by tools/nc.py.)
-/
import Derived.Test.YtjogfpogdjhglaaDoorProg
import Derived.Test.YtjogfpogdjhglaaDoorMem
import Derived.Test.YtjogfpogdjhglaaDoorNa
import Derived.WalkKit
import Derived.WalkArith
import Derived.ProofKit
import Derived.Below
namespace Go.Proofs.YtjogfpogdjhglaaDoor
open Go.RowKit
set_option linter.unusedVariables false
set_option linter.unusedSimpArgs false

theorem Tryd.signAt (t : List UInt8) (j : Nat) (hj : j < t.length) (W : World) : (Instr.index 9 (.string ⟨t.toArray⟩) (.int .i64 j)).run Tryd.prog W = .ok (.int .u8 (Tn.by' t j)) W := by
  rw [run_index_string (P := Tryd.prog) W 9 ⟨t.toArray⟩ .i64 j Tryd.underlying9]
  have hs : (ByteArray.mk t.toArray).size = t.length := by simp [ByteArray.size]
  rw [dif_pos (by rw [hs]; omega)]
  congr 3
  show ((t.toArray)[(j : Int).toNat]'_).toNat = _
  simp [Tn.by', List.getElem?_eq_getElem hj]
theorem hide {p : Prop} (h : p) : Hid p := h
theorem str_size (L : List UInt8) : (ByteArray.mk L.toArray).size = L.length := by simp [ByteArray.size]
namespace Tn
/-- What the loop of scalar has made of c. -/
def val (c : Int) (b : Nat → Nat) : Nat → Int
  | 0 => c
  | 1 => c
  | k + 2 => 64 * val c b (k + 1) + b (k + 1) - 128
theorem val_lo (c : Int) (b : Nat → Nat) (hc : 0 ≤ c) (k : Nat) (h : ∀ j, 1 ≤ j → j < k → 128 ≤ b j) : 0 ≤ val c b k := by
  match k with
  | 0 => exact hc
  | 1 => exact hc
  | k + 2 =>
    have := val_lo c b hc (k + 1) (fun j h1 h2 => h j h1 (by omega))
    have := h (k + 1) (by omega) (by omega)
    simp only [val]; omega
/-- What scalar answers at its end. -/
def fin (V least n : Int) : Int := if V < least ∨ 1114111 < V ∨ (55296 ≤ V ∧ V < 57344) then 0 else n
end Tn

set_option maxHeartbeats 1600000 in
set_option maxRecDepth 100000 in
theorem scalar2 (L : List UInt8) (w : World) (hn : 2 ≤ L.length) (b0 : Nat) (hb0 : Tn.by' L 0 = b0) (hlo : 192 ≤ b0) (hhi : b0 < 224) (hm : L.length ≤ 4611686018427387904) :
    Calls Tryd.prog 48 #[.string ⟨L.toArray⟩] w fun e w' => (∃ r : Int, e = .returned (.int .i64 r) ∧ ((∃ j, 1 ≤ j ∧ j < 2 ∧ (Tn.by' L j < 128 ∨ 191 < Tn.by' L j) ∧ r = 0) ∨ ((∀ j, 1 ≤ j → j < 2 → 128 ≤ Tn.by' L j ∧ Tn.by' L j ≤ 191) ∧ r = Tn.fin (Tn.val (b0 - 192) (Tn.by' L) 2) 128 2))) ∧ w' = w := by
  have hsz := str_size L
  have i0 : ∀ W, (Instr.index 9 (.string ⟨L.toArray⟩) (.int .i64 0)).run Tryd.prog W = .ok (.int .u8 b0) W := fun W => by have := Tryd.signAt L 0 (by omega) W; rw [hb0] at this; simpa using this
  have d1 : decide ((b0 : Int) < 224) = true := by simp; omega
  clear hb0
  go_enter Tryd.func48, Tryd.ntmps48
  go_wp2
  go_loopw [3, 6] (fun x y wr => wr = w ∧ ∃ k : Nat, 1 ≤ k ∧ k ≤ 2 ∧ y = .int .i64 k ∧ x = .int .i64 (Tn.val (b0 - 192) (Tn.by' L) k) ∧ ∀ j, 1 ≤ j → j < k → 128 ≤ Tn.by' L j ∧ Tn.by' L j ≤ 191) (fun x y wr => 2 - (intOf y).toNat)
  case atStart => exact ⟨rfl, 1, Nat.le_refl _, by omega, rfl, by simp only [Tn.val], fun j a b => by omega⟩
  case round =>
    obtain ⟨rfl, k, hk1, hkn, rfl, rfl, hbs⟩ := hrel
    have hv0 := Tn.val_lo (b0 - 192) (Tn.by' L) (by omega) k (fun j a b => (hbs j a b).1)
    have hv1 : Tn.val (b0 - 192) (Tn.by' L) k < 4294967296 := by
      have h1 := Tn.by_lt L 1
      have h2 := Tn.by_lt L 2
      have h3 := Tn.by_lt L 3
      have : k = 1 ∨ k = 2 ∨ k = 3 ∨ k = 4 := by omega
      rcases this with e | e | e | e <;> subst e <;> simp only [Tn.val, Nat.zero_add, Nat.reduceAdd] <;> omega
    by_cases hlt : k < 2
    · have ik := fun W => Tryd.signAt L k (by omega) W
      obtain ⟨x, hx⟩ : ∃ x, Tn.by' L k = x := ⟨_, rfl⟩
      have hxl : x < 256 := by rw [← hx]; exact Tn.by_lt L k
      have hvs : Tn.val (b0 - 192) (Tn.by' L) (k + 1) = 64 * Tn.val (b0 - 192) (Tn.by' L) k + x - 128 := by
        obtain ⟨m, rfl⟩ : ∃ m, k = m + 1 := ⟨k - 1, by omega⟩
        simp only [Tn.val, hx]
      rw [hx] at ik
      obtain ⟨V, hV⟩ : ∃ V, Tn.val (b0 - 192) (Tn.by' L) k = V := ⟨_, rfl⟩
      rw [hV] at hv0 hv1 hvs
      simp only [hV]
      have HB : Hid (∀ j, 1 ≤ j → j < k → 128 ≤ Tn.by' L j ∧ Tn.by' L j ≤ 191) := hbs
      have HX : Hid (Tn.by' L k = x) := hx
      have HS : Hid (Tn.val (b0 - 192) (Tn.by' L) (k + 1) = 64 * V + x - 128) := hvs
      clear hbs hx hvs hV i0
      by_cases hb1 : x < 128
      · go_wp2
        go_ret
        exact ⟨⟨0, rfl, .inl ⟨k, hk1, hlt, .inl (by rw [HX.out]; exact hb1), rfl⟩⟩, rfl⟩
      · by_cases hb2 : 191 < x
        · go_wp2
          go_ret
          exact ⟨⟨0, rfl, .inl ⟨k, hk1, hlt, .inr (by rw [HX.out]; exact hb2), rfl⟩⟩, rfl⟩
        · go_wp2
          go_roundw
          case rel =>
            refine ⟨trivial, k + 1, by omega, by omega, by go_num, ?_, fun j a b => ?_⟩
            · rw [HS.out]
            · by_cases e : j = k
              · subst e; rw [HX.out]; omega
              · exact HB.out j a (by omega)
          case measure => simp [intOf]; omega
    · obtain rfl : k = 2 := by omega
      have HB : Hid (∀ j, 1 ≤ j → j < 2 → 128 ≤ Tn.by' L j ∧ Tn.by' L j ≤ 191) := hbs
      obtain ⟨V, hV⟩ : ∃ V, Tn.val (b0 - 192) (Tn.by' L) 2 = V := ⟨_, rfl⟩
      simp only [hV] at hv0 hv1 ⊢
      have HV : Hid (Tn.val (b0 - 192) (Tn.by' L) 2 = V) := hV
      clear hbs hV i0
      by_cases c1 : V < 128
      · go_wp2
        go_ret
        exact ⟨⟨_, rfl, .inr ⟨HB.out, by rw [HV.out]; simp [Tn.fin, c1]⟩⟩, rfl⟩
      · by_cases c2 : 1114111 < V
        · go_wp2
          go_ret
          exact ⟨⟨_, rfl, .inr ⟨HB.out, by rw [HV.out]; simp [Tn.fin, c2]⟩⟩, rfl⟩
        · by_cases c3 : 55296 ≤ V
          · by_cases c4 : V < 57344
            · go_wp2
              go_ret
              exact ⟨⟨_, rfl, .inr ⟨HB.out, by rw [HV.out]; simp [Tn.fin, c3, c4]⟩⟩, rfl⟩
            · go_wp2
              go_ret
              exact ⟨⟨_, rfl, .inr ⟨HB.out, by rw [HV.out]; simp [Tn.fin, c1, c2, c4]⟩⟩, rfl⟩
          · go_wp2
            go_ret
            exact ⟨⟨_, rfl, .inr ⟨HB.out, by rw [HV.out]; simp [Tn.fin, c1, c2]; omega⟩⟩, rfl⟩

set_option maxHeartbeats 1600000 in
set_option maxRecDepth 100000 in
theorem scalar3 (L : List UInt8) (w : World) (hn : 3 ≤ L.length) (b0 : Nat) (hb0 : Tn.by' L 0 = b0) (hlo : 224 ≤ b0) (hhi : b0 < 240) (hm : L.length ≤ 4611686018427387904) :
    Calls Tryd.prog 48 #[.string ⟨L.toArray⟩] w fun e w' => (∃ r : Int, e = .returned (.int .i64 r) ∧ ((∃ j, 1 ≤ j ∧ j < 3 ∧ (Tn.by' L j < 128 ∨ 191 < Tn.by' L j) ∧ r = 0) ∨ ((∀ j, 1 ≤ j → j < 3 → 128 ≤ Tn.by' L j ∧ Tn.by' L j ≤ 191) ∧ r = Tn.fin (Tn.val (b0 - 224) (Tn.by' L) 3) 2048 3))) ∧ w' = w := by
  have hsz := str_size L
  have i0 : ∀ W, (Instr.index 9 (.string ⟨L.toArray⟩) (.int .i64 0)).run Tryd.prog W = .ok (.int .u8 b0) W := fun W => by have := Tryd.signAt L 0 (by omega) W; rw [hb0] at this; simpa using this
  have d1 : decide ((b0 : Int) < 240) = true := by simp; omega
  clear hb0
  go_enter Tryd.func48, Tryd.ntmps48
  go_wp2
  go_loopw [3, 6] (fun x y wr => wr = w ∧ ∃ k : Nat, 1 ≤ k ∧ k ≤ 3 ∧ y = .int .i64 k ∧ x = .int .i64 (Tn.val (b0 - 224) (Tn.by' L) k) ∧ ∀ j, 1 ≤ j → j < k → 128 ≤ Tn.by' L j ∧ Tn.by' L j ≤ 191) (fun x y wr => 3 - (intOf y).toNat)
  case atStart => exact ⟨rfl, 1, Nat.le_refl _, by omega, rfl, by simp only [Tn.val], fun j a b => by omega⟩
  case round =>
    obtain ⟨rfl, k, hk1, hkn, rfl, rfl, hbs⟩ := hrel
    have hv0 := Tn.val_lo (b0 - 224) (Tn.by' L) (by omega) k (fun j a b => (hbs j a b).1)
    have hv1 : Tn.val (b0 - 224) (Tn.by' L) k < 4294967296 := by
      have h1 := Tn.by_lt L 1
      have h2 := Tn.by_lt L 2
      have h3 := Tn.by_lt L 3
      have : k = 1 ∨ k = 2 ∨ k = 3 ∨ k = 4 := by omega
      rcases this with e | e | e | e <;> subst e <;> simp only [Tn.val, Nat.zero_add, Nat.reduceAdd] <;> omega
    by_cases hlt : k < 3
    · have ik := fun W => Tryd.signAt L k (by omega) W
      obtain ⟨x, hx⟩ : ∃ x, Tn.by' L k = x := ⟨_, rfl⟩
      have hxl : x < 256 := by rw [← hx]; exact Tn.by_lt L k
      have hvs : Tn.val (b0 - 224) (Tn.by' L) (k + 1) = 64 * Tn.val (b0 - 224) (Tn.by' L) k + x - 128 := by
        obtain ⟨m, rfl⟩ : ∃ m, k = m + 1 := ⟨k - 1, by omega⟩
        simp only [Tn.val, hx]
      rw [hx] at ik
      obtain ⟨V, hV⟩ : ∃ V, Tn.val (b0 - 224) (Tn.by' L) k = V := ⟨_, rfl⟩
      rw [hV] at hv0 hv1 hvs
      simp only [hV]
      have HB : Hid (∀ j, 1 ≤ j → j < k → 128 ≤ Tn.by' L j ∧ Tn.by' L j ≤ 191) := hbs
      have HX : Hid (Tn.by' L k = x) := hx
      have HS : Hid (Tn.val (b0 - 224) (Tn.by' L) (k + 1) = 64 * V + x - 128) := hvs
      clear hbs hx hvs hV i0
      by_cases hb1 : x < 128
      · go_wp2
        go_ret
        exact ⟨⟨0, rfl, .inl ⟨k, hk1, hlt, .inl (by rw [HX.out]; exact hb1), rfl⟩⟩, rfl⟩
      · by_cases hb2 : 191 < x
        · go_wp2
          go_ret
          exact ⟨⟨0, rfl, .inl ⟨k, hk1, hlt, .inr (by rw [HX.out]; exact hb2), rfl⟩⟩, rfl⟩
        · go_wp2
          go_roundw
          case rel =>
            refine ⟨trivial, k + 1, by omega, by omega, by go_num, ?_, fun j a b => ?_⟩
            · rw [HS.out]
            · by_cases e : j = k
              · subst e; rw [HX.out]; omega
              · exact HB.out j a (by omega)
          case measure => simp [intOf]; omega
    · obtain rfl : k = 3 := by omega
      have HB : Hid (∀ j, 1 ≤ j → j < 3 → 128 ≤ Tn.by' L j ∧ Tn.by' L j ≤ 191) := hbs
      obtain ⟨V, hV⟩ : ∃ V, Tn.val (b0 - 224) (Tn.by' L) 3 = V := ⟨_, rfl⟩
      simp only [hV] at hv0 hv1 ⊢
      have HV : Hid (Tn.val (b0 - 224) (Tn.by' L) 3 = V) := hV
      clear hbs hV i0
      by_cases c1 : V < 2048
      · go_wp2
        go_ret
        exact ⟨⟨_, rfl, .inr ⟨HB.out, by rw [HV.out]; simp [Tn.fin, c1]⟩⟩, rfl⟩
      · by_cases c2 : 1114111 < V
        · go_wp2
          go_ret
          exact ⟨⟨_, rfl, .inr ⟨HB.out, by rw [HV.out]; simp [Tn.fin, c2]⟩⟩, rfl⟩
        · by_cases c3 : 55296 ≤ V
          · by_cases c4 : V < 57344
            · go_wp2
              go_ret
              exact ⟨⟨_, rfl, .inr ⟨HB.out, by rw [HV.out]; simp [Tn.fin, c3, c4]⟩⟩, rfl⟩
            · go_wp2
              go_ret
              exact ⟨⟨_, rfl, .inr ⟨HB.out, by rw [HV.out]; simp [Tn.fin, c1, c2, c4]⟩⟩, rfl⟩
          · go_wp2
            go_ret
            exact ⟨⟨_, rfl, .inr ⟨HB.out, by rw [HV.out]; simp [Tn.fin, c1, c2]; omega⟩⟩, rfl⟩

set_option maxHeartbeats 1600000 in
set_option maxRecDepth 100000 in
theorem scalar4 (L : List UInt8) (w : World) (hn : 4 ≤ L.length) (b0 : Nat) (hb0 : Tn.by' L 0 = b0) (hlo : 240 ≤ b0) (hhi : b0 < 248) (hm : L.length ≤ 4611686018427387904) :
    Calls Tryd.prog 48 #[.string ⟨L.toArray⟩] w fun e w' => (∃ r : Int, e = .returned (.int .i64 r) ∧ ((∃ j, 1 ≤ j ∧ j < 4 ∧ (Tn.by' L j < 128 ∨ 191 < Tn.by' L j) ∧ r = 0) ∨ ((∀ j, 1 ≤ j → j < 4 → 128 ≤ Tn.by' L j ∧ Tn.by' L j ≤ 191) ∧ r = Tn.fin (Tn.val (b0 - 240) (Tn.by' L) 4) 65536 4))) ∧ w' = w := by
  have hsz := str_size L
  have i0 : ∀ W, (Instr.index 9 (.string ⟨L.toArray⟩) (.int .i64 0)).run Tryd.prog W = .ok (.int .u8 b0) W := fun W => by have := Tryd.signAt L 0 (by omega) W; rw [hb0] at this; simpa using this
  have d1 : decide ((b0 : Int) < 248) = true := by simp; omega
  clear hb0
  go_enter Tryd.func48, Tryd.ntmps48
  go_wp2
  go_loopw [3, 6] (fun x y wr => wr = w ∧ ∃ k : Nat, 1 ≤ k ∧ k ≤ 4 ∧ y = .int .i64 k ∧ x = .int .i64 (Tn.val (b0 - 240) (Tn.by' L) k) ∧ ∀ j, 1 ≤ j → j < k → 128 ≤ Tn.by' L j ∧ Tn.by' L j ≤ 191) (fun x y wr => 4 - (intOf y).toNat)
  case atStart => exact ⟨rfl, 1, Nat.le_refl _, by omega, rfl, by simp only [Tn.val], fun j a b => by omega⟩
  case round =>
    obtain ⟨rfl, k, hk1, hkn, rfl, rfl, hbs⟩ := hrel
    have hv0 := Tn.val_lo (b0 - 240) (Tn.by' L) (by omega) k (fun j a b => (hbs j a b).1)
    have hv1 : Tn.val (b0 - 240) (Tn.by' L) k < 4294967296 := by
      have h1 := Tn.by_lt L 1
      have h2 := Tn.by_lt L 2
      have h3 := Tn.by_lt L 3
      have : k = 1 ∨ k = 2 ∨ k = 3 ∨ k = 4 := by omega
      rcases this with e | e | e | e <;> subst e <;> simp only [Tn.val, Nat.zero_add, Nat.reduceAdd] <;> omega
    by_cases hlt : k < 4
    · have ik := fun W => Tryd.signAt L k (by omega) W
      obtain ⟨x, hx⟩ : ∃ x, Tn.by' L k = x := ⟨_, rfl⟩
      have hxl : x < 256 := by rw [← hx]; exact Tn.by_lt L k
      have hvs : Tn.val (b0 - 240) (Tn.by' L) (k + 1) = 64 * Tn.val (b0 - 240) (Tn.by' L) k + x - 128 := by
        obtain ⟨m, rfl⟩ : ∃ m, k = m + 1 := ⟨k - 1, by omega⟩
        simp only [Tn.val, hx]
      rw [hx] at ik
      obtain ⟨V, hV⟩ : ∃ V, Tn.val (b0 - 240) (Tn.by' L) k = V := ⟨_, rfl⟩
      rw [hV] at hv0 hv1 hvs
      simp only [hV]
      have HB : Hid (∀ j, 1 ≤ j → j < k → 128 ≤ Tn.by' L j ∧ Tn.by' L j ≤ 191) := hbs
      have HX : Hid (Tn.by' L k = x) := hx
      have HS : Hid (Tn.val (b0 - 240) (Tn.by' L) (k + 1) = 64 * V + x - 128) := hvs
      clear hbs hx hvs hV i0
      by_cases hb1 : x < 128
      · go_wp2
        go_ret
        exact ⟨⟨0, rfl, .inl ⟨k, hk1, hlt, .inl (by rw [HX.out]; exact hb1), rfl⟩⟩, rfl⟩
      · by_cases hb2 : 191 < x
        · go_wp2
          go_ret
          exact ⟨⟨0, rfl, .inl ⟨k, hk1, hlt, .inr (by rw [HX.out]; exact hb2), rfl⟩⟩, rfl⟩
        · go_wp2
          go_roundw
          case rel =>
            refine ⟨trivial, k + 1, by omega, by omega, by go_num, ?_, fun j a b => ?_⟩
            · rw [HS.out]
            · by_cases e : j = k
              · subst e; rw [HX.out]; omega
              · exact HB.out j a (by omega)
          case measure => simp [intOf]; omega
    · obtain rfl : k = 4 := by omega
      have HB : Hid (∀ j, 1 ≤ j → j < 4 → 128 ≤ Tn.by' L j ∧ Tn.by' L j ≤ 191) := hbs
      obtain ⟨V, hV⟩ : ∃ V, Tn.val (b0 - 240) (Tn.by' L) 4 = V := ⟨_, rfl⟩
      simp only [hV] at hv0 hv1 ⊢
      have HV : Hid (Tn.val (b0 - 240) (Tn.by' L) 4 = V) := hV
      clear hbs hV i0
      by_cases c1 : V < 65536
      · go_wp2
        go_ret
        exact ⟨⟨_, rfl, .inr ⟨HB.out, by rw [HV.out]; simp [Tn.fin, c1]⟩⟩, rfl⟩
      · by_cases c2 : 1114111 < V
        · go_wp2
          go_ret
          exact ⟨⟨_, rfl, .inr ⟨HB.out, by rw [HV.out]; simp [Tn.fin, c2]⟩⟩, rfl⟩
        · by_cases c3 : 55296 ≤ V
          · by_cases c4 : V < 57344
            · go_wp2
              go_ret
              exact ⟨⟨_, rfl, .inr ⟨HB.out, by rw [HV.out]; simp [Tn.fin, c3, c4]⟩⟩, rfl⟩
            · go_wp2
              go_ret
              exact ⟨⟨_, rfl, .inr ⟨HB.out, by rw [HV.out]; simp [Tn.fin, c1, c2, c4]⟩⟩, rfl⟩
          · go_wp2
            go_ret
            exact ⟨⟨_, rfl, .inr ⟨HB.out, by rw [HV.out]; simp [Tn.fin, c1, c2]; omega⟩⟩, rfl⟩

theorem scal2 (n b0 b1 b2 b3 : Nat) (r : Int) (h0 : 192 ≤ b0) (h1 : b0 < 224) (hn : 2 ≤ n) (h : ((b1 < 128 ∨ 191 < b1) ∧ r = 0) ∨ ((128 ≤ b1 ∧ b1 ≤ 191) ∧ r = Tn.fin (64 * (b0 - 192) + b1 - 128) 128 2)) : (Tn.scal n b0 b1 b2 b3 : Int) = r := by
  unfold Tn.scal
  unfold Tn.fin at h
  repeat' split at h
  all_goals repeat' split
  all_goals omega
theorem scal3 (n b0 b1 b2 b3 : Nat) (r : Int) (h0 : 224 ≤ b0) (h1 : b0 < 240) (hn : 3 ≤ n) (h : ((b1 < 128 ∨ 191 < b1 ∨ b2 < 128 ∨ 191 < b2) ∧ r = 0) ∨ ((128 ≤ b1 ∧ b1 ≤ 191 ∧ 128 ≤ b2 ∧ b2 ≤ 191) ∧ r = Tn.fin (64 * (64 * (b0 - 224) + b1 - 128) + b2 - 128) 2048 3)) : (Tn.scal n b0 b1 b2 b3 : Int) = r := by
  unfold Tn.scal
  unfold Tn.fin at h
  repeat' split at h
  all_goals repeat' split
  all_goals omega
theorem scal4 (n b0 b1 b2 b3 : Nat) (r : Int) (h0 : 240 ≤ b0) (h1 : b0 < 248) (hn : 4 ≤ n) (h : ((b1 < 128 ∨ 191 < b1 ∨ b2 < 128 ∨ 191 < b2 ∨ b3 < 128 ∨ 191 < b3) ∧ r = 0) ∨ ((128 ≤ b1 ∧ b1 ≤ 191 ∧ 128 ≤ b2 ∧ b2 ≤ 191 ∧ 128 ≤ b3 ∧ b3 ≤ 191) ∧ r = Tn.fin (64 * (64 * (64 * (b0 - 240) + b1 - 128) + b2 - 128) + b3 - 128) 65536 4)) : (Tn.scal n b0 b1 b2 b3 : Int) = r := by
  unfold Tn.scal
  unfold Tn.fin at h
  repeat' split at h
  all_goals repeat' split
  all_goals omega

set_option maxHeartbeats 1600000 in
set_option maxRecDepth 100000 in
theorem scalar_easy (L : List UInt8) (w : World) (h0 : 0 < L.length) (b0 : Nat) (hb0 : Tn.by' L 0 = b0) (r : Int) (hm : L.length ≤ 4611686018427387904) (hlt : b0 < 256)
    (h : (b0 < 128 ∧ r = 1) ∨ (128 ≤ b0 ∧ b0 < 192 ∧ r = 0) ∨ (248 ≤ b0 ∧ r = 0) ∨ (192 ≤ b0 ∧ b0 < 224 ∧ L.length < 2 ∧ r = 0) ∨ (224 ≤ b0 ∧ b0 < 240 ∧ L.length < 3 ∧ r = 0) ∨ (240 ≤ b0 ∧ b0 < 248 ∧ L.length < 4 ∧ r = 0)) :
    Calls Tryd.prog 48 #[.string ⟨L.toArray⟩] w fun e w' => e = .returned (.int .i64 r) ∧ w' = w := by
  have hsz := str_size L
  have i0 : ∀ W, (Instr.index 9 (.string ⟨L.toArray⟩) (.int .i64 0)).run Tryd.prog W = .ok (.int .u8 b0) W := fun W => by have := Tryd.signAt L 0 (by omega) W; rw [hb0] at this; simpa using this
  clear hb0
  rcases h with ⟨a, rfl⟩ | ⟨a, b, rfl⟩ | ⟨a, rfl⟩ | ⟨a, b, c, rfl⟩ | ⟨a, b, c, rfl⟩ | ⟨a, b, c, rfl⟩
  all_goals
    go_enter Tryd.func48, Tryd.ntmps48
    go_wp2
    go_ret
    exact ⟨rfl, rfl⟩

set_option maxHeartbeats 1600000 in
/-- freightref7.scalar. -/
theorem scalar_ok (L : List UInt8) (w : World) (h0 : 0 < L.length) (hm : L.length ≤ 4611686018427387904) :
    Calls Tryd.prog 48 #[.string ⟨L.toArray⟩] w fun e w' => e = .returned (.int .i64 (Tn.scal L.length (Tn.by' L 0) (Tn.by' L 1) (Tn.by' L 2) (Tn.by' L 3))) ∧ w' = w := by
  obtain ⟨b0, hb0⟩ : ∃ b0, Tn.by' L 0 = b0 := ⟨_, rfl⟩
  have hlt : b0 < 256 := by rw [← hb0]; exact Tn.by_lt L 0
  rw [hb0]
  by_cases e : (b0 < 128) ∨ (128 ≤ b0 ∧ b0 < 192) ∨ (248 ≤ b0) ∨ (192 ≤ b0 ∧ b0 < 224 ∧ L.length < 2) ∨ (224 ≤ b0 ∧ b0 < 240 ∧ L.length < 3) ∨ (240 ≤ b0 ∧ b0 < 248 ∧ L.length < 4)
  · refine scalar_easy L w h0 b0 hb0 _ hm hlt ?_
    unfold Tn.scal
    repeat' split
    all_goals omega
  · by_cases e2 : b0 < 224
    · refine (scalar2 L w (by omega) b0 hb0 (by omega) e2 hm).mono ?_
      rintro e' w' ⟨⟨r, he, hr⟩, hw⟩
      refine ⟨?_, hw⟩
      rw [he, scal2 L.length b0 (Tn.by' L 1) (Tn.by' L 2) (Tn.by' L 3) r (by omega) e2 (by omega) ?_]
      rcases hr with ⟨j, j1, j2, hj, rfl⟩ | ⟨ha, rfl⟩
      · obtain rfl : j = 1 := by omega
        exact .inl ⟨hj, rfl⟩
      · exact .inr ⟨ha 1 (by omega) (by omega), by simp only [Tn.val, Nat.zero_add]⟩
    · by_cases e3 : b0 < 240
      · refine (scalar3 L w (by omega) b0 hb0 (by omega) e3 hm).mono ?_
        rintro e' w' ⟨⟨r, he, hr⟩, hw⟩
        refine ⟨?_, hw⟩
        rw [he, scal3 L.length b0 (Tn.by' L 1) (Tn.by' L 2) (Tn.by' L 3) r (by omega) e3 (by omega) ?_]
        rcases hr with ⟨j, j1, j2, hj, rfl⟩ | ⟨ha, rfl⟩
        · have : j = 1 ∨ j = 2 := by omega
          rcases this with rfl | rfl <;> exact .inl ⟨by omega, rfl⟩
        · exact .inr ⟨by have := ha 1 (by omega) (by omega); have := ha 2 (by omega) (by omega); omega, by simp only [Tn.val, Nat.zero_add, Nat.reduceAdd]⟩
      · refine (scalar4 L w (by omega) b0 hb0 (by omega) (by omega) hm).mono ?_
        rintro e' w' ⟨⟨r, he, hr⟩, hw⟩
        refine ⟨?_, hw⟩
        rw [he, scal4 L.length b0 (Tn.by' L 1) (Tn.by' L 2) (Tn.by' L 3) r (by omega) (by omega) (by omega) ?_]
        rcases hr with ⟨j, j1, j2, hj, rfl⟩ | ⟨ha, rfl⟩
        · have : j = 1 ∨ j = 2 ∨ j = 3 := by omega
          rcases this with rfl | rfl | rfl <;> exact .inl ⟨by omega, rfl⟩
        · exact .inr ⟨by have := ha 1 (by omega) (by omega); have := ha 2 (by omega) (by omega); have := ha 3 (by omega) (by omega); omega, by simp only [Tn.val, Nat.zero_add, Nat.reduceAdd]⟩

end Go.Proofs.YtjogfpogdjhglaaDoor
