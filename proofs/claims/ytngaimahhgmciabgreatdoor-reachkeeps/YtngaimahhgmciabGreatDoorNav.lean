import Derived.Lib.DecodeNEq
import Derived.Laws.RangeAny
import Derived.Test.YtngaimahhgmciabGreatDoorProg
import Derived.Test.YtngaimahhgmciabGreatDoorMemv
import Derived.WalkKit
import Derived.WalkArith
import Derived.ProofKit
import Derived.Below
import Derived.Shelf.Small.Utf8
import Derived.Shelf.Unicode.DecodeSlow
import Derived.Shelf.Unicode.DecodeAny
namespace Go.Proofs.YtngaimahhgmciabGreatDoor
section
namespace Tn
open Go.Lib

/-- How many bytes the character has that begins with these; 0: none that is well written (n bytes are left). -/
def scal (n b0 b1 b2 b3 : Nat) : Nat :=
  if b0 < 128 then 1
  else if 192 ≤ b0 ∧ b0 < 224 then
    (if n < 2 ∨ b1 < 128 ∨ 191 < b1 then 0 else if 64 * (b0 - 192) + b1 - 128 < 128 then 0 else 2)
  else if 224 ≤ b0 ∧ b0 < 240 then
    (if n < 3 ∨ b1 < 128 ∨ 191 < b1 ∨ b2 < 128 ∨ 191 < b2 then 0
     else if 64 * (64 * (b0 - 224) + b1 - 128) + b2 - 128 < 2048 ∨ (55296 ≤ 64 * (64 * (b0 - 224) + b1 - 128) + b2 - 128 ∧ 64 * (64 * (b0 - 224) + b1 - 128) + b2 - 128 < 57344) then 0 else 3)
  else if 240 ≤ b0 ∧ b0 < 248 then
    (if n < 4 ∨ b1 < 128 ∨ 191 < b1 ∨ b2 < 128 ∨ 191 < b2 ∨ b3 < 128 ∨ 191 < b3 then 0
     else if 64 * (64 * (64 * (b0 - 240) + b1 - 128) + b2 - 128) + b3 - 128 < 65536 ∨ 1114111 < 64 * (64 * (64 * (b0 - 240) + b1 - 128) + b2 - 128) + b3 - 128 then 0 else 4)
  else 0

set_option maxRecDepth 100000 in
set_option maxHeartbeats 4000000 in
theorem scal_none (n b0 b1 b2 b3 : Nat) (h0 : b0 < 256) (h1 : b1 < 256) (h2 : b2 < 256) (h3 : b3 < 256) (h : scal n b0 b1 b2 b3 = 0) : decodeN n b0 b1 b2 b3 = (65533, 1) := by
  unfold scal at h
  unfold decodeN
  repeat' split at h
  all_goals repeat' split
  all_goals first | (exfalso; omega) | rfl

set_option maxRecDepth 100000 in
set_option maxHeartbeats 4000000 in
theorem scal_some (n b0 b1 b2 b3 : Nat) (h0 : b0 < 256) (h1 : b1 < 256) (h2 : b2 < 256) (h3 : b3 < 256) (hb : 128 ≤ b0) (h : scal n b0 b1 b2 b3 ≠ 0) :
    (decodeN n b0 b1 b2 b3).2 = scal n b0 b1 b2 b3 ∧ 128 ≤ (decodeN n b0 b1 b2 b3).1 ∧ ((decodeN n b0 b1 b2 b3).1 = 65533 → (decodeN n b0 b1 b2 b3).2 = 3) ∧
    (scal n b0 b1 b2 b3 = 2 ∨ scal n b0 b1 b2 b3 = 3 ∨ scal n b0 b1 b2 b3 = 4) ∧ scal n b0 b1 b2 b3 ≤ n ∧ 128 ≤ b1 ∧ (3 ≤ scal n b0 b1 b2 b3 → 128 ≤ b2) ∧ (4 ≤ scal n b0 b1 b2 b3 → 128 ≤ b3) := by
  unfold scal at h ⊢
  unfold decodeN
  repeat' split at h
  all_goals repeat' split
  all_goals first | (exfalso; omega) | (simp only; omega) | omega

/-- A byte of a row, as a number; behind the end 0. -/
def by' (L : List UInt8) (i : Nat) : Nat := (L.getD i 0).toNat
theorem by_lt (L : List UInt8) (i : Nat) : by' L i < 256 := (L.getD i 0).toNat_lt
def scalAt (L : List UInt8) (i : Nat) : Nat := scal (L.length - i) (by' L i) (by' L (i + 1)) (by' L (i + 2)) (by' L (i + 3))
theorem get_mk (L : List UInt8) (i : Nat) : (⟨L.toArray⟩ : ByteArray).get! i = L.getD i 0 := by
  show (Array.mk L)[i]! = _
  simp [List.getD]
  rfl
theorem dec_at (L : List UInt8) (i : Nat) : Utf8.decode ⟨L.toArray⟩ i = decodeN (L.length - i) (by' L i) (by' L (i + 1)) (by' L (i + 2)) (by' L (i + 3)) := by
  rw [decode_at]
  simp only [get_mk]
  rfl
theorem scalAt_low {L : List UInt8} {i : Nat} (h : by' L i < 128) : scalAt L i = 1 ∧ Utf8.decode ⟨L.toArray⟩ i = (by' L i, 1) := by
  rw [dec_at]; simp [scalAt, scal, decodeN, h]

/-- May a byte stand in a name? -/
def okb (L : List UInt8) (i : Nat) : Bool := !(decide (by' L i < 32) || decide (by' L i = 127) || decide (by' L i = 47))
/-- May this character? -/
def okc (c wd : Nat) : Bool := !(decide (c < 32) || decide (c = 127) || decide (c = 47)) && !(decide (c = 65533) && !decide (wd = 3))

def chain : Nat → List UInt8 → Nat → Bool
  | 0, _, _ => true
  | k + 1, L, i => if i < L.length then decide (scalAt L i ≠ 0) && chain k L (i + scalAt L i) else true
def walk : Nat → List UInt8 → Nat → Bool
  | 0, _, _ => true
  | k + 1, L, i => if i < L.length then okc (Utf8.decode ⟨L.toArray⟩ i).1 (Utf8.decode ⟨L.toArray⟩ i).2 && walk k L (i + (Utf8.decode ⟨L.toArray⟩ i).2) else true
theorem chain_past : ∀ (k : Nat) (L : List UInt8) (i : Nat), L.length ≤ i → chain k L i = true
  | 0, _, _, _ => rfl
  | k + 1, L, i, h => by simp [chain, Nat.not_lt.2 h]
theorem walk_past : ∀ (k : Nat) (L : List UInt8) (i : Nat), L.length ≤ i → walk k L i = true
  | 0, _, _, _ => rfl
  | k + 1, L, i, h => by simp [walk, Nat.not_lt.2 h]
theorem dec_pos (L : List UInt8) (i : Nat) : 1 ≤ (Utf8.decode ⟨L.toArray⟩ i).2 := by
  rw [dec_at]; unfold decodeN; repeat' split
  all_goals simp
theorem chain_fuel : ∀ (k : Nat) (L : List UInt8) (i : Nat), L.length - i ≤ k → chain k L i = chain (L.length - i) L i
  | 0, L, i, h => by
    have : L.length - i = 0 := by omega
    rw [this]
  | k + 1, L, i, h => by
    by_cases hi : i < L.length
    · obtain ⟨m, hm⟩ : ∃ m, L.length - i = m + 1 := ⟨L.length - i - 1, by omega⟩
      rw [hm]
      simp only [chain, hi, if_true]
      by_cases hs : scalAt L i = 0
      · simp [hs]
      · rw [chain_fuel k L (i + scalAt L i) (by omega), chain_fuel m L (i + scalAt L i) (by omega)]
    · rw [chain_past _ _ _ (by omega), chain_past _ _ _ (by omega)]
theorem walk_fuel : ∀ (k : Nat) (L : List UInt8) (i : Nat), L.length - i ≤ k → walk k L i = walk (L.length - i) L i
  | 0, L, i, h => by
    have : L.length - i = 0 := by omega
    rw [this]
  | k + 1, L, i, h => by
    by_cases hi : i < L.length
    · obtain ⟨m, hm⟩ : ∃ m, L.length - i = m + 1 := ⟨L.length - i - 1, by omega⟩
      have hp := dec_pos L i
      rw [hm]
      simp only [walk, hi, if_true]
      rw [walk_fuel k L (i + (Utf8.decode ⟨L.toArray⟩ i).2) (by omega), walk_fuel m L (i + (Utf8.decode ⟨L.toArray⟩ i).2) (by omega)]
    · rw [walk_past _ _ _ (by omega), walk_past _ _ _ (by omega)]

/-- Well written from here on. -/
def cfrom (L : List UInt8) (i : Nat) : Bool := chain (L.length - i) L i
/-- What a range over a text asks from here on. -/
def vfrom (L : List UInt8) (i : Nat) : Bool := walk (L.length - i) L i
theorem cfrom_step {L : List UInt8} {i : Nat} (h : i < L.length) : cfrom L i = (decide (scalAt L i ≠ 0) && cfrom L (i + scalAt L i)) := by
  unfold cfrom
  obtain ⟨m, hm⟩ : ∃ m, L.length - i = m + 1 := ⟨L.length - i - 1, by omega⟩
  rw [hm]; simp only [chain, h, if_true]
  by_cases hs : scalAt L i = 0
  · simp [hs]
  · rw [chain_fuel m L _ (by omega)]
theorem cfrom_end {L : List UInt8} {i : Nat} (h : ¬ i < L.length) : cfrom L i = true := chain_past _ _ _ (by omega)
theorem vfrom_step {L : List UInt8} {i : Nat} (h : i < L.length) : vfrom L i = (okc (Utf8.decode ⟨L.toArray⟩ i).1 (Utf8.decode ⟨L.toArray⟩ i).2 && vfrom L (i + (Utf8.decode ⟨L.toArray⟩ i).2)) := by
  have hp := dec_pos L i
  unfold vfrom
  obtain ⟨m, hm⟩ : ∃ m, L.length - i = m + 1 := ⟨L.length - i - 1, by omega⟩
  rw [hm]; simp only [walk, h, if_true]
  rw [walk_fuel m L _ (by omega)]
theorem vfrom_end {L : List UInt8} {i : Nat} (h : ¬ i < L.length) : vfrom L i = true := walk_past _ _ _ (by omega)

theorem by_past {L : List UInt8} {i : Nat} (h : L.length ≤ i) : by' L i = 0 := by
  simp [by', List.getD, List.getElem?_eq_none h]
/-- Both readings agree. -/
theorem both : ∀ (k : Nat) (L : List UInt8) (i : Nat), L.length - i ≤ k → (vfrom L i = true ↔ ((∀ j, i ≤ j → j < L.length → okb L j = true) ∧ cfrom L i = true))
  | 0, L, i, h => by
    rw [vfrom_end (by omega), cfrom_end (by omega)]
    exact ⟨fun _ => ⟨fun j a b => by omega, rfl⟩, fun _ => rfl⟩
  | k + 1, L, i, h => by
    by_cases hi : i < L.length
    · rw [vfrom_step hi, cfrom_step hi]
      by_cases hl : by' L i < 128
      · obtain ⟨hs, hd⟩ := scalAt_low hl
        rw [hs, hd]
        have IH := both k L (i + 1) (by omega)
        simp only [Bool.and_eq_true, decide_eq_true_eq]
        rw [IH]
        constructor
        · rintro ⟨ho, ha, hc⟩
          refine ⟨fun j hj hjl => ?_, by omega, hc⟩
          by_cases e : j = i
          · subst e
            simp only [okc, okb, Bool.and_eq_true] at ho ⊢
            exact ho.1
          · exact ha j (by omega) hjl
        · rintro ⟨ha, _, hc⟩
          refine ⟨?_, fun j hj hjl => ha j (by omega) hjl, hc⟩
          have := ha i (Nat.le_refl _) hi
          have hne : ¬ by' L i = 65533 := by omega
          simp only [okc, okb, Bool.and_eq_true] at this ⊢
          exact ⟨this, by simp [hne]⟩
      · by_cases hs : scalAt L i = 0
        · have hd := scal_none _ _ _ _ _ (by_lt L i) (by_lt L (i + 1)) (by_lt L (i + 2)) (by_lt L (i + 3)) hs
          rw [dec_at, hd, hs]
          simp [okc]
        · obtain ⟨e2, c1, c3, hv, hn, q1, q2, q3⟩ := scal_some _ _ _ _ _ (by_lt L i) (by_lt L (i + 1)) (by_lt L (i + 2)) (by_lt L (i + 3)) (by omega) hs
          rw [dec_at]
          generalize decodeN (L.length - i) (by' L i) (by' L (i + 1)) (by' L (i + 2)) (by' L (i + 3)) = D at *
          obtain ⟨c, wd⟩ := D
          simp only at e2 c1 c3
          subst e2
          change _ ↔ _ ∧ (decide (scalAt L i ≠ 0) && _) = true
          have hsd : scal (L.length - i) (by' L i) (by' L (i + 1)) (by' L (i + 2)) (by' L (i + 3)) = scalAt L i := rfl
          simp only [hsd] at *
          have IH := both k L (i + scalAt L i) (by omega)
          simp only [Bool.and_eq_true, decide_eq_true_eq]
          rw [IH]
          have hoc : okc c (scalAt L i) = true := by
            simp only [okc, Bool.and_eq_true]
            refine ⟨by simp; omega, ?_⟩
            by_cases e : c = 65533
            · simp [e, c3 e]
            · simp [e]
          have hin : ∀ j, i ≤ j → j < i + scalAt L i → okb L j = true := fun j a b => by
            have : 128 ≤ by' L j := by
              rcases Nat.lt_or_ge j (i + 1) with g | g
              · have : j = i := by omega
                subst this; omega
              rcases Nat.lt_or_ge j (i + 2) with g2 | g2
              · have : j = i + 1 := by omega
                subst this; exact q1
              rcases Nat.lt_or_ge j (i + 3) with g3 | g3
              · have : j = i + 2 := by omega
                subst this; exact q2 (by omega)
              · have : j = i + 3 := by omega
                subst this; exact q3 (by omega)
            simp [okb]; omega
          constructor
          · rintro ⟨_, ha, hc⟩
            refine ⟨fun j hj hjl => ?_, hs, hc⟩
            rcases Nat.lt_or_ge j (i + scalAt L i) with g | g
            · exact hin j hj g
            · exact ha j g hjl
          · rintro ⟨ha, _, hc⟩
            exact ⟨hoc, fun j hj hjl => ha j (by omega) hjl, hc⟩
    · rw [vfrom_end hi, cfrom_end hi]
      exact ⟨fun _ => ⟨fun j a b => by omega, rfl⟩, fun _ => rfl⟩

/-- P7.1. -/
def valid (L : List UInt8) : Bool := !(L.isEmpty || decide (32 < L.length) || decide (L = [46]) || decide (L = [46, 46])) && vfrom L 0
end Tn
end

section
open Go.RowKit
set_option linter.unusedVariables false
set_option linter.unusedSimpArgs false

theorem Tryz.signAt (t : List UInt8) (j : Nat) (hj : j < t.length) (W : World) : (Instr.index 9 (.string ⟨t.toArray⟩) (.int .i64 j)).run Tryz.prog W = .ok (.int .u8 (Tn.by' t j)) W := by
  rw [run_index_string (P := Tryz.prog) W 9 ⟨t.toArray⟩ .i64 j Tryz.underlying9]
  have hs : (ByteArray.mk t.toArray).size = t.length := by simp [ByteArray.size]
  rw [dif_pos (by rw [hs]; omega)]
  congr 3
  show ((t.toArray)[(j : Int).toNat]'_).toNat = _
  simp [Tn.by', List.getElem?_eq_getElem hj]
theorem hide {p : Prop} (h : p) : Hid p := h
theorem str_size (L : List UInt8) : (ByteArray.mk L.toArray).size = L.length := by simp [ByteArray.size]
namespace Tn
/-- What the loop of scalar has made of c. -/
def val (c : Int) (b : Nat → Nat) : Nat → Int
  | 0 => c
  | 1 => c
  | k + 2 => 64 * val c b (k + 1) + b (k + 1) - 128
theorem val_lo (c : Int) (b : Nat → Nat) (hc : 0 ≤ c) (k : Nat) (h : ∀ j, 1 ≤ j → j < k → 128 ≤ b j) : 0 ≤ val c b k := by
  match k with
  | 0 => exact hc
  | 1 => exact hc
  | k + 2 =>
    have := val_lo c b hc (k + 1) (fun j h1 h2 => h j h1 (by omega))
    have := h (k + 1) (by omega) (by omega)
    simp only [val]; omega
/-- What scalar answers at its end. -/
def fin (V least n : Int) : Int := if V < least ∨ 1114111 < V ∨ (55296 ≤ V ∧ V < 57344) then 0 else n
end Tn

set_option maxHeartbeats 1600000 in
set_option maxRecDepth 100000 in
theorem scalar2 (L : List UInt8) (w : World) (hn : 2 ≤ L.length) (b0 : Nat) (hb0 : Tn.by' L 0 = b0) (hlo : 192 ≤ b0) (hhi : b0 < 224) (hm : L.length ≤ 4611686018427387904) :
    Calls Tryz.prog 53 #[.string ⟨L.toArray⟩] w fun e w' => (∃ r : Int, e = .returned (.int .i64 r) ∧ ((∃ j, 1 ≤ j ∧ j < 2 ∧ (Tn.by' L j < 128 ∨ 191 < Tn.by' L j) ∧ r = 0) ∨ ((∀ j, 1 ≤ j → j < 2 → 128 ≤ Tn.by' L j ∧ Tn.by' L j ≤ 191) ∧ r = Tn.fin (Tn.val (b0 - 192) (Tn.by' L) 2) 128 2))) ∧ w' = w := by
  have hsz := str_size L
  have i0 : ∀ W, (Instr.index 9 (.string ⟨L.toArray⟩) (.int .i64 0)).run Tryz.prog W = .ok (.int .u8 b0) W := fun W => by have := Tryz.signAt L 0 (by omega) W; rw [hb0] at this; simpa using this
  have d1 : decide ((b0 : Int) < 224) = true := by simp; omega
  clear hb0
  go_enter Tryz.func53, Tryz.ntmps53
  go_wp2
  go_loopw [3, 6] (fun x y wr => wr = w ∧ ∃ k : Nat, 1 ≤ k ∧ k ≤ 2 ∧ y = .int .i64 k ∧ x = .int .i64 (Tn.val (b0 - 192) (Tn.by' L) k) ∧ ∀ j, 1 ≤ j → j < k → 128 ≤ Tn.by' L j ∧ Tn.by' L j ≤ 191) (fun x y wr => 2 - (intOf y).toNat)
  case atStart => exact ⟨rfl, 1, Nat.le_refl _, by omega, rfl, by simp only [Tn.val], fun j a b => by omega⟩
  case round =>
    obtain ⟨rfl, k, hk1, hkn, rfl, rfl, hbs⟩ := hrel
    have hv0 := Tn.val_lo (b0 - 192) (Tn.by' L) (by omega) k (fun j a b => (hbs j a b).1)
    have hv1 : Tn.val (b0 - 192) (Tn.by' L) k < 4294967296 := by
      have h1 := Tn.by_lt L 1
      have h2 := Tn.by_lt L 2
      have h3 := Tn.by_lt L 3
      have : k = 1 ∨ k = 2 ∨ k = 3 ∨ k = 4 := by omega
      rcases this with e | e | e | e <;> subst e <;> simp only [Tn.val, Nat.zero_add, Nat.reduceAdd] <;> omega
    by_cases hlt : k < 2
    · have ik := fun W => Tryz.signAt L k (by omega) W
      obtain ⟨x, hx⟩ : ∃ x, Tn.by' L k = x := ⟨_, rfl⟩
      have hxl : x < 256 := by rw [← hx]; exact Tn.by_lt L k
      have hvs : Tn.val (b0 - 192) (Tn.by' L) (k + 1) = 64 * Tn.val (b0 - 192) (Tn.by' L) k + x - 128 := by
        obtain ⟨m, rfl⟩ : ∃ m, k = m + 1 := ⟨k - 1, by omega⟩
        simp only [Tn.val, hx]
      rw [hx] at ik
      obtain ⟨V, hV⟩ : ∃ V, Tn.val (b0 - 192) (Tn.by' L) k = V := ⟨_, rfl⟩
      rw [hV] at hv0 hv1 hvs
      simp only [hV]
      have HB : Hid (∀ j, 1 ≤ j → j < k → 128 ≤ Tn.by' L j ∧ Tn.by' L j ≤ 191) := hbs
      have HX : Hid (Tn.by' L k = x) := hx
      have HS : Hid (Tn.val (b0 - 192) (Tn.by' L) (k + 1) = 64 * V + x - 128) := hvs
      clear hbs hx hvs hV i0
      by_cases hb1 : x < 128
      · go_wp2
        go_ret
        exact ⟨⟨0, rfl, .inl ⟨k, hk1, hlt, .inl (by rw [HX.out]; exact hb1), rfl⟩⟩, rfl⟩
      · by_cases hb2 : 191 < x
        · go_wp2
          go_ret
          exact ⟨⟨0, rfl, .inl ⟨k, hk1, hlt, .inr (by rw [HX.out]; exact hb2), rfl⟩⟩, rfl⟩
        · go_wp2
          go_roundw
          case rel =>
            refine ⟨trivial, k + 1, by omega, by omega, by go_num, ?_, fun j a b => ?_⟩
            · rw [HS.out]
            · by_cases e : j = k
              · subst e; rw [HX.out]; omega
              · exact HB.out j a (by omega)
          case measure => simp [intOf]; omega
    · obtain rfl : k = 2 := by omega
      have HB : Hid (∀ j, 1 ≤ j → j < 2 → 128 ≤ Tn.by' L j ∧ Tn.by' L j ≤ 191) := hbs
      obtain ⟨V, hV⟩ : ∃ V, Tn.val (b0 - 192) (Tn.by' L) 2 = V := ⟨_, rfl⟩
      simp only [hV] at hv0 hv1 ⊢
      have HV : Hid (Tn.val (b0 - 192) (Tn.by' L) 2 = V) := hV
      clear hbs hV i0
      by_cases c1 : V < 128
      · go_wp2
        go_ret
        exact ⟨⟨_, rfl, .inr ⟨HB.out, by rw [HV.out]; simp [Tn.fin, c1]⟩⟩, rfl⟩
      · by_cases c2 : 1114111 < V
        · go_wp2
          go_ret
          exact ⟨⟨_, rfl, .inr ⟨HB.out, by rw [HV.out]; simp [Tn.fin, c2]⟩⟩, rfl⟩
        · by_cases c3 : 55296 ≤ V
          · by_cases c4 : V < 57344
            · go_wp2
              go_ret
              exact ⟨⟨_, rfl, .inr ⟨HB.out, by rw [HV.out]; simp [Tn.fin, c3, c4]⟩⟩, rfl⟩
            · go_wp2
              go_ret
              exact ⟨⟨_, rfl, .inr ⟨HB.out, by rw [HV.out]; simp [Tn.fin, c1, c2, c4]⟩⟩, rfl⟩
          · go_wp2
            go_ret
            exact ⟨⟨_, rfl, .inr ⟨HB.out, by rw [HV.out]; simp [Tn.fin, c1, c2]; omega⟩⟩, rfl⟩

set_option maxHeartbeats 1600000 in
set_option maxRecDepth 100000 in
theorem scalar3 (L : List UInt8) (w : World) (hn : 3 ≤ L.length) (b0 : Nat) (hb0 : Tn.by' L 0 = b0) (hlo : 224 ≤ b0) (hhi : b0 < 240) (hm : L.length ≤ 4611686018427387904) :
    Calls Tryz.prog 53 #[.string ⟨L.toArray⟩] w fun e w' => (∃ r : Int, e = .returned (.int .i64 r) ∧ ((∃ j, 1 ≤ j ∧ j < 3 ∧ (Tn.by' L j < 128 ∨ 191 < Tn.by' L j) ∧ r = 0) ∨ ((∀ j, 1 ≤ j → j < 3 → 128 ≤ Tn.by' L j ∧ Tn.by' L j ≤ 191) ∧ r = Tn.fin (Tn.val (b0 - 224) (Tn.by' L) 3) 2048 3))) ∧ w' = w := by
  have hsz := str_size L
  have i0 : ∀ W, (Instr.index 9 (.string ⟨L.toArray⟩) (.int .i64 0)).run Tryz.prog W = .ok (.int .u8 b0) W := fun W => by have := Tryz.signAt L 0 (by omega) W; rw [hb0] at this; simpa using this
  have d1 : decide ((b0 : Int) < 240) = true := by simp; omega
  clear hb0
  go_enter Tryz.func53, Tryz.ntmps53
  go_wp2
  go_loopw [3, 6] (fun x y wr => wr = w ∧ ∃ k : Nat, 1 ≤ k ∧ k ≤ 3 ∧ y = .int .i64 k ∧ x = .int .i64 (Tn.val (b0 - 224) (Tn.by' L) k) ∧ ∀ j, 1 ≤ j → j < k → 128 ≤ Tn.by' L j ∧ Tn.by' L j ≤ 191) (fun x y wr => 3 - (intOf y).toNat)
  case atStart => exact ⟨rfl, 1, Nat.le_refl _, by omega, rfl, by simp only [Tn.val], fun j a b => by omega⟩
  case round =>
    obtain ⟨rfl, k, hk1, hkn, rfl, rfl, hbs⟩ := hrel
    have hv0 := Tn.val_lo (b0 - 224) (Tn.by' L) (by omega) k (fun j a b => (hbs j a b).1)
    have hv1 : Tn.val (b0 - 224) (Tn.by' L) k < 4294967296 := by
      have h1 := Tn.by_lt L 1
      have h2 := Tn.by_lt L 2
      have h3 := Tn.by_lt L 3
      have : k = 1 ∨ k = 2 ∨ k = 3 ∨ k = 4 := by omega
      rcases this with e | e | e | e <;> subst e <;> simp only [Tn.val, Nat.zero_add, Nat.reduceAdd] <;> omega
    by_cases hlt : k < 3
    · have ik := fun W => Tryz.signAt L k (by omega) W
      obtain ⟨x, hx⟩ : ∃ x, Tn.by' L k = x := ⟨_, rfl⟩
      have hxl : x < 256 := by rw [← hx]; exact Tn.by_lt L k
      have hvs : Tn.val (b0 - 224) (Tn.by' L) (k + 1) = 64 * Tn.val (b0 - 224) (Tn.by' L) k + x - 128 := by
        obtain ⟨m, rfl⟩ : ∃ m, k = m + 1 := ⟨k - 1, by omega⟩
        simp only [Tn.val, hx]
      rw [hx] at ik
      obtain ⟨V, hV⟩ : ∃ V, Tn.val (b0 - 224) (Tn.by' L) k = V := ⟨_, rfl⟩
      rw [hV] at hv0 hv1 hvs
      simp only [hV]
      have HB : Hid (∀ j, 1 ≤ j → j < k → 128 ≤ Tn.by' L j ∧ Tn.by' L j ≤ 191) := hbs
      have HX : Hid (Tn.by' L k = x) := hx
      have HS : Hid (Tn.val (b0 - 224) (Tn.by' L) (k + 1) = 64 * V + x - 128) := hvs
      clear hbs hx hvs hV i0
      by_cases hb1 : x < 128
      · go_wp2
        go_ret
        exact ⟨⟨0, rfl, .inl ⟨k, hk1, hlt, .inl (by rw [HX.out]; exact hb1), rfl⟩⟩, rfl⟩
      · by_cases hb2 : 191 < x
        · go_wp2
          go_ret
          exact ⟨⟨0, rfl, .inl ⟨k, hk1, hlt, .inr (by rw [HX.out]; exact hb2), rfl⟩⟩, rfl⟩
        · go_wp2
          go_roundw
          case rel =>
            refine ⟨trivial, k + 1, by omega, by omega, by go_num, ?_, fun j a b => ?_⟩
            · rw [HS.out]
            · by_cases e : j = k
              · subst e; rw [HX.out]; omega
              · exact HB.out j a (by omega)
          case measure => simp [intOf]; omega
    · obtain rfl : k = 3 := by omega
      have HB : Hid (∀ j, 1 ≤ j → j < 3 → 128 ≤ Tn.by' L j ∧ Tn.by' L j ≤ 191) := hbs
      obtain ⟨V, hV⟩ : ∃ V, Tn.val (b0 - 224) (Tn.by' L) 3 = V := ⟨_, rfl⟩
      simp only [hV] at hv0 hv1 ⊢
      have HV : Hid (Tn.val (b0 - 224) (Tn.by' L) 3 = V) := hV
      clear hbs hV i0
      by_cases c1 : V < 2048
      · go_wp2
        go_ret
        exact ⟨⟨_, rfl, .inr ⟨HB.out, by rw [HV.out]; simp [Tn.fin, c1]⟩⟩, rfl⟩
      · by_cases c2 : 1114111 < V
        · go_wp2
          go_ret
          exact ⟨⟨_, rfl, .inr ⟨HB.out, by rw [HV.out]; simp [Tn.fin, c2]⟩⟩, rfl⟩
        · by_cases c3 : 55296 ≤ V
          · by_cases c4 : V < 57344
            · go_wp2
              go_ret
              exact ⟨⟨_, rfl, .inr ⟨HB.out, by rw [HV.out]; simp [Tn.fin, c3, c4]⟩⟩, rfl⟩
            · go_wp2
              go_ret
              exact ⟨⟨_, rfl, .inr ⟨HB.out, by rw [HV.out]; simp [Tn.fin, c1, c2, c4]⟩⟩, rfl⟩
          · go_wp2
            go_ret
            exact ⟨⟨_, rfl, .inr ⟨HB.out, by rw [HV.out]; simp [Tn.fin, c1, c2]; omega⟩⟩, rfl⟩

set_option maxHeartbeats 1600000 in
set_option maxRecDepth 100000 in
theorem scalar4 (L : List UInt8) (w : World) (hn : 4 ≤ L.length) (b0 : Nat) (hb0 : Tn.by' L 0 = b0) (hlo : 240 ≤ b0) (hhi : b0 < 248) (hm : L.length ≤ 4611686018427387904) :
    Calls Tryz.prog 53 #[.string ⟨L.toArray⟩] w fun e w' => (∃ r : Int, e = .returned (.int .i64 r) ∧ ((∃ j, 1 ≤ j ∧ j < 4 ∧ (Tn.by' L j < 128 ∨ 191 < Tn.by' L j) ∧ r = 0) ∨ ((∀ j, 1 ≤ j → j < 4 → 128 ≤ Tn.by' L j ∧ Tn.by' L j ≤ 191) ∧ r = Tn.fin (Tn.val (b0 - 240) (Tn.by' L) 4) 65536 4))) ∧ w' = w := by
  have hsz := str_size L
  have i0 : ∀ W, (Instr.index 9 (.string ⟨L.toArray⟩) (.int .i64 0)).run Tryz.prog W = .ok (.int .u8 b0) W := fun W => by have := Tryz.signAt L 0 (by omega) W; rw [hb0] at this; simpa using this
  have d1 : decide ((b0 : Int) < 248) = true := by simp; omega
  clear hb0
  go_enter Tryz.func53, Tryz.ntmps53
  go_wp2
  go_loopw [3, 6] (fun x y wr => wr = w ∧ ∃ k : Nat, 1 ≤ k ∧ k ≤ 4 ∧ y = .int .i64 k ∧ x = .int .i64 (Tn.val (b0 - 240) (Tn.by' L) k) ∧ ∀ j, 1 ≤ j → j < k → 128 ≤ Tn.by' L j ∧ Tn.by' L j ≤ 191) (fun x y wr => 4 - (intOf y).toNat)
  case atStart => exact ⟨rfl, 1, Nat.le_refl _, by omega, rfl, by simp only [Tn.val], fun j a b => by omega⟩
  case round =>
    obtain ⟨rfl, k, hk1, hkn, rfl, rfl, hbs⟩ := hrel
    have hv0 := Tn.val_lo (b0 - 240) (Tn.by' L) (by omega) k (fun j a b => (hbs j a b).1)
    have hv1 : Tn.val (b0 - 240) (Tn.by' L) k < 4294967296 := by
      have h1 := Tn.by_lt L 1
      have h2 := Tn.by_lt L 2
      have h3 := Tn.by_lt L 3
      have : k = 1 ∨ k = 2 ∨ k = 3 ∨ k = 4 := by omega
      rcases this with e | e | e | e <;> subst e <;> simp only [Tn.val, Nat.zero_add, Nat.reduceAdd] <;> omega
    by_cases hlt : k < 4
    · have ik := fun W => Tryz.signAt L k (by omega) W
      obtain ⟨x, hx⟩ : ∃ x, Tn.by' L k = x := ⟨_, rfl⟩
      have hxl : x < 256 := by rw [← hx]; exact Tn.by_lt L k
      have hvs : Tn.val (b0 - 240) (Tn.by' L) (k + 1) = 64 * Tn.val (b0 - 240) (Tn.by' L) k + x - 128 := by
        obtain ⟨m, rfl⟩ : ∃ m, k = m + 1 := ⟨k - 1, by omega⟩
        simp only [Tn.val, hx]
      rw [hx] at ik
      obtain ⟨V, hV⟩ : ∃ V, Tn.val (b0 - 240) (Tn.by' L) k = V := ⟨_, rfl⟩
      rw [hV] at hv0 hv1 hvs
      simp only [hV]
      have HB : Hid (∀ j, 1 ≤ j → j < k → 128 ≤ Tn.by' L j ∧ Tn.by' L j ≤ 191) := hbs
      have HX : Hid (Tn.by' L k = x) := hx
      have HS : Hid (Tn.val (b0 - 240) (Tn.by' L) (k + 1) = 64 * V + x - 128) := hvs
      clear hbs hx hvs hV i0
      by_cases hb1 : x < 128
      · go_wp2
        go_ret
        exact ⟨⟨0, rfl, .inl ⟨k, hk1, hlt, .inl (by rw [HX.out]; exact hb1), rfl⟩⟩, rfl⟩
      · by_cases hb2 : 191 < x
        · go_wp2
          go_ret
          exact ⟨⟨0, rfl, .inl ⟨k, hk1, hlt, .inr (by rw [HX.out]; exact hb2), rfl⟩⟩, rfl⟩
        · go_wp2
          go_roundw
          case rel =>
            refine ⟨trivial, k + 1, by omega, by omega, by go_num, ?_, fun j a b => ?_⟩
            · rw [HS.out]
            · by_cases e : j = k
              · subst e; rw [HX.out]; omega
              · exact HB.out j a (by omega)
          case measure => simp [intOf]; omega
    · obtain rfl : k = 4 := by omega
      have HB : Hid (∀ j, 1 ≤ j → j < 4 → 128 ≤ Tn.by' L j ∧ Tn.by' L j ≤ 191) := hbs
      obtain ⟨V, hV⟩ : ∃ V, Tn.val (b0 - 240) (Tn.by' L) 4 = V := ⟨_, rfl⟩
      simp only [hV] at hv0 hv1 ⊢
      have HV : Hid (Tn.val (b0 - 240) (Tn.by' L) 4 = V) := hV
      clear hbs hV i0
      by_cases c1 : V < 65536
      · go_wp2
        go_ret
        exact ⟨⟨_, rfl, .inr ⟨HB.out, by rw [HV.out]; simp [Tn.fin, c1]⟩⟩, rfl⟩
      · by_cases c2 : 1114111 < V
        · go_wp2
          go_ret
          exact ⟨⟨_, rfl, .inr ⟨HB.out, by rw [HV.out]; simp [Tn.fin, c2]⟩⟩, rfl⟩
        · by_cases c3 : 55296 ≤ V
          · by_cases c4 : V < 57344
            · go_wp2
              go_ret
              exact ⟨⟨_, rfl, .inr ⟨HB.out, by rw [HV.out]; simp [Tn.fin, c3, c4]⟩⟩, rfl⟩
            · go_wp2
              go_ret
              exact ⟨⟨_, rfl, .inr ⟨HB.out, by rw [HV.out]; simp [Tn.fin, c1, c2, c4]⟩⟩, rfl⟩
          · go_wp2
            go_ret
            exact ⟨⟨_, rfl, .inr ⟨HB.out, by rw [HV.out]; simp [Tn.fin, c1, c2]; omega⟩⟩, rfl⟩

theorem scal2 (n b0 b1 b2 b3 : Nat) (r : Int) (h0 : 192 ≤ b0) (h1 : b0 < 224) (hn : 2 ≤ n) (h : ((b1 < 128 ∨ 191 < b1) ∧ r = 0) ∨ ((128 ≤ b1 ∧ b1 ≤ 191) ∧ r = Tn.fin (64 * (b0 - 192) + b1 - 128) 128 2)) : (Tn.scal n b0 b1 b2 b3 : Int) = r := by
  unfold Tn.scal
  unfold Tn.fin at h
  repeat' split at h
  all_goals repeat' split
  all_goals omega
theorem scal3 (n b0 b1 b2 b3 : Nat) (r : Int) (h0 : 224 ≤ b0) (h1 : b0 < 240) (hn : 3 ≤ n) (h : ((b1 < 128 ∨ 191 < b1 ∨ b2 < 128 ∨ 191 < b2) ∧ r = 0) ∨ ((128 ≤ b1 ∧ b1 ≤ 191 ∧ 128 ≤ b2 ∧ b2 ≤ 191) ∧ r = Tn.fin (64 * (64 * (b0 - 224) + b1 - 128) + b2 - 128) 2048 3)) : (Tn.scal n b0 b1 b2 b3 : Int) = r := by
  unfold Tn.scal
  unfold Tn.fin at h
  repeat' split at h
  all_goals repeat' split
  all_goals omega
theorem scal4 (n b0 b1 b2 b3 : Nat) (r : Int) (h0 : 240 ≤ b0) (h1 : b0 < 248) (hn : 4 ≤ n) (h : ((b1 < 128 ∨ 191 < b1 ∨ b2 < 128 ∨ 191 < b2 ∨ b3 < 128 ∨ 191 < b3) ∧ r = 0) ∨ ((128 ≤ b1 ∧ b1 ≤ 191 ∧ 128 ≤ b2 ∧ b2 ≤ 191 ∧ 128 ≤ b3 ∧ b3 ≤ 191) ∧ r = Tn.fin (64 * (64 * (64 * (b0 - 240) + b1 - 128) + b2 - 128) + b3 - 128) 65536 4)) : (Tn.scal n b0 b1 b2 b3 : Int) = r := by
  unfold Tn.scal
  unfold Tn.fin at h
  repeat' split at h
  all_goals repeat' split
  all_goals omega

set_option maxHeartbeats 1600000 in
set_option maxRecDepth 100000 in
theorem scalar_easy (L : List UInt8) (w : World) (h0 : 0 < L.length) (b0 : Nat) (hb0 : Tn.by' L 0 = b0) (r : Int) (hm : L.length ≤ 4611686018427387904) (hlt : b0 < 256)
    (h : (b0 < 128 ∧ r = 1) ∨ (128 ≤ b0 ∧ b0 < 192 ∧ r = 0) ∨ (248 ≤ b0 ∧ r = 0) ∨ (192 ≤ b0 ∧ b0 < 224 ∧ L.length < 2 ∧ r = 0) ∨ (224 ≤ b0 ∧ b0 < 240 ∧ L.length < 3 ∧ r = 0) ∨ (240 ≤ b0 ∧ b0 < 248 ∧ L.length < 4 ∧ r = 0)) :
    Calls Tryz.prog 53 #[.string ⟨L.toArray⟩] w fun e w' => e = .returned (.int .i64 r) ∧ w' = w := by
  have hsz := str_size L
  have i0 : ∀ W, (Instr.index 9 (.string ⟨L.toArray⟩) (.int .i64 0)).run Tryz.prog W = .ok (.int .u8 b0) W := fun W => by have := Tryz.signAt L 0 (by omega) W; rw [hb0] at this; simpa using this
  clear hb0
  rcases h with ⟨a, rfl⟩ | ⟨a, b, rfl⟩ | ⟨a, rfl⟩ | ⟨a, b, c, rfl⟩ | ⟨a, b, c, rfl⟩ | ⟨a, b, c, rfl⟩
  all_goals
    go_enter Tryz.func53, Tryz.ntmps53
    go_wp2
    go_ret
    exact ⟨rfl, rfl⟩

set_option maxHeartbeats 1600000 in
/-- freightref7.scalar. -/
theorem scalar_ok (L : List UInt8) (w : World) (h0 : 0 < L.length) (hm : L.length ≤ 4611686018427387904) :
    Calls Tryz.prog 53 #[.string ⟨L.toArray⟩] w fun e w' => e = .returned (.int .i64 (Tn.scal L.length (Tn.by' L 0) (Tn.by' L 1) (Tn.by' L 2) (Tn.by' L 3))) ∧ w' = w := by
  obtain ⟨b0, hb0⟩ : ∃ b0, Tn.by' L 0 = b0 := ⟨_, rfl⟩
  have hlt : b0 < 256 := by rw [← hb0]; exact Tn.by_lt L 0
  rw [hb0]
  by_cases e : (b0 < 128) ∨ (128 ≤ b0 ∧ b0 < 192) ∨ (248 ≤ b0) ∨ (192 ≤ b0 ∧ b0 < 224 ∧ L.length < 2) ∨ (224 ≤ b0 ∧ b0 < 240 ∧ L.length < 3) ∨ (240 ≤ b0 ∧ b0 < 248 ∧ L.length < 4)
  · refine scalar_easy L w h0 b0 hb0 _ hm hlt ?_
    unfold Tn.scal
    repeat' split
    all_goals omega
  · by_cases e2 : b0 < 224
    · refine (scalar2 L w (by omega) b0 hb0 (by omega) e2 hm).mono ?_
      rintro e' w' ⟨⟨r, he, hr⟩, hw⟩
      refine ⟨?_, hw⟩
      rw [he, scal2 L.length b0 (Tn.by' L 1) (Tn.by' L 2) (Tn.by' L 3) r (by omega) e2 (by omega) ?_]
      rcases hr with ⟨j, j1, j2, hj, rfl⟩ | ⟨ha, rfl⟩
      · obtain rfl : j = 1 := by omega
        exact .inl ⟨hj, rfl⟩
      · exact .inr ⟨ha 1 (by omega) (by omega), by simp only [Tn.val, Nat.zero_add]⟩
    · by_cases e3 : b0 < 240
      · refine (scalar3 L w (by omega) b0 hb0 (by omega) e3 hm).mono ?_
        rintro e' w' ⟨⟨r, he, hr⟩, hw⟩
        refine ⟨?_, hw⟩
        rw [he, scal3 L.length b0 (Tn.by' L 1) (Tn.by' L 2) (Tn.by' L 3) r (by omega) e3 (by omega) ?_]
        rcases hr with ⟨j, j1, j2, hj, rfl⟩ | ⟨ha, rfl⟩
        · have : j = 1 ∨ j = 2 := by omega
          rcases this with rfl | rfl <;> exact .inl ⟨by omega, rfl⟩
        · exact .inr ⟨by have := ha 1 (by omega) (by omega); have := ha 2 (by omega) (by omega); omega, by simp only [Tn.val, Nat.zero_add, Nat.reduceAdd]⟩
      · refine (scalar4 L w (by omega) b0 hb0 (by omega) (by omega) hm).mono ?_
        rintro e' w' ⟨⟨r, he, hr⟩, hw⟩
        refine ⟨?_, hw⟩
        rw [he, scal4 L.length b0 (Tn.by' L 1) (Tn.by' L 2) (Tn.by' L 3) r (by omega) (by omega) (by omega) ?_]
        rcases hr with ⟨j, j1, j2, hj, rfl⟩ | ⟨ha, rfl⟩
        · have : j = 1 ∨ j = 2 ∨ j = 3 := by omega
          rcases this with rfl | rfl | rfl <;> exact .inl ⟨by omega, rfl⟩
        · exact .inr ⟨by have := ha 1 (by omega) (by omega); have := ha 2 (by omega) (by omega); have := ha 3 (by omega) (by omega); omega, by simp only [Tn.val, Nat.zero_add, Nat.reduceAdd]⟩
end

section
open Go.Shelf
def Tryz.lays118_ren : Go.Shelf.Ren := ⟨fun | 118 => 95 | n => n, fun | 21 => 21 | 3 => 3 | 4 => 4 | n => n, fun | n => n⟩
theorem Tryz.lays118 : Go.Proofs.Lays.n118 Tryz.prog Tryz.lays118_ren := {
  mixed := by kernel_rfl
  f118 := Tryz.func95.trans (congrArg some (by kernel_rfl))
  t3 := Tryz.underlying3
  a3 := Tryz.isAgg3
  z3 := Tryz.sizeOf3
  v3 := Tryz.zeroValue3
  t4 := Tryz.underlying4
  a4 := Tryz.isAgg4
  z4 := Tryz.sizeOf4
  v4 := Tryz.zeroValue4
  t21 := Tryz.underlying21
  a21 := Tryz.isAgg21
  z21 := Tryz.sizeOf21
  v21 := Tryz.zeroValue21 }
theorem Tryz.utf8_RuneLen (r : Int) (w : World) :
    Calls Tryz.prog 95 #[.int .i32 r] w fun e w' => e = .returned (.int .i64 (Lib.runeLen r)) ∧ w' = w := Any.utf8_RuneLen Tryz.lays118 r w
def Tryz.lays260_ren : Go.Shelf.Ren := ⟨fun | 260 => 96 | n => n, fun | 9 => 9 | 21 => 21 | 3 => 3 | 4 => 4 | 5 => 5 | 119 => 191 | 0 => 0 | 46 => 123 | 139 => 194 | 138 => 193 | n => n, fun | 3 => 2 | 4 => 3 | n => n⟩
theorem Tryz.lays260 : Go.Proofs.Lays.n260 Tryz.prog Tryz.lays260_ren := {
  mixed := by kernel_rfl
  f260 := Tryz.func96.trans (congrArg some (by kernel_rfl))
  t0 := Tryz.underlying0
  a0 := Tryz.isAgg0
  z0 := Tryz.sizeOf0
  v0 := Tryz.zeroValue0
  t3 := Tryz.underlying3
  a3 := Tryz.isAgg3
  z3 := Tryz.sizeOf3
  v3 := Tryz.zeroValue3
  t4 := Tryz.underlying4
  a4 := Tryz.isAgg4
  z4 := Tryz.sizeOf4
  v4 := Tryz.zeroValue4
  t5 := Tryz.underlying5
  a5 := Tryz.isAgg5
  z5 := Tryz.sizeOf5
  v5 := Tryz.zeroValue5
  t9 := Tryz.underlying9
  a9 := Tryz.isAgg9
  z9 := Tryz.sizeOf9
  v9 := Tryz.zeroValue9
  t21 := Tryz.underlying21
  a21 := Tryz.isAgg21
  z21 := Tryz.sizeOf21
  v21 := Tryz.zeroValue21
  t46 := Tryz.underlying123
  a46 := Tryz.isAgg123
  z46 := Tryz.sizeOf123
  v46 := Tryz.zeroValue123
  t119 := Tryz.underlying191
  a119 := Tryz.isAgg191
  z119 := Tryz.sizeOf191
  t138 := Tryz.underlying193
  a138 := Tryz.isAgg193
  z138 := Tryz.sizeOf193
  v138 := Tryz.zeroValue193
  t139 := Tryz.underlying194
  a139 := Tryz.isAgg194
  z139 := Tryz.sizeOf194
  v139 := Tryz.zeroValue194
  g3 := by kernel_rfl
  g4 := by kernel_rfl }
open Go.RowKit Go.Lib in
theorem Tryz.utf8_decodeRuneInStringSlow (s : ByteArray) (w : World) (hT : Lib.Utf8Tabs 2 3 w) :
    Calls Tryz.prog 96 #[.string s] w fun e w' => e = .returned (.tuple #[.int .i32 (Lib.decodeGo s).1, .int .i64 (Lib.decodeGo s).2]) ∧ Below w.heap.size w w' := Any.utf8_decodeRuneInStringSlow Tryz.lays260 s w hT
def Tryz.lays197_ren : Go.Shelf.Ren := ⟨fun | 197 => 94 | 260 => 96 | n => n, fun | 9 => 9 | 21 => 21 | 3 => 3 | 4 => 4 | 5 => 5 | 105 => 188 | 119 => 191 | 0 => 0 | 46 => 123 | 139 => 194 | 138 => 193 | n => n, fun | 3 => 2 | 4 => 3 | n => n⟩
theorem Tryz.lays197 : Go.Proofs.Lays.n197 Tryz.prog Tryz.lays197_ren := {
  mixed := by kernel_rfl
  f197 := Tryz.func94.trans (congrArg some (by kernel_rfl))
  f260 := Tryz.func96.trans (congrArg some (by kernel_rfl))
  t0 := Tryz.underlying0
  a0 := Tryz.isAgg0
  z0 := Tryz.sizeOf0
  v0 := Tryz.zeroValue0
  t3 := Tryz.underlying3
  a3 := Tryz.isAgg3
  z3 := Tryz.sizeOf3
  v3 := Tryz.zeroValue3
  t4 := Tryz.underlying4
  a4 := Tryz.isAgg4
  z4 := Tryz.sizeOf4
  v4 := Tryz.zeroValue4
  t5 := Tryz.underlying5
  a5 := Tryz.isAgg5
  z5 := Tryz.sizeOf5
  v5 := Tryz.zeroValue5
  t9 := Tryz.underlying9
  a9 := Tryz.isAgg9
  z9 := Tryz.sizeOf9
  v9 := Tryz.zeroValue9
  t21 := Tryz.underlying21
  a21 := Tryz.isAgg21
  z21 := Tryz.sizeOf21
  v21 := Tryz.zeroValue21
  t46 := Tryz.underlying123
  a46 := Tryz.isAgg123
  z46 := Tryz.sizeOf123
  v46 := Tryz.zeroValue123
  t105 := Tryz.underlying188
  a105 := Tryz.isAgg188
  z105 := Tryz.sizeOf188
  v105 := Tryz.zeroValue188
  t119 := Tryz.underlying191
  a119 := Tryz.isAgg191
  z119 := Tryz.sizeOf191
  t138 := Tryz.underlying193
  a138 := Tryz.isAgg193
  z138 := Tryz.sizeOf193
  v138 := Tryz.zeroValue193
  t139 := Tryz.underlying194
  a139 := Tryz.isAgg194
  z139 := Tryz.sizeOf194
  v139 := Tryz.zeroValue194
  g3 := by kernel_rfl
  g4 := by kernel_rfl }
open Go.RowKit Go.Lib in
theorem Tryz.utf8_DecodeRuneInString (s : ByteArray) (w : World) (hT : Lib.Utf8Tabs 2 3 w) :
    Calls Tryz.prog 94 #[.string s] w fun e w' => e = .returned (.tuple #[.int .i32 (Lib.decodeGo s).1, .int .i64 (Lib.decodeGo s).2]) ∧ Below w.heap.size w w' := Any.utf8_DecodeRuneInString Tryz.lays197 s w hT
end

end Go.Proofs.YtngaimahhgmciabGreatDoor
