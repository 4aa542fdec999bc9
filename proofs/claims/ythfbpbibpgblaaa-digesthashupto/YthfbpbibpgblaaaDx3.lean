/-
  Contracts: digest.digit, digest.Parse, freightref2.digit, freightref2.Parse.
-/
import Derived.Test.YthfbpbibpgblaaaDx2
import Derived.Test.YthfbpbibpgblaaaDr4
import Derived.Laws.ResultCell
namespace Go.Proofs.Ythfbpbibpgblaaa
open Go.RowKit
set_option linter.unusedVariables false
set_option linter.unusedSimpArgs false

/-- What a sign stands for. -/
def dig (c : Nat) : Int := if 48 ≤ c ∧ c ≤ 57 then (c : Int) - 48 else if 97 ≤ c ∧ c ≤ 102 then (c : Int) - 87 else -1
theorem dig_lt (c : Nat) : dig c < 16 := by unfold dig; split <;> (try split) <;> omega
theorem dig_cases (c : Nat) : (48 ≤ c ∧ c ≤ 57 ∧ dig c = (c : Int) - 48) ∨ (97 ≤ c ∧ c ≤ 102 ∧ dig c = (c : Int) - 87) ∨ (¬ (48 ≤ c ∧ c ≤ 57) ∧ ¬ (97 ≤ c ∧ c ≤ 102) ∧ dig c = -1) := by
  unfold dig; split
  · left; omega
  · split
    · right; left; omega
    · right; right; omega

set_option maxHeartbeats 400000 in
theorem digit_ok (c : Nat) (hc : c < 256) (w : World) :
    Calls Try.prog 25 #[.int .u8 c] w fun e w' => e = .returned (.int .i64 (dig c)) ∧ w' = w := by
  rcases dig_cases c with ⟨h1, h2, h3⟩ | ⟨h1, h2, h3⟩ | ⟨h1, h2, h3⟩
  · have HD : Hid (dig c = (c : Int) - 48) := h3
    have g1 : decide ((48 : Int) ≤ (c : Int)) = true := by simp; omega
    have g2 : decide ((c : Int) ≤ 57) = true := by simp; omega
    clear h3
    go_enter Try.func25, Try.ntmps25
    go_wp2
    go_ret
    exact ⟨by rw [HD.out]; rfl, rfl⟩
  · have HD : Hid (dig c = (c : Int) - 87) := h3
    have g1 : decide ((48 : Int) ≤ (c : Int)) = true := by simp; omega
    have g2 : decide ((c : Int) ≤ 57) = false := by simp; omega
    have g3 : decide ((97 : Int) ≤ (c : Int)) = true := by simp; omega
    have g4 : decide ((c : Int) ≤ 102) = true := by simp; omega
    clear h3
    go_enter Try.func25, Try.ntmps25
    go_wp2
    go_ret
    exact ⟨by rw [HD.out]; show Ending.returned (.int .i64 _) = _; congr 2; omega, rfl⟩
  · have HD : Hid (dig c = -1) := h3
    clear h3
    by_cases a1 : 48 ≤ c
    · have g1 : decide ((48 : Int) ≤ (c : Int)) = true := by simp; omega
      have g2 : decide ((c : Int) ≤ 57) = false := by simp; omega
      by_cases a3 : 97 ≤ c
      · have g3 : decide ((97 : Int) ≤ (c : Int)) = true := by simp; omega
        have g4 : decide ((c : Int) ≤ 102) = false := by simp; omega
        clear h1 h2
        go_enter Try.func25, Try.ntmps25
        go_wp2
        go_ret
        exact ⟨by rw [HD.out]; rfl, rfl⟩
      · have g3 : decide ((97 : Int) ≤ (c : Int)) = false := by simp; omega
        clear h1 h2
        go_enter Try.func25, Try.ntmps25
        go_wp2
        go_ret
        exact ⟨by rw [HD.out]; rfl, rfl⟩
    · have g1 : decide ((48 : Int) ≤ (c : Int)) = false := by simp; omega
      have g3 : decide ((97 : Int) ≤ (c : Int)) = false := by simp; omega
      clear h1 h2
      go_enter Try.func25, Try.ntmps25
      go_wp2
      go_ret
      exact ⟨by rw [HD.out]; rfl, rfl⟩

/-- The signs at a byte's place. -/
def hiAt (t : List UInt8) (i : Nat) : Int := dig (t.getD (2 * i) 0).toNat
def loAt (t : List UInt8) (i : Nat) : Int := dig (t.getD (2 * i + 1) 0).toNat
def Bad (t : List UInt8) (i : Nat) : Prop := hiAt t i < 0 ∨ loAt t i < 0
def byteAt (t : List UInt8) (i : Nat) : UInt8 := UInt8.ofNat (16 * hiAt t i + loAt t i).toNat
def Good (t : List UInt8) : Prop := t.length = 64 ∧ ∀ i, i < 32 → ¬ Bad t i
def bytesOf (t : List UInt8) : List UInt8 := (List.range 32).map (byteAt t)
theorem bytesOf_len (t : List UInt8) : (bytesOf t).length = 32 := by simp [bytesOf]
instance (t : List UInt8) (i : Nat) : Decidable (Bad t i) := by unfold Bad; infer_instance
instance (t : List UInt8) : Decidable (Good t) := by unfold Good; infer_instance
/-- What Parse answers. -/
def parsed (t : List UInt8) : List UInt8 × Int := if Good t then (bytesOf t, 0) else (List.replicate 32 0, 20)
theorem parsed_good {t : List UInt8} (h : Good t) : parsed t = (bytesOf t, 0) := by unfold parsed; rw [if_pos h]
theorem parsed_bad {t : List UInt8} (h : ¬ Good t) : parsed t = (List.replicate 32 0, 20) := by unfold parsed; rw [if_neg h]
theorem parsed_len (t : List UInt8) : (parsed t).1.length = 32 := by
  by_cases h : Good t
  · rw [parsed_good h]; exact bytesOf_len t
  · rw [parsed_bad h]; simp

theorem Try.signAt (t : List UInt8) (j : Nat) (hj : j < t.length) (W : World) : (Instr.index 9 (.string ⟨t.toArray⟩) (.int .i64 j)).run Try.prog W = .ok (.int .u8 (t.getD j 0).toNat) W := by
  rw [run_index_string (P := Try.prog) W 9 ⟨t.toArray⟩ .i64 j Try.underlying9]
  have hs : (ByteArray.mk t.toArray).size = t.length := by simp [ByteArray.size]
  rw [dif_pos (by rw [hs]; omega)]
  congr 3
  show ((t.toArray)[(j : Int).toNat]'_).toNat = _
  simp [List.getElem?_eq_getElem hj]

/-- A result of an array and a number. -/
theorem ret_row_slot {P : Program} {fn : Func} {p q : Tmp} {ty : TypeId} {R : Ending → World → Prop} {a : Act} {w : World} (h : fn.results = #[.cell p ty, .tmp q]) (hd : a.defers = []) (g : Nat) (t : TypeId) (cs : Array Value) (fr : Nat × Nat) (d : TypeDesc)
    (hp : a.tmps.getD p undef = .pointer (some ⟨g, 0, none⟩)) (hg : w.heap[g]? = some (.cells cs t fr)) (hu : P.underlying ty = some d) (hx : (match d with | .struct _ | .array _ _ => true | _ => false) = true) (hi : (P.info? ty).map (·.size) = some cs.size)
    (hR : R (.returned (.tuple #[.agg cs, a.tmps.getD q undef])) w) : bodyPost P fn R .ret a w := by
  refine bodyPost_ret (v := .tuple #[.agg cs, a.tmps.getD q undef]) ?_ hd hR
  have hp' : a.tmps[p]?.getD undef = .pointer (some ⟨g, 0, none⟩) := by simpa using hp
  rw [results_cell_tmp h]
  simp [hp', asAddr, run_loadVar_row w g t ty cs fr d hg hu hx hi]
end Go.Proofs.Ythfbpbibpgblaaa
